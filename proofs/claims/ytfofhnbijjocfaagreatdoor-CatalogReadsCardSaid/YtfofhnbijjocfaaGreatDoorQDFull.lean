/-
  Layer 6: the document's Full.
  Conditions: those that each theorem states.
-/
import Derived.Test.YtfofhnbijjocfaaGreatDoorQDoc
import Derived.Test.YtfofhnbijjocfaaGreatDoorZReg
import Derived.Deep.DeepCutAuto
namespace Go.Proofs.YtfofhnbijjocfaaGreatDoor
open Go.RowKit Go.Maps
set_option maxRecDepth 100000

/-- A rule's own value. -/
def rdV (k : Nat) (st : List UInt8) (s : Prm) : List UInt8 := if s.1 = nEnsure ∧ st ≠ dfltK k then [] else s.2
theorem rd_same {t : List UInt8} {P : List Prm} (s : Prm) : (getP P s.1).getD (rdV (kindI t) (stO t P) s) = (getP P s.1).getD s.2 := by
  unfold rdV
  by_cases h : s.1 = nEnsure ∧ stO t P ≠ dfltK (kindI t)
  · rw [if_pos h, h.1]
    cases hg : getP P nEnsure with
    | some v => rfl
    | none => exact absurd (show stO t P = dfltK (kindI t) by unfold stO; rw [hg]; rfl) h.2
  · rw [if_neg h]
theorem slots_len (k : Nat) (st : List UInt8) (h : st.length ≤ 140737488355328) : ∀ s ∈ slotsK k st, s.1.length ≤ 140737488355328 ∧ s.2.length ≤ 140737488355328 := by
  intro s hs
  have h0 : nEnsure.length ≤ 140737488355328 := by decide
  unfold slotsK fileK recK servK at hs
  have hl : ∀ L : List Prm, (∀ x ∈ L, x.1.length ≤ 1000 ∧ x.2.length ≤ 1000) → s ∈ L → s.1.length ≤ 140737488355328 ∧ s.2.length ≤ 140737488355328 := fun L h1 h2 => by have := h1 s h2; omega
  split at hs
  · split at hs
    · simp only [List.mem_cons, List.not_mem_nil, or_false] at hs
      rcases hs with rfl | rfl | rfl
      · exact ⟨by decide, by decide⟩
      · exact ⟨h0, h⟩
      · exact ⟨by decide, by decide⟩
    · split at hs
      · simp only [List.mem_cons, List.not_mem_nil, or_false] at hs
        rcases hs with rfl | rfl | rfl
        · exact ⟨h0, h⟩
        · exact ⟨by decide, by decide⟩
        · exact ⟨by decide, by decide⟩
      · split at hs
        · simp only [List.mem_cons, List.not_mem_nil, or_false] at hs
          rcases hs with rfl | rfl
          · exact ⟨h0, h⟩
          · exact ⟨by decide, by decide⟩
        · split at hs
          · simp only [List.mem_cons, List.not_mem_nil, or_false] at hs
            subst hs
            exact ⟨h0, h⟩
          · cases hs
  · split at hs
    · split at hs
      · rcases List.mem_cons.1 hs with rfl | hs
        · exact ⟨h0, h⟩
        · exact hl lAccount (by decide) hs
      · split at hs
        · simp only [List.mem_cons, List.not_mem_nil, or_false] at hs
          subst hs
          exact ⟨h0, h⟩
        · cases hs
    · split at hs
      · split at hs
        · rcases List.mem_cons.1 hs with rfl | hs
          · exact ⟨h0, h⟩
          · exact hl lGroup (by decide) hs
        · split at hs
          · simp only [List.mem_cons, List.not_mem_nil, or_false] at hs
            subst hs
            exact ⟨h0, h⟩
          · cases hs
      · split at hs
        · split at hs
          · rcases List.mem_cons.1 hs with rfl | hs
            · exact ⟨h0, h⟩
            · exact hl lPackage (by decide) hs
          · split at hs
            · simp only [List.mem_cons, List.not_mem_nil, or_false] at hs
              subst hs
              exact ⟨h0, h⟩
            · cases hs
        · split at hs
          · split at hs
            · simp only [List.mem_cons, List.not_mem_nil, or_false] at hs
              subst hs
              exact ⟨h0, h⟩
            · split at hs
              · simp only [List.mem_cons, List.not_mem_nil, or_false] at hs
                subst hs
                exact ⟨h0, h⟩
              · cases hs
          · cases hs
/-- The state of the loop: the answer's variable. -/
structure DfSt (t ti : List UInt8) (O : List Prm) (k : Nat) (g : Nat) (ov : Value) (w5 wr : World) : Prop where
  x : wr.heap[g]? = some (.cells #[.string (strL t), .string (strL ti), ov] 40)
  own : OwnP (g + 1) wr ov (O.take k)
  kept : Kept [] w5 wr
theorem DfSt.go {t ti : List UInt8} {O : List Prm} {k g : Nat} {ov : Value} {w5 wr w' : World} (h : DfSt t ti O k g ov w5 wr) (hk : Kept [] wr w') : DfSt t ti O k g ov w5 w' := ⟨hk.heap (by simp) h.x, h.own.kept hk, h.kept.trans hk⟩

set_option maxRecDepth 100000 in
set_option maxHeartbeats 8000000 in
theorem rsfull_any (t ti : List UInt8) (P : List Prm) (v : Value) (w : World) (h : PsIs w v P) (hti : ti.length ≤ 140737488355328) :
    Calls Tryz.prog 19 #[resV t ti v] w (FullOut t ti P w) := by
  have HP := Lib.hid h
  obtain ⟨ao, cap, rfl, _⟩ := h.open
  obtain ⟨n, hn⟩ : ∃ n, P.length = n := ⟨_, rfl⟩
  rw [hn] at HP
  rw [hn]
  clear h hn
  unfold resV
  obtain ⟨w1, hw1⟩ : ∃ w1, w.alloc (.cells #[.string (strL t), .string (strL ti), .slice ao n cap] 40) = w1 := ⟨_, rfl⟩
  obtain ⟨w2, hw2⟩ : ∃ w2, w1.alloc (.cells #[.string ⟨#[]⟩, .string ⟨#[]⟩, .slice none 0 0] 40) = w2 := ⟨_, rfl⟩
  have hs1 : w1.heap.size = w.heap.size + 1 := by rw [← hw1, size_alloc]
  have hs2 : w2.heap.size = w.heap.size + 2 := by rw [← hw2, size_alloc, hs1]
  have hka : Kept [] w w1 := by rw [← hw1]; exact Kept.alloc _ _ _
  have hkb : Kept [] w1 w2 := by rw [← hw2]; exact Kept.alloc _ _ _
  have HK := Lib.hid (hka.trans hkb)
  have G0 : Hid (w2.heap[w.heap.size]? = some (.cells #[.string (strL t), .string (strL ti), .slice ao n cap] 40)) := hkb.heap (by simp) (by rw [← hw1]; exact heap_alloc_last _ _)
  have G1 : Hid (w2.heap[w.heap.size + 1]? = some (.cells #[.string ⟨#[]⟩, .string ⟨#[]⟩, .slice none 0 0] 40)) := by show _ = _; rw [← hs1, ← hw2]; exact heap_alloc_last _ _
  have FA : Hid (∀ w', Kept [] w2 w' → w'.cell? ⟨w.heap.size, 0, none⟩ = some (.string (strL t)) ∧ w'.cell? ⟨w.heap.size, 1, none⟩ = some (.string (strL ti)) ∧ w'.cell? ⟨w.heap.size, 2, none⟩ = some (.slice ao n cap) ∧
      w'.cell? ⟨w.heap.size + 1, 0, none⟩ = some (.string ⟨#[]⟩) ∧ w'.cell? ⟨w.heap.size + 1, 1, none⟩ = some (.string ⟨#[]⟩) ∧ w'.cell? ⟨w.heap.size + 1, 2, none⟩ = some (.slice none 0 0) ∧ (∀ q, w'.frozen? ⟨w.heap.size + 1, q, none⟩ = false)) := fun w' hk => by
    have e0 := hk.heap (by simp) G0.out
    have e1 := hk.heap (by simp) G1.out
    exact ⟨cell_of_row _ _ 0 _ _ _ e0, cell_of_row _ _ 1 _ _ _ e0, cell_of_row _ _ 2 _ _ _ e0, cell_of_row _ _ 0 _ _ _ e1, cell_of_row _ _ 1 _ _ _ e1, cell_of_row _ _ 2 _ _ _ e1, fun q => frozen_of_row _ _ q _ _ e1⟩
  have HCHK : Hid (∀ w', Kept [] w w' → Calls Tryz.prog 39 #[.agg #[.string (strL t), .string (strL ti), .slice ao n cap]] w' fun e w2 => e = .returned (.int .i64 (codeO t ti P)) ∧ Kept [] w' w2) := fun w' hk => rscheck_any t ti P _ w' (HP.out.kept hk) hti
  obtain ⟨c, hc⟩ : ∃ c, codeO t ti P = c := ⟨_, rfl⟩
  have HC := Lib.hid hc
  rw [hc] at HCHK
  have HS1 := Lib.hid hs1
  obtain ⟨a0, a1, a2, _, _, _, _⟩ := FA.out w2 (Kept.refl _ _)
  clear hka hkb hs2 hs1 hc
  by_cases hc0 : c = 0
  case neg =>
    have q0 : (c == 0) = false := by simpa using hc0
    have q1 : (c != 0) = true := by simpa using hc0
    have HC0 := Lib.hid hc0
    clear hc0
    go_enter Tryz.func19, Tryz.ntmps19
    go_wp2_with fail
    refine (HCHK.out _ HK.out).mono ?_
    rintro e w3 ⟨rfl, hk3⟩
    have HK3 := Lib.hid hk3
    clear hk3 hw1 hw2 a0 a1 a2
    obtain ⟨a0, a1, a2, d0, d1, d2, fz⟩ := FA.out w3 HK3.out
    rw [HS1.out]
    go_wp2_with fail
    have e1 := HK3.out.heap (by simp) G1.out
    have r := row_setCell (row_setCell (row_setCell e1 0 (.string ⟨#[]⟩)) 1 (.string ⟨#[]⟩)) 2 (.slice none 0 0)
    have hkf : Kept [w.heap.size + 1] w3 (((w3.setCell ⟨w.heap.size + 1, 0, none⟩ (.string ⟨#[]⟩)).setCell ⟨w.heap.size + 1, 1, none⟩ (.string ⟨#[]⟩)).setCell ⟨w.heap.size + 1, 2, none⟩ (.slice none 0 0)) := ((Kept.setCell _ _ _ _ (by simp)).trans (Kept.setCell _ _ _ _ (by simp))).trans (Kept.setCell _ _ _ _ (by simp))
    refine bodyPost_ret_by (results_rowQ (p := 2) (u := 3) rfl _ _ (w.heap.size + 1) 40 _ _ rfl r Tryz.underlying40 rfl (by kernel_rfl)) rfl ?_
    exact FullOut.no HC.out HC0.out ((HK.out.trans HK3.out).into hkf (by simp))
  subst hc0
  obtain ⟨hk0, htt, hgood, hout⟩ := codeO_ok HC.out
  obtain ⟨dk, hdk⟩ : ∃ dk, dfltK (kindI t) = dk := ⟨_, rfl⟩
  have HDK := Lib.hid hdk
  have HF1 : Hid (∀ w', Calls Tryz.prog 40 #[.string (strL t)] w' fun e w2 => e = .returned (.string (strL dk)) ∧ w' = w2) := fun w' => by rw [← hdk]; exact rsfirst_any t w'
  obtain ⟨st, hst⟩ : ∃ st, stO t P = st := ⟨_, rfl⟩
  obtain ⟨x, hx⟩ : ∃ x, getV P nEnsure = x := ⟨_, rfl⟩
  obtain ⟨b, hb⟩ : ∃ b, getB P nEnsure = b := ⟨_, rfl⟩
  have q1 : strL nEnsure = { data := #[101, 110, 115, 117, 114, 101] } := rfl
  have HGET : Hid (∀ w', Kept [] w w' → Calls Tryz.prog 21 #[.agg #[.string (strL t), .string (strL ti), .slice ao n cap], .string { data := #[101, 110, 115, 117, 114, 101] }] w' fun e w2 => e = .returned (.tuple #[.string (strL x), .bool b]) ∧ Kept [] w' w2) := fun w' hk => by
    rw [← hx, ← hb, ← q1]
    exact rsget_any t ti nEnsure P _ w' (HP.out.kept hk)
  have HST : Hid ((b = true → x = st) ∧ (b = false → dk = st)) := by
    show _ ∧ _
    rw [← hx, ← hst, ← hb, ← HDK.out]
    unfold stO getV getB
    cases getP P nEnsure <;> simp
  have HSTO := Lib.hid hst
  have HSL : Hid (st.length ≤ 140737488355328) := by show _ ≤ _; rw [← hst]; exact stO_len fun p hp => (HP.out.each p hp).2
  have HK0 := Lib.hid hk0
  rw [hst] at hout
  have HOUT := Lib.hid hout
  clear hst hx hb q1 hdk hk0 htt hgood hout
  go_enter Tryz.func19, Tryz.ntmps19
  go_wp2_with fail
  refine (HCHK.out _ HK.out).mono ?_
  rintro e w3 ⟨rfl, hk3⟩
  have HK3 := Lib.hid hk3
  clear hk3 hw1 hw2 a0 a1 a2
  obtain ⟨a0, a1, a2, d0, d1, d2, fz⟩ := FA.out w3 HK3.out
  rw [HS1.out]
  go_wp2_with fail
  refine (HGET.out _ (HK.out.trans HK3.out)).mono ?_
  rintro e w4 ⟨rfl, hk4⟩
  have HK4 : Hid (Kept [] w2 w4) := HK3.out.trans hk4
  clear hk4 a0 a1 a2 d0 d1 d2 fz
  obtain ⟨a0, a1, a2, d0, d1, d2, fz⟩ := FA.out w4 HK4.out
  go_upto_if 25 with (fail)
  go_cut [5] (fun s5 wx => s5 = .string (strL st) ∧ Hid (Kept [] w2 wx))
  case first =>
    cases b
    · obtain rfl := HST.out.2 rfl
      go_wp2_with fail
      refine (HF1.out _).mono ?_
      rintro e w5 ⟨rfl, rfl⟩
      go_wp2_with fail
      go_meet
      exact ⟨rfl, HK4⟩
    · obtain rfl := HST.out.1 rfl
      go_wp2_with fail
      go_meet
      exact ⟨rfl, HK4⟩
  case rest =>
    obtain ⟨rfl, HK5⟩ := hcut
    clear a0 a1 a2 d0 d1 d2 fz HF1 HGET
    obtain ⟨a0, a1, a2, _, _, _, _⟩ := FA.out wc HK5.out
    go_wp2_with fail
    refine (rules_any t st _ HK0.out HSL.out).mono ?_
    clear a0 a1 a2
    rintro e w5 ⟨v5, b5, rfl, HR⟩
    have HK6 : Hid (Kept [] w2 w5) := HK5.out.trans HR.out.2.2
    obtain ⟨ao5, cap5, rfl, hcell⟩ := HR.out.2.1.cell
    obtain ⟨S, hS⟩ : ∃ S, slotsK (kindI t) st = S := ⟨_, rfl⟩
    have HS := Lib.hid hS
    obtain ⟨q, hq⟩ : ∃ q, S.length = q := ⟨_, rfl⟩
    have HQ := Lib.hid hq
    have hrl : (rulesK (kindI t) st).length = q := by unfold rulesK; rw [List.length_map, hS, hq]
    have hq100 : q ≤ 100 := by rw [← hq, ← hS]; exact slotsK_len _ _
    have HCELL : Hid (0 < q → ∃ gb, ao5 = some ⟨gb, 0, none⟩ ∧ gb < w5.heap.size ∧ ∀ k (hk : k < S.length), w5.cell? ⟨gb, k * 3, none⟩ = some (.string (strL S[k].1)) ∧ w5.cell? ⟨gb, k * 3 + 1, none⟩ = some (.string (strL (rdV (kindI t) st S[k])))) := fun h0 => by
      obtain ⟨gb, e1, e2, e3⟩ := hcell (by rw [hrl]; exact h0)
      refine ⟨gb, e1, e2, fun k hk => ?_⟩
      obtain ⟨f0, f1, _⟩ := e3 k (by rw [hrl, ← hq]; exact hk)
      subst hS
      refine ⟨?_, ?_⟩
      · rw [f0]; simp [rulesK]
      · rw [f1]; simp [rulesK, rdV]
    rw [hrl]
    obtain ⟨O, hO⟩ : ∃ O, outP S P = O := ⟨_, rfl⟩
    have HO : Hid (O = outP S P ∧ outO t ti P = O ∧ O.length = q) := ⟨hO.symm, by rw [HOUT.out, hS, hO], by rw [← hO]; unfold outP; rw [List.length_map, hq]⟩
    clear hcell hS hq hrl hO
    obtain ⟨a0, a1, a2, _, _, _, _⟩ := FA.out w5 HK6.out
    obtain ⟨g, hg⟩ : ∃ g, w5.heap.size = g := ⟨_, rfl⟩
    have HG := Lib.hid hg
    have HD0 : Hid (DfSt t ti O 0 g (.slice none 0 0) w5 (w5.alloc (.cells #[.string (strL t), .string (strL ti), .slice none 0 0] 40))) := by
      refine ⟨?_, ?_, Kept.alloc _ _ _⟩
      · rw [← hg]; exact heap_alloc_last _ _
      · rw [List.take_zero]; exact OwnP.nil _ _
    go_wp2_with fail
    clear a0 a1 a2 hg
    go_loopw [10] (fun i wr => ∃ k : Nat, k ≤ q ∧ i = .int .i64 k ∧ Hid (∃ ov, DfSt t ti O k g ov w5 wr)) (fun i _ => q - (intOf i).toNat)
    case atStart => exact ⟨0, by omega, rfl, _, HD0.out⟩
    case round =>
      clear HD0
      obtain ⟨k, hk, rfl, HDD⟩ := hrel
      obtain ⟨ov, hdf⟩ := HDD.out
      have HDF := Lib.hid hdf
      clear HDD hdf
      by_cases hkq : k < q
      · have hks : k < S.length := by rw [HQ.out]; exact hkq
        obtain ⟨gb, rfl, hgb, hgc⟩ := HCELL.out (by omega)
        obtain ⟨g0, g1⟩ := hgc k hks
        obtain ⟨s, hs⟩ : ∃ s, S[k] = s := ⟨_, rfl⟩
        rw [hs] at g0 g1
        obtain ⟨rd, hrd⟩ : ∃ rd, rdV (kindI t) st s = rd := ⟨_, rfl⟩
        rw [hrd] at g1
        obtain ⟨y, hy⟩ : ∃ y, (getP P s.1).getD s.2 = y := ⟨_, rfl⟩
        obtain ⟨x', hx'⟩ : ∃ x', getV P s.1 = x' := ⟨_, rfl⟩
        obtain ⟨bg, hbg⟩ : ∃ bg, getB P s.1 = bg := ⟨_, rfl⟩
        have HY : Hid ((bg = true → x' = y) ∧ (bg = false → rd = y)) := by
          show _ ∧ _
          have hrs := rd_same (t := t) (P := P) s
          rw [HSTO.out, hrd, hy] at hrs
          rw [← hx', ← hbg]
          unfold getV getB
          cases hgp : getP P s.1 with
          | none => rw [hgp] at hrs; exact ⟨fun e => (by cases e), fun _ => hrs⟩
          | some z => rw [hgp] at hrs; exact ⟨fun _ => hrs, fun e => (by cases e)⟩
        have HO2 : Hid (O.take (k + 1) = O.take k ++ [(s.1, y)]) := by
          show _ = _
          have hko : k < O.length := by rw [HO.out.2.2]; exact hkq
          rw [List.take_succ_eq_append_getElem hko]
          congr 2
          have : O[k] = (outP S P)[k]'(by unfold outP; rw [List.length_map]; exact hks) := by simp only [HO.out.1]
          rw [this]
          simp [outP, hs, hy]
        have HYL : Hid (s.1.length ≤ 140737488355328 ∧ y.length ≤ 140737488355328) := by
          have := slots_len (kindI t) st (HSL.out) s (by rw [HS.out, ← hs]; exact List.getElem_mem hks)
          refine ⟨this.1, ?_⟩
          rw [← hy]
          cases hgp : getP P s.1 with
          | none => exact this.2
          | some z => exact (HP.out.each _ (getP_some hgp)).2
        have HGN : Hid (∀ w', Kept [] w w' → Calls Tryz.prog 21 #[.agg #[.string (strL t), .string (strL ti), .slice ao n cap], .string (strL s.1)] w' fun e w2 => e = .returned (.tuple #[.string (strL x'), .bool bg]) ∧ Kept [] w' w2) := fun w' hk => by
          rw [← hx', ← hbg]
          exact rsget_any t ti s.1 P _ w' (HP.out.kept hk)
        have HC2 : Hid (∀ w', Kept [] w5 w' → w'.cell? ⟨gb, k * 3, none⟩ = some (.string (strL s.1)) ∧ w'.cell? ⟨gb, k * 3 + 1, none⟩ = some (.string (strL rd))) := fun w' hk =>
          ⟨(hk.cell (p := ⟨gb, k * 3, none⟩) hgb (by simp)).trans g0, (hk.cell (p := ⟨gb, k * 3 + 1, none⟩) hgb (by simp)).trans g1⟩
        have z0 : ∀ w', Kept [] wr.drew w' → w'.cell? ⟨w.heap.size, 0, none⟩ = some (.string (strL t)) := fun w' hk => (FA.out w' ((HK6.out.trans HDF.out.kept).trans ((Kept.drew [] _).trans hk))).1
        have z1 : ∀ w', Kept [] wr.drew w' → w'.cell? ⟨w.heap.size, 1, none⟩ = some (.string (strL ti)) := fun w' hk => (FA.out w' ((HK6.out.trans HDF.out.kept).trans ((Kept.drew [] _).trans hk))).2.1
        have z2 : ∀ w', Kept [] wr.drew w' → w'.cell? ⟨w.heap.size, 2, none⟩ = some (.slice ao n cap) := fun w' hk => (FA.out w' ((HK6.out.trans HDF.out.kept).trans ((Kept.drew [] _).trans hk))).2.2.1
        have z3 : ∀ w', Kept [] wr.drew w' → w'.cell? ⟨gb, k * 3, none⟩ = some (.string (strL s.1)) := fun w' hk => (HC2.out w' (HDF.out.kept.trans ((Kept.drew [] _).trans hk))).1
        clear hgc g0 g1 hs hrd hy hbg hx'
        go_wp2_with fail
        refine wp_region_ord [(true, 0), (true, 1), (true, 2), (true, 3), (true, 4), (true, 5), (false, 6), (true, 7), (true, 8), (true, 9), (true, 10), (true, 11)] [] (by kernel_rfl) (fun _ _ d _ _ h => by cases d <;> exact h) (by kernel_rfl) rfl (by kernel_rfl) (by kernel_rfl) ?_
        simp only [named, List.getD_cons_zero, List.getD_cons_succ]
        repeat (first | (apply wpGrow_take; (case hw => rfl); (case hv => intro w' hk; go_simp; with_reducible rfl); simp only [Act.put, List.setIfInBounds_toArray, List.set_cons_zero, List.set_cons_succ]) | (refine wpGrow_pass (by rfl) ?_; simp only [Act.put, List.setIfInBounds_toArray, List.set_cons_zero, List.set_cons_succ]) | (refine wpGrow_skip (by rfl) ?_; simp only [Act.put, List.setIfInBounds_toArray, List.set_cons_zero, List.set_cons_succ]))
        clear z0 z1 z2 z3
        refine wpGrow_force (by rfl) (fun K hK => ?_)
        go_simp
        refine (HGN.out _ ((HK.out.trans HK6.out).trans (HDF.out.kept.trans (Kept.drew [] _)))).mono ?_
        rintro e w8 ⟨rfl, hk8⟩
        have HD8 : Hid (DfSt t ti O k g ov w5 w8) := HDF.out.go ((Kept.drew [] _).trans hk8)
        refine hK _ _ hk8 ?_
        clear hK K hk8
        repeat (first | (apply wpGrow_take; (case hw => rfl); (case hv => intro w' hk; go_simp; with_reducible rfl); simp only [Act.put, List.setIfInBounds_toArray, List.set_cons_zero, List.set_cons_succ]) | (refine wpGrow_pass (by rfl) ?_; simp only [Act.put, List.setIfInBounds_toArray, List.set_cons_zero, List.set_cons_succ]) | (refine wpGrow_skip (by rfl) ?_; simp only [Act.put, List.setIfInBounds_toArray, List.set_cons_zero, List.set_cons_succ]))
        refine wpGrow_nil ?_
        obtain ⟨c0, c1⟩ := HC2.out w8 HD8.out.kept
        go_upto_if 58 with (fail)
        go_cut [11] (fun s11 wx => s11 = .string (strL y) ∧ Hid (DfSt t ti O k g ov w5 wx))
        case first =>
          cases bg
          · obtain rfl := HY.out.2 rfl
            go_wp2_with fail
            go_meet
            exact ⟨rfl, HD8⟩
          · obtain rfl := HY.out.1 rfl
            go_wp2_with fail
            go_meet
            exact ⟨rfl, HD8⟩
        case rest =>
          obtain ⟨rfl, HDC⟩ := hcut
          clear c0 c1 HD8 HDF
          obtain ⟨u1, u2, u3, rfl⟩ := prm_val _ _ _ _ HDC.out.own
          have hgs : g + 1 ≤ wc.heap.size := by have := (Array.getElem?_eq_some_iff.1 HDC.out.x).1; omega
          have hgbg : gb < g + 1 := by have := HG.out; omega
          have q3 : ∀ w', Below (g + 1) wc.drew w' → w'.cell? ⟨g, 2, none⟩ = some (.slice u1 u2 u3) := fun w' h => below_cell h (by omega) (cell_of_row _ _ 2 _ _ _ (show wc.drew.heap[g]? = _ from HDC.out.x))
          have q4 : ∀ w', Below (g + 1) wc.drew w' → w'.cell? ⟨gb, k * 3, none⟩ = some (.string (strL s.1)) := fun w' h => below_cell h hgbg (HC2.out wc.drew (HDC.out.kept.trans (Kept.drew [] _))).1
          obtain ⟨v7, w7, hrun, hown, hap, hk7⟩ := (HDC.out.own.kept (Kept.drew [] _)).app (by exact hgs) (s.1, y) (by rw [List.length_take]; omega) HYL.out
          obtain ⟨y1, y2, y3, rfl⟩ := prm_val _ _ _ _ hown
          have hex : ∀ z ∈ (Value.slice u1 u2 u3).ownBlock.toList, g + 1 ≤ z := fun z hz => (HDC.out.own.blk z (by simpa using hz)).1
          have HRUN := Lib.hid hrun
          have HBA : Hid (Below (g + 1) wc.drew (wc.drew.alloc (.cells #[.string (strL s.1), .string (strL y)] 61))) := (Kept.alloc [] wc.drew _).below hgs (by simp)
          have HB7 : Hid (Below (g + 1) (wc.drew.alloc (.cells #[.string (strL s.1), .string (strL y)] 61)) w7) := hk7.below (by rw [size_alloc]; exact Nat.le_succ_of_le hgs) hex
          have HX7 : Hid (w7.heap[g]? = some (.cells #[.string (strL t), .string (strL ti), .slice u1 u2 u3] 40) ∧ OwnP (g + 1) w7 (.slice y1 y2 y3) (O.take (k + 1)) ∧ Kept [] w5 w7) := by
            refine ⟨hk7.heap (fun hz => by have := hex _ hz; omega) ((Kept.alloc [] _ _).heap (by simp) (show wc.drew.heap[g]? = _ from HDC.out.x)), by rw [HO2.out]; exact hown, ?_⟩
            exact OwnP.into (HDC.out.kept.trans (Kept.drew [] _)) hap (HDC.out.own.kept (Kept.drew [] _)) (by have := HG.out; omega)
          clear hrun hown hap hk7 hex
          go_wp2_with fail
          refine wp_region_ordZ (R := (Below (g + 1))) 12 [(true, 0), (true, 1), (true, 2), (true, 3), (true, 4), (true, 5), (true, 6), (true, 7), (true, 8), (false, 9), (false, 10), (true, 11)] (fun _ => Below.refl _ _) (fun _ _ _ h k => h.trans k) (by kernel_rfl) (fun _ _ d _ _ h => by cases d <;> exact h) (by kernel_rfl) rfl (by decide) (by kernel_rfl) (by kernel_rfl) ?_
          simp only [named, List.getD_cons_zero, List.getD_cons_succ]
          repeat (first | (apply wpR_take; (case hw => rfl); (case hv => intro w' hk; go_simp; with_reducible rfl); simp only [Act.put, List.setIfInBounds_toArray, List.set_cons_zero, List.set_cons_succ]) | (refine wpR_pass (by rfl) ?_; simp only [Act.put, List.setIfInBounds_toArray, List.set_cons_zero, List.set_cons_succ]))
          clear q3 q4
          refine wpR_force (by rfl) (fun K hK => ?_)
          go_simp
          refine hK _ _ HBA.out ?_
          clear hK K
          refine wpR_force (by rfl) (fun K hK => ?_)
          refine wp_append_run _ _ _ rfl _ _ _ rfl rfl HRUN.out ?_
          refine hK _ _ HB7.out ?_
          clear hK K
          repeat (first | (apply wpR_take; (case hw => rfl); (case hv => intro w' hk; go_simp; with_reducible rfl); simp only [Act.put, List.setIfInBounds_toArray, List.set_cons_zero, List.set_cons_succ]) | (refine wpR_pass (by rfl) ?_; simp only [Act.put, List.setIfInBounds_toArray, List.set_cons_zero, List.set_cons_succ]))
          refine wpR_nil ?_; refine lastQ_go rfl ?_
          have z2 : w7.cell? ⟨g, 2, none⟩ = some (.slice u1 u2 u3) := cell_of_row _ _ 2 _ _ _ HX7.out.1
          have fy : ∀ q, w7.frozen? ⟨g, q, none⟩ = false := fun q => frozen_of_row _ _ q _ _ HX7.out.1
          go_simp
          clear z2 fy
          generalize hw8 : w7.setCell _ _ = w8
          have H8 : Hid (∃ ov, DfSt t ti O (k + 1) g ov w5 w8) := by
            have hk8 : Kept [g] w7 w8 := by rw [← hw8]; exact Kept.setCell _ _ _ _ (by simp)
            refine ⟨.slice y1 y2 y3, ?_, HX7.out.2.1.keptX hk8 (fun z hz => by have := (HX7.out.2.1.blk z hz).1; simp; omega), HX7.out.2.2.into hk8 (by simp; have := HG.out; omega)⟩
            rw [← hw8]
            exact row_setCell HX7.out.1 2 _
          clear hw8
          go_wp2_with fail
          go_roundw
          case rel => exact ⟨k + 1, by omega, by go_num, H8⟩
          case measure => simp [intOf]; omega
      · have hOk : O.take k = O := List.take_of_length_le (by rw [HO.out.2.2]; omega)
        obtain ⟨u1, u2, u3, rfl⟩ := prm_val _ _ _ _ HDF.out.own
        have e9 := HDF.out.x
        have e1 := (HK6.out.trans HDF.out.kept).heap (by simp) G1.out
        obtain ⟨_, _, _, d0, d1, d2, fz⟩ := FA.out wr (HK6.out.trans HDF.out.kept)
        have k0 : wr.cell? ⟨g, 0, none⟩ = some (.string (strL t)) := cell_of_row _ _ 0 _ _ _ e9
        have k1 : wr.cell? ⟨g, 1, none⟩ = some (.string (strL ti)) := cell_of_row _ _ 1 _ _ _ e9
        have k2 : wr.cell? ⟨g, 2, none⟩ = some (.slice u1 u2 u3) := cell_of_row _ _ 2 _ _ _ e9
        have HOK := Lib.hid hOk
        have HE1 := Lib.hid e1
        clear hOk e9 e1
        go_wp2_with fail
        have r := row_setCell (row_setCell (row_setCell HE1.out 0 (.string (strL t))) 1 (.string (strL ti))) 2 (.slice u1 u2 u3)
        have hkf : Kept [w.heap.size + 1] wr (((wr.setCell ⟨w.heap.size + 1, 0, none⟩ (.string (strL t))).setCell ⟨w.heap.size + 1, 1, none⟩ (.string (strL ti))).setCell ⟨w.heap.size + 1, 2, none⟩ (.slice u1 u2 u3)) := ((Kept.setCell _ _ _ _ (by simp)).trans (Kept.setCell _ _ _ _ (by simp))).trans (Kept.setCell _ _ _ _ (by simp))
        refine bodyPost_ret_by (results_rowQ (p := 2) (u := 3) rfl _ _ (w.heap.size + 1) 40 _ _ rfl r Tryz.underlying40 rfl (by kernel_rfl)) rfl ?_
        have hsz : w.heap.size + 2 ≤ g + 1 := by
          have h1 := (Array.getElem?_eq_some_iff.1 G1.out).1
          have h2 := HK6.out.size
          have h3 := HG.out
          omega
        refine ⟨.slice u1 u2 u3, ?_, ?_, ((HK.out.trans HK6.out).trans HDF.out.kept).into hkf (by simp)⟩
        · unfold resV txO
          rw [HC.out, if_pos rfl, if_pos rfl]; rfl
        · rw [HO.out.2.1]
          have := HDF.out.own
          rw [HOK.out] at this
          exact (this.keptX hkf fun z hz => by have := (HDF.out.own.blk z hz).1; simp; omega).mono (by omega)
end Go.Proofs.YtfofhnbijjocfaaGreatDoor

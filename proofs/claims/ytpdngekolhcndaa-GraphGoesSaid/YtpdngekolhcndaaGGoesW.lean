/-
  Layer 8: the walk of GraphGoes.
  Conditions: those that each theorem states.
-/
import Derived.Test.YtpdngekolhcndaaGShownW
namespace Go.Proofs.Ytpdngekolhcndaa
open Go.RowKit Go.Maps

/-- A made slice of numbers. -/
def PlIs (w : World) (g n : Nat) (f : Nat → Int) : Prop := ∃ l : List Int, w.heap[g]? = some (.cells (ivA l) 3) ∧ l.length = n ∧ ∀ i, i < n → l.getD i 0 = f i
theorem PlIs.kept {w w' : World} {g n : Nat} {f : Nat → Int} (h : PlIs w g n f) {ex : List Nat} (hk : Kept ex w w') (hg : g ∉ ex) : PlIs w' g n f := by
  obtain ⟨Z, h1, h2⟩ := h
  exact ⟨Z, hk.heap hg h1, h2⟩
theorem PlIs.cell {w : World} {g n : Nat} {f : Nat → Int} (h : PlIs w g n f) {i : Nat} (hi : i < n) : w.cell? ⟨g, i, none⟩ = some (.int .i64 (f i)) := by
  obtain ⟨Z, h1, h2, h3⟩ := h
  rw [cell_of_row w g i _ _ _ h1, ← h3 i hi, List.getD_eq_getElem?_getD]
  simp [ivA, iv, h2, hi]
theorem PlIs.ok {w : World} {g n : Nat} {f : Nat → Int} (h : PlIs w g n f) (i : Nat) : w.frozen? ⟨g, i, none⟩ = false := by
  obtain ⟨Z, h1, _⟩ := h
  exact frozen_of_row _ _ _ _ _ h1
theorem PlIs.set {w : World} {g n : Nat} {f : Nat → Int} (h : PlIs w g n f) (i : Nat) (x : Int) : PlIs (w.setCell ⟨g, i, none⟩ (.int .i64 x)) g n (fun k => if k = i then x else f k) := by
  obtain ⟨Z, h1, h2, h3⟩ := h
  refine ⟨Z.set i x, ?_, by simpa using h2, fun k hk => ?_⟩
  · rw [heap_setCell_same w g i _ _ _ h1, ivA_set]
  · show _ = if k = i then x else f k
    rw [List.getD_eq_getElem?_getD]
    by_cases e : k = i
    · subst e
      rw [List.getElem?_set_self (by omega), if_pos rfl]
      rfl
    · rw [List.getElem?_set_ne (fun q => e q.symm), if_neg e, ← List.getD_eq_getElem?_getD]
      exact h3 k hk
theorem PlIs.congr {w : World} {g n : Nat} {f f' : Nat → Int} (h : PlIs w g n f) (e : ∀ i, i < n → f i = f' i) : PlIs w g n f' := by
  obtain ⟨Z, h1, h2, h3⟩ := h
  exact ⟨Z, h1, h2, fun i hi => by rw [h3 i hi, e i hi]⟩
theorem run_make_ints (w : World) (n : Nat) (h1 : n ≤ 1000000) :
    (Instr.makeSlice 24 (.int .i64 n) (.int .i64 n)).run Try.prog w = .ok (.slice (some ⟨w.heap.size, 0, none⟩) n n) (w.alloc (.cells (ivA (List.replicate n 0)) 3)) := by
  obtain ⟨i, hi', hz, hs, hb⟩ := info_parts elemInt8.info
  have hr := run_make (P := Try.prog) w 24 3 i _ Try.underlying24 hi' hz .i64 .i64 n n (by omega) (Int.le_refl _) (by rw [hb]; omega) (by omega)
  rw [hr, hs]
  have hb2 : ivA (List.replicate n 0) = madeCells (Value.int .i64 0).cells (n * 1) := by
    apply Array.toList_inj.1
    rw [show (Value.int .i64 0).cells = #[Value.int .i64 0] from rfl, toList_madeCells_one, ivA_toList]
    simp [iv]
  rw [hb2]
  simp
/-- Where the numbers stand, as far as they were looked at. -/
def plcA (a : List Nat) (k j : Nat) : Int := if a.idxOf j < k ∧ j ∈ a then (a.idxOf j : Int) else -1
theorem plcA_next {a : List Nat} (hn : a.Nodup) {k j : Nat} (hk : k < a.length) : plcA a (k + 1) j = if j = a[k] then (k : Int) else plcA a k j := by
  unfold plcA
  by_cases e : j = a[k]
  · subst e
    have hi : a.idxOf a[k] = k := List.Nodup.idxOf_getElem hn k hk
    rw [if_pos rfl, if_pos ⟨by omega, List.getElem_mem hk⟩, hi]
  · rw [if_neg e]
    by_cases h : a.idxOf j < k ∧ j ∈ a
    · rw [if_pos h, if_pos ⟨by omega, h.2⟩]
    · rw [if_neg h, if_neg]
      rintro ⟨h1, h2⟩
      have h3 : ¬ a.idxOf j < k := fun q => h ⟨q, h2⟩
      have h4 : a.idxOf j = k := by omega
      have h5 : a[a.idxOf j]'(List.idxOf_lt_length_of_mem h2) = j := List.getElem_idxOf _
      simp only [h4] at h5
      exact e h5.symm
theorem plcA_new {a : List Nat} (hn : a.Nodup) {k : Nat} (hk : k < a.length) : plcA a k a[k] = -1 := by
  unfold plcA
  rw [if_neg]
  rintro ⟨h1, _⟩
  rw [List.Nodup.idxOf_getElem hn k hk] at h1
  omega
structure GoSt (w : World) (g q k : Nat) (f : Nat → Int) (wr : World) : Prop where
  pl : PlIs wr g q f
  kept : Kept [] w wr

set_option maxRecDepth 100000 in
set_option maxHeartbeats 4000000 in
theorem goes_walk (n : Int) (L : List Edg) (v : Value) (w : World) (h : EsIs w v L) :
    Calls Try.prog 4 #[.int .i64 n, v] w fun e w' => e = .returned (.bool true) ∧ Kept [] w w' := by
  have HE := Lib.hid h
  obtain ⟨ao, cap, rfl, hcap, hc63, _, hcell⟩ := h.open
  have HC := Lib.hid hcell
  have hlen := h.len
  obtain ⟨m, hm⟩ : ∃ m, L.length = m := ⟨_, rfl⟩
  have HM := Lib.hid hm
  rw [hm] at hlen HE
  rw [hm]
  clear h hcell hm hcap
  go_enter Try.func4, Try.ntmps4
  go_wp2_with fail
  refine (shown8_any w).mono ?_
  rintro e w1 ⟨rfl, hk1⟩
  have HK1 := Lib.hid hk1
  clear hk1
  go_wp2_with fail
  refine (order_any n L _ w1 (HE.out.kept HK1.out)).mono ?_
  rintro e w2 ⟨va, vc, c, rfl, H2⟩
  have HK2 : Hid (Kept [] w w2) := HK1.out.trans H2.out.2.2.2.2
  have HA2 : Hid (NsIs w2 va (ordL n L)) := H2.out.1
  obtain ⟨eo, heo⟩ : ∃ eo, ordE n L = eo := ⟨_, rfl⟩
  rw [heo]
  clear H2
  by_cases h0 : eo = 0
  case neg =>
    have q0 : (eo != 0) = true := by simpa using h0
    have hl : ordL n L = [] := by
      unfold ordL
      unfold ordE at heo
      split
      · rename_i hg
        rw [if_pos hg] at heo
        cases ho : ordO n.toNat (adjL L) with
        | none => rfl
        | some r => rw [ho] at heo; exact absurd heo.symm h0
      · rfl
    rw [hl] at HA2
    obtain ⟨aa, ac, rfl, _⟩ := HA2.out.open
    simp only [List.length_nil]
    clear hl heo h0
    go_wp2_with fail
    go_ret
    exact ⟨rfl, HK2.out⟩
  subst h0
  have hok : GOk n L := by
    by_cases hg : GOk n L
    · exact hg
    · unfold ordE at heo; rw [if_neg hg] at heo; cases heo
  obtain ⟨q, rfl⟩ : ∃ q : Nat, n = q := ⟨n.toNat, by have := hok.1; omega⟩
  have hq : q ≤ 32 := by have := hok.1; omega
  have HOK := Lib.hid hok
  obtain ⟨a, ha⟩ : ∃ a, ordO q (adjL L) = some a := by
    unfold ordE at heo
    rw [if_pos hok, Int.toNat_natCast] at heo
    cases ho : ordO q (adjL L) with
    | none => rw [ho] at heo; cases heo
    | some r => exact ⟨r, rfl⟩
  have hla : ordL q L = a := by unfold ordL; rw [if_pos hok, Int.toNat_natCast, ha]; rfl
  rw [hla] at HA2
  obtain ⟨a1, a2, a3, a4, a5⟩ := ordO_some ha
  have HF := Lib.hid (And.intro a1 (And.intro a2 (And.intro a4 a5)))
  have HL := Lib.hid a3
  obtain ⟨aa, ac, rfl, _, _, hcc⟩ := HA2.out.open
  have HAC := Lib.hid hcc
  rw [a3]
  have hmk := run_make_ints w2 q (by omega)
  obtain ⟨w3, hw3⟩ : ∃ w3, w2.alloc (.cells (ivA (List.replicate q 0)) 3) = w3 := ⟨_, rfl⟩
  obtain ⟨g, hg⟩ : ∃ g, w2.heap.size = g := ⟨_, rfl⟩
  have HP3 : Hid (PlIs w3 g q (fun _ => 0) ∧ Kept [] w2 w3) := by
    rw [← hw3, ← hg]
    exact ⟨⟨_, heap_alloc_last _ _, List.length_replicate, fun i hi => by rw [List.getD_eq_getElem?_getD, List.getElem?_replicate, if_pos hi]; rfl⟩, Kept.alloc _ _ _⟩
  have HG := Lib.hid hg
  rw [hw3, hg] at hmk
  clear hok heo ha hla a1 a2 a3 a4 a5 hcc hw3 hg HA2
  go_wp2_with fail
  clear hmk
  go_loopw [10] (fun i wr => ∃ k : Nat, k ≤ q ∧ i = .int .i64 k ∧ Hid (PlIs wr g q (fun j => if j < k then -1 else 0) ∧ Kept [] w2 wr)) (fun i _ => q - (intOf i).toNat)
  case atStart => exact ⟨0, by omega, rfl, HP3.out.1.congr fun j hj => by simp, HP3.out.2⟩
  case round =>
    clear HP3
    obtain ⟨k, hk, rfl, HS⟩ := hrel
    by_cases hlt : k < q
    · have cs := HS.out.1.cell hlt
      have fz := HS.out.1.ok k
      have HN : Hid (PlIs (wr.setCell ⟨g, k, none⟩ (.int .i64 (-1))) g q (fun j => if j < k + 1 then -1 else 0) ∧ Kept [] w2 (wr.setCell ⟨g, k, none⟩ (.int .i64 (-1)))) := by
        refine ⟨(HS.out.1.set k (-1)).congr fun j hj => ?_, HS.out.2.into (Kept.setCell [g] _ _ _ (by simp)) (by have := HG.out; simp; omega)⟩
        show (if j = k then (-1 : Int) else if j < k then -1 else 0) = _
        by_cases e : j = k
        · rw [if_pos e, if_pos (by omega)]
        · rw [if_neg e]
          by_cases e2 : j < k
          · rw [if_pos e2, if_pos (by omega)]
          · rw [if_neg e2, if_neg (by omega)]
      go_wp2_with fail
      go_roundw
      case rel => exact ⟨k + 1, by omega, by go_num, HN⟩
      case measure => simp [intOf]; omega
    have hkq : k = q := by omega
    have HP4 : Hid (PlIs wr g q (plcA a 0) ∧ Kept [] w2 wr) := ⟨HS.out.1.congr fun j hj => by
      show (if j < k then (-1 : Int) else 0) = _
      rw [if_pos (by omega)]
      unfold plcA
      rw [if_neg (by omega)], HS.out.2⟩
    clear hk
    go_wp2_with fail
    clear HS hlt hkq
    go_loopw [11] (fun i wr => ∃ k : Nat, k ≤ q ∧ i = .int .i64 k ∧ Hid (PlIs wr g q (plcA a k) ∧ Kept [] w2 wr)) (fun i _ => q - (intOf i).toNat)
    case atStart => exact ⟨0, by omega, rfl, HP4.out⟩
    case round =>
      clear HP4
      obtain ⟨k, hk, rfl, HS⟩ := hrel
      by_cases hlt : k < q
      · have hka : k < a.length := by rw [HL.out]; exact hlt
        obtain ⟨ab, ao2, rfl, hab, hac⟩ := HAC.out (by omega)
        obtain ⟨x, hx⟩ : ∃ x, a[k] = x := ⟨_, rfl⟩
        have c0 := (HS.out.2.cell (p := ⟨ab, ao2 + k, none⟩) hab (by simp)).trans (hac k hka)
        rw [hx] at c0
        have hxq : x < q := by rw [← hx]; exact HF.out.2.1 _ (List.getElem_mem hka)
        have hxi : (x : Int) < q := by omega
        have cp := HS.out.1.cell hxq
        have hpv : plcA a k x = -1 := by rw [← hx]; exact plcA_new HF.out.1 hka
        rw [hpv] at cp
        have fz := HS.out.1.ok x
        have hgs : g ≠ ab := by have := HG.out; omega
        have HN : Hid (PlIs (wr.setCell ⟨g, x, none⟩ (.int .i64 k)) g q (plcA a (k + 1)) ∧ Kept [] w2 (wr.setCell ⟨g, x, none⟩ (.int .i64 k))) := by
          refine ⟨(HS.out.1.set x k).congr fun j hj => ?_, HS.out.2.into (Kept.setCell [g] _ _ _ (by simp)) (by have := HG.out; simp; omega)⟩
          rw [plcA_next HF.out.1 hka, hx]
        clear hx hac hab hpv hgs
        go_wp2_with fail
        go_roundw
        case rel => exact ⟨k + 1, by omega, by go_num, HN⟩
        case measure => simp [intOf]; omega
      have hkq : k = q := by omega
      have HP5 : Hid (PlIs wr g q (fun j => (a.idxOf j : Int)) ∧ Kept [] w2 wr) := ⟨HS.out.1.congr fun j hj => by
        have hja := HF.out.2.2.1 j hj
        have := List.idxOf_lt_length_of_mem hja
        rw [HL.out] at this
        unfold plcA
        rw [if_pos ⟨by omega, hja⟩], HS.out.2⟩
      clear hk
      go_wp2_with fail
      clear HS hlt hkq
      go_loopw [12] (fun i wr => ∃ k : Nat, k ≤ m ∧ i = .int .i64 k ∧ Hid (PlIs wr g q (fun j => (a.idxOf j : Int)) ∧ Kept [] w2 wr)) (fun i _ => m - (intOf i).toNat)
      case atStart => exact ⟨0, by omega, rfl, HP5.out⟩
      case round =>
        clear HP5
        obtain ⟨k, hk, rfl, HS⟩ := hrel
        by_cases hlt : k < m
        · have hkl : k < L.length := by rw [HM.out]; exact hlt
          obtain ⟨eb, eo, rfl, heb, hcc⟩ := HC.out (by omega)
          obtain ⟨e0, e1, _⟩ := hcc k hkl
          have hek := HOK.out.2 _ (List.getElem_mem hkl)
          unfold EdOk at hek
          obtain ⟨x, hx⟩ : ∃ x : Nat, L[k].fr = x := ⟨L[k].fr.toNat, by omega⟩
          obtain ⟨y, hy⟩ : ∃ y : Nat, L[k].tw = y := ⟨L[k].tw.toNat, by omega⟩
          have HKK := HK2.out.trans HS.out.2
          have c0 := (HKK.cell (p := ⟨eb, eo + k * 3, none⟩) heb (by simp)).trans e0
          have c1 := (HKK.cell (p := ⟨eb, eo + k * 3 + 1, none⟩) heb (by simp)).trans e1
          rw [hx] at c0
          rw [hy] at c1
          have hxq : x < q := by omega
          have hyq : y < q := by omega
          have hxi : (x : Int) < q := by omega
          have hyi : (y : Int) < q := by omega
          have px := HS.out.1.cell hxq
          have py := HS.out.1.cell hyq
          have hr : a.idxOf x < a.idxOf y := HF.out.2.2.2 x y hxq hyq (adjL_iff.2 ⟨L[k], List.getElem_mem hkl, hx, hy⟩)
          obtain ⟨X, hX⟩ : ∃ X, a.idxOf x = X := ⟨_, rfl⟩
          obtain ⟨Y, hY⟩ : ∃ Y, a.idxOf y = Y := ⟨_, rfl⟩
          simp only [hX] at px hr
          simp only [hY] at py hr
          have hnle : ¬ (Y : Int) ≤ X := by omega
          clear e0 e1 hcc hek hx hy heb HKK hX hY
          go_wp2_with fail
          go_quiet (fail)
          generalize hwq : World.drewN wr _ = wq
          have HN : Hid (PlIs wq g q (fun j => (a.idxOf j : Int)) ∧ Kept [] w2 wq) := by
            rw [← hwq]
            exact ⟨HS.out.1.kept (Kept.drewN [] _ _) (by simp), HS.out.2.trans (Kept.drewN _ _ _)⟩
          clear hwq
          go_wp2_with fail
          go_roundw
          case rel => exact ⟨k + 1, by omega, by go_num, HN⟩
          case measure => simp [intOf]; omega
        · have q1 : ((q : Int) == (q : Int)) = true := by simp
          go_wp2_with fail
          go_ret
          exact ⟨by first | rfl | (rw [q1]; rfl), HK2.out.trans HS.out.2⟩
end Go.Proofs.Ytpdngekolhcndaa

/-
  Layer 6: the program's fill: a value for each slot.
  Conditions: those that each theorem states.
-/
import Derived.Test.YthpfnkanilfohaaDoorQMap
namespace Go.Proofs.YthpfnkanilfohaaDoor
open Go.RowKit Go.Maps

/-- The state of fill's loop. -/
structure FiSt (w : World) (T : List UInt8 → List UInt8 → Bool) (S P : List Prm) (k : Nat) (g out : List Prm) (gv ov : Value) (wr : World) : Prop where
  ans : fillA T S P [] = fillA T (S.drop k) g out
  ps : PsIs w gv g
  own : OwnP w.heap.size wr ov out
  few : out.length ≤ k
  kept : Kept [] w wr
/-- What fill answers. -/
def FillOut (T : List UInt8 → List UInt8 → Bool) (S P : List Prm) (w : World) (e : Ending) (w' : World) : Prop :=
  ∃ v b, e = .returned (.tuple #[v, .bool b]) ∧ Hid ((b = (fillA T S P []).isSome) ∧ OwnP w.heap.size w' v ((fillA T S P []).getD []) ∧ Kept [] w w')
theorem FillOut.no {T : List UInt8 → List UInt8 → Bool} {S P : List Prm} {w w' : World} (h : fillA T S P [] = none) (hk : Kept [] w w') : FillOut T S P w (.returned (.tuple #[.slice none 0 0, .bool false])) w' :=
  ⟨_, _, rfl, by rw [h]; rfl, by rw [h]; exact OwnP.nil _ _, hk⟩
theorem fillA_yes {T : List UInt8 → List UInt8 → Bool} {s : Prm} {S g out : List Prm} {p : Prm} (h : p.1 = s.1) (ht : T s.1 p.2 = true) : fillA T (s :: S) (p :: g) out = fillA T S g (out ++ [(s.1, p.2)]) := by
  rw [fillA, if_pos h, if_pos ht]
theorem fillA_yes_no {T : List UInt8 → List UInt8 → Bool} {s : Prm} {S g out : List Prm} {p : Prm} (h : p.1 = s.1) (ht : T s.1 p.2 = false) : fillA T (s :: S) (p :: g) out = none := by
  rw [fillA, if_pos h, if_neg (by rw [ht]; simp)]
theorem fillA_dflt {T : List UInt8 → List UInt8 → Bool} {s : Prm} {S g out : List Prm} (h : ∀ p r, g = p :: r → p.1 ≠ s.1) (ht : T s.1 s.2 = true) : fillA T (s :: S) g out = fillA T S g (out ++ [(s.1, s.2)]) := by
  cases g with
  | nil => rw [fillA, if_pos ht]
  | cons p g => rw [fillA, if_neg (h p g rfl), if_pos ht]
theorem fillA_dflt_no {T : List UInt8 → List UInt8 → Bool} {s : Prm} {S g out : List Prm} (h : ∀ p r, g = p :: r → p.1 ≠ s.1) (ht : T s.1 s.2 = false) : fillA T (s :: S) g out = none := by
  cases g with
  | nil => rw [fillA, if_neg (by rw [ht]; simp)]
  | cons p g => rw [fillA, if_neg (h p g rfl), if_neg (by rw [ht]; simp)]
theorem prm_val (v : Value) (base : Nat) (w : World) (l : List Prm) (h : OwnP base w v l) : ∃ u m c, v = .slice u m c := by
  obtain ⟨ao, cap, rfl, _⟩ := h.ps.open
  exact ⟨_, _, _, rfl⟩

set_option maxRecDepth 100000 in
set_option maxHeartbeats 4000000 in
theorem sfill_any (T : List UInt8 → List UInt8 → Bool) (S P : List Prm) (sv gv : Value) (w : World) (hS : SlotsIs w sv T S) (hP : PsIs w gv P) (hn : S.length ≤ 100) :
    Calls Tryd.prog 21 #[sv, gv] w (FillOut T S P w) := by
  obtain ⟨L, hL, hrow, hfn, hle⟩ := hS
  obtain ⟨ao, cap, rfl, hc⟩ := hrow.cell
  have HC := Lib.hid hc
  have HL := Lib.hid hL
  have HFN := Lib.hid hfn
  have HLE := Lib.hid hle
  obtain ⟨m, hm⟩ : ∃ m, L.length = m := ⟨_, rfl⟩
  have HM := Lib.hid hm
  have hm100 : m ≤ 100 := by rw [← hm, ← List.length_map (f := (·.1)), hL]; exact hn
  rw [hm]
  have HP := Lib.hid hP
  obtain ⟨pao, pcap, rfl, _⟩ := hP.open
  clear hc hL hfn hle hm hrow hP hn
  go_enter Tryd.func21, Tryd.ntmps21
  go_wp2_with fail
  go_loopw [1, 6, 12] (fun gv ov i wr => ∃ (k : Nat) (g out : List Prm), k ≤ m ∧ i = .int .i64 k ∧ Hid (FiSt w T S P k g out gv ov wr)) (fun _ _ i _ => m - (intOf i).toNat)
  case atStart => exact ⟨0, P, [], by omega, rfl, ⟨by rw [List.drop_zero], HP.out, OwnP.nil _ _, by simp, Kept.refl _ _⟩⟩
  case round =>
    obtain ⟨k, g, out, hk, rfl, HS⟩ := hrel
    by_cases hlt : k < m
    · have hkl : k < L.length := by rw [HM.out]; exact hlt
      obtain ⟨b, o, rfl, hb, hcc⟩ := HC.out (by omega)
      obtain ⟨a0, a1, a2⟩ := hcc k hkl
      have c0 := (HS.out.kept.cell (p := ⟨b, o + k * 3, none⟩) hb (by simp)).trans a0
      have c1 := (HS.out.kept.cell (p := ⟨b, o + k * 3 + 1, none⟩) hb (by simp)).trans a1
      have c2 := (HS.out.kept.cell (p := ⟨b, o + k * 3 + 2, none⟩) hb (by simp)).trans a2
      have hfk := (HFN.out _ (List.getElem_mem hkl)).kept HS.out.kept
      obtain ⟨s, hs⟩ : ∃ s, L[k].1 = s := ⟨_, rfl⟩
      have hsS : s ∈ S := by rw [← hs, ← HL.out]; exact List.mem_map_of_mem (List.getElem_mem hkl)
      have HD : Hid (S.drop k = s :: S.drop (k + 1)) := by
        show _ = _
        have hkS : k < S.length := by rw [← HL.out, List.length_map]; exact hkl
        rw [List.drop_eq_getElem_cons hkS]
        congr 1
        rw [← hs]
        simp [← HL.out]
      have HSL : Hid (s.1.length ≤ 140737488355328 ∧ s.2.length ≤ 140737488355328) := HLE.out s hsS
      obtain ⟨f, hf⟩ : ∃ f, L[k].2 = f := ⟨_, rfl⟩
      rw [hs] at c0 c1 hfk
      rw [hf] at c2 hfk
      obtain ⟨fi, fc, rfl, hE, hcall⟩ := hfk
      have HCALL := Lib.hid hcall
      have hsv : ∃ x1 x2 x3, u6 = .slice x1 x2 x3 := prm_val _ _ _ _ HS.out.own
      obtain ⟨ou, om, oc, rfl⟩ := hsv
      obtain ⟨wa, hwa⟩ : ∃ wa, wr.alloc (.cells #[.string (strL s.1), .string (strL s.2), .func (.func fi) #[] fc] 59) = wa := ⟨_, rfl⟩
      have HA : Hid (Kept [] wr wa) := by rw [← hwa]; exact Kept.alloc _ _ _
      have HAG : Hid (wa.heap[wr.heap.size]? = some (.cells #[.string (strL s.1), .string (strL s.2), .func (.func fi) #[] fc] 59)) := by show _ = _; rw [← hwa]; exact heap_alloc_last _ _
      have HSA : Hid (OwnP w.heap.size wa (.slice ou om oc) out ∧ Kept [] w wa) := ⟨HS.out.own.kept HA.out, HS.out.kept.trans HA.out⟩
      have z0 : wa.cell? ⟨wr.heap.size, 0, none⟩ = some (.string (strL s.1)) := cell_of_row _ _ 0 _ _ _ HAG.out
      have z1 : wa.cell? ⟨wr.heap.size, 1, none⟩ = some (.string (strL s.2)) := cell_of_row _ _ 1 _ _ _ HAG.out
      have z2 : wa.cell? ⟨wr.heap.size, 2, none⟩ = some (.func (.func fi) #[] fc) := cell_of_row _ _ 2 _ _ _ HAG.out
      have hst : ∀ (w3 : World) (a : Addr) (fn : Fn) (cap : Array Value), (store a (.func fn #[] cap)).run Tryd.prog w3 = match w3.cell? a with
          | some _ => if w3.frozen? a then .halt (.unsupported (.unsafePointer "a write to bytes that a string shares")) w3 else .ok () (w3.setCell a (.func fn #[] cap))
          | none => match w3.farStore Tryd.prog a (.func fn #[] cap) false with
            | .ok (w', _) => .ok () w'
            | .error h => .halt h w3 := fun w3 a fn cap => run_store _ w3 a _ _ rfl
      have hE2 : ∀ (args : Array Value) (w : World), (callFunc fi args).run Tryd.prog w = .ok (.enter fi args) w := hE
      clear hcc a0 a1 a2 hcall hs hf hsS
      cases g with
      | nil =>
        obtain ⟨gao, gcap, rfl, _⟩ := HS.out.ps.open
        simp only [List.length_nil] at HS
        have HNE : Hid (∀ (p : Prm) (r : List Prm), ([] : List Prm) = p :: r → p.1 ≠ s.1) := fun p r h => by cases h
        have q6 : decide ((0 : Int) < ((0 : Nat) : Int)) = false := by decide
        simp only [List.length_nil]
        go_wp2_with fail
        go_quiet (fail)
        generalize hwq : World.drewN wa _ = wq
        have HQ : Hid (Kept [] wa wq) := by rw [← hwq]; exact Kept.drewN _ _ _
        have y0 : wq.cell? ⟨wr.heap.size, 0, none⟩ = some (.string (strL s.1)) := by rw [← hwq]; exact z0
        have y2 : wq.cell? ⟨wr.heap.size, 2, none⟩ = some (.func (.func fi) #[] fc) := by rw [← hwq]; exact z2
        have y1 : wq.cell? ⟨wr.heap.size, 1, none⟩ = some (.string (strL s.2)) := by rw [← hwq]; exact z1
        clear hwq z0 z1 z2
        go_wp2_with fail
        refine (HCALL.out wq (HA.out.trans HQ.out) s.2 HSL.out.2).mono ?_
        cases ht : T s.1 s.2
        · have HT := Lib.hid ht
          clear ht
          rintro e w3 ⟨rfl, hk3⟩
          have HK3 : Hid (Kept [] w w3) := (HSA.out.2.trans HQ.out).trans hk3
          clear hk3
          go_wp2_with fail
          go_ret2
          exact FillOut.no (by rw [HS.out.ans, HD.out]; exact fillA_dflt_no HNE.out HT.out) HK3.out
        · have HT := Lib.hid ht
          clear ht
          rintro e w3 ⟨rfl, hk3⟩
          have x0 : w3.cell? ⟨wr.heap.size, 0, none⟩ = some (.string (strL s.1)) := by
            rw [hk3.cell (p := ⟨wr.heap.size, 0, none⟩) (World.block_lt_of_cell? wq _ y0) (by simp)]; exact y0
          have HK3 : Hid (Kept [] wa w3) := HQ.out.trans hk3
          obtain ⟨v4, w4, hrun, hown, hap, _⟩ := (HSA.out.1.kept HK3.out).app (by have := HSA.out.2.size; have := HK3.out.size; omega) (s.1, s.2) (by have := HS.out.few; omega) ⟨HSL.out.1, HSL.out.2⟩
          have HRUN := Lib.hid hrun
          have HN : Hid (FiSt w T S P (k + 1) [] (out ++ [(s.1, s.2)]) (.slice gao 0 gcap) v4 w4) :=
            ⟨by rw [HS.out.ans, HD.out]; exact fillA_dflt HNE.out HT.out, HS.out.ps, hown, by have := HS.out.few; simp; omega, OwnP.into (HSA.out.2.trans HK3.out) hap (HSA.out.1.kept HK3.out) (Nat.le_refl _)⟩
          clear hrun hown hap hk3 y0 y1 y2
          go_wp2_with (at_builtin; refine wpList_append_run rfl _ _ 22 rfl _ _ _ rfl rfl HRUN.out ?_)
          go_roundw
          case rel => exact ⟨k + 1, _, _, by omega, by go_num, HN⟩
          case measure => simp [intOf]; omega
      | cons p r =>
        obtain ⟨gao, gcap, rfl, g1, g2, g3, g4⟩ := HS.out.ps.open
        obtain ⟨pb, po, rfl, hpb, hpc⟩ := g4 (by simp)
        obtain ⟨p0, p1⟩ := hpc 0 (by simp)
        simp only [List.getElem_cons_zero, Nat.zero_mul, Nat.add_zero] at p0 p1
        have p0' := ((HSA.out.2.trans (Kept.refl _ _)).cell (p := ⟨pb, po, none⟩) hpb (by simp)).trans p0
        have p1' := ((HSA.out.2.trans (Kept.refl _ _)).cell (p := ⟨pb, po + 1, none⟩) hpb (by simp)).trans p1
        have HPL : Hid (p.1.length ≤ 140737488355328 ∧ p.2.length ≤ 140737488355328) := HS.out.ps.each p (by simp)
        obtain ⟨n, hn⟩ : ∃ n, r.length = n := ⟨_, rfl⟩
        simp only [List.length_cons] at g1 HS ⊢
        rw [hn] at g1 HS ⊢
        have HNN := Lib.hid hn
        have hn63 : n + 1 ≤ 9223372036854775807 := by omega
        clear hn hpc p0 p1 g3 g4
        by_cases hps : p.1 = s.1
        · have q1 : ((strL p.1).toList == (strL s.1).toList) = true := by rw [str_beqP, decide_eq_true hps]
          have HE := Lib.hid hps
          obtain ⟨tb, to, he, htl⟩ := HS.out.ps.tail HNN.out
          injection he with he
          injection he with he1 he2 he3
          subst he1 he2
          have HTL := Lib.hid htl
          clear hps htl he3
          by_cases hcap : gcap = 1
          · subst hcap
            have HTL1 : Hid (PsIs w (.slice (some ⟨pb, po, none⟩) n (1 - 1)) r) := HTL.out
            have hn0 : n = 0 := by omega
            subst hn0
            go_wp2_with fail
            go_quiet (fail)
            generalize hwq : World.drewN wa _ = wq
            have HQ : Hid (Kept [] wa wq) := by rw [← hwq]; exact Kept.drewN _ _ _
            have y0 : wq.cell? ⟨wr.heap.size, 0, none⟩ = some (.string (strL s.1)) := by rw [← hwq]; exact z0
            have y2 : wq.cell? ⟨wr.heap.size, 2, none⟩ = some (.func (.func fi) #[] fc) := by rw [← hwq]; exact z2
            have y1 : wq.cell? ⟨wr.heap.size, 1, none⟩ = some (.string (strL s.2)) := by rw [← hwq]; exact z1
            have yp : wq.cell? ⟨pb, po + 1, none⟩ = some (.string (strL p.2)) := by rw [← hwq]; exact p1'
            clear p0' p1' q1
            clear hwq z0 z1 z2
            go_wp2_with fail
            refine (HCALL.out wq (HA.out.trans HQ.out) p.2 HPL.out.2).mono ?_
            cases ht : T s.1 p.2
            · have HT := Lib.hid ht
              clear ht
              rintro e w3 ⟨rfl, hk3⟩
              have HK3 : Hid (Kept [] w w3) := (HSA.out.2.trans HQ.out).trans hk3
              clear hk3
              go_wp2_with fail
              go_ret2
              exact FillOut.no (by rw [HS.out.ans, HD.out]; exact fillA_yes_no HE.out HT.out) HK3.out
            · have HT := Lib.hid ht
              clear ht
              rintro e w3 ⟨rfl, hk3⟩
              have x0 : w3.cell? ⟨wr.heap.size, 0, none⟩ = some (.string (strL s.1)) := by
                rw [hk3.cell (p := ⟨wr.heap.size, 0, none⟩) (World.block_lt_of_cell? wq _ y0) (by simp)]; exact y0
              have HK3 : Hid (Kept [] wa w3) := HQ.out.trans hk3
              obtain ⟨v4, w4, hrun, hown, hap, _⟩ := (HSA.out.1.kept HK3.out).app (by have := HSA.out.2.size; have := HK3.out.size; omega) (s.1, p.2) (by have := HS.out.few; omega) ⟨HSL.out.1, HPL.out.2⟩
              have HRUN := Lib.hid hrun
              have HN : Hid (FiSt w T S P (k + 1) r (out ++ [(s.1, p.2)]) (.slice (some ⟨pb, po, none⟩) 0 0) v4 w4) :=
                ⟨by rw [HS.out.ans, HD.out]; exact fillA_yes HE.out HT.out, HTL1.out, hown, by have := HS.out.few; simp; omega, OwnP.into (HSA.out.2.trans HK3.out) hap (HSA.out.1.kept HK3.out) (Nat.le_refl _)⟩
              clear hrun hown hap hk3 y0 y1 y2
              go_wp2_with (at_builtin; refine wpList_append_run rfl _ _ 22 rfl _ _ _ rfl rfl HRUN.out ?_)
              go_roundw
              case rel => exact ⟨k + 1, _, _, by omega, by go_num, HN⟩
              case measure => simp [intOf]; omega
          · have HTL1 : Hid (PsIs w (.slice (some ⟨pb, po + 2, none⟩) n (gcap - 1)) r) := by
              have := HTL.out
              rw [if_neg hcap] at this
              exact this
            go_wp2_with fail
            go_quiet (fail)
            generalize hwq : World.drewN wa _ = wq
            have HQ : Hid (Kept [] wa wq) := by rw [← hwq]; exact Kept.drewN _ _ _
            have y0 : wq.cell? ⟨wr.heap.size, 0, none⟩ = some (.string (strL s.1)) := by rw [← hwq]; exact z0
            have y2 : wq.cell? ⟨wr.heap.size, 2, none⟩ = some (.func (.func fi) #[] fc) := by rw [← hwq]; exact z2
            have y1 : wq.cell? ⟨wr.heap.size, 1, none⟩ = some (.string (strL s.2)) := by rw [← hwq]; exact z1
            have yp : wq.cell? ⟨pb, po + 1, none⟩ = some (.string (strL p.2)) := by rw [← hwq]; exact p1'
            clear p0' p1' q1
            clear hwq z0 z1 z2
            go_wp2_with fail
            refine (HCALL.out wq (HA.out.trans HQ.out) p.2 HPL.out.2).mono ?_
            cases ht : T s.1 p.2
            · have HT := Lib.hid ht
              clear ht
              rintro e w3 ⟨rfl, hk3⟩
              have HK3 : Hid (Kept [] w w3) := (HSA.out.2.trans HQ.out).trans hk3
              clear hk3
              go_wp2_with fail
              go_ret2
              exact FillOut.no (by rw [HS.out.ans, HD.out]; exact fillA_yes_no HE.out HT.out) HK3.out
            · have HT := Lib.hid ht
              clear ht
              rintro e w3 ⟨rfl, hk3⟩
              have x0 : w3.cell? ⟨wr.heap.size, 0, none⟩ = some (.string (strL s.1)) := by
                rw [hk3.cell (p := ⟨wr.heap.size, 0, none⟩) (World.block_lt_of_cell? wq _ y0) (by simp)]; exact y0
              have HK3 : Hid (Kept [] wa w3) := HQ.out.trans hk3
              obtain ⟨v4, w4, hrun, hown, hap, _⟩ := (HSA.out.1.kept HK3.out).app (by have := HSA.out.2.size; have := HK3.out.size; omega) (s.1, p.2) (by have := HS.out.few; omega) ⟨HSL.out.1, HPL.out.2⟩
              have HRUN := Lib.hid hrun
              have HN : Hid (FiSt w T S P (k + 1) r (out ++ [(s.1, p.2)]) (.slice (some ⟨pb, po + 2, none⟩) n (gcap - 1)) v4 w4) :=
                ⟨by rw [HS.out.ans, HD.out]; exact fillA_yes HE.out HT.out, HTL1.out, hown, by have := HS.out.few; simp; omega, OwnP.into (HSA.out.2.trans HK3.out) hap (HSA.out.1.kept HK3.out) (Nat.le_refl _)⟩
              clear hrun hown hap hk3 y0 y1 y2
              go_wp2_with (at_builtin; refine wpList_append_run rfl _ _ 22 rfl _ _ _ rfl rfl HRUN.out ?_)
              go_roundw
              case rel => exact ⟨k + 1, _, _, by omega, by go_num, HN⟩
              case measure => simp [intOf]; omega
        · have q1 : ((strL p.1).toList == (strL s.1).toList) = false := by rw [str_beqP, decide_eq_false hps]
          have HNE : Hid (∀ (x : Prm) (r' : List Prm), p :: r = x :: r' → x.1 ≠ s.1) := fun x r' h => by injection h with h1 h2; rw [← h1]; exact hps
          clear hps
          go_wp2_with fail
          go_quiet (fail)
          generalize hwq : World.drewN wa _ = wq
          have HQ : Hid (Kept [] wa wq) := by rw [← hwq]; exact Kept.drewN _ _ _
          have y0 : wq.cell? ⟨wr.heap.size, 0, none⟩ = some (.string (strL s.1)) := by rw [← hwq]; exact z0
          have y2 : wq.cell? ⟨wr.heap.size, 2, none⟩ = some (.func (.func fi) #[] fc) := by rw [← hwq]; exact z2
          have y1 : wq.cell? ⟨wr.heap.size, 1, none⟩ = some (.string (strL s.2)) := by rw [← hwq]; exact z1
          clear p0' p1' q1
          clear hwq z0 z1 z2
          go_wp2_with fail
          refine (HCALL.out wq (HA.out.trans HQ.out) s.2 HSL.out.2).mono ?_
          cases ht : T s.1 s.2
          · have HT := Lib.hid ht
            clear ht
            rintro e w3 ⟨rfl, hk3⟩
            have HK3 : Hid (Kept [] w w3) := (HSA.out.2.trans HQ.out).trans hk3
            clear hk3
            go_wp2_with fail
            go_ret2
            exact FillOut.no (by rw [HS.out.ans, HD.out]; exact fillA_dflt_no HNE.out HT.out) HK3.out
          · have HT := Lib.hid ht
            clear ht
            rintro e w3 ⟨rfl, hk3⟩
            have x0 : w3.cell? ⟨wr.heap.size, 0, none⟩ = some (.string (strL s.1)) := by
              rw [hk3.cell (p := ⟨wr.heap.size, 0, none⟩) (World.block_lt_of_cell? wq _ y0) (by simp)]; exact y0
            have HK3 : Hid (Kept [] wa w3) := HQ.out.trans hk3
            obtain ⟨v4, w4, hrun, hown, hap, _⟩ := (HSA.out.1.kept HK3.out).app (by have := HSA.out.2.size; have := HK3.out.size; omega) (s.1, s.2) (by have := HS.out.few; omega) ⟨HSL.out.1, HSL.out.2⟩
            have HRUN := Lib.hid hrun
            have HN : Hid (FiSt w T S P (k + 1) (p :: r) (out ++ [(s.1, s.2)]) (.slice (some ⟨pb, po, none⟩) (n + 1) gcap) v4 w4) :=
              ⟨by rw [HS.out.ans, HD.out]; exact fillA_dflt HNE.out HT.out, HS.out.ps, hown, by have := HS.out.few; simp; omega, OwnP.into (HSA.out.2.trans HK3.out) hap (HSA.out.1.kept HK3.out) (Nat.le_refl _)⟩
            clear hrun hown hap hk3 y0 y1 y2
            go_wp2_with (at_builtin; refine wpList_append_run rfl _ _ 22 rfl _ _ _ rfl rfl HRUN.out ?_)
            go_roundw
            case rel => exact ⟨k + 1, _, _, by omega, by go_num, HN⟩
            case measure => simp [intOf]; omega
    · have hkm : k = m := by omega
      have HF : Hid (fillA T S P [] = if g = [] then some out else none) := by
        show _ = _
        have hdr : S.drop k = [] := List.drop_of_length_le (by rw [← HL.out, List.length_map, HM.out]; omega)
        rw [HS.out.ans, hdr]; rfl
      have hsv : ∃ x1 x2 x3, u6 = .slice x1 x2 x3 := prm_val _ _ _ _ HS.out.own
      obtain ⟨ou, om, oc, rfl⟩ := hsv
      obtain ⟨gao, gcap, rfl, g1, g2, g3, g4⟩ := HS.out.ps.open
      cases g with
      | nil =>
        have HF2 : Hid (fillA T S P [] = some out) := by show _ = _; rw [HF.out, if_pos rfl]
        have q6 : decide ((0 : Int) < ((0 : Nat) : Int)) = false := by decide
        simp only [List.length_nil]
        clear g1 g2 g3 g4
        go_wp2_with fail
        go_ret2
        exact ⟨_, _, rfl, by rw [HF2.out]; rfl, by rw [HF2.out]; exact HS.out.own, HS.out.kept⟩
      | cons p r =>
        have HF2 : Hid (fillA T S P [] = none) := by show _ = _; rw [HF.out, if_neg (by simp)]
        simp only [List.length_cons] at g1 ⊢
        obtain ⟨n, hn⟩ : ∃ n, r.length = n := ⟨_, rfl⟩
        rw [hn] at g1 ⊢
        have hn63 : n + 1 ≤ 9223372036854775807 := by omega
        clear g3 g4 hn
        go_wp2_with fail
        go_ret2
        exact FillOut.no HF2.out HS.out.kept
end Go.Proofs.YthpfnkanilfohaaDoor

/-
  Layer 6: the document's Same.
  Conditions: those that each theorem states.
-/
import Derived.Test.YtfofhnbijjocfaaGreatDoorQRef
import Derived.Laws.StructEq
namespace Go.Proofs.YtfofhnbijjocfaaGreatDoor
open Go.RowKit Go.Maps
set_option maxRecDepth 100000

/-- Two resources are the same. -/
def sameR (a b ca cb : List UInt8) (P Q : List Prm) : Bool := decide (a = b ∧ ca = cb ∧ P = Q)
theorem sameR_no {a b ca cb : List UInt8} {P Q : List Prm} (h : ¬ (a = b ∧ ca = cb ∧ P = Q)) : sameR a b ca cb P Q = false := decide_eq_false h

set_option maxRecDepth 100000 in
set_option maxHeartbeats 4000000 in
theorem rssame_any (a b ca cb : List UInt8) (P Q : List Prm) (va vb : Value) (w : World) (hp : PsIs w va P) (hq : PsIs w vb Q) :
    Calls Tryz.prog 17 #[resV a ca va, resV b cb vb] w fun e w' => e = .returned (.bool (sameR a b ca cb P Q)) ∧ Kept [] w w' := by
  have hl := hp.len
  have hl2 := hq.len
  obtain ⟨ao, cap, rfl, _, _, _, h5⟩ := hp.open
  obtain ⟨bo, cap2, rfl, _, _, _, g5⟩ := hq.open
  have H5 := Lib.hid h5
  have G5 := Lib.hid g5
  obtain ⟨n, hn⟩ : ∃ n, P.length = n := ⟨_, rfl⟩
  obtain ⟨m, hm⟩ : ∃ m, Q.length = m := ⟨_, rfl⟩
  have HN := Lib.hid hn
  have HM := Lib.hid hm
  rw [hn, hm]
  rw [hn] at hl
  rw [hm] at hl2
  clear hp hq hn hm h5 g5
  unfold resV
  have HK : Hid (Kept [] w ((w.alloc (.cells #[.string (strL a), .string (strL ca), .slice ao n cap] 40)).alloc (.cells #[.string (strL b), .string (strL cb), .slice bo m cap2] 40))) := (Kept.alloc [] w _).trans (Kept.alloc [] _ _)
  by_cases h1 : a = b
  case neg =>
    have q1 : ((strL a).toList == (strL b).toList) = false := by rw [str_beqP, decide_eq_false h1]
    have HB : Hid (sameR a b ca cb P Q = false) := sameR_no fun h => h1 h.1
    clear h1
    go_enter Tryz.func17, Tryz.ntmps17
    go_wp2_with fail
    go_ret
    exact ⟨retB HB.out.symm, HK.out⟩
  have q1 : ((strL a).toList == (strL b).toList) = true := by rw [str_beqP, decide_eq_true h1]
  by_cases h2 : ca = cb
  case neg =>
    have q2 : ((strL ca).toList == (strL cb).toList) = false := by rw [str_beqP, decide_eq_false h2]
    have HB : Hid (sameR a b ca cb P Q = false) := sameR_no fun h => h2 h.2.1
    clear h1 h2
    go_enter Tryz.func17, Tryz.ntmps17
    go_wp2_with fail
    go_ret
    exact ⟨retB HB.out.symm, HK.out⟩
  have q2 : ((strL ca).toList == (strL cb).toList) = true := by rw [str_beqP, decide_eq_true h2]
  have H12 := Lib.hid (And.intro h1 h2)
  clear h1 h2
  by_cases h3 : n = m
  case neg =>
    have q3 : ((n : Int) == (m : Int)) = false := by rw [beq_eq_false_iff_ne]; omega
    have q4 : (n == m) = false := by rw [beq_eq_false_iff_ne]; exact h3
    have HB : Hid (sameR a b ca cb P Q = false) := sameR_no fun h => h3 (by rw [← HN.out, ← HM.out, h.2.2])
    clear h3
    go_enter Tryz.func17, Tryz.ntmps17
    go_wp2_with fail
    go_ret
    exact ⟨retB HB.out.symm, HK.out⟩
  subst h3
  obtain ⟨w2, hw2⟩ : ∃ w2, (w.alloc (.cells #[.string (strL a), .string (strL ca), .slice ao n cap] 40)).alloc (.cells #[.string (strL b), .string (strL cb), .slice bo n cap2] 40) = w2 := ⟨_, rfl⟩
  have HA : Hid (w2.heap[w.heap.size]? = some (.cells #[.string (strL a), .string (strL ca), .slice ao n cap] 40)) := by
    show _ = _
    rw [← hw2]
    exact (Kept.alloc [] _ _).heap (by simp) (heap_alloc_last w _)
  have HB2 : Hid (w2.heap[w.heap.size + 1]? = some (.cells #[.string (strL b), .string (strL cb), .slice bo n cap2] 40)) := by
    show _ = _
    rw [← hw2]
    have := heap_alloc_last (w.alloc (.cells #[.string (strL a), .string (strL ca), .slice ao n cap] 40)) (.cells #[.string (strL b), .string (strL cb), .slice bo n cap2] 40)
    rwa [size_alloc] at this
  have HK2 : Hid (Kept [] w w2) := by rw [← hw2]; exact HK.out
  have a0 : w2.cell? ⟨w.heap.size, 0, none⟩ = some (.string (strL a)) := cell_of_row _ _ 0 _ _ _ HA.out
  have a1 : w2.cell? ⟨w.heap.size, 1, none⟩ = some (.string (strL ca)) := cell_of_row _ _ 1 _ _ _ HA.out
  have a2 : w2.cell? ⟨w.heap.size, 2, none⟩ = some (.slice ao n cap) := cell_of_row _ _ 2 _ _ _ HA.out
  have b0 : w2.cell? ⟨w.heap.size + 1, 0, none⟩ = some (.string (strL b)) := cell_of_row _ _ 0 _ _ _ HB2.out
  have b1 : w2.cell? ⟨w.heap.size + 1, 1, none⟩ = some (.string (strL cb)) := cell_of_row _ _ 1 _ _ _ HB2.out
  have b2 : w2.cell? ⟨w.heap.size + 1, 2, none⟩ = some (.slice bo n cap2) := cell_of_row _ _ 2 _ _ _ HB2.out
  go_enter Tryz.func17, Tryz.ntmps17
  go_wp2_with fail
  clear hw2 HK a0 a1 a2 b0 b1 b2
  go_loopw [5] (fun i wr => ∃ k : Nat, k ≤ n ∧ i = .int .i64 k ∧ Hid (∀ j (hj : j < P.length) (hj2 : j < Q.length), j < k → P[j] = Q[j]) ∧ Hid (Kept [] w2 wr)) (fun i _ => n - (intOf i).toNat)
  case atStart => exact ⟨0, by omega, rfl, fun j hj hj2 h0 => by omega, by show Kept [] w2 _; exact Kept.refl _ _⟩
  case round =>
    obtain ⟨k, hk, rfl, HE, HW⟩ := hrel
    have a2 : wr.cell? ⟨w.heap.size, 2, none⟩ = some (.slice ao n cap) := cell_of_row _ _ 2 _ _ _ (HW.out.heap (by simp) HA.out)
    have b2 : wr.cell? ⟨w.heap.size + 1, 2, none⟩ = some (.slice bo n cap2) := cell_of_row _ _ 2 _ _ _ (HW.out.heap (by simp) HB2.out)
    by_cases hlt : k < n
    · have hkp : k < P.length := by rw [HN.out]; exact hlt
      have hkq : k < Q.length := by rw [HM.out]; exact hlt
      obtain ⟨pb, po, rfl, hpb, hpc⟩ := H5.out (by omega)
      obtain ⟨qb, qo, rfl, hqb, hqc⟩ := G5.out (by omega)
      obtain ⟨p0, p1⟩ := hpc k hkp
      obtain ⟨r0, r1⟩ := hqc k hkq
      have HKW : Hid (Kept [] w wr) := HK2.out.trans HW.out
      have d0 := (HKW.out.cell (p := ⟨pb, po + k * 2, none⟩) hpb (by simp)).trans p0
      have d1 := (HKW.out.cell (p := ⟨pb, po + k * 2 + 1, none⟩) hpb (by simp)).trans p1
      have e0 := (HKW.out.cell (p := ⟨qb, qo + k * 2, none⟩) hqb (by simp)).trans r0
      have e1 := (HKW.out.cell (p := ⟨qb, qo + k * 2 + 1, none⟩) hqb (by simp)).trans r1
      obtain ⟨p, hp⟩ : ∃ p, P[k] = p := ⟨_, rfl⟩
      obtain ⟨r, hr⟩ : ∃ r, Q[k] = r := ⟨_, rfl⟩
      rw [hp] at d0 d1
      rw [hr] at e0 e1
      have HP := Lib.hid hp
      have HR := Lib.hid hr
      clear hpc hqc p0 p1 r0 r1 hp hr
      by_cases hpr : p = r
      · subst hpr
        have HE2 : Hid (∀ j (hj : j < P.length) (hj2 : j < Q.length), j < k + 1 → P[j] = Q[j]) := fun j hj hj2 hjk => by
          by_cases e : j = k
          · subst e; rw [HP.out, HR.out]
          · exact HE.out j hj hj2 (by omega)
        go_wp2_with fail
        go_quiet (fail)
        generalize hwq : World.drewN wr _ = wq
        have HWQ : Hid (Kept [] w2 wq) := by rw [← hwq]; exact HW.out.trans (Kept.drewN _ _ _)
        clear hwq a2 b2 d0 d1 e0 e1
        go_wp2_with fail
        go_roundw
        case rel => exact ⟨k + 1, by omega, by go_num, HE2, HWQ⟩
        case measure => simp [intOf]; omega
      · have HB : Hid (sameR a b ca cb P Q = false) := sameR_no fun h => hpr (by rw [← HP.out, ← HR.out]; simp only [h.2.2])
        by_cases hp1 : p.1 = r.1
        · have hp2 : p.2 ≠ r.2 := fun e => hpr (Prod.ext hp1 e)
          have f1 : ((strL p.1).toList == (strL r.1).toList) = true := by rw [str_beqP, decide_eq_true hp1]
          have f2 : ((strL p.2).toList == (strL r.2).toList) = false := by rw [str_beqP, decide_eq_false hp2]
          have f3 : (strL p.1).toList = (strL r.1).toList := by rw [strL_bytes, strL_bytes]; exact hp1
          have f4 : ¬ (strL p.2).toList = (strL r.2).toList := by rw [strL_bytes, strL_bytes]; exact hp2
          clear hpr hp1 hp2
          go_wp2_with fail
          go_quiet (fail)
          generalize hwq : World.drewN wr _ = wq
          have HWQ : Hid (Kept [] w2 wq) := by rw [← hwq]; exact HW.out.trans (Kept.drewN _ _ _)
          clear hwq a2 b2 d0 d1 e0 e1 f3 f4
          go_wp2_with fail
          go_ret
          exact ⟨retB HB.out.symm, HK2.out.trans HWQ.out⟩
        · have f1 : ((strL p.1).toList == (strL r.1).toList) = false := by rw [str_beqP, decide_eq_false hp1]
          have f3 : ¬ (strL p.1).toList = (strL r.1).toList := by rw [strL_bytes, strL_bytes]; exact hp1
          clear hpr hp1
          go_wp2_with fail
          go_quiet (fail)
          generalize hwq : World.drewN wr _ = wq
          have HWQ : Hid (Kept [] w2 wq) := by rw [← hwq]; exact HW.out.trans (Kept.drewN _ _ _)
          clear hwq a2 b2 d0 d1 e0 e1 f3
          go_wp2_with fail
          go_ret
          exact ⟨retB HB.out.symm, HK2.out.trans HWQ.out⟩
    · have HB : Hid (sameR a b ca cb P Q = true) := decide_eq_true ⟨H12.out.1, H12.out.2, List.ext_getElem (by rw [HN.out, HM.out]) fun j hj hj2 => HE.out j hj hj2 (by rw [HN.out] at hj; omega)⟩
      go_wp2_with fail
      go_ret
      exact ⟨retB HB.out.symm, HK2.out.trans HW.out⟩
end Go.Proofs.YtfofhnbijjocfaaGreatDoor

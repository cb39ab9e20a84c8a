/-
  Layer 6: the walk of ResourceEnsures.
  Conditions: those that each theorem states.
-/
import Derived.Test.YthpfnkanilfohaaDoorQShown
import Derived.Test.YthpfnkanilfohaaDoorQPure2
namespace Go.Proofs.YthpfnkanilfohaaDoor
open Go.RowKit Go.Maps

set_option maxRecDepth 100000 in
set_option maxHeartbeats 8000000 in
theorem ensures_walk (t ti st : List UInt8) (w : World) (ht : t.length ≤ 140737488355328) (hti : ti.length ≤ 140737488355328) (hst : st.length ≤ 140737488355328) :
    Calls Tryd.prog 6 #[.string (strL t), .string (strL ti), .string (strL st)] w fun e w' => e = .returned (.bool true) ∧ Kept [] w w' := by
  have q0 : strL nEnsure = { data := #[101, 110, 115, 117, 114, 101] } := rfl
  have HFU : Hid (∀ w' g, w'.heap[g]? = some (.cells #[.string { data := #[101, 110, 115, 117, 114, 101] }, .string (strL st)] 31) → Calls Tryd.prog 9 #[.agg #[.string (strL t), .string (strL ti), .slice (some ⟨g, 0, none⟩) 1 1]] w' (FullOut t ti [(nEnsure, st)] w')) := fun w' g hg => by
    refine sfull_any t ti [(nEnsure, st)] _ w' ?_ ht hti
    exact ⟨⟨_, _, rfl, by simp, by omega, fun e => (by cases e), .inr ⟨g, 0, rfl, (Array.getElem?_eq_some_iff.1 hg).1, fun j u hu => by
      rw [Nat.zero_add, cell_of_row _ _ j _ _ _ hg]
      simpa [sv, fl, q0] using hu⟩⟩, by simp, fun x hx => by simp at hx; subst hx; exact ⟨(show nEnsure.length ≤ 140737488355328 by decide), hst⟩⟩
  obtain ⟨c, hc⟩ : ∃ c, codeO t ti [(nEnsure, st)] = c := ⟨_, rfl⟩
  have HC := Lib.hid hc
  have HP : Hid (c = 0 → knownB st = true ∧ getP (outO t ti [(nEnsure, st)]) nEnsure = some st ∧ (bareB st = true → (outO t ti [(nEnsure, st)]).length = 1)) := fun h0 => ensures_pure (by rw [hc, h0])
  have HX : Hid (c ≠ 0 → outO t ti [(nEnsure, st)] = []) := fun h0 => by unfold outO; rw [hc, if_neg h0]
  obtain ⟨O, hO⟩ : ∃ O, outO t ti [(nEnsure, st)] = O := ⟨_, rfl⟩
  have HO := Lib.hid hO
  rw [hO] at HP HX
  obtain ⟨b1, e1⟩ : ∃ b, decide (st = nPresent) = b := ⟨_, rfl⟩
  obtain ⟨b2, e2⟩ : ∃ b, decide (st = nAbsent) = b := ⟨_, rfl⟩
  obtain ⟨b3, e3⟩ : ∃ b, decide (st = nFile) = b := ⟨_, rfl⟩
  obtain ⟨b4, e4⟩ : ∃ b, decide (st = nDirectory) = b := ⟨_, rfl⟩
  obtain ⟨b5, e5⟩ : ∃ b, decide (st = nRunning) = b := ⟨_, rfl⟩
  obtain ⟨b6, e6⟩ : ∃ b, decide (st = nStopped) = b := ⟨_, rfl⟩
  have lit : ∀ L : List UInt8, ((strL st).toList == L) = decide (st = L) := fun L => by rw [strL_bytes, Bool.eq_iff_iff, beq_iff_eq, decide_eq_true_iff]
  have f1 : ((strL st).toList == [112, 114, 101, 115, 101, 110, 116]) = b1 := (lit _).trans e1
  have f2 : ((strL st).toList == [97, 98, 115, 101, 110, 116]) = b2 := (lit _).trans e2
  have f3 : ((strL st).toList == [102, 105, 108, 101]) = b3 := (lit _).trans e3
  have f4 : ((strL st).toList == [100, 105, 114, 101, 99, 116, 111, 114, 121]) = b4 := (lit _).trans e4
  have f5 : ((strL st).toList == [114, 117, 110, 110, 105, 110, 103]) = b5 := (lit _).trans e5
  have f6 : ((strL st).toList == [115, 116, 111, 112, 112, 101, 100]) = b6 := (lit _).trans e6
  have HKN : Hid (knownB st = (b1 || (b2 || (b3 || (b4 || (b5 || b6))))) ∧ bareB st = (b2 || (b5 || b6))) := by
    show _ ∧ _
    unfold knownB bareB
    rw [e1, e2, e3, e4, e5, e6]
    exact ⟨rfl, rfl⟩
  clear hc hO e1 e2 e3 e4 e5 e6 lit q0
  go_enter Tryd.func6, Tryd.ntmps6
  go_wp2_with fail
  refine (shown6_any _).mono ?_
  rintro e w1 ⟨rfl, hk1⟩
  have HK1 := Lib.hid hk1
  clear hk1
  obtain ⟨w2, hw2⟩ : ∃ w2, w1.alloc (.cells #[.string { data := #[101, 110, 115, 117, 114, 101] }, .string (strL st)] 31) = w2 := ⟨_, rfl⟩
  have HA : Hid (Kept [] w1 w2 ∧ w2.heap[w1.heap.size]? = some (.cells #[.string { data := #[101, 110, 115, 117, 114, 101] }, .string (strL st)] 31)) := ⟨by rw [← hw2]; exact Kept.alloc _ _ _, by rw [← hw2]; exact heap_alloc_last _ _⟩
  go_wp2_with fail
  refine (HFU.out _ _ HA.out.2).mono ?_
  rintro e w3 ⟨v3, rfl, HF⟩
  rw [HC.out]
  rw [HO.out] at HF
  unfold resV
  generalize txO t ti [(nEnsure, st)] t = y1
  generalize txO t ti [(nEnsure, st)] ti = y2
  obtain ⟨oao, ocap, rfl, _, _, _, hoc⟩ := HF.out.1.ps.open
  have HOC := Lib.hid hoc
  obtain ⟨w4, hw4⟩ : ∃ w4, w3.alloc (.cells #[.string (strL y1), .string (strL y2), .slice oao O.length ocap] 24) = w4 := ⟨_, rfl⟩
  have HB : Hid (Kept [] w3 w4 ∧ w4.heap[w3.heap.size]? = some (.cells #[.string (strL y1), .string (strL y2), .slice oao O.length ocap] 24)) := ⟨by rw [← hw4]; exact Kept.alloc _ _ _, by rw [← hw4]; exact heap_alloc_last _ _⟩
  have HK4 : Hid (Kept [] w w4) := ((HK1.out.trans HA.out.1).trans HF.out.2).trans HB.out.1
  have hOlen : O.length ≤ 140737488355328 := by have := HF.out.1.ps.len; omega
  clear hoc
  have c0 : w4.cell? ⟨w3.heap.size, 0, none⟩ = some (.string (strL y1)) := cell_of_row _ _ 0 _ _ _ HB.out.2
  have c1 : w4.cell? ⟨w3.heap.size, 1, none⟩ = some (.string (strL y2)) := cell_of_row _ _ 1 _ _ _ HB.out.2
  have c2 : w4.cell? ⟨w3.heap.size, 2, none⟩ = some (.slice oao O.length ocap) := cell_of_row _ _ 2 _ _ _ HB.out.2
  obtain ⟨n, hn⟩ : ∃ n, O.length = n := ⟨_, rfl⟩
  have HNN := Lib.hid hn
  rw [hn] at c2 hw4 hOlen
  rw [hn]
  by_cases h0 : c = 0
  · subst h0
    have hpp := HP.out rfl
    have HGE : Hid (∀ w', Kept [] w4 w' → Calls Tryd.prog 14 #[.agg #[.string (strL y1), .string (strL y2), .slice oao n ocap], .string { data := #[101, 110, 115, 117, 114, 101] }] w' fun e w2 => e = .returned (.tuple #[.string (strL st), .bool true]) ∧ Kept [] w' w2) := fun w' hk => by
      have := sget_any y1 y2 nEnsure O _ w' (((HF.out.1.ps).kept HB.out.1).kept hk)
      unfold GetP getV getB at this
      rw [hpp.2.1, hn] at this
      exact this
    have HKB : Hid ((b1 || (b2 || (b3 || (b4 || (b5 || b6))))) = true ∧ ((b2 || (b5 || b6)) = true → n = 1)) := by
      show _ ∧ _
      rw [← HKN.out.1, ← HKN.out.2]
      exact ⟨hpp.1, fun hb => by rw [← hn]; exact hpp.2.2 hb⟩
    have hkn := hpp.1
    clear hpp hn hw2
    unfold knownB at hkn
    simp only [Bool.or_eq_true, decide_eq_true_eq] at hkn
    rcases hkn with rfl | rfl | rfl | rfl | rfl | rfl
    all_goals
      (cases b1 <;> try (exact absurd f1 (by decide +kernel)))
      (cases b2 <;> try (exact absurd f2 (by decide +kernel)))
      (cases b3 <;> try (exact absurd f3 (by decide +kernel)))
      (cases b4 <;> try (exact absurd f4 (by decide +kernel)))
      (cases b5 <;> try (exact absurd f5 (by decide +kernel)))
      (cases b6 <;> try (exact absurd f6 (by decide +kernel)))
      have HN1 := HKB.out.2
      first | (have h1 := HN1 rfl; subst h1) | skip
      clear HN1
      go_wp2_with fail
      clear hw4
      refine (HGE.out _ (Kept.refl _ _)).mono ?_
      rintro e w5 ⟨rfl, hk5⟩
      have HK5 := Lib.hid hk5
      have y2 := (hk5.heap (by simp) HB.out.2)
      have y3 : w5.cell? ⟨w3.heap.size, 2, none⟩ = some (.slice oao _ ocap) := cell_of_row _ _ 2 _ _ _ y2
      rw [HNN.out] at y3
      clear hk5 y2 c0 c1 c2
      go_wp2_with fail
      go_ret
      exact ⟨rfl, HK4.out.trans HK5.out⟩
  · have HE : Hid (n = 0) := by show _ = _; rw [← hn, HX.out h0]; rfl
    have q0 : (c == 0) = false := by simpa using h0
    have q1 : (c != 0) = true := by simpa using h0
    obtain rfl := HE.out
    clear hn h0 hw2
    go_wp2_with fail
    clear hw4
    go_ret
    exact ⟨rfl, HK4.out⟩
end Go.Proofs.YthpfnkanilfohaaDoor

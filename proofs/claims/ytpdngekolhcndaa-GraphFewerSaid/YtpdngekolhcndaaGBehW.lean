/-
  Layer 8: the walk of GraphBehind.
  Conditions: those that each theorem states.
-/
import Derived.Test.YtpdngekolhcndaaGShownW
namespace Go.Proofs.Ytpdngekolhcndaa
open Go.RowKit Go.Maps

/-- There is a cycle just if one is behind itself. -/
theorem round_is {q : Nat} {L : List Edg} (h : GOk q L) {c : List Nat} (hc : ordE q L = 80 → Cyc (adjL L) c ∧ ∀ i ∈ c, i < (q : Int).toNat) : (∃ j, j < q ∧ Reach (adjL L) j j) ↔ ordE q L = 80 := by
  constructor
  · rintro ⟨j, _, hr⟩
    unfold ordE
    rw [if_pos h, Int.toNat_natCast]
    cases ho : ordO q (adjL L) with
    | none => rfl
    | some r =>
      have := hr.rank (fun i j => adjL_lt h) (ordO_some ho).2.2.2.2
      omega
  · intro e
    obtain ⟨k1, k2⟩ := hc e
    exact ⟨_, by have := k2 _ (List.getElem_mem k1.ne); simpa using this, k1.reach⟩
theorem ordE_bad {n : Int} {L : List Edg} : ordE n L = 1 ↔ ¬ GOk n L := by
  unfold ordE
  by_cases h : GOk n L
  · rw [if_pos h]
    split <;> simp [h]
  · rw [if_neg h]; simp [h]
theorem ordE_vals (n : Int) (L : List Edg) : ordE n L = 0 ∨ ordE n L = 1 ∨ ordE n L = 80 := by
  unfold ordE
  split
  · split <;> simp
  · simp

set_option maxRecDepth 100000 in
set_option maxHeartbeats 4000000 in
theorem beh_walk (n : Int) (L : List Edg) (s : Int) (v : Value) (w : World) (h : EsIs w v L) :
    Calls Try.prog 5 #[.int .i64 n, v, .int .i64 s] w fun e w' => e = .returned (.bool true) ∧ Kept [] w w' := by
  have HE := Lib.hid h
  clear h
  go_enter Try.func5, Try.ntmps5
  go_wp2_with fail
  refine (shown8_any w).mono ?_
  rintro e w1 ⟨rfl, hk1⟩
  have HK1 := Lib.hid hk1
  clear hk1
  go_wp2_with fail
  refine (behind_any n L s v w1 (HE.out.kept HK1.out)).mono ?_
  rintro e w2 ⟨va, rfl, H2⟩
  have HK2 : Hid (Kept [] w w2) := HK1.out.trans H2.out.2
  go_wp2_with fail
  refine (rbehind_any n L s v w2 (HE.out.kept HK2.out)).mono ?_
  rintro e w3 ⟨vb, rfl, H3⟩
  go_wp2_with fail
  refine (ints_any va vb _ _ w3 (H2.out.1.kept H3.out.2) H3.out.1).mono ?_
  rintro e w4 ⟨rfl, hk4⟩
  have d1 : decide (behL n L s = behL n L s) = true := decide_eq_true rfl
  rw [d1]
  have HK4 : Hid (Kept [] w w4) := (HK2.out.trans H3.out.2).trans hk4
  have HVA : Hid (NsIs w4 va (behL n L s)) := (H2.out.1.kept H3.out.2).kept hk4
  clear hk4 H2 H3 d1
  go_wp2_with fail
  refine (order_any n L v w4 (HE.out.kept HK4.out)).mono ?_
  rintro e w5 ⟨vo, vc, c, rfl, H5⟩
  have HK5 : Hid (Kept [] w w5) := HK4.out.trans H5.out.2.2.2.2
  obtain ⟨eo, heo⟩ : ∃ eo, ordE n L = eo := ⟨_, rfl⟩
  have HEO := Lib.hid heo
  rw [heo]
  by_cases hok : GOk n L
  case neg =>
    have h1 : eo = 1 := by rw [← heo]; exact ordE_bad.2 hok
    subst h1
    have hbe : behL n L s = [] := behL_no fun g => hok g.1
    obtain ⟨ao, cap, rfl, _⟩ := HVA.out.open
    rw [hbe] at HVA ⊢
    simp only [List.length_nil]
    clear hok heo hbe
    go_wp2_with fail
    go_ret
    exact ⟨rfl, HK5.out⟩
  have hne : (eo == 1) = false := by
    rw [beq_eq_false_iff_ne]
    intro e
    exact ordE_bad.1 (heo.trans e) hok
  obtain ⟨q, rfl⟩ : ∃ q : Nat, n = q := ⟨n.toNat, by have := hok.1; omega⟩
  have hq : q ≤ 32 := by have := hok.1; omega
  have HOK := Lib.hid hok
  have HR : Hid ((∃ j, j < q ∧ Reach (adjL L) j j) ↔ eo = 80) := by rw [← heo]; exact round_is hok H5.out.2.2.2.1
  clear H5 heo hok
  go_wp2_with fail
  clear HVA
  go_loopw [13, 14] (fun r i wr => ∃ (k : Nat) (b : Bool), k ≤ q ∧ i = .int .i64 k ∧ r = .bool b ∧ Hid ((b = true ↔ ∃ j, j < k ∧ Reach (adjL L) j j) ∧ Kept [] w wr)) (fun _ i _ => q - (intOf i).toNat)
  case atStart => exact ⟨0, false, by omega, rfl, rfl, by simp, HK5.out⟩
  case round =>
    obtain ⟨k, b, hk, rfl, rfl, HS⟩ := hrel
    by_cases hlt : k < q
    · go_wp2_with fail
      refine (behind_any q L k v wr (HE.out.kept HS.out.2)).mono ?_
      rintro e w6 ⟨vb, rfl, H6⟩
      obtain ⟨B, hB⟩ : ∃ B, behL q L k = B := ⟨_, rfl⟩
      have HM : Hid (k ∈ B ↔ Reach (adjL L) k k) := by rw [← hB]; exact behL_mem HOK.out (by omega)
      rw [hB] at H6
      have hbl := H6.out.1.len
      obtain ⟨ao, cap, rfl, _, _, hcc⟩ := H6.out.1.open
      have HC := Lib.hid hcc
      obtain ⟨m, hm⟩ : ∃ m, B.length = m := ⟨_, rfl⟩
      have HMM := Lib.hid hm
      rw [hm] at hbl
      rw [hm]
      have HK6 : Hid (Kept [] w w6) := HS.out.2.trans H6.out.2
      clear hcc hm hB H6
      go_wp2_with fail
      go_loop [13, 16] (fun r i => ∃ (j : Nat) (b' : Bool), j ≤ m ∧ i = .int .i64 j ∧ r = .bool b' ∧ Hid (b' = true ↔ b = true ∨ k ∈ B.take j)) (fun _ i => m - (intOf i).toNat)
      case atStart => exact ⟨0, b, by omega, rfl, rfl, by show _ ↔ _; simp⟩
      case round =>
        obtain ⟨j, b', hj, rfl, rfl, HB⟩ := hrel
        by_cases hjm : j < m
        · have hjl : j < B.length := by rw [HMM.out]; exact hjm
          obtain ⟨bb, bo, rfl, _, hc⟩ := HC.out (by omega)
          have c0 := hc j hjl
          obtain ⟨x, hx⟩ : ∃ x, B[j] = x := ⟨_, rfl⟩
          rw [hx] at c0
          have HT : Hid (∀ b2 : Bool, (b2 = true ↔ b' = true ∨ x = k) → (b2 = true ↔ b = true ∨ k ∈ B.take (j + 1))) := fun b2 hb2 => by
            rw [hb2, HB.out, List.take_succ_eq_append_getElem hjl, List.mem_append, hx, List.mem_singleton, or_assoc]
            constructor
            · rintro (h | h | h)
              · exact .inl h
              · exact .inr (.inl h)
              · exact .inr (.inr h.symm)
            · rintro (h | h | h)
              · exact .inl h
              · exact .inr (.inl h)
              · exact .inr (.inr h.symm)
          clear hc hx
          cases b'
          · by_cases e : x = k
            · have q1 : ((x : Int) == (k : Int)) = true := by rw [e]; simp
              have HN := Lib.hid (HT.out true (by simp [e]))
              clear e
              go_wp2_with fail
              go_round
              case rel => exact ⟨j + 1, true, by omega, by go_num, rfl, HN⟩
              case measure => simp [intOf]; omega
            · have q1 : ((x : Int) == (k : Int)) = false := by simp; omega
              have HN := Lib.hid (HT.out false (by simp [e]))
              clear e
              go_wp2_with fail
              go_round
              case rel => exact ⟨j + 1, false, by omega, by go_num, rfl, HN⟩
              case measure => simp [intOf]; omega
          · have HN := Lib.hid (HT.out true (by simp))
            go_wp2_with fail
            go_round
            case rel => exact ⟨j + 1, true, by omega, by go_num, rfl, HN⟩
            case measure => simp [intOf]; omega
        · have HN : Hid ((b' = true ↔ ∃ j, j < k + 1 ∧ Reach (adjL L) j j) ∧ Kept [] w w6) := by
            refine ⟨?_, HK6.out⟩
            have h1 := HB.out
            rw [List.take_of_length_le (by rw [HMM.out]; omega)] at h1
            rw [h1, HS.out.1, HM.out]
            constructor
            · rintro (⟨j, h1, h2⟩ | h)
              · exact ⟨j, by omega, h2⟩
              · exact ⟨k, by omega, h⟩
            · rintro ⟨j, h1, h2⟩
              by_cases e : j = k
              · rw [e] at h2; exact .inr h2
              · exact .inl ⟨j, by omega, h2⟩
          go_wp2_with fail
          go_roundw
          case rel => exact ⟨k + 1, b', by omega, by go_num, rfl, HN⟩
          case measure => simp [intOf]; omega
    · have hkq : k = q := by omega
      have HB : Hid (b = (eo == 80)) := by
        show _ = _
        have h1 := HS.out.1
        rw [hkq, HR.out] at h1
        rw [Bool.eq_iff_iff, h1]
        simp
      have HBB : Hid ((b == (eo == 80)) = true) := by show _ = _; rw [HB.out]; simp
      go_wp2_with fail
      go_ret
      exact ⟨by rw [HBB.out]; rfl, HS.out.2⟩
end Go.Proofs.Ytpdngekolhcndaa

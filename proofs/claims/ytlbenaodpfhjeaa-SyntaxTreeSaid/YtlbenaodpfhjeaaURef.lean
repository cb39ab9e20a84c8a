/-
  Layer 11: the document's letters, parts, Name and Type; Keyword; the program's Name and Type.
  Conditions: those that each theorem states.
-/
import Derived.Test.YtlbenaodpfhjeaaUCut
namespace Go.Proofs.Ytlbenaodpfhjeaa
open Go.RowKit Go.Maps

set_option maxHeartbeats 1000000 in
theorem rsmall_any (c : UInt8) (w : World) : Calls Try.prog 20 #[.int .u8 (c.toNat : Int)] w fun e w' => e = .returned (.bool (smB c)) ∧ w = w' := by
  have hc := UInt8.toNat_lt c
  go_enter Try.func20, Try.ntmps20
  go_wp2
  all_goals
    go_ret
    refine ⟨retB ?_, rfl⟩
    unfold smB
    rw [Bool.eq_iff_iff]
    first
      | (simp; done)
      | (simp; omega)
set_option maxHeartbeats 1000000 in
theorem rdigit_any (c : UInt8) (w : World) : Calls Try.prog 21 #[.int .u8 (c.toNat : Int)] w fun e w' => e = .returned (.bool (dgB c)) ∧ w = w' := by
  have hc := UInt8.toNat_lt c
  go_enter Try.func21, Try.ntmps21
  go_wp2
  all_goals
    go_ret
    refine ⟨retB ?_, rfl⟩
    unfold dgB
    rw [Bool.eq_iff_iff]
    first
      | (simp; done)
      | (simp; omega)
set_option maxHeartbeats 1000000 in
theorem rtail_any (c : UInt8) (w : World) : Calls Try.prog 22 #[.int .u8 (c.toNat : Int)] w fun e w' => e = .returned (.bool (tlB c)) ∧ w = w' := by
  have hc := UInt8.toNat_lt c
  cases h1 : smB c
  · cases h2 : dgB c
    · have HT : Hid (tlB c = decide (c.toNat = 95)) := by show _ = _; unfold tlB; rw [h1, h2]; rfl
      have H1 := Lib.hid h1
      have H2 := Lib.hid h2
      clear h1 h2
      go_enter Try.func22, Try.ntmps22
      go_wp2_with fail
      refine (rsmall_any c _).mono ?_
      rw [H1.out]
      rintro e w2 ⟨rfl, rfl⟩
      go_wp2_with fail
      refine (rdigit_any c _).mono ?_
      rw [H2.out]
      rintro e w2 ⟨rfl, rfl⟩
      go_wp2_with fail
      all_goals
        go_ret
        refine ⟨retB ?_, rfl⟩
        rw [HT.out, Bool.eq_iff_iff]
        first
          | (simp; done)
          | (simp; omega)
    · have HT : Hid (tlB c = true) := by show _ = _; unfold tlB; rw [h1, h2]; rfl
      have H1 := Lib.hid h1
      have H2 := Lib.hid h2
      clear h1 h2
      go_enter Try.func22, Try.ntmps22
      go_wp2_with fail
      refine (rsmall_any c _).mono ?_
      rw [H1.out]
      rintro e w2 ⟨rfl, rfl⟩
      go_wp2_with fail
      refine (rdigit_any c _).mono ?_
      rw [H2.out]
      rintro e w2 ⟨rfl, rfl⟩
      go_wp2_with fail
      go_ret
      exact ⟨retB HT.out.symm, rfl⟩
  · have HT : Hid (tlB c = true) := by show _ = _; unfold tlB; rw [h1]; rfl
    have H1 := Lib.hid h1
    clear h1
    go_enter Try.func22, Try.ntmps22
    go_wp2_with fail
    refine (rsmall_any c _).mono ?_
    rw [H1.out]
    rintro e w2 ⟨rfl, rfl⟩
    go_wp2_with fail
    go_ret
    exact ⟨retB HT.out.symm, rfl⟩

theorem partN_full {p : UInt8 → Bool} {S : ByteArray} (h : 0 < S.size) : decide (0 < (bl S).length ∧ partN p (bl S) = (bl S).length) = (p S[0] && decide (∀ j (hj : j < S.size), 1 ≤ j → tlB S[j] = true)) := by
  rw [Bool.eq_iff_iff, Bool.and_eq_true, decide_eq_true_iff, decide_eq_true_iff, bl_len, bl_cons h]
  simp only [partN]
  have hle := spanN_le tlB (bl (S.extract 1 S.size))
  rw [bl_len, size_from] at hle
  have hg : ∀ j (hj : j < S.size) (h1 : 1 ≤ j) (hb : j - 1 < (bl (S.extract 1 S.size)).length), (bl (S.extract 1 S.size))[j - 1] = S[j] := by
    intro j hj h1 hb
    have : (bl (S.extract 1 S.size))[j - 1]? = some S[j] := by
      rw [bl_from, List.getElem?_drop, show 1 + (j - 1) = j by omega, bl_get? S j hj]
    rw [List.getElem?_eq_getElem hb] at this
    exact Option.some.inj this
  constructor
  · rintro ⟨_, h2⟩
    split at h2
    · rename_i hp
      refine ⟨hp, fun j hj h1 => ?_⟩
      have hb : j - 1 < (bl (S.extract 1 S.size)).length := by rw [bl_len, size_from]; omega
      have := spanN_all tlB _ (j - 1) hb (by omega)
      rwa [hg j hj h1 hb] at this
    · omega
  · rintro ⟨hp, h2⟩
    refine ⟨h, ?_⟩
    rw [if_pos hp]
    have : spanN tlB (bl (S.extract 1 S.size)) = S.size - 1 := by
      rw [spanN_full]
      · rw [bl_len, size_from]
      · intro c hc
        obtain ⟨k, hk, rfl⟩ := List.getElem_of_mem hc
        have hk2 : k < S.size - 1 := by rw [bl_len, size_from] at hk; exact hk
        have := hg (k + 1) (by omega) (by omega) (by simpa using hk)
        simp only [Nat.add_sub_cancel] at this
        rw [this]
        exact h2 (k + 1) (by omega) (by omega)
    omega
theorem part_yes {p : UInt8 → Bool} {S : ByteArray} (h : 0 < S.size) (ht : ∀ j (hj : j < S.size), 1 ≤ j → tlB S[j] = true) : decide (0 < (bl S).length ∧ partN p (bl S) = (bl S).length) = p S[0] := by
  rw [partN_full h, decide_eq_true ht, Bool.and_true]
theorem part_no {p : UInt8 → Bool} {S : ByteArray} (j : Nat) (hj : j < S.size) (h1 : 1 ≤ j) (ht : tlB S[j] = false) : decide (0 < (bl S).length ∧ partN p (bl S) = (bl S).length) = false := by
  rw [partN_full (by omega), decide_eq_false, Bool.and_false]
  intro hh
  rw [hh j hj h1] at ht
  cases ht
theorem part_nil {p : UInt8 → Bool} {S : ByteArray} (h : S.size = 0) : decide (0 < (bl S).length ∧ partN p (bl S) = (bl S).length) = false := by
  rw [bl_len, h]
  simp

set_option maxHeartbeats 4000000 in
theorem rpart_any (S : ByteArray) (w : World) (hs : S.size ≤ 9223372036854775807) : Calls Try.prog 25 #[.string S] w fun e w' => e = .returned (.bool (partB (bl S))) ∧ w = w' := by
  go_enter Try.func25, Try.ntmps25
  go_wp2_with fail
  go_loop [3] (fun i => ∃ k : Nat, i = .int .i64 k ∧ 1 ≤ k ∧ (k ≤ S.size ∨ k = 1) ∧ Hid (∀ j (hj : j < S.size), 1 ≤ j → j < k → tlB S[j] = true)) (fun i => S.size - (intOf i).toNat)
  case atStart => exact ⟨1, rfl, by omega, .inr rfl, fun j hj h1 h0 => by omega⟩
  case round =>
    obtain ⟨k, rfl, hk1, hk, HS⟩ := hrel
    by_cases hlt : k < S.size
    · have hc := UInt8.toNat_lt S[k]
      cases q : tlB (S[k]'hlt)
      · have HQ := Lib.hid q
        have HF : Hid (partB (bl S) = false) := part_no k hlt hk1 q
        clear q hk
        go_wp2_with fail
        refine (rtail_any S[k] _).mono ?_
        rw [HQ.out]
        rintro e w2 ⟨rfl, rfl⟩
        go_wp2_with fail
        go_ret
        exact ⟨retB HF.out.symm, rfl⟩
      · have HQ := Lib.hid q
        clear q hk
        go_wp2_with fail
        refine (rtail_any S[k] _).mono ?_
        rw [HQ.out]
        rintro e w2 ⟨rfl, rfl⟩
        go_wp2_with fail
        go_round
        case rel =>
          refine ⟨k + 1, by go_num, by omega, .inl (by omega), fun j hj h1 h0 => ?_⟩
          by_cases e : j = k
          · subst e; exact HQ.out
          · exact HS.out j hj h1 (by omega)
        case measure => simp [intOf]; omega
    · clear hk
      by_cases h0 : S.size = 0
      · have HF : Hid (partB (bl S) = false) := part_nil h0
        go_wp2_with fail
        go_ret
        exact ⟨retB HF.out.symm, rfl⟩
      · have hpos : 0 < S.size := by omega
        have hc := UInt8.toNat_lt S[0]
        have HF : Hid (partB (bl S) = smB S[0]) := part_yes hpos (fun j hj h1 => HS.out j hj h1 (by omega))
        go_wp2_with fail
        refine (rsmall_any S[0] _).mono ?_
        rw [← HF.out]
        rintro e w2 ⟨rfl, rfl⟩
        go_wp2_with fail
        go_ret
        exact ⟨rfl, rfl⟩
set_option maxHeartbeats 4000000 in
theorem rtype_any (S : ByteArray) (w : World) (hs : S.size ≤ 9223372036854775807) : Calls Try.prog 24 #[.string S] w fun e w' => e = .returned (.bool (typeB (bl S))) ∧ w = w' := by
  go_enter Try.func24, Try.ntmps24
  go_wp2_with fail
  go_loop [3] (fun i => ∃ k : Nat, i = .int .i64 k ∧ 1 ≤ k ∧ (k ≤ S.size ∨ k = 1) ∧ Hid (∀ j (hj : j < S.size), 1 ≤ j → j < k → tlB S[j] = true)) (fun i => S.size - (intOf i).toNat)
  case atStart => exact ⟨1, rfl, by omega, .inr rfl, fun j hj h1 h0 => by omega⟩
  case round =>
    obtain ⟨k, rfl, hk1, hk, HS⟩ := hrel
    by_cases hlt : k < S.size
    · have hc := UInt8.toNat_lt S[k]
      cases q : tlB (S[k]'hlt)
      · have HQ := Lib.hid q
        have HF : Hid (typeB (bl S) = false) := part_no k hlt hk1 q
        clear q hk
        go_wp2_with fail
        refine (rtail_any S[k] _).mono ?_
        rw [HQ.out]
        rintro e w2 ⟨rfl, rfl⟩
        go_wp2_with fail
        go_ret
        exact ⟨retB HF.out.symm, rfl⟩
      · have HQ := Lib.hid q
        clear q hk
        go_wp2_with fail
        refine (rtail_any S[k] _).mono ?_
        rw [HQ.out]
        rintro e w2 ⟨rfl, rfl⟩
        go_wp2_with fail
        go_round
        case rel =>
          refine ⟨k + 1, by go_num, by omega, .inl (by omega), fun j hj h1 h0 => ?_⟩
          by_cases e : j = k
          · subst e; exact HQ.out
          · exact HS.out j hj h1 (by omega)
        case measure => simp [intOf]; omega
    · clear hk
      by_cases h0 : S.size = 0
      · have HF : Hid (typeB (bl S) = false) := part_nil h0
        go_wp2_with fail
        go_ret
        exact ⟨retB HF.out.symm, rfl⟩
      · have hpos : 0 < S.size := by omega
        have hc := UInt8.toNat_lt S[0]
        have HF : Hid (typeB (bl S) = grB S[0]) := part_yes hpos (fun j hj h1 => HS.out j hj h1 (by omega))
        go_wp2_with fail
        all_goals
          go_ret
          refine ⟨retB ?_, rfl⟩
          rw [HF.out]
          unfold grB
          rw [Bool.eq_iff_iff]
          first
            | (simp; done)
            | (simp; omega)
end Go.Proofs.Ytlbenaodpfhjeaa

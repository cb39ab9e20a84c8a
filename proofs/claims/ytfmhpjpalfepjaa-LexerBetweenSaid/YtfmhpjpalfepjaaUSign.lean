/-
  Layer 11: the program's signs, and the piece that it cuts.
  Conditions: those that each theorem states.
-/
import Derived.Test.YtfmhpjpalfepjaaUCut
namespace Go.Proofs.Ytfmhpjpalfepjaa
open Go.RowKit Go.Maps

def sgs : List (List UInt8) := [[61, 62], [61, 61], [33, 61], [45, 62], [126, 62], [123], [125], [40], [41], [91], [93], [44], [58], [61], [33]]
theorem sgs_len (k : Nat) (h : k < sgs.length) : (k < 5 → sgs[k] ∈ sgn2 ∧ sgs[k].length = 2) ∧ (5 ≤ k → sgs[k] ∈ sgn1 ∧ sgs[k].length = 1) := by
  have hh : ∀ k : Fin 15, (k.1 < 5 → sgs[k.1]'k.2 ∈ sgn2 ∧ (sgs[k.1]'k.2).length = 2) ∧ (5 ≤ k.1 → sgs[k.1]'k.2 ∈ sgn1 ∧ (sgs[k.1]'k.2).length = 1) := by decide
  exact hh ⟨k, h⟩
theorem sgs_two {t : List UInt8} (h : t ∈ sgn2) : ∃ k, ∃ hk : k < sgs.length, k < 5 ∧ sgs[k] = t := by
  simp [sgn2] at h
  rcases h with rfl | rfl | rfl | rfl | rfl
  · exact ⟨0, by decide, by decide, rfl⟩
  · exact ⟨1, by decide, by decide, rfl⟩
  · exact ⟨2, by decide, by decide, rfl⟩
  · exact ⟨3, by decide, by decide, rfl⟩
  · exact ⟨4, by decide, by decide, rfl⟩
theorem sgs_one {t : List UInt8} (h : t ∈ sgn1) : ∃ k, ∃ hk : k < sgs.length, 5 ≤ k ∧ sgs[k] = t := by
  simp [sgn1] at h
  rcases h with rfl | rfl | rfl | rfl | rfl | rfl | rfl | rfl | rfl | rfl
  · exact ⟨5, by decide, by decide, rfl⟩
  · exact ⟨6, by decide, by decide, rfl⟩
  · exact ⟨7, by decide, by decide, rfl⟩
  · exact ⟨8, by decide, by decide, rfl⟩
  · exact ⟨9, by decide, by decide, rfl⟩
  · exact ⟨10, by decide, by decide, rfl⟩
  · exact ⟨11, by decide, by decide, rfl⟩
  · exact ⟨12, by decide, by decide, rfl⟩
  · exact ⟨13, by decide, by decide, rfl⟩
  · exact ⟨14, by decide, by decide, rfl⟩
/-- None of the first k signs begins the text. -/
def NoSgn (l : List UInt8) (k : Nat) : Prop := ∀ j (h : j < sgs.length), j < k → l.take sgs[j].length ≠ sgs[j]
theorem sign_hit {l : List UInt8} {k : Nat} (hk : k < sgs.length) (hn : NoSgn l k) (h : l.take sgs[k].length = sgs[k]) : signN l = sgs[k].length := by
  have hs := sgs_len k hk
  unfold signN
  by_cases h5 : k < 5
  · have := hs.1 h5
    rw [this.2] at h
    rw [h, if_pos this.1, this.2]
  · have := hs.2 (by omega)
    have h2 : l.take 2 ∉ sgn2 := by
      intro hm
      obtain ⟨j, hj, hj5, e⟩ := sgs_two hm
      refine hn j hj (by omega) ?_
      rw [((sgs_len j hj).1 hj5).2, e]
    rw [this.2] at h
    rw [if_neg h2, h, if_pos this.1, this.2]
theorem sign_none {l : List UInt8} (hn : NoSgn l 15) : signN l = 0 := by
  have h2 : l.take 2 ∉ sgn2 := by
    intro hm
    obtain ⟨j, hj, hj5, e⟩ := sgs_two hm
    refine hn j hj (by omega) ?_
    rw [((sgs_len j hj).1 hj5).2, e]
  have h1 : l.take 1 ∉ sgn1 := by
    intro hm
    obtain ⟨j, hj, hj5, e⟩ := sgs_one hm
    refine hn j hj hj ?_
    rw [((sgs_len j hj).2 hj5).2, e]
  unfold signN
  rw [if_neg h2, if_neg h1]

theorem sgs_index (k : Nat) (h : k < sgs.length) (wx : World) : (Instr.index 44 (.agg #[.string { data := #[61, 62] }, .string { data := #[61, 61] }, .string { data := #[33, 61] }, .string { data := #[45, 62] }, .string { data := #[126, 62] }, .string { data := #[123] }, .string { data := #[125] }, .string { data := #[40] }, .string { data := #[41] }, .string { data := #[91] }, .string { data := #[93] }, .string { data := #[44] }, .string { data := #[58] }, .string { data := #[61] }, .string { data := #[33] }]) (.int .i64 (k : Int))).run Try.prog wx = .ok (.string (strL sgs[k])) wx := by
  have : k < 15 := h
  match k, this with
  | 0, _ => rfl
  | 1, _ => rfl
  | 2, _ => rfl
  | 3, _ => rfl
  | 4, _ => rfl
  | 5, _ => rfl
  | 6, _ => rfl
  | 7, _ => rfl
  | 8, _ => rfl
  | 9, _ => rfl
  | 10, _ => rfl
  | 11, _ => rfl
  | 12, _ => rfl
  | 13, _ => rfl
  | 14, _ => rfl
set_option maxHeartbeats 4000000 in
theorem sign_any (S : ByteArray) (w : World) :
    Calls Try.prog 32 #[.string S] w fun e w' => e = .returned (.int .i64 (signN (bl S))) ∧ w = w' := by
  go_enter Try.func32, Try.ntmps32
  go_wp2_with fail
  go_loop [6] (fun i => ∃ k : Nat, k ≤ 15 ∧ i = .int .i64 k ∧ Hid (NoSgn (bl S) k)) (fun i => 15 - (intOf i).toNat)
  case atStart => exact ⟨0, by omega, rfl, fun j hj h0 => by omega⟩
  case round =>
    obtain ⟨k, hk, rfl, HS⟩ := hrel
    by_cases hlt : k < 15
    · have hkl : k < sgs.length := hlt
      obtain ⟨T, hT⟩ : ∃ T, sgs[k] = T := ⟨_, rfl⟩
      have hix : ∀ wx, (Instr.index 44 (.agg #[.string { data := #[61, 62] }, .string { data := #[61, 61] }, .string { data := #[33, 61] }, .string { data := #[45, 62] }, .string { data := #[126, 62] }, .string { data := #[123] }, .string { data := #[125] }, .string { data := #[40] }, .string { data := #[41] }, .string { data := #[91] }, .string { data := #[93] }, .string { data := #[44] }, .string { data := #[58] }, .string { data := #[61] }, .string { data := #[33] }]) (.int .i64 (k : Int))).run Try.prog wx = .ok (.string (strL T)) wx := by
        intro wx
        subst hT
        exact sgs_index k hkl wx
      have HT := Lib.hid hT
      clear hT
      cases q : decide ((bl S).take (bl (strL T)).length = bl (strL T))
      · have HQ := Lib.hid q
        clear q
        go_wp2_with fail
        refine (prefix_any _ _ _).mono ?_
        rw [HQ.out]
        rintro e w3 ⟨rfl, rfl⟩
        go_wp2_with fail
        go_round
        case rel =>
          refine ⟨k + 1, by omega, by go_num, fun j hj h0 => ?_⟩
          by_cases e : j = k
          · subst e
            have := HQ.out
            rw [bl_str] at this
            rw [HT.out]
            exact of_decide_eq_false this
          · exact HS.out j hj (by omega)
        case measure => simp [intOf]; omega
      · have HQ := Lib.hid q
        have HR : Hid (signN (bl S) = T.length) := by
          show _ = _
          have e1 := of_decide_eq_true q
          rw [bl_str] at e1
          rw [← HT.out] at e1 ⊢
          exact sign_hit hkl HS.out e1
        have HL : Hid ((strL T).size = T.length) := strL_size T
        clear q
        go_wp2_with fail
        refine (prefix_any _ _ _).mono ?_
        rw [HQ.out]
        rintro e w3 ⟨rfl, rfl⟩
        go_wp2_with fail
        go_ret
        exact ⟨ret1 (by rw [HR.out, HL.out]), rfl⟩
    · have HR : Hid (signN (bl S) = 0) := sign_none (fun j hj h0 => HS.out j hj (by omega))
      go_wp2_with fail
      go_ret
      exact ⟨ret1 (by rw [HR.out]; rfl), rfl⟩
end Go.Proofs.Ytfmhpjpalfepjaa

/-
  Layer 11: how far a word that begins a text can go, the document's way.
  Conditions: those that each theorem states.
-/
import Derived.Test.YtfpdgdacifiejaaGreatVPar
import Derived.Deep.DeepCutAuto
namespace Go.Proofs.YtfpdgdacifiejaaGreat
open Go.RowKit Go.Maps

theorem partN_at (S : ByteArray) (k : Nat) : partN smB ((bl S).drop k) = if h : k < S.size then (if smB (S[k]'h) then 1 + spanN tlB ((bl S).drop (k + 1)) else 0) else 0 := by
  by_cases h : k < S.size
  · rw [dif_pos h]
    have := List.drop_eq_getElem_cons (l := bl S) (i := k) (by rw [bl_len]; exact h)
    rw [this]
    rfl
  · rw [dif_neg h, List.drop_of_length_le (by rw [bl_len]; omega)]
    rfl
theorem spanN_from {p : UInt8 → Bool} {S : ByteArray} {n k : Nat} (hnk : n ≤ k) (hk : k ≤ S.size) (h1 : ∀ j (hj : j < S.size), n ≤ j → j < k → p S[j] = true) (h2 : ∀ h : k < S.size, p S[k] = false) : spanN p ((bl S).drop n) = k - n := by
  refine spanN_is (by rw [List.length_drop, bl_len]; omega) (fun j hj hn => ?_) (fun hh => ?_)
  · rw [List.getElem_drop]
    rw [List.length_drop, bl_len] at hj
    exact h1 (n + j) (by omega) (by omega) (by omega)
  · rw [List.getElem_drop]
    rw [List.length_drop, bl_len] at hh
    have := h2 (by omega)
    simp only [show n + (k - n) = k by omega]
    exact this
theorem spanN_in {p : UInt8 → Bool} {S : ByteArray} {n k : Nat} (hnk : n ≤ k) (hk : k < n + spanN p ((bl S).drop n)) : ∃ h : k < S.size, p (S[k]'h) = true := by
  have hle := spanN_le p ((bl S).drop n)
  rw [List.length_drop, bl_len] at hle
  have h : k < S.size := by omega
  refine ⟨h, ?_⟩
  have := spanN_all p ((bl S).drop n) (k - n) (by rw [List.length_drop, bl_len]; omega) (by omega)
  rw [List.getElem_drop] at this
  simp only [show n + (k - n) = k by omega] at this
  exact this
theorem spanN_out {p : UInt8 → Bool} {S : ByteArray} {n k : Nat} (hn : n ≤ S.size) (hk : k = n + spanN p ((bl S).drop n)) (h : k < S.size) : p (S[k]'h) = false := by
  subst hk
  have := spanN_stop p ((bl S).drop n) (by rw [List.length_drop, bl_len]; omega)
  rw [List.getElem_drop] at this
  exact this
theorem spanN_top {p : UInt8 → Bool} (S : ByteArray) {n : Nat} (hn : n ≤ S.size) : n + spanN p ((bl S).drop n) ≤ S.size := by
  have hle := spanN_le p ((bl S).drop n)
  rw [List.length_drop, bl_len] at hle
  omega
/-- What a name goes on with: no more, or '::' and a part. -/
theorem more_at (S : ByteArray) (n : Nat) : moreN ((bl S).drop n) = if h : n + 2 < S.size then (if (S[n]'(by omega)) = 58 ∧ (S[n + 1]'(by omega)) = 58 ∧ smB (S[n + 2]'h) = true then 3 + spanN tlB ((bl S).drop (n + 3)) + moreN ((bl S).drop (n + 3 + spanN tlB ((bl S).drop (n + 3)))) else 0) else 0 := by
  rw [moreN, List.drop_drop, List.drop_drop]
  have hp := partN_at S (n + 2)
  by_cases h : n + 2 < S.size
  · rw [dif_pos h]
    rw [dif_pos h] at hp
    have ht : ((bl S).drop n).take 2 = [58, 58] ↔ S[n] = 58 ∧ S[n + 1] = 58 := by
      rw [take2_get, List.getElem?_drop, List.getElem?_drop, Nat.add_zero, bl_get? S n (by omega), bl_get? S (n + 1) (by omega), Option.some.injEq, Option.some.injEq]
    by_cases hc : S[n] = 58 ∧ S[n + 1] = 58 ∧ smB (S[n + 2]'h) = true
    · rw [if_pos hc]
      rw [if_pos hc.2.2] at hp
      rw [show n + 2 + 1 = n + 3 from rfl] at hp
      rw [hp, if_pos ⟨ht.2 ⟨hc.1, hc.2.1⟩, by omega⟩]
      rw [show n + (2 + (1 + spanN tlB ((bl S).drop (n + 3)))) = n + 3 + spanN tlB ((bl S).drop (n + 3)) by omega]
      omega
    · rw [if_neg hc, if_neg]
      rintro ⟨h1, h2⟩
      obtain ⟨a, b⟩ := ht.1 h1
      rw [hp] at h2
      split at h2
      · rename_i h3; exact hc ⟨a, b, h3⟩
      · omega
  · rw [dif_neg h]
    rw [dif_neg h] at hp
    rw [hp, if_neg (by omega)]
def b58 (S : ByteArray) (n : Nat) : Bool := decide (0 < moreN ((bl S).drop n))

set_option maxRecDepth 100000 in
set_option maxHeartbeats 8000000 in
theorem reach_quo (S : ByteArray) (w : World) (hs : S.size ≤ 4611686018427387904) (hp : 0 < S.size) (hq : S[0] = 39 ∨ S[0] = 34) : Calls Tryz.prog 51 #[.string S] w fun e w' => e = .returned (.int .i64 (quoN (bl S))) ∧ w = w' := by
  have hle := spanN_le (notB S[0]) ((bl S).drop 1)
  rw [List.length_drop, bl_len] at hle
  obtain ⟨n, hn⟩ : ∃ n, 1 + spanN (notB S[0]) ((bl S).drop 1) = n := ⟨_, rfl⟩
  have HN := Lib.hid hn
  have HU : Hid (quoN (bl S) = if n = S.size then 0 else n + 1) := by
    show _ = _
    unfold quoN
    rw [hd_S hp, ← List.drop_one, List.length_drop, bl_len]
    by_cases e : n = S.size
    · rw [if_pos e, if_pos (by omega)]
    · rw [if_neg e, if_neg (by omega)]
      omega
  have hnt : n ≤ S.size := by omega
  clear hn hle
  obtain ⟨c, hc⟩ : ∃ c : Int, (S[0].toNat : Int) = c := ⟨_, rfl⟩
  have hi0 : ∀ wx, (Instr.index 9 (.string S) (.int .i64 0)).run Tryz.prog wx = .ok (.int .u8 c) wx := fun wx => by rw [← hc]; exact get_i 0 hp wx
  have HC := Lib.hid hc
  have hcc : c = 39 ∨ c = 34 := by
    rcases hq with h | h
    · left; rw [← hc, h]; rfl
    · right; rw [← hc, h]; rfl
  clear hc hq
  rcases hcc with hcc | hcc
  all_goals
    subst hcc
    go_enter Tryz.func51, Tryz.ntmps51
    go_wp2_with fail
    go_loop [4] (fun i => ∃ k : Nat, i = .int .i64 k ∧ 1 ≤ k ∧ k ≤ n) (fun i => S.size - (intOf i).toNat)
    case atStart => exact ⟨1, rfl, by omega, by have := HN.out; omega⟩
    case round =>
      obtain ⟨k, rfl, hk1, hkn⟩ := hrel
      by_cases hlt : k < S.size
      · have hix := get_i k hlt
        obtain ⟨x, hx⟩ : ∃ x : Int, (S[k].toNat : Int) = x := ⟨_, rfl⟩
        rw [hx] at hix
        by_cases hkN : k = n
        · have hxc : x = (S[0].toNat : Int) := by
            have := spanN_out (p := notB S[0]) (n := 1) (by omega) (hkN.trans HN.out.symm) hlt
            unfold notB at this
            simp at this
            rw [← hx, this]
          rw [HC.out] at hxc
          subst hxc
          have HV : Hid (quoN (bl S) = k + 1) := by show _ = _; rw [HU.out, if_neg (by omega), hkN]
          clear hx hkN
          go_wp2_with fail
          go_ret
          exact ⟨ret1 (by rw [HV.out]; go_num), rfl⟩
        · have hxn : ¬ x = (S[0].toNat : Int) := by
            obtain ⟨_, this⟩ := spanN_in (p := notB S[0]) (S := S) (n := 1) hk1 (by rw [HN.out]; omega)
            unfold notB at this
            simp at this
            intro e
            apply this
            apply UInt8.toNat_inj.1
            omega
          rw [HC.out] at hxn
          clear hx
          go_wp2_with fail
          go_round
          case rel => exact ⟨k + 1, by go_num, by omega, by omega⟩
          case measure => simp [intOf]; omega
      · have HV : Hid (quoN (bl S) = 0) := by show _ = _; rw [HU.out, if_pos (by omega)]
        go_wp2_with fail
        go_ret
        exact ⟨ret1 (by rw [HV.out]; rfl), rfl⟩

/-- What a test of a first byte finds. -/
structure Fst (c : UInt8) (d36 d39 d34 : Bool) : Prop where
  e36 : ((c.toNat : Int) == 36) = d36
  e39 : ((c.toNat : Int) == 39) = d39
  e34 : ((c.toNat : Int) == 34) = d34
theorem beqI (a b : Int) : (a == b) = decide (a = b) := by rw [Bool.eq_iff_iff]; simp
theorem fst_of (c : UInt8) : Fst c (decide (clsN c.toNat = 7)) (decide (clsN c.toNat = 8)) (decide (clsN c.toNat = 9)) := by
  refine ⟨?_, ?_, ?_⟩
  · rw [beqI]; exact decide_eq_decide.2 (byte_eq.symm.trans (cls_eq c 7 36 (by simp)))
  · rw [beqI]; exact decide_eq_decide.2 (byte_eq.symm.trans (cls_eq c 8 39 (by simp)))
  · rw [beqI]; exact decide_eq_decide.2 (byte_eq.symm.trans (cls_eq c 9 34 (by simp)))

set_option maxRecDepth 100000 in
set_option maxHeartbeats 8000000 in
theorem reach_zero (S : ByteArray) (w : World) (hs : S.size ≤ 4611686018427387904) (hp : 0 < S.size) (hc : clsN (S[0]'hp).toNat = 7) (hz : partN smB (bl S).tail = 0) : Calls Tryz.prog 51 #[.string S] w fun e w' => e = .returned (.int .i64 0) ∧ w = w' := by
  obtain ⟨e36, e39, e34⟩ := fst_of S[0]
  rw [hc] at e36 e39 e34
  simp only [decide_true, show decide ((7 : Nat) = 8) = false from rfl, show decide ((7 : Nat) = 9) = false from rfl] at e36 e39 e34
  have i0 := get_i 0 hp
  by_cases h2 : S.size < 2
  · go_enter Tryz.func51, Tryz.ntmps51
    go_wp2_with fail
    go_ret
    exact ⟨rfl, rfl⟩
  · have h1 : 1 < S.size := by omega
    have HQ : Hid (smB S[1] = false) := by
      show _ = _
      rw [← List.drop_one, partN_at S 1, dif_pos h1] at hz
      split at hz
      · omega
      · rename_i h; simpa using h
    clear hz hc
    have i1 := get_i 1 h1
    go_enter Tryz.func51, Tryz.ntmps51
    go_wp2_with fail
    refine (rsmall_any S[1] _).mono ?_
    rw [HQ.out]
    rintro e w2 ⟨rfl, rfl⟩
    go_wp2_with fail
    go_ret
    exact ⟨rfl, rfl⟩

set_option maxRecDepth 100000 in
set_option maxHeartbeats 8000000 in
theorem reach_digit (S : ByteArray) (w : World) (hs : S.size ≤ 4611686018427387904) (hp : 0 < S.size) (hc : clsN (S[0]'hp).toNat = 5) : Calls Tryz.prog 51 #[.string S] w fun e w' => e = .returned (.int .i64 (spanN dgB (bl S))) ∧ w = w' := by
  obtain ⟨e36, e39, e34⟩ := fst_of S[0]
  rw [hc] at e36 e39 e34
  simp only [show decide ((5 : Nat) = 7) = false from rfl, show decide ((5 : Nat) = 8) = false from rfl, show decide ((5 : Nat) = 9) = false from rfl] at e36 e39 e34
  have HD : Hid (dgB S[0] = true) := by show _ = _; rw [cls_dg, hc]; rfl
  obtain ⟨N, hN⟩ : ∃ N, 0 + spanN dgB ((bl S).drop 0) = N := ⟨_, rfl⟩
  have HN := Lib.hid hN
  have hNt : N ≤ S.size := by rw [← hN]; exact spanN_top S (by omega)
  have hN1 : 1 ≤ N := by
    rw [← hN, List.drop_zero, bl_cons hp]
    simp [spanN, HD.out]
  have HV : Hid (spanN dgB (bl S) = N) := by show _ = _; rw [← hN]; simp
  have i0 := get_i 0 hp
  clear hN hc
  go_enter Tryz.func51, Tryz.ntmps51
  go_wp2_with fail
  refine (rdigit_any S[0] _).mono ?_
  rw [HD.out]
  rintro e w2 ⟨rfl, rfl⟩
  go_wp2_with fail
  go_loop [5] (fun i => ∃ k : Nat, i = .int .i64 k ∧ 1 ≤ k ∧ k ≤ N) (fun i => S.size - (intOf i).toNat)
  case atStart => exact ⟨1, rfl, by omega, hN1⟩
  case round =>
    obtain ⟨k, rfl, hk1, hkn⟩ := hrel
    by_cases hlt : k < S.size
    · have hix := get_i k hlt
      by_cases hkN : k = N
      · subst hkN
        have HQ : Hid (dgB (S[k]'hlt) = false) := spanN_out (n := 0) (by omega) HN.out.symm hlt
        go_wp2_with fail
        refine (rdigit_any S[k] _).mono ?_
        rw [HQ.out]
        rintro e w2 ⟨rfl, rfl⟩
        go_wp2_with fail
        go_ret
        exact ⟨ret1 (by rw [HV.out]), rfl⟩
      · have HQ : Hid (dgB (S[k]'hlt) = true) := (spanN_in (S := S) (n := 0) (by omega) (by rw [HN.out]; omega)).2
        go_wp2_with fail
        refine (rdigit_any S[k] _).mono ?_
        rw [HQ.out]
        rintro e w2 ⟨rfl, rfl⟩
        go_wp2_with fail
        go_round
        case rel => exact ⟨k + 1, by go_num, by omega, by omega⟩
        case measure => simp [intOf]; omega
    · go_wp2_with fail
      go_ret
      exact ⟨ret1 (by rw [HV.out]; omega), rfl⟩

set_option maxRecDepth 100000 in
set_option maxHeartbeats 8000000 in
theorem reach_low (S : ByteArray) (w : World) (hs : S.size ≤ 4611686018427387904) (hp : 0 < S.size) (hc : clsN (S[0]'hp).toNat ≠ 7 ∧ clsN (S[0]'hp).toNat ≠ 8 ∧ clsN (S[0]'hp).toNat ≠ 9 ∧ clsN (S[0]'hp).toNat ≠ 5 ∧ clsN (S[0]'hp).toNat ≠ 3 ∧ clsN (S[0]'hp).toNat ≠ 4) :
    Calls Tryz.prog 51 #[.string S] w fun e w' => e = .returned (.int .i64 (min 2 S.size : Nat)) ∧ w = w' := by
  obtain ⟨e36, e39, e34⟩ := fst_of S[0]
  obtain ⟨h7, h8, h9, h5, h3, h4⟩ := hc
  rw [decide_eq_false h7] at e36
  rw [decide_eq_false h8] at e39
  rw [decide_eq_false h9] at e34
  have HD : Hid (dgB S[0] = false) := by show _ = _; rw [cls_dg]; exact decide_eq_false h5
  have HM : Hid (smB S[0] = false) := by show _ = _; rw [cls_sm]; exact decide_eq_false h3
  have hg : ¬ (65 ≤ S[0].toNat ∧ S[0].toNat ≤ 90) := by
    have := cls_gr S[0]
    rw [decide_eq_false h4] at this
    simpa [grB] using this
  obtain ⟨m, hm⟩ : ∃ m, min 2 S.size = m := ⟨_, rfl⟩
  have hmi : min (2 : Int) (S.size : Int) = (m : Int) := by omega
  rw [hm]
  have i0 := get_i 0 hp
  clear h7 h8 h9 h5 h3 h4 hm
  by_cases hg1 : (S[0].toNat : Int) < 65
  all_goals
    go_enter Tryz.func51, Tryz.ntmps51
    go_wp2_with fail
    refine (rdigit_any S[0] _).mono ?_
    rw [HD.out]
    rintro e w2 ⟨rfl, rfl⟩
    go_wp2_with fail
    refine (rsmall_any S[0] _).mono ?_
    rw [HM.out]
    rintro e w2 ⟨rfl, rfl⟩
    go_wp2_with fail
    all_goals
      go_ret
      exact ⟨ret1 (by omega), rfl⟩
end Go.Proofs.YtfpdgdacifiejaaGreat

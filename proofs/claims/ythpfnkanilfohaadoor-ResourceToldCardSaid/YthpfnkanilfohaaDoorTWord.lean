/-
  Layer 5: words, and how many cells a table's rows have: the program's wordByte, word, Width, and the document's Word, Width.
  Conditions: those that each theorem states.
-/
import Derived.Test.YthpfnkanilfohaaDoorTKit
import Derived.Maps.OwnSet
import Derived.StringKeys
namespace Go.Proofs.YthpfnkanilfohaaDoor
open Go.RowKit Go.Maps

/-- A byte of a word. -/
def wbI (c : Int) : Bool := decide ((65 ≤ c ∧ c ≤ 90) ∨ (97 ≤ c ∧ c ≤ 122) ∨ (48 ≤ c ∧ c ≤ 57) ∨ c = 46 ∨ c = 95 ∨ c = 45 ∨ c = 47)
def wordB (l : List UInt8) (most : Int) : Bool := decide ((l.length : Int) ≤ most) && l.all (fun c => wbI (c.toNat : Int))

theorem wordB_long {l : List UInt8} {m : Int} (h : m < l.length) : wordB l m = false := by
  unfold wordB
  rw [decide_eq_false (by omega), Bool.false_and]
theorem wordB_byte {l : List UInt8} {m : Int} (i : Nat) (hi : i < l.length) (h : wbI (l[i].toNat : Int) = false) : wordB l m = false := by
  have : l.all (fun c => wbI (c.toNat : Int)) = false := by
    rw [Bool.eq_false_iff]
    intro hh
    rw [List.all_eq_true] at hh
    rw [hh _ (List.getElem_mem hi)] at h
    cases h
  unfold wordB
  rw [this, Bool.and_false]
theorem wordB_all {l : List UInt8} {m : Int} (h : ∀ i (hi : i < l.length), wbI (l[i].toNat : Int) = true) : wordB l m = decide ((l.length : Int) ≤ m) := by
  have : l.all (fun c => wbI (c.toNat : Int)) = true := by
    rw [List.all_eq_true]
    intro x hx
    obtain ⟨i, hi, rfl⟩ := List.getElem_of_mem hx
    exact h i hi
  unfold wordB
  rw [this, Bool.and_true]

set_option maxHeartbeats 1000000 in
theorem wordByte_any (c : Int) (w : World) (h0 : 0 ≤ c) (h1 : c < 256) :
    Calls Tryd.prog 68 #[.int .u8 c] w fun e w' => e = .returned (.bool (wbI c)) ∧ w = w' := by
  go_enter Tryd.func68, Tryd.ntmps68
  go_wp2
  all_goals
    go_ret
    refine ⟨retB ?_, rfl⟩
    unfold wbI
    rw [Bool.eq_iff_iff]
    first
      | (simp; done)
      | (simp; omega)

set_option maxHeartbeats 2000000 in
theorem wordS_any (S : ByteArray) (m : Int) (w : World) (hs : S.size ≤ 9223372036854775807) :
    Calls Tryd.prog 63 #[.string S, .int .i64 m] w fun e w' => e = .returned (.bool (wordB S.data.toList m)) ∧ w = w' := by
  have hsl := size_toList S
  have HSL := Lib.hid hsl
  rcases (by omega : m < (S.size : Int) ∨ ¬ m < (S.size : Int)) with h1 | h1
  · have HB := Lib.hid (wordB_long (l := S.data.toList) (m := m) (by omega))
    clear hsl
    go_enter Tryd.func63, Tryd.ntmps63
    go_wp2_with fail
    go_ret
    exact ⟨retB HB.out.symm, rfl⟩
  · have hz : S.size ≤ 9223372036854775807 := hs
    clear hsl
    go_enter Tryd.func63, Tryd.ntmps63
    go_wp2_with fail
    go_loop [12] (fun i => ∃ k : Nat, k ≤ S.size ∧ i = .int .i64 k ∧ Hid (∀ j (hj : j < S.data.toList.length), j < k → wbI ((S.data.toList[j]).toNat : Int) = true)) (fun i => S.size - (intOf i).toNat)
    case atStart => exact ⟨0, by omega, rfl, fun j hj h0 => by omega⟩
    case round =>
      obtain ⟨k, hk, rfl, HK⟩ := hrel
      by_cases hlt : k < S.size
      · have hkl : k < S.data.toList.length := by rw [HSL.out]; exact hlt
        have hc := UInt8.toNat_lt S[k]
        have HE : Hid (S[k] = S.data.toList[k]) := by show _ = _; exact (get_toList S k hlt).symm
        cases hn : wbI (S[k].toNat : Int)
        all_goals
          have HN := Lib.hid hn
          clear hn
          go_wp2_with fail
          refine (wordByte_any _ _ (by omega) (by omega)).mono ?_
          rw [HN.out]
          rintro e w' ⟨rfl, rfl⟩
          go_wp2_with fail
        · go_ret
          exact ⟨retB (wordB_byte k hkl (by rw [← HE.out]; exact HN.out)).symm, rfl⟩
        · go_round
          case rel =>
            refine ⟨k + 1, by omega, by go_num, fun j hj h0 => ?_⟩
            by_cases e : j = k
            · subst e; rw [← HE.out]; exact HN.out
            · exact HK.out j hj (by omega)
          case measure => simp [intOf]; omega
      · have HB : Hid (wordB S.data.toList m = true) := by
          show _ = _
          rw [wordB_all fun i hi => HK.out i hi (by rw [HSL.out] at hi; omega)]
          exact decide_eq_true (by rw [HSL.out]; omega)
        go_wp2_with fail
        go_ret
        exact ⟨retB HB.out.symm, rfl⟩

set_option maxRecDepth 100000 in
set_option maxHeartbeats 4000000 in
theorem rwordS_any (S : ByteArray) (m : Int) (w : World) (hs : S.size ≤ 9223372036854775807) :
    Calls Tryd.prog 37 #[.string S, .int .i64 m] w fun e w' => e = .returned (.bool (wordB S.data.toList m)) ∧ w = w' := by
  have HSL := Lib.hid (size_toList S)
  have hz : S.size ≤ 9223372036854775807 := hs
  go_enter Tryd.func37, Tryd.ntmps37
  go_wp2_with fail
  go_loop [5] (fun i => ∃ k : Nat, k ≤ S.size ∧ i = .int .i64 k ∧ Hid (∀ j (hj : j < S.data.toList.length), j < k → wbI ((S.data.toList[j]).toNat : Int) = true)) (fun i => S.size - (intOf i).toNat)
  case atStart => exact ⟨0, by omega, rfl, fun j hj h0 => by omega⟩
  case round =>
    obtain ⟨k, hk, rfl, HK⟩ := hrel
    by_cases hlt : k < S.size
    · have hkl : k < S.data.toList.length := by rw [HSL.out]; exact hlt
      have hc := UInt8.toNat_lt S[k]
      have HE0 : Hid (S[k] = S.data.toList[k]) := by show _ = _; exact (get_toList S k hlt).symm
      obtain ⟨c, hcc⟩ : ∃ c : Int, (S[k].toNat : Int) = c := ⟨_, rfl⟩
      have h0 : 0 ≤ c ∧ c < 256 := by omega
      have HC := Lib.hid hcc
      have hix : (Instr.index 9 (.string S) (.int .i64 (k : Int))).run Tryd.prog w = .ok (.int .u8 c) w := by
        rw [← hcc]
        simp [Instr.index, run_underlying Tryd.underlying9, asIntOf, go_sem, hlt]
      clear hcc hc
      have HE : Hid (wbI ((S.data.toList[k]).toNat : Int) = wbI c) := by show _ = _; rw [← HE0.out, HC.out]
      clear HC HE0
      rcases (by omega : (65 ≤ c ∧ c ≤ 90) ∨ (97 ≤ c ∧ c ≤ 122) ∨ (48 ≤ c ∧ c ≤ 57) ∨ c = 46 ∨ c = 95 ∨ c = 45 ∨ c = 47 ∨ (¬ (65 ≤ c ∧ c ≤ 90) ∧ ¬ (97 ≤ c ∧ c ≤ 122) ∧ ¬ (48 ≤ c ∧ c ≤ 57) ∧ c ≠ 46 ∧ c ≠ 95 ∧ c ≠ 45 ∧ c ≠ 47)) with ⟨h, h'⟩ | ⟨h, h'⟩ | ⟨h, h'⟩ | h | h | h | h | h
      case inr.inr.inr.inr.inr.inr.inr =>
        have q1 : (c == 46) = false := by simp; omega
        have q2 : (c == 95) = false := by simp; omega
        have q3 : (c == 45) = false := by simp; omega
        have q4 : (c == 47) = false := by simp; omega
        have HF : Hid (wbI c = false) := by show _ = _; unfold wbI; rw [decide_eq_false_iff_not]; omega
        go_wp2_with fail
        all_goals
          first
            | (exfalso; omega)
            | (exfalso; rename_i hz; simp at hz; omega)
            | (go_ret
               exact ⟨retB (wordB_byte k hkl (by rw [HE.out]; exact HF.out)).symm, rfl⟩)
      all_goals
        have HF : Hid (wbI c = true) := by show _ = _; unfold wbI; rw [decide_eq_true_iff]; omega
        try subst h
        have HP : Hid (∀ j (hj : j < S.data.toList.length), j < k + 1 → wbI ((S.data.toList[j]).toNat : Int) = true) := fun j hj h0 => by
          by_cases e : j = k
          · subst e
            rw [HE.out]
            exact HF.out
          · exact HK.out j hj (by omega)
        clear HE HF HK
        go_wp2_with fail
        all_goals
          first
            | (exfalso; omega)
            | (go_round
               case rel => exact ⟨k + 1, by omega, by go_num, HP⟩
               case measure => simp [intOf]; omega)
    · have HA : Hid (wordB S.data.toList m = decide ((S.data.toList.length : Int) ≤ m)) := wordB_all fun i hi => HK.out i hi (by rw [HSL.out] at hi; omega)
      clear HK
      go_wp2_with fail
      go_ret
      exact ⟨retB (by rw [HA.out, HSL.out]), rfl⟩
theorem word_any (s : List UInt8) (m : Int) (w : World) (hs : s.length ≤ 9223372036854775807) :
    Calls Tryd.prog 63 #[.string (strL s), .int .i64 m] w fun e w' => e = .returned (.bool (wordB s m)) ∧ w = w' := wordS_any (strL s) m w (by rw [strL_size]; exact hs)
theorem rword_any (s : List UInt8) (m : Int) (w : World) (hs : s.length ≤ 9223372036854775807) :
    Calls Tryd.prog 37 #[.string (strL s), .int .i64 m] w fun e w' => e = .returned (.bool (wordB s m)) ∧ w = w' := rwordS_any (strL s) m w (by rw [strL_size]; exact hs)
end Go.Proofs.YthpfnkanilfohaaDoor

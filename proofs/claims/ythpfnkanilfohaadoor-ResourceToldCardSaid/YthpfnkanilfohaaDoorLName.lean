/-
  Layer 3: names: the program's nameByte and Name, and the document's.
  Conditions: those that each theorem states.
-/
import Derived.Test.YthpfnkanilfohaaDoorTKit
import Derived.Lib.Strings
import Derived.Laws.Strings3
namespace Go.Proofs.YthpfnkanilfohaaDoor
open Go.RowKit Go.Maps

/-- A byte of a name. -/
def nbI (c : Int) : Bool := decide ((65 ≤ c ∧ c ≤ 90) ∨ (97 ≤ c ∧ c ≤ 122) ∨ (48 ≤ c ∧ c ≤ 57) ∨ c = 46 ∨ c = 95 ∨ c = 45)
def nameB (l : List UInt8) : Bool := decide (1 ≤ l.length ∧ l.length ≤ 28) && (l.all (fun c => nbI (c.toNat : Int)) && (decide (l ≠ [46]) && decide (l ≠ [46, 46])))

set_option maxHeartbeats 1000000 in
theorem nameByte_any (c : Int) (w : World) (h0 : 0 ≤ c) (h1 : c < 256) :
    Calls Tryd.prog 56 #[.int .u8 c] w fun e w' => e = .returned (.bool (nbI c)) ∧ w = w' := by
  go_enter Tryd.func56, Tryd.ntmps56
  go_wp2
  all_goals
    go_ret
    refine ⟨retB ?_, rfl⟩
    unfold nbI
    rw [Bool.eq_iff_iff]
    first
      | (simp; done)
      | (simp; omega)

theorem nameB_len {l : List UInt8} (h : l.length < 1 ∨ 28 < l.length) : nameB l = false := by
  unfold nameB
  rw [decide_eq_false (by omega), Bool.false_and]
theorem nameB_dot {l : List UInt8} (h : l = [46] ∨ l = [46, 46]) : nameB l = false := by
  rcases h with rfl | rfl <;> decide
theorem nameB_byte {l : List UInt8} (i : Nat) (hi : i < l.length) (h : nbI (l[i].toNat : Int) = false) : nameB l = false := by
  have : l.all (fun c => nbI (c.toNat : Int)) = false := by
    rw [Bool.eq_false_iff]
    intro hh
    rw [List.all_eq_true] at hh
    rw [hh _ (List.getElem_mem hi)] at h
    cases h
  unfold nameB
  rw [this, Bool.false_and, Bool.and_false]
theorem nameB_yes {l : List UInt8} (h1 : 1 ≤ l.length) (h2 : l.length ≤ 28) (h3 : l ≠ [46]) (h4 : l ≠ [46, 46]) (h : ∀ i (hi : i < l.length), nbI (l[i].toNat : Int) = true) : nameB l = true := by
  have : l.all (fun c => nbI (c.toNat : Int)) = true := by
    rw [List.all_eq_true]
    intro x hx
    obtain ⟨i, hi, rfl⟩ := List.getElem_of_mem hx
    exact h i hi
  unfold nameB
  rw [this, decide_eq_true ⟨h1, h2⟩, decide_eq_true h3, decide_eq_true h4]
  rfl
set_option maxHeartbeats 2000000 in
theorem name_any (s : ByteArray) (w : World) (hs : s.size ≤ 9223372036854775807) :
    Calls Tryd.prog 50 #[.string s] w fun e w' => e = .returned (.bool (nameB s.data.toList)) ∧ w = w' := by
  have hsl := size_toList s
  have htl := Lib.toList_data s
  have HSL := Lib.hid hsl
  have HTL := Lib.hid htl
  rcases (by omega : s.size < 1 ∨ (¬ s.size < 1 ∧ ¬ s.size ≤ 28) ∨ (¬ s.size < 1 ∧ s.size ≤ 28)) with h1 | ⟨h1, h2⟩ | ⟨h1, h2⟩
  · have HB := Lib.hid (nameB_len (l := s.data.toList) (by omega))
    clear hsl htl
    go_enter Tryd.func50, Tryd.ntmps50
    go_wp2_with fail
    go_ret
    exact ⟨retB HB.out.symm, rfl⟩
  · have HB := Lib.hid (nameB_len (l := s.data.toList) (by omega))
    clear hsl htl
    go_enter Tryd.func50, Tryd.ntmps50
    go_wp2_with fail
    go_ret
    exact ⟨retB HB.out.symm, rfl⟩
  · by_cases h3 : s.data.toList = [46]
    · have HB := Lib.hid (nameB_dot (.inl h3))
      have e1 : (s.toList == [46]) = true := by rw [htl, h3]; rfl
      clear hsl htl h3
      go_enter Tryd.func50, Tryd.ntmps50
      go_wp2_with fail
      all_goals
        go_ret
        exact ⟨retB HB.out.symm, rfl⟩
    · have e1 : (s.toList == [46]) = false := by rw [htl]; simpa using h3
      by_cases h4 : s.data.toList = [46, 46]
      · have HB := Lib.hid (nameB_dot (.inr h4))
        have e2 : (s.toList == [46, 46]) = true := by rw [htl, h4]; rfl
        clear hsl htl h3 h4
        go_enter Tryd.func50, Tryd.ntmps50
        go_wp2_with fail
        all_goals
          go_ret
          exact ⟨retB HB.out.symm, rfl⟩
      · have e2 : (s.toList == [46, 46]) = false := by rw [htl]; simpa using h4
        have H3 := Lib.hid h3
        have H4 := Lib.hid h4
        clear hsl htl h3 h4
        go_enter Tryd.func50, Tryd.ntmps50
        go_wp2_with fail
        go_loop [22] (fun i => ∃ k : Nat, k ≤ s.size ∧ i = .int .i64 k ∧ Hid (∀ j (hj : j < s.data.toList.length), j < k → nbI ((s.data.toList[j]).toNat : Int) = true)) (fun i => s.size - (intOf i).toNat)
        case atStart => exact ⟨0, by omega, rfl, fun j hj h0 => by omega⟩
        case round =>
          obtain ⟨k, hk, rfl, HK⟩ := hrel
          by_cases hlt : k < s.size
          · have hkl : k < s.data.toList.length := by rw [HSL.out]; exact hlt
            have hc := UInt8.toNat_lt s[k]
            cases hn : nbI (s[k].toNat : Int)
            all_goals
              have HN := Lib.hid hn
              clear hn
              go_wp2_with fail
              refine (nameByte_any _ _ (by omega) (by omega)).mono ?_
              rw [HN.out]
              rintro e w' ⟨rfl, rfl⟩
              go_wp2_with fail
            · go_ret
              exact ⟨retB (nameB_byte k hkl HN.out).symm, rfl⟩
            · go_round
              case rel =>
                refine ⟨k + 1, by omega, by go_num, fun j hj h0 => ?_⟩
                by_cases e : j = k
                · subst e; exact HN.out
                · exact HK.out j hj (by omega)
              case measure => simp [intOf]; omega
          · go_wp2_with fail
            go_ret
            exact ⟨retB (nameB_yes (by rw [HSL.out]; omega) (by rw [HSL.out]; omega) H3.out H4.out fun i hi => HK.out i hi (by rw [HSL.out] at hi; omega)).symm, rfl⟩

set_option maxRecDepth 100000 in
set_option maxHeartbeats 4000000 in
theorem rname_any (s : ByteArray) (w : World) (hs : s.size ≤ 9223372036854775807) :
    Calls Tryd.prog 47 #[.string s] w fun e w' => e = .returned (.bool (nameB s.data.toList)) ∧ w = w' := by
  have HSL := Lib.hid (size_toList s)
  have HTL := Lib.hid (Lib.toList_data s)
  go_enter Tryd.func47, Tryd.ntmps47
  go_wp2_with fail
  go_loop [3] (fun i => ∃ k : Nat, k ≤ s.size ∧ i = .int .i64 k ∧ Hid (∀ j (hj : j < s.data.toList.length), j < k → nbI ((s.data.toList[j]).toNat : Int) = true)) (fun i => s.size - (intOf i).toNat)
  case atStart => exact ⟨0, by omega, rfl, fun j hj h0 => by omega⟩
  case round =>
    obtain ⟨k, hk, rfl, HK⟩ := hrel
    by_cases hlt : k < s.size
    · have hkl : k < s.data.toList.length := by rw [HSL.out]; exact hlt
      have hc := UInt8.toNat_lt s[k]
      obtain ⟨c, hcc⟩ : ∃ c : Int, (s[k].toNat : Int) = c := ⟨_, rfl⟩
      have h0 : 0 ≤ c ∧ c < 256 := by omega
      have HC := Lib.hid hcc
      have hix : (Instr.index 9 (.string s) (.int .i64 (k : Int))).run Tryd.prog w = .ok (.int .u8 c) w := by
        rw [← hcc]
        simp [Instr.index, run_underlying Tryd.underlying9, asIntOf, go_sem, hlt]
      clear hcc hc
      have HE : Hid (nbI ((s.data.toList[k]).toNat : Int) = nbI c) := by show _ = _; rw [get_toList s k hlt, HC.out]
      clear HC
      rcases (by omega : (65 ≤ c ∧ c ≤ 90) ∨ (97 ≤ c ∧ c ≤ 122) ∨ (48 ≤ c ∧ c ≤ 57) ∨ c = 46 ∨ c = 95 ∨ c = 45 ∨ (¬ (65 ≤ c ∧ c ≤ 90) ∧ ¬ (97 ≤ c ∧ c ≤ 122) ∧ ¬ (48 ≤ c ∧ c ≤ 57) ∧ c ≠ 46 ∧ c ≠ 95 ∧ c ≠ 45)) with ⟨h, h'⟩ | ⟨h, h'⟩ | ⟨h, h'⟩ | h | h | h | h
      case inr.inr.inr.inr.inr.inr =>
        have q1 : (c == 46) = false := by simp; omega
        have q2 : (c == 95) = false := by simp; omega
        have q3 : (c == 45) = false := by simp; omega
        have HF : Hid (nbI c = false) := by show _ = _; unfold nbI; rw [decide_eq_false_iff_not]; omega
        go_wp2_with fail
        all_goals
          first
            | (exfalso; omega)
            | (exfalso; rename_i hz; simp at hz; omega)
            | (go_ret
               exact ⟨retB (nameB_byte k hkl (by rw [HE.out]; exact HF.out)).symm, rfl⟩)
      all_goals
        have HF : Hid (nbI c = true) := by show _ = _; unfold nbI; rw [decide_eq_true_iff]; omega
        try subst h
        have HP : Hid (∀ j (hj : j < s.data.toList.length), j < k + 1 → nbI ((s.data.toList[j]).toNat : Int) = true) := fun j hj h0 => by
          by_cases e : j = k
          · subst e
            rw [HE.out]
            exact HF.out
          · exact HK.out j hj (by omega)
        clear HE HF HK
        go_wp2_with fail
        all_goals
          first
            | (exfalso; omega)
            | (go_round
               case rel => exact ⟨k + 1, by omega, by go_num, HP⟩
               case measure => simp [intOf]; omega)
    · have HA : Hid (∀ i (hi : i < s.data.toList.length), nbI ((s.data.toList[i]).toNat : Int) = true) := fun i hi => HK.out i hi (by rw [HSL.out] at hi; omega)
      clear HK
      rcases (by omega : s.size < 1 ∨ (¬ s.size < 1 ∧ ¬ s.size ≤ 28) ∨ (¬ s.size < 1 ∧ s.size ≤ 28)) with h1 | ⟨h1, h2⟩ | ⟨h1, h2⟩
      · have HB := Lib.hid (nameB_len (l := s.data.toList) (by rw [HSL.out]; omega))
        go_wp2_with fail
        go_ret
        exact ⟨retB HB.out.symm, rfl⟩
      · have HB := Lib.hid (nameB_len (l := s.data.toList) (by rw [HSL.out]; omega))
        go_wp2_with fail
        go_ret
        exact ⟨retB HB.out.symm, rfl⟩
      · by_cases h3 : s.data.toList = [46]
        · have HB := Lib.hid (nameB_dot (.inl h3))
          have e1 : (s.toList == [46]) = true := by rw [HTL.out, h3]; rfl
          have e1' : (s.toList != [46]) = false := by rw [HTL.out, h3]; rfl
          clear h3
          go_wp2_with fail
          all_goals
            go_ret
            exact ⟨retB HB.out.symm, rfl⟩
        · have e1 : (s.toList == [46]) = false := by rw [HTL.out]; simpa using h3
          have e1' : (s.toList != [46]) = true := by rw [HTL.out]; simpa using h3
          by_cases h4 : s.data.toList = [46, 46]
          · have HB := Lib.hid (nameB_dot (.inr h4))
            have e2 : (s.toList == [46, 46]) = true := by rw [HTL.out, h4]; rfl
            have e2' : (s.toList != [46, 46]) = false := by rw [HTL.out, h4]; rfl
            clear h3 h4
            go_wp2_with fail
            all_goals
              go_ret
              exact ⟨retB HB.out.symm, rfl⟩
          · have e2 : (s.toList == [46, 46]) = false := by rw [HTL.out]; simpa using h4
            have e2' : (s.toList != [46, 46]) = true := by rw [HTL.out]; simpa using h4
            have H3 := Lib.hid h3
            have H4 := Lib.hid h4
            clear h3 h4
            go_wp2_with fail
            all_goals
              go_ret
              exact ⟨retB (nameB_yes (by rw [HSL.out]; omega) (by rw [HSL.out]; omega) H3.out H4.out HA.out).symm, rfl⟩

end Go.Proofs.YthpfnkanilfohaaDoor

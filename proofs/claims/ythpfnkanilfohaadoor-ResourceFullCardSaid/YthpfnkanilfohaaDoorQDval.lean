/-
  Layer 6: the document's value and title.
  Conditions: those that each theorem states.
-/
import Derived.Test.YthpfnkanilfohaaDoorQRef
namespace Go.Proofs.YthpfnkanilfohaaDoor
open Go.RowKit Go.Maps

set_option maxRecDepth 100000 in
set_option maxHeartbeats 2000000 in
theorem value_content (v : List UInt8) (w : World) (hv : v.length ≤ 140737488355328) : Calls Tryd.prog 25 #[.string (strL nContent), .string (strL v)] w fun e w' => e = .returned (.bool (valB nContent v)) ∧ Kept [] w w' := by
  rw [valB_content]
  have e0 : ((strL nContent).toList == [99, 111, 110, 116, 101, 110, 116]) = true := by rw [strL_bytes]; rfl
  have e1 : ((strL nContent).toList == [109, 111, 100, 101]) = false := by rw [strL_bytes]; rfl
  have e2 : ((strL nContent).toList == [112, 117, 114, 103, 101]) = false := by rw [strL_bytes]; rfl
  have e3 : ((strL nContent).toList == [116, 97, 114, 103, 101, 116]) = false := by rw [strL_bytes]; rfl
  have e4 : ((strL nContent).toList == [117, 105, 100]) = false := by rw [strL_bytes]; rfl
  have e5 : ((strL nContent).toList == [103, 105, 100]) = false := by rw [strL_bytes]; rfl
  have e6 : ((strL nContent).toList == [103, 114, 111, 117, 112]) = false := by rw [strL_bytes]; rfl
  have e7 : ((strL nContent).toList == [115, 104, 101, 108, 108]) = false := by rw [strL_bytes]; rfl
  have e8 : ((strL nContent).toList == [118, 101, 114, 115, 105, 111, 110]) = false := by rw [strL_bytes]; rfl
  have e9 : ((strL nContent).toList == [101, 110, 115, 117, 114, 101]) = false := by rw [strL_bytes]; rfl
  have hsz := strL_size v
  by_cases h1 : v.length ≤ 512
  · have h1' : ((strL v).size : Int) ≤ 512 := by rw [hsz]; omega
    have HB : Hid (textB v = true) := decide_eq_true h1
    clear hsz
    go_enter Tryd.func25, Tryd.ntmps25
    go_wp2_with fail
    all_goals
      go_ret
      exact ⟨retB HB.out.symm, Kept.refl _ _⟩
  · have h1' : ¬ ((strL v).size : Int) ≤ 512 := by rw [hsz]; omega
    have HB : Hid (textB v = false) := decide_eq_false h1
    clear hsz
    go_enter Tryd.func25, Tryd.ntmps25
    go_wp2_with fail
    all_goals
      go_ret
      exact ⟨retB HB.out.symm, Kept.refl _ _⟩
theorem modeB_eq (v : List UInt8) : modeB v = ((dgB v 55 && (decide ((4 : Int) ≤ (v.length : Int)) && decide ((v.length : Int) ≤ 4))) && decide (v.head? = some 48)) := by
  unfold modeB
  by_cases h : v.length = 4
  · rw [decide_eq_true h, decide_eq_true (show (4 : Int) ≤ (v.length : Int) by omega), decide_eq_true (show (v.length : Int) ≤ 4 by omega)]
    cases dgB v 55 <;> cases decide (v.head? = some 48) <;> rfl
  · rw [decide_eq_false h]
    by_cases h2 : (4 : Int) ≤ (v.length : Int)
    · rw [decide_eq_false (show ¬ (v.length : Int) ≤ 4 by omega)]
      cases dgB v 55 <;> simp
    · rw [decide_eq_false h2]
      cases dgB v 55 <;> simp
set_option maxRecDepth 100000 in
set_option maxHeartbeats 2000000 in
theorem value_mode (v : List UInt8) (w : World) (hv : v.length ≤ 140737488355328) : Calls Tryd.prog 25 #[.string (strL nMode), .string (strL v)] w fun e w' => e = .returned (.bool (valB nMode v)) ∧ Kept [] w w' := by
  rw [valB_mode]
  have e0 : ((strL nMode).toList == [99, 111, 110, 116, 101, 110, 116]) = false := by rw [strL_bytes]; rfl
  have e1 : ((strL nMode).toList == [109, 111, 100, 101]) = true := by rw [strL_bytes]; rfl
  have e2 : ((strL nMode).toList == [112, 117, 114, 103, 101]) = false := by rw [strL_bytes]; rfl
  have e3 : ((strL nMode).toList == [116, 97, 114, 103, 101, 116]) = false := by rw [strL_bytes]; rfl
  have e4 : ((strL nMode).toList == [117, 105, 100]) = false := by rw [strL_bytes]; rfl
  have e5 : ((strL nMode).toList == [103, 105, 100]) = false := by rw [strL_bytes]; rfl
  have e6 : ((strL nMode).toList == [103, 114, 111, 117, 112]) = false := by rw [strL_bytes]; rfl
  have e7 : ((strL nMode).toList == [115, 104, 101, 108, 108]) = false := by rw [strL_bytes]; rfl
  have e8 : ((strL nMode).toList == [118, 101, 114, 115, 105, 111, 110]) = false := by rw [strL_bytes]; rfl
  have e9 : ((strL nMode).toList == [101, 110, 115, 117, 114, 101]) = false := by rw [strL_bytes]; rfl
  have HD : Hid (∀ w', Calls Tryd.prog 36 #[.string (strL v), .int .i64 4, .int .i64 4, .int .u8 55] w' fun e w2 => e = .returned (.bool (dgB v 55 && (decide ((4 : Int) ≤ (v.length : Int)) && decide ((v.length : Int) ≤ 4)))) ∧ w' = w2) := fun w' => rsdigits_any v 4 4 55 w' (by omega)
  cases hb : (dgB v 55 && (decide ((4 : Int) ≤ (v.length : Int)) && decide ((v.length : Int) ≤ 4)))
  · have HB : Hid (modeB v = false) := by show _ = _; rw [modeB_eq, hb]; rfl
    have HBB := Lib.hid hb
    clear hb
    go_enter Tryd.func25, Tryd.ntmps25
    go_wp2_with fail
    refine (HD.out _).mono ?_
    rw [HBB.out]
    rintro e w2 ⟨rfl, rfl⟩
    go_wp2_with fail
    all_goals
      go_ret
      exact ⟨retB HB.out.symm, Kept.refl _ _⟩
  · have HB : Hid (modeB v = decide (v.head? = some 48)) := by show _ = _; rw [modeB_eq, hb]; rfl
    have hl : v.length = 4 := by simp only [Bool.and_eq_true, decide_eq_true_eq] at hb; omega
    have HBB := Lib.hid hb
    obtain ⟨c, hc⟩ : ∃ c : Int, ((v[0]'(by omega)).toNat : Int) = c := ⟨_, rfl⟩
    have hix := run_index_str0 v (by omega) w
    have hd := head_get v (by omega) 48
    rw [hc] at hix
    by_cases h2 : v.head? = some 48
    · have q2 : (c == 48) = true := by rw [decide_eq_true h2] at hd; have := of_decide_eq_true hd.symm; rw [← hc, this]; rfl
      have HB2 : Hid (modeB v = true) := by show _ = _; rw [HB.out, decide_eq_true h2]
      clear hb h2 hd hc hl
      go_enter Tryd.func25, Tryd.ntmps25
      go_wp2_with fail
      refine (HD.out _).mono ?_
      rw [HBB.out]
      rintro e w2 ⟨rfl, rfl⟩
      go_wp2_with fail
      all_goals
        go_ret
        exact ⟨retB HB2.out.symm, Kept.refl _ _⟩
    · have q2 : (c == 48) = false := by
        rw [decide_eq_false h2] at hd
        have := of_decide_eq_false hd.symm
        rw [beq_eq_false_iff_ne]
        intro e
        apply this
        have h48 : (48 : UInt8).toNat = 48 := rfl
        rw [h48]; omega
      have HB2 : Hid (modeB v = false) := by show _ = _; rw [HB.out, decide_eq_false h2]
      clear hb h2 hd hc hl
      go_enter Tryd.func25, Tryd.ntmps25
      go_wp2_with fail
      refine (HD.out _).mono ?_
      rw [HBB.out]
      rintro e w2 ⟨rfl, rfl⟩
      go_wp2_with fail
      all_goals
        go_ret
        exact ⟨retB HB2.out.symm, Kept.refl _ _⟩
set_option maxRecDepth 100000 in
set_option maxHeartbeats 2000000 in
theorem value_purge (v : List UInt8) (w : World) : Calls Tryd.prog 25 #[.string (strL nPurge), .string (strL v)] w fun e w' => e = .returned (.bool (valB nPurge v)) ∧ Kept [] w w' := by
  rw [valB_purge]
  have e0 : ((strL nPurge).toList == [99, 111, 110, 116, 101, 110, 116]) = false := by rw [strL_bytes]; rfl
  have e1 : ((strL nPurge).toList == [109, 111, 100, 101]) = false := by rw [strL_bytes]; rfl
  have e2 : ((strL nPurge).toList == [112, 117, 114, 103, 101]) = true := by rw [strL_bytes]; rfl
  have e3 : ((strL nPurge).toList == [116, 97, 114, 103, 101, 116]) = false := by rw [strL_bytes]; rfl
  have e4 : ((strL nPurge).toList == [117, 105, 100]) = false := by rw [strL_bytes]; rfl
  have e5 : ((strL nPurge).toList == [103, 105, 100]) = false := by rw [strL_bytes]; rfl
  have e6 : ((strL nPurge).toList == [103, 114, 111, 117, 112]) = false := by rw [strL_bytes]; rfl
  have e7 : ((strL nPurge).toList == [115, 104, 101, 108, 108]) = false := by rw [strL_bytes]; rfl
  have e8 : ((strL nPurge).toList == [118, 101, 114, 115, 105, 111, 110]) = false := by rw [strL_bytes]; rfl
  have e9 : ((strL nPurge).toList == [101, 110, 115, 117, 114, 101]) = false := by rw [strL_bytes]; rfl
  by_cases h1 : v = nFalse
  · have HB : Hid (decide (v ∈ [nFalse, nTrue]) = true) := decide_eq_true (by rw [h1]; simp)
    have f1 : ((strL v).toList == [102, 97, 108, 115, 101]) = true := by rw [strL_bytes, h1]; rfl
    clear h1
    go_enter Tryd.func25, Tryd.ntmps25
    go_wp2_with fail
    all_goals
      go_ret
      exact ⟨retB HB.out.symm, Kept.refl _ _⟩
  · have f1 : ((strL v).toList == [102, 97, 108, 115, 101]) = false := by rw [strL_bytes]; exact beq_eq_false_iff_ne.2 h1
    by_cases h2 : v = nTrue
    · have HB : Hid (decide (v ∈ [nFalse, nTrue]) = true) := decide_eq_true (by rw [h2]; simp)
      have f2 : ((strL v).toList == [116, 114, 117, 101]) = true := by rw [strL_bytes, h2]; rfl
      clear h1 h2
      go_enter Tryd.func25, Tryd.ntmps25
      go_wp2_with fail
      all_goals
        go_ret
        exact ⟨retB HB.out.symm, Kept.refl _ _⟩
    · have HB : Hid (decide (v ∈ [nFalse, nTrue]) = false) := decide_eq_false (by simp [h1, h2])
      have f2 : ((strL v).toList == [116, 114, 117, 101]) = false := by rw [strL_bytes]; exact beq_eq_false_iff_ne.2 h2
      clear h1 h2
      go_enter Tryd.func25, Tryd.ntmps25
      go_wp2_with fail
      all_goals
        go_ret
        exact ⟨retB HB.out.symm, Kept.refl _ _⟩
set_option maxRecDepth 100000 in
set_option maxHeartbeats 2000000 in
theorem value_target (v : List UInt8) (w : World) (hv : v.length ≤ 140737488355328) : Calls Tryd.prog 25 #[.string (strL nTarget), .string (strL v)] w fun e w' => e = .returned (.bool (valB nTarget v)) ∧ Kept [] w w' := by
  rw [valB_target]
  have e0 : ((strL nTarget).toList == [99, 111, 110, 116, 101, 110, 116]) = false := by rw [strL_bytes]; rfl
  have e1 : ((strL nTarget).toList == [109, 111, 100, 101]) = false := by rw [strL_bytes]; rfl
  have e2 : ((strL nTarget).toList == [112, 117, 114, 103, 101]) = false := by rw [strL_bytes]; rfl
  have e3 : ((strL nTarget).toList == [116, 97, 114, 103, 101, 116]) = true := by rw [strL_bytes]; rfl
  have e4 : ((strL nTarget).toList == [117, 105, 100]) = false := by rw [strL_bytes]; rfl
  have e5 : ((strL nTarget).toList == [103, 105, 100]) = false := by rw [strL_bytes]; rfl
  have e6 : ((strL nTarget).toList == [103, 114, 111, 117, 112]) = false := by rw [strL_bytes]; rfl
  have e7 : ((strL nTarget).toList == [115, 104, 101, 108, 108]) = false := by rw [strL_bytes]; rfl
  have e8 : ((strL nTarget).toList == [118, 101, 114, 115, 105, 111, 110]) = false := by rw [strL_bytes]; rfl
  have e9 : ((strL nTarget).toList == [101, 110, 115, 117, 114, 101]) = false := by rw [strL_bytes]; rfl
  have HP : Hid (Calls Tryd.prog 35 #[.string (strL v)] w (PathOut v w)) := rpath_any v w (by omega)
  go_enter Tryd.func25, Tryd.ntmps25
  go_wp2_with fail
  refine HP.out.mono ?_
  rintro e w' ⟨hk, ⟨hp, rfl⟩ | ⟨ps, u, hp, rfl, _⟩⟩
  · have HB : Hid (pathB v = false ∧ Kept [] w w') := ⟨by unfold pathB; rw [hp]; rfl, hk⟩
    clear hk hp
    go_wp2_with fail
    all_goals
      go_ret
      exact ⟨retB HB.out.1.symm, HB.out.2⟩
  · have HB : Hid (pathB v = true ∧ Kept [] w w') := ⟨by unfold pathB; rw [hp]; rfl, hk⟩
    clear hk hp
    go_wp2_with fail
    all_goals
      go_ret
      exact ⟨retB HB.out.1.symm, HB.out.2⟩
theorem idB_eq (v : List UInt8) : idB v = (dgB v 57 && (decide ((1 : Int) ≤ (v.length : Int)) && decide ((v.length : Int) ≤ 5))) := by
  unfold idB
  rw [show decide ((1 : Int) ≤ (v.length : Int)) = decide (1 ≤ v.length) from decide_eq_decide.2 (by omega), show decide ((v.length : Int) ≤ 5) = decide (v.length ≤ 5) from decide_eq_decide.2 (by omega)]
  cases dgB v 57 <;> cases decide (1 ≤ v.length) <;> cases decide (v.length ≤ 5) <;> rfl
set_option maxRecDepth 100000 in
set_option maxHeartbeats 2000000 in
theorem value_uid (v : List UInt8) (w : World) (hv : v.length ≤ 140737488355328) : Calls Tryd.prog 25 #[.string (strL nUid), .string (strL v)] w fun e w' => e = .returned (.bool (valB nUid v)) ∧ Kept [] w w' := by
  rw [valB_uid]
  have e0 : ((strL nUid).toList == [99, 111, 110, 116, 101, 110, 116]) = false := by rw [strL_bytes]; rfl
  have e1 : ((strL nUid).toList == [109, 111, 100, 101]) = false := by rw [strL_bytes]; rfl
  have e2 : ((strL nUid).toList == [112, 117, 114, 103, 101]) = false := by rw [strL_bytes]; rfl
  have e3 : ((strL nUid).toList == [116, 97, 114, 103, 101, 116]) = false := by rw [strL_bytes]; rfl
  have e4 : ((strL nUid).toList == [117, 105, 100]) = true := by rw [strL_bytes]; rfl
  have e5 : ((strL nUid).toList == [103, 105, 100]) = false := by rw [strL_bytes]; rfl
  have e6 : ((strL nUid).toList == [103, 114, 111, 117, 112]) = false := by rw [strL_bytes]; rfl
  have e7 : ((strL nUid).toList == [115, 104, 101, 108, 108]) = false := by rw [strL_bytes]; rfl
  have e8 : ((strL nUid).toList == [118, 101, 114, 115, 105, 111, 110]) = false := by rw [strL_bytes]; rfl
  have e9 : ((strL nUid).toList == [101, 110, 115, 117, 114, 101]) = false := by rw [strL_bytes]; rfl
  have HD : Hid (∀ w', Calls Tryd.prog 36 #[.string (strL v), .int .i64 1, .int .i64 5, .int .u8 57] w' fun e w2 => e = .returned (.bool (idB v)) ∧ w' = w2) := fun w' => by rw [idB_eq]; exact rsdigits_any v 1 5 57 w' (by omega)
  go_enter Tryd.func25, Tryd.ntmps25
  go_wp2_with fail
  all_goals
    refine (HD.out _).mono ?_
    rintro e w2 ⟨rfl, rfl⟩
    go_wp2_with fail
    go_ret
    exact ⟨rfl, Kept.refl _ _⟩
set_option maxRecDepth 100000 in
set_option maxHeartbeats 2000000 in
theorem value_gid (v : List UInt8) (w : World) (hv : v.length ≤ 140737488355328) : Calls Tryd.prog 25 #[.string (strL nGid), .string (strL v)] w fun e w' => e = .returned (.bool (valB nGid v)) ∧ Kept [] w w' := by
  rw [valB_gid]
  have e0 : ((strL nGid).toList == [99, 111, 110, 116, 101, 110, 116]) = false := by rw [strL_bytes]; rfl
  have e1 : ((strL nGid).toList == [109, 111, 100, 101]) = false := by rw [strL_bytes]; rfl
  have e2 : ((strL nGid).toList == [112, 117, 114, 103, 101]) = false := by rw [strL_bytes]; rfl
  have e3 : ((strL nGid).toList == [116, 97, 114, 103, 101, 116]) = false := by rw [strL_bytes]; rfl
  have e4 : ((strL nGid).toList == [117, 105, 100]) = false := by rw [strL_bytes]; rfl
  have e5 : ((strL nGid).toList == [103, 105, 100]) = true := by rw [strL_bytes]; rfl
  have e6 : ((strL nGid).toList == [103, 114, 111, 117, 112]) = false := by rw [strL_bytes]; rfl
  have e7 : ((strL nGid).toList == [115, 104, 101, 108, 108]) = false := by rw [strL_bytes]; rfl
  have e8 : ((strL nGid).toList == [118, 101, 114, 115, 105, 111, 110]) = false := by rw [strL_bytes]; rfl
  have e9 : ((strL nGid).toList == [101, 110, 115, 117, 114, 101]) = false := by rw [strL_bytes]; rfl
  have HD : Hid (∀ w', Calls Tryd.prog 36 #[.string (strL v), .int .i64 1, .int .i64 5, .int .u8 57] w' fun e w2 => e = .returned (.bool (idB v)) ∧ w' = w2) := fun w' => by rw [idB_eq]; exact rsdigits_any v 1 5 57 w' (by omega)
  go_enter Tryd.func25, Tryd.ntmps25
  go_wp2_with fail
  all_goals
    refine (HD.out _).mono ?_
    rintro e w2 ⟨rfl, rfl⟩
    go_wp2_with fail
    go_ret
    exact ⟨rfl, Kept.refl _ _⟩
set_option maxRecDepth 100000 in
set_option maxHeartbeats 2000000 in
theorem value_group (v : List UInt8) (w : World) (hv : v.length ≤ 140737488355328) : Calls Tryd.prog 25 #[.string (strL nGroup), .string (strL v)] w fun e w' => e = .returned (.bool (valB nGroup v)) ∧ Kept [] w w' := by
  rw [valB_group]
  have e0 : ((strL nGroup).toList == [99, 111, 110, 116, 101, 110, 116]) = false := by rw [strL_bytes]; rfl
  have e1 : ((strL nGroup).toList == [109, 111, 100, 101]) = false := by rw [strL_bytes]; rfl
  have e2 : ((strL nGroup).toList == [112, 117, 114, 103, 101]) = false := by rw [strL_bytes]; rfl
  have e3 : ((strL nGroup).toList == [116, 97, 114, 103, 101, 116]) = false := by rw [strL_bytes]; rfl
  have e4 : ((strL nGroup).toList == [117, 105, 100]) = false := by rw [strL_bytes]; rfl
  have e5 : ((strL nGroup).toList == [103, 105, 100]) = false := by rw [strL_bytes]; rfl
  have e6 : ((strL nGroup).toList == [103, 114, 111, 117, 112]) = true := by rw [strL_bytes]; rfl
  have e7 : ((strL nGroup).toList == [115, 104, 101, 108, 108]) = false := by rw [strL_bytes]; rfl
  have e8 : ((strL nGroup).toList == [118, 101, 114, 115, 105, 111, 110]) = false := by rw [strL_bytes]; rfl
  have e9 : ((strL nGroup).toList == [101, 110, 115, 117, 114, 101]) = false := by rw [strL_bytes]; rfl
  have HD : Hid (∀ w', Calls Tryd.prog 34 #[.string (strL v)] w' fun e w2 => e = .returned (.bool (keyB v)) ∧ w' = w2) := fun w' => rskey_any v w' (by omega)
  go_enter Tryd.func25, Tryd.ntmps25
  go_wp2_with fail
  all_goals
    refine (HD.out _).mono ?_
    rintro e w2 ⟨rfl, rfl⟩
    go_wp2_with fail
    go_ret
    exact ⟨rfl, Kept.refl _ _⟩
set_option maxRecDepth 100000 in
set_option maxHeartbeats 2000000 in
theorem value_shell (v : List UInt8) (w : World) (hv : v.length ≤ 140737488355328) : Calls Tryd.prog 25 #[.string (strL nShell), .string (strL v)] w fun e w' => e = .returned (.bool (valB nShell v)) ∧ Kept [] w w' := by
  rw [valB_shell]
  have e0 : ((strL nShell).toList == [99, 111, 110, 116, 101, 110, 116]) = false := by rw [strL_bytes]; rfl
  have e1 : ((strL nShell).toList == [109, 111, 100, 101]) = false := by rw [strL_bytes]; rfl
  have e2 : ((strL nShell).toList == [112, 117, 114, 103, 101]) = false := by rw [strL_bytes]; rfl
  have e3 : ((strL nShell).toList == [116, 97, 114, 103, 101, 116]) = false := by rw [strL_bytes]; rfl
  have e4 : ((strL nShell).toList == [117, 105, 100]) = false := by rw [strL_bytes]; rfl
  have e5 : ((strL nShell).toList == [103, 105, 100]) = false := by rw [strL_bytes]; rfl
  have e6 : ((strL nShell).toList == [103, 114, 111, 117, 112]) = false := by rw [strL_bytes]; rfl
  have e7 : ((strL nShell).toList == [115, 104, 101, 108, 108]) = true := by rw [strL_bytes]; rfl
  have e8 : ((strL nShell).toList == [118, 101, 114, 115, 105, 111, 110]) = false := by rw [strL_bytes]; rfl
  have e9 : ((strL nShell).toList == [101, 110, 115, 117, 114, 101]) = false := by rw [strL_bytes]; rfl
  have HD : Hid (∀ w', Calls Tryd.prog 37 #[.string (strL v), .int .i64 64] w' fun e w2 => e = .returned (.bool (wdB v)) ∧ w' = w2) := fun w' => rword_any v 64 w' (by omega)
  go_enter Tryd.func25, Tryd.ntmps25
  go_wp2_with fail
  all_goals
    refine (HD.out _).mono ?_
    rintro e w2 ⟨rfl, rfl⟩
    go_wp2_with fail
    go_ret
    exact ⟨rfl, Kept.refl _ _⟩
set_option maxRecDepth 100000 in
set_option maxHeartbeats 2000000 in
theorem value_version (v : List UInt8) (w : World) (hv : v.length ≤ 140737488355328) : Calls Tryd.prog 25 #[.string (strL nVersion), .string (strL v)] w fun e w' => e = .returned (.bool (valB nVersion v)) ∧ Kept [] w w' := by
  rw [valB_version]
  have e0 : ((strL nVersion).toList == [99, 111, 110, 116, 101, 110, 116]) = false := by rw [strL_bytes]; rfl
  have e1 : ((strL nVersion).toList == [109, 111, 100, 101]) = false := by rw [strL_bytes]; rfl
  have e2 : ((strL nVersion).toList == [112, 117, 114, 103, 101]) = false := by rw [strL_bytes]; rfl
  have e3 : ((strL nVersion).toList == [116, 97, 114, 103, 101, 116]) = false := by rw [strL_bytes]; rfl
  have e4 : ((strL nVersion).toList == [117, 105, 100]) = false := by rw [strL_bytes]; rfl
  have e5 : ((strL nVersion).toList == [103, 105, 100]) = false := by rw [strL_bytes]; rfl
  have e6 : ((strL nVersion).toList == [103, 114, 111, 117, 112]) = false := by rw [strL_bytes]; rfl
  have e7 : ((strL nVersion).toList == [115, 104, 101, 108, 108]) = false := by rw [strL_bytes]; rfl
  have e8 : ((strL nVersion).toList == [118, 101, 114, 115, 105, 111, 110]) = true := by rw [strL_bytes]; rfl
  have e9 : ((strL nVersion).toList == [101, 110, 115, 117, 114, 101]) = false := by rw [strL_bytes]; rfl
  by_cases h0 : v = []
  · have q1 : (strL v).toList.isEmpty = true := by rw [strL_bytes, h0]; rfl
    have HB : Hid (fwB v = false) := by show _ = _; unfold fwB; rw [h0]; rfl
    clear h0
    go_enter Tryd.func25, Tryd.ntmps25
    go_wp2_with fail
    all_goals
      go_ret
      exact ⟨retB HB.out.symm, Kept.refl _ _⟩
  · have q1 : (strL v).toList.isEmpty = false := by rw [strL_bytes]; simpa using h0
    have HB : Hid (fwB v = wordB v 64) := by show _ = _; unfold fwB; rw [decide_eq_true h0]; rfl
    clear h0
    go_enter Tryd.func25, Tryd.ntmps25
    go_wp2_with fail
    all_goals
      refine (rword_any v 64 _ (by omega)).mono ?_
      rintro e w2 ⟨rfl, rfl⟩
      go_wp2_with fail
      go_ret
      exact ⟨retB HB.out.symm, Kept.refl _ _⟩
set_option maxRecDepth 100000 in
set_option maxHeartbeats 2000000 in
theorem value_other (n v : List UInt8) (w : World) (h0 : n ≠ nContent) (h1 : n ≠ nMode) (h2 : n ≠ nPurge) (h3 : n ≠ nTarget) (h4 : n ≠ nUid) (h5 : n ≠ nGid) (h6 : n ≠ nGroup) (h7 : n ≠ nShell) (h8 : n ≠ nVersion) : Calls Tryd.prog 25 #[.string (strL n), .string (strL v)] w fun e w' => e = .returned (.bool (valB n v)) ∧ Kept [] w w' := by
  have e0 : ((strL n).toList == [99, 111, 110, 116, 101, 110, 116]) = false := by rw [strL_bytes]; exact beq_eq_false_iff_ne.2 h0
  have e1 : ((strL n).toList == [109, 111, 100, 101]) = false := by rw [strL_bytes]; exact beq_eq_false_iff_ne.2 h1
  have e2 : ((strL n).toList == [112, 117, 114, 103, 101]) = false := by rw [strL_bytes]; exact beq_eq_false_iff_ne.2 h2
  have e3 : ((strL n).toList == [116, 97, 114, 103, 101, 116]) = false := by rw [strL_bytes]; exact beq_eq_false_iff_ne.2 h3
  have e4 : ((strL n).toList == [117, 105, 100]) = false := by rw [strL_bytes]; exact beq_eq_false_iff_ne.2 h4
  have e5 : ((strL n).toList == [103, 105, 100]) = false := by rw [strL_bytes]; exact beq_eq_false_iff_ne.2 h5
  have e6 : ((strL n).toList == [103, 114, 111, 117, 112]) = false := by rw [strL_bytes]; exact beq_eq_false_iff_ne.2 h6
  have e7 : ((strL n).toList == [115, 104, 101, 108, 108]) = false := by rw [strL_bytes]; exact beq_eq_false_iff_ne.2 h7
  have e8 : ((strL n).toList == [118, 101, 114, 115, 105, 111, 110]) = false := by rw [strL_bytes]; exact beq_eq_false_iff_ne.2 h8
  have HB : Hid (valB n v = decide (n = nEnsure)) := by show _ = _; unfold valB; rw [if_neg h0, if_neg h1, if_neg h2, if_neg h3, if_neg h4, if_neg h5, if_neg h6, if_neg h7, if_neg h8]
  have e9 : ((strL n).toList == [101, 110, 115, 117, 114, 101]) = decide (n = nEnsure) := by rw [strL_bytes, Bool.eq_iff_iff, beq_iff_eq, decide_eq_true_iff]; rfl
  obtain ⟨d, hd⟩ : ∃ d, decide (n = nEnsure) = d := ⟨_, rfl⟩
  rw [hd] at e9 HB
  clear hd h0 h1 h2 h3 h4 h5 h6 h7 h8
  go_enter Tryd.func25, Tryd.ntmps25
  go_wp2_with fail
  all_goals
    go_ret
    exact ⟨retB HB.out.symm, Kept.refl _ _⟩
theorem rsvalue_any (n v : List UInt8) (w : World) (hv : v.length ≤ 140737488355328) : Calls Tryd.prog 25 #[.string (strL n), .string (strL v)] w fun e w' => e = .returned (.bool (valB n v)) ∧ Kept [] w w' := by
  by_cases h0 : n = nContent
  · subst h0; exact value_content v w hv
  by_cases h1 : n = nMode
  · subst h1; exact value_mode v w hv
  by_cases h2 : n = nPurge
  · subst h2; exact value_purge v w
  by_cases h3 : n = nTarget
  · subst h3; exact value_target v w hv
  by_cases h4 : n = nUid
  · subst h4; exact value_uid v w hv
  by_cases h5 : n = nGid
  · subst h5; exact value_gid v w hv
  by_cases h6 : n = nGroup
  · subst h6; exact value_group v w hv
  by_cases h7 : n = nShell
  · subst h7; exact value_shell v w hv
  by_cases h8 : n = nVersion
  · subst h8; exact value_version v w hv
  exact value_other n v w h0 h1 h2 h3 h4 h5 h6 h7 h8

set_option maxRecDepth 100000 in
set_option maxHeartbeats 2000000 in
theorem rstitle_any (t s : List UInt8) (w : World) (hs : s.length ≤ 140737488355328) : Calls Tryd.prog 24 #[.string (strL t), .string (strL s)] w fun e w' => e = .returned (.bool (titleK (kindI t) s)) ∧ Kept [] w w' := by
  by_cases h0 : t = nFile
  · have HT : Hid (titleK (kindI t) s = titB s) := by show _ = _; rw [h0]; rfl
    have e0 : ((strL t).toList == [102, 105, 108, 101]) = true := by rw [strL_bytes, h0]; rfl
    clear h0
    rw [HT.out]
    have HP : Hid (Calls Tryd.prog 35 #[.string (strL s)] w (PathOut s w)) := rpath_any s w (by omega)
    go_enter Tryd.func24, Tryd.ntmps24
    go_wp2_with fail
    refine HP.out.mono ?_
    rintro e w' ⟨hk, ⟨hp, rfl⟩ | ⟨ps, v, hp, rfl, hsv⟩⟩
    · have HB : Hid (titB s = false ∧ Kept [] w w') := ⟨by unfold titB; rw [hp], hk⟩
      clear hk hp
      go_wp2_with fail
      go_ret
      exact ⟨retB HB.out.1.symm, HB.out.2⟩
    · obtain ⟨ao, cap, rfl, hh⟩ := strs_head hsv
      cases ps with
      | nil =>
        have HB : Hid (titB s = false ∧ Kept [] w w') := ⟨by unfold titB; rw [hp], hk⟩
        clear hk hp hh hsv
        simp only [List.length_nil]
        go_wp2_with fail
        go_ret
        exact ⟨retB HB.out.1.symm, HB.out.2⟩
      | cons x r =>
        obtain ⟨b, o, rfl, hc⟩ := hh (by simp)
        have c0 := hc x r rfl
        have hx : (x :: r).length ≤ 9223372036854775807 := by
          have hpo := hp
          unfold pathO at hpo
          split at hpo
          · cases hpo
          · split at hpo
            · rename_i h8
              injection hpo with hpo
              rw [← hpo]
              omega
            · cases hpo
        have HB : Hid (titB s = (decide (x ≠ nTab) && decide (x ≠ nRun)) ∧ Kept [] w w') := ⟨by unfold titB; rw [hp], hk⟩
        obtain ⟨n, hn⟩ : ∃ n, (x :: r).length = n := ⟨_, rfl⟩
        have hn0 : 0 < n := by rw [← hn]; simp
        rw [hn] at hx
        rw [hn]
        clear hk hp hh hsv hc hn
        by_cases h1 : x = nTab
        · have q1 : ((strL x).toList == [116, 97, 98]) = true := by rw [strL_bytes, h1]; rfl
          have HB2 : Hid (titB s = false) := by show _ = _; rw [HB.out.1, decide_eq_false (by simpa using h1)]; rfl
          clear h1
          go_wp2_with fail
          go_ret
          exact ⟨retB HB2.out.symm, HB.out.2⟩
        · have q1 : ((strL x).toList == [116, 97, 98]) = false := by rw [strL_bytes]; simpa [nTab] using h1
          by_cases h2 : x = nRun
          · have q2 : ((strL x).toList == [114, 117, 110]) = true := by rw [strL_bytes, h2]; rfl
            have HB2 : Hid (titB s = false) := by show _ = _; rw [HB.out.1, decide_eq_false (p := x ≠ nRun) (by simpa using h2)]; simp
            clear h1 h2
            go_wp2_with fail
            go_ret
            exact ⟨retB HB2.out.symm, HB.out.2⟩
          · have q2 : ((strL x).toList == [114, 117, 110]) = false := by rw [strL_bytes]; simpa [nRun] using h2
            have HB2 : Hid (titB s = true) := by show _ = _; rw [HB.out.1, decide_eq_true h1, decide_eq_true h2]; rfl
            clear h1 h2
            go_wp2_with fail
            go_ret
            exact ⟨retB HB2.out.symm, HB.out.2⟩
  · have e0 : ((strL t).toList == [102, 105, 108, 101]) = false := by rw [strL_bytes]; exact beq_eq_false_iff_ne.2 h0
    have HT : Hid (titleK (kindI t) s = keyB s) := by
      show _ = _
      unfold titleK
      rw [if_neg]
      unfold kindI
      rw [if_neg h0]
      repeat' split
      all_goals decide
    clear h0
    rw [HT.out]
    go_enter Tryd.func24, Tryd.ntmps24
    go_wp2_with fail
    refine (rskey_any s _ (by omega)).mono ?_
    rintro e w2 ⟨rfl, rfl⟩
    go_wp2_with fail
    go_ret
    exact ⟨rfl, Kept.refl _ _⟩
end Go.Proofs.YthpfnkanilfohaaDoor

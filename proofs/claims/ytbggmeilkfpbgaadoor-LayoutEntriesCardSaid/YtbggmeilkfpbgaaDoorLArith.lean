/-
  Layer 3's numbers: how many blocks a node's content takes, what it costs, and the areas of a disk; the program's calls and the document's.
  Conditions: those that each theorem states.
-/
import Derived.Test.YtbggmeilkfpbgaaDoorChecked
import Derived.Test.YtbggmeilkfpbgaaDoorLKit
namespace Go.Proofs.YtbggmeilkfpbgaaDoor
open Go.RowKit Go.Maps

/-- How many blocks hold what a node of this kind and size has; -1: there is no such node. -/
def dataI (k s : Int) : Int := if s < 0 then -1 else if (k = 1 ∧ s ≤ 2432) ∨ (k = 3 ∧ s ≤ 120) then (s + 63) / 64 else if k = 2 ∧ s ≤ 16 then (s + 1) / 2 else -1
def contI (k s : Int) : Int := max 0 (dataI k s)
def contB (k s : Int) : Bool := decide (0 ≤ dataI k s)
def costI (k s : Int) : Int := if 6 < dataI k s then dataI k s + 1 else max 0 (dataI k s)

theorem dataI_bd (k s : Int) : -1 ≤ dataI k s ∧ dataI k s ≤ 38 := by unfold dataI; split; omega; split; omega; split <;> omega

theorem ret2 {n m : Int} {a b : Bool} (h : n = m) (g : a = b) : Ending.returned (.tuple #[.int .i64 n, .bool a]) = .returned (.tuple #[.int .i64 m, .bool b]) := by rw [h, g]
theorem ret1 {n m : Int} (h : n = m) : Ending.returned (.int .i64 n) = .returned (.int .i64 m) := by rw [h]
theorem retB {a b : Bool} (h : a = b) : Ending.returned (.bool a) = .returned (.bool b) := by rw [h]

theorem blocksFor_any (n e : Int) (w : World) (h0 : 0 ≤ n) (h1 : n ≤ 1000000) (h2 : 1 ≤ e) (h3 : e ≤ 1000000) :
    Calls Tryd.prog 38 #[.int .i64 n, .int .i64 e] w fun r w' => r = .returned (.int .i64 ((n + e - 1) / e)) ∧ w = w' := by
  have he : (e == 0) = false := by simp; omega
  have he2 : (e == -1) = false := by simp; omega
  go_enter Tryd.func38, Tryd.ntmps38
  go_wp2
  go_ret
  exact ⟨ret1 (by first | rfl | (rw [Int.tdiv_eq_ediv_of_nonneg (by omega)]; done)), rfl⟩

theorem content_yes (k s n : Int) (w : World) (h : dataI k s = n) (hn : 0 ≤ n) :
    Calls Tryd.prog 41 #[.int .i64 k, .int .i64 s] w fun r w' => r = .returned (.tuple #[.int .i64 n, .bool true]) ∧ w = w' := by
  have hk : (k = 1 ∧ 0 ≤ s ∧ s ≤ 2432 ∧ n = (s + 63) / 64) ∨ (k = 3 ∧ 0 ≤ s ∧ s ≤ 120 ∧ n = (s + 63) / 64) ∨ (k = 2 ∧ 0 ≤ s ∧ s ≤ 16 ∧ n = (s + 1) / 2) := by
    unfold dataI at h
    split at h
    · omega
    · split at h
      · omega
      · split at h <;> omega
  clear h
  rcases hk with ⟨rfl, h0, h1, hn⟩ | ⟨rfl, h0, h1, hn⟩ | ⟨rfl, h0, h1, hn⟩
  all_goals
    have HN := Lib.hid hn
    clear hn
    go_enter Tryd.func41, Tryd.ntmps41
    go_wp2_with fail
    refine (blocksFor_any s _ _ (by omega) (by omega) (by omega) (by omega)).mono ?_
    rintro e w' ⟨rfl, rfl⟩
    go_wp2_with fail
    go_ret2
    exact ⟨ret2 (by rw [HN.out]; omega) rfl, rfl⟩

theorem content_no (k s : Int) (w : World) (h : dataI k s < 0) :
    Calls Tryd.prog 41 #[.int .i64 k, .int .i64 s] w fun r w' => r = .returned (.tuple #[.int .i64 0, .bool false]) ∧ w = w' := by
  have hk : (k = 1 ∧ s < 0) ∨ (k = 1 ∧ ¬ s < 0 ∧ 2432 < s) ∨ (k = 3 ∧ s < 0) ∨ (k = 3 ∧ ¬ s < 0 ∧ 120 < s) ∨ (k = 2 ∧ s < 0) ∨ (k = 2 ∧ ¬ s < 0 ∧ 16 < s) ∨ ((k == 1) = false ∧ (k == 3) = false ∧ (k == 2) = false) := by
    simp only [beq_eq_false_iff_ne]
    unfold dataI at h
    split at h
    · omega
    · split at h
      · omega
      · split at h <;> omega
  clear h
  rcases hk with ⟨rfl, h0⟩ | ⟨rfl, h0, h1⟩ | ⟨rfl, h0⟩ | ⟨rfl, h0, h1⟩ | ⟨rfl, h0⟩ | ⟨rfl, h0, h1⟩ | ⟨h0, h1, h2⟩
  all_goals
    go_enter Tryd.func41, Tryd.ntmps41
    go_wp2_with fail
    go_ret2
    exact ⟨rfl, rfl⟩

theorem cost_any (k s : Int) (w : World) :
    Calls Tryd.prog 21 #[.int .i64 k, .int .i64 s] w fun r w' => r = .returned (.int .i64 (costI k s)) ∧ w = w' := by
  obtain ⟨n, hn⟩ : ∃ n, dataI k s = n := ⟨_, rfl⟩
  have hb := dataI_bd k s
  have hc : costI k s = if 6 < n then n + 1 else max 0 n := by rw [← hn]; rfl
  rw [hn] at hb
  have HC := Lib.hid hc
  have HN := Lib.hid hn
  clear hc hn
  by_cases h0 : 0 ≤ n
  · by_cases h6 : 6 < n
    all_goals
      go_enter Tryd.func21, Tryd.ntmps21
      go_wp2_with fail
      refine (content_yes k s n _ HN.out h0).mono ?_
      rintro e w' ⟨rfl, rfl⟩
      go_wp2_with fail
      go_ret
      exact ⟨ret1 (by rw [HC.out]; split <;> omega), rfl⟩
  · go_enter Tryd.func21, Tryd.ntmps21
    go_wp2_with fail
    refine (content_no k s _ (by rw [HN.out]; omega)).mono ?_
    rintro e w' ⟨rfl, rfl⟩
    go_wp2_with fail
    go_ret
    exact ⟨ret1 (by rw [HC.out, if_neg (by omega)]; omega), rfl⟩

theorem rdata_any (k s : Int) (w : World) :
    Calls Tryd.prog 27 #[.int .i64 k, .int .i64 s] w fun r w' => r = .returned (.int .i64 (dataI k s)) ∧ w = w' := by
  by_cases h0 : s < 0
  · have HN := Lib.hid (show dataI k s = -1 by unfold dataI; rw [if_pos h0])
    go_enter Tryd.func27, Tryd.ntmps27
    go_wp2_with fail
    go_ret
    exact ⟨ret1 (by rw [HN.out]), rfl⟩
  · by_cases k1 : k = 1
    · subst k1
      by_cases h1 : s ≤ 2432
      · have HN := Lib.hid (show dataI 1 s = (s + 63) / 64 by unfold dataI; rw [if_neg h0, if_pos (by omega)])
        go_enter Tryd.func27, Tryd.ntmps27
        go_wp2_with fail
        go_ret
        exact ⟨ret1 (by rw [HN.out]), rfl⟩
      · have HN := Lib.hid (show dataI 1 s = -1 by unfold dataI; rw [if_neg h0, if_neg (by omega), if_neg (by omega)])
        go_enter Tryd.func27, Tryd.ntmps27
        go_wp2_with fail
        go_ret
        exact ⟨ret1 (by rw [HN.out]), rfl⟩
    · by_cases k3 : k = 3
      · subst k3
        by_cases h1 : s ≤ 120
        · have HN := Lib.hid (show dataI 3 s = (s + 63) / 64 by unfold dataI; rw [if_neg h0, if_pos (by omega)])
          go_enter Tryd.func27, Tryd.ntmps27
          go_wp2_with fail
          go_ret
          exact ⟨ret1 (by rw [HN.out]), rfl⟩
        · have HN := Lib.hid (show dataI 3 s = -1 by unfold dataI; rw [if_neg h0, if_neg (by omega), if_neg (by omega)])
          go_enter Tryd.func27, Tryd.ntmps27
          go_wp2_with fail
          go_ret
          exact ⟨ret1 (by rw [HN.out]), rfl⟩
      · by_cases k2 : k = 2
        · subst k2
          by_cases h1 : s ≤ 16
          · have HN := Lib.hid (show dataI 2 s = (s + 1) / 2 by unfold dataI; rw [if_neg h0, if_neg (by omega), if_pos (by omega)])
            go_enter Tryd.func27, Tryd.ntmps27
            go_wp2_with fail
            go_ret
            exact ⟨ret1 (by rw [HN.out]), rfl⟩
          · have HN := Lib.hid (show dataI 2 s = -1 by unfold dataI; rw [if_neg h0, if_neg (by omega), if_neg (by omega)])
            go_enter Tryd.func27, Tryd.ntmps27
            go_wp2_with fail
            go_ret
            exact ⟨ret1 (by rw [HN.out]), rfl⟩
        · have HN := Lib.hid (show dataI k s = -1 by unfold dataI; rw [if_neg h0, if_neg (by omega), if_neg (by omega)])
          have e1 : (k == 1) = false := by simpa using k1
          have e2 : (k == 3) = false := by simpa using k3
          have e3 : (k == 2) = false := by simpa using k2
          go_enter Tryd.func27, Tryd.ntmps27
          go_wp2_with fail
          go_ret
          exact ⟨ret1 (by rw [HN.out]), rfl⟩

end Go.Proofs.YtbggmeilkfpbgaaDoor

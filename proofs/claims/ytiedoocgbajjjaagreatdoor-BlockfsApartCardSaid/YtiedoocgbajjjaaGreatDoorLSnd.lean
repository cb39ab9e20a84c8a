/-
  Layer 3's numbers: how many blocks a node's content takes, what it costs, and the areas of a disk; the program's calls and the document's.
  Conditions: those that each theorem states.
  Layer 3: which nodes may be: the program's soundBlock, soundBlocks, soundHead, and the document's block and may; the law's own comparisons of numbers and of nodes.
  Conditions: those that each theorem states.
-/
import Derived.Test.YtiedoocgbajjjaaGreatDoorChecked
import Derived.Test.YtiedoocgbajjjaaGreatDoorTKit
namespace Go.Proofs.YtiedoocgbajjjaaGreatDoor
open Go.RowKit Go.Maps
set_option maxRecDepth 100000

/-- How many blocks hold what a node of this kind and size has; -1: there is no such node. -/
def dataI (k s : Int) : Int := if s < 0 then -1 else if (k = 1 ∧ s ≤ 2432) ∨ (k = 3 ∧ s ≤ 120) then (s + 63) / 64 else if k = 2 ∧ s ≤ 16 then (s + 1) / 2 else -1
def contI (k s : Int) : Int := max 0 (dataI k s)
def contB (k s : Int) : Bool := decide (0 ≤ dataI k s)
def costI (k s : Int) : Int := if 6 < dataI k s then dataI k s + 1 else max 0 (dataI k s)

theorem dataI_bd (k s : Int) : -1 ≤ dataI k s ∧ dataI k s ≤ 38 := by unfold dataI; split; omega; split; omega; split <;> omega

theorem blocksFor_any (n e : Int) (w : World) (h0 : 0 ≤ n) (h1 : n ≤ 1000000) (h2 : 1 ≤ e) (h3 : e ≤ 1000000) :
    Calls Tryz.prog 63 #[.int .i64 n, .int .i64 e] w fun r w' => r = .returned (.int .i64 ((n + e - 1) / e)) ∧ w = w' := by
  have he : (e == 0) = false := by simp; omega
  have he2 : (e == -1) = false := by simp; omega
  go_enter Tryz.func63, Tryz.ntmps63
  go_wp2
  go_ret
  exact ⟨ret1 (by first | rfl | (rw [Int.tdiv_eq_ediv_of_nonneg (by omega)]; done)), rfl⟩

theorem content_yes (k s n : Int) (w : World) (h : dataI k s = n) (hn : 0 ≤ n) :
    Calls Tryz.prog 90 #[.int .i64 k, .int .i64 s] w fun r w' => r = .returned (.tuple #[.int .i64 n, .bool true]) ∧ w = w' := by
  have hk : (k = 1 ∧ 0 ≤ s ∧ s ≤ 2432 ∧ n = (s + 63) / 64) ∨ (k = 3 ∧ 0 ≤ s ∧ s ≤ 120 ∧ n = (s + 63) / 64) ∨ (k = 2 ∧ 0 ≤ s ∧ s ≤ 16 ∧ n = (s + 1) / 2) := by
    unfold dataI at h
    split at h
    · omega
    · split at h
      · omega
      · split at h <;> omega
  clear h
  rcases hk with ⟨rfl, h0, h1, hn⟩ | ⟨rfl, h0, h1, hn⟩ | ⟨rfl, h0, h1, hn⟩
  all_goals
    have HN := Lib.hid hn
    clear hn
    go_enter Tryz.func90, Tryz.ntmps90
    go_wp2_with fail
    refine (blocksFor_any s _ _ (by omega) (by omega) (by omega) (by omega)).mono ?_
    rintro e w' ⟨rfl, rfl⟩
    go_wp2_with fail
    go_ret2
    exact ⟨ret2 (by rw [HN.out]; omega) rfl, rfl⟩

theorem content_no (k s : Int) (w : World) (h : dataI k s < 0) :
    Calls Tryz.prog 90 #[.int .i64 k, .int .i64 s] w fun r w' => r = .returned (.tuple #[.int .i64 0, .bool false]) ∧ w = w' := by
  have hk : (k = 1 ∧ s < 0) ∨ (k = 1 ∧ ¬ s < 0 ∧ 2432 < s) ∨ (k = 3 ∧ s < 0) ∨ (k = 3 ∧ ¬ s < 0 ∧ 120 < s) ∨ (k = 2 ∧ s < 0) ∨ (k = 2 ∧ ¬ s < 0 ∧ 16 < s) ∨ ((k == 1) = false ∧ (k == 3) = false ∧ (k == 2) = false) := by
    simp only [beq_eq_false_iff_ne]
    unfold dataI at h
    split at h
    · omega
    · split at h
      · omega
      · split at h <;> omega
  clear h
  rcases hk with ⟨rfl, h0⟩ | ⟨rfl, h0, h1⟩ | ⟨rfl, h0⟩ | ⟨rfl, h0, h1⟩ | ⟨rfl, h0⟩ | ⟨rfl, h0, h1⟩ | ⟨h0, h1, h2⟩
  all_goals
    go_enter Tryz.func90, Tryz.ntmps90
    go_wp2_with fail
    go_ret2
    exact ⟨rfl, rfl⟩

theorem cost_any (k s : Int) (w : World) :
    Calls Tryz.prog 83 #[.int .i64 k, .int .i64 s] w fun r w' => r = .returned (.int .i64 (costI k s)) ∧ w = w' := by
  obtain ⟨n, hn⟩ : ∃ n, dataI k s = n := ⟨_, rfl⟩
  have hb := dataI_bd k s
  have hc : costI k s = if 6 < n then n + 1 else max 0 n := by rw [← hn]; rfl
  rw [hn] at hb
  have HC := Lib.hid hc
  have HN := Lib.hid hn
  clear hc hn
  by_cases h0 : 0 ≤ n
  · by_cases h6 : 6 < n
    all_goals
      go_enter Tryz.func83, Tryz.ntmps83
      go_wp2_with fail
      refine (content_yes k s n _ HN.out h0).mono ?_
      rintro e w' ⟨rfl, rfl⟩
      go_wp2_with fail
      go_ret
      exact ⟨ret1 (by rw [HC.out]; split <;> omega), rfl⟩
  · go_enter Tryz.func83, Tryz.ntmps83
    go_wp2_with fail
    refine (content_no k s _ (by rw [HN.out]; omega)).mono ?_
    rintro e w' ⟨rfl, rfl⟩
    go_wp2_with fail
    go_ret
    exact ⟨ret1 (by rw [HC.out, if_neg (by omega)]; omega), rfl⟩

theorem rdata_any (k s : Int) (w : World) :
    Calls Tryz.prog 60 #[.int .i64 k, .int .i64 s] w fun r w' => r = .returned (.int .i64 (dataI k s)) ∧ w = w' := by
  by_cases h0 : s < 0
  · have HN := Lib.hid (show dataI k s = -1 by unfold dataI; rw [if_pos h0])
    go_enter Tryz.func60, Tryz.ntmps60
    go_wp2_with fail
    go_ret
    exact ⟨ret1 (by rw [HN.out]), rfl⟩
  · by_cases k1 : k = 1
    · subst k1
      by_cases h1 : s ≤ 2432
      · have HN := Lib.hid (show dataI 1 s = (s + 63) / 64 by unfold dataI; rw [if_neg h0, if_pos (by omega)])
        go_enter Tryz.func60, Tryz.ntmps60
        go_wp2_with fail
        go_ret
        exact ⟨ret1 (by rw [HN.out]), rfl⟩
      · have HN := Lib.hid (show dataI 1 s = -1 by unfold dataI; rw [if_neg h0, if_neg (by omega), if_neg (by omega)])
        go_enter Tryz.func60, Tryz.ntmps60
        go_wp2_with fail
        go_ret
        exact ⟨ret1 (by rw [HN.out]), rfl⟩
    · by_cases k3 : k = 3
      · subst k3
        by_cases h1 : s ≤ 120
        · have HN := Lib.hid (show dataI 3 s = (s + 63) / 64 by unfold dataI; rw [if_neg h0, if_pos (by omega)])
          go_enter Tryz.func60, Tryz.ntmps60
          go_wp2_with fail
          go_ret
          exact ⟨ret1 (by rw [HN.out]), rfl⟩
        · have HN := Lib.hid (show dataI 3 s = -1 by unfold dataI; rw [if_neg h0, if_neg (by omega), if_neg (by omega)])
          go_enter Tryz.func60, Tryz.ntmps60
          go_wp2_with fail
          go_ret
          exact ⟨ret1 (by rw [HN.out]), rfl⟩
      · by_cases k2 : k = 2
        · subst k2
          by_cases h1 : s ≤ 16
          · have HN := Lib.hid (show dataI 2 s = (s + 1) / 2 by unfold dataI; rw [if_neg h0, if_neg (by omega), if_pos (by omega)])
            go_enter Tryz.func60, Tryz.ntmps60
            go_wp2_with fail
            go_ret
            exact ⟨ret1 (by rw [HN.out]), rfl⟩
          · have HN := Lib.hid (show dataI 2 s = -1 by unfold dataI; rw [if_neg h0, if_neg (by omega), if_neg (by omega)])
            go_enter Tryz.func60, Tryz.ntmps60
            go_wp2_with fail
            go_ret
            exact ⟨ret1 (by rw [HN.out]), rfl⟩
        · have HN := Lib.hid (show dataI k s = -1 by unfold dataI; rw [if_neg h0, if_neg (by omega), if_neg (by omega)])
          have e1 : (k == 1) = false := by simpa using k1
          have e2 : (k == 3) = false := by simpa using k3
          have e3 : (k == 2) = false := by simpa using k2
          go_enter Tryz.func60, Tryz.ntmps60
          go_wp2_with fail
          go_ret
          exact ⟨ret1 (by rw [HN.out]), rfl⟩

theorem rcost_any (k s : Int) (w : World) :
    Calls Tryz.prog 27 #[.int .i64 k, .int .i64 s] w fun r w' => r = .returned (.int .i64 (costI k s)) ∧ w = w' := by
  obtain ⟨n, hn⟩ : ∃ n, dataI k s = n := ⟨_, rfl⟩
  have hb := dataI_bd k s
  have hc : costI k s = if 6 < n then n + 1 else max 0 n := by rw [← hn]; rfl
  rw [hn] at hb
  have HC := Lib.hid hc
  have HN := Lib.hid hn
  clear hc hn
  rcases (by omega : 6 < n ∨ (¬ 6 < n ∧ 0 ≤ n) ∨ (¬ 6 < n ∧ n < 0)) with h6 | ⟨h6, h0⟩ | ⟨h6, h0⟩
  all_goals
    go_enter Tryz.func27, Tryz.ntmps27
    go_wp2_with fail
    refine (rdata_any k s _).mono ?_
    rw [HN.out]
    rintro e w' ⟨rfl, rfl⟩
    go_wp2_with fail
    all_goals
      go_ret
      exact ⟨ret1 (by rw [HC.out]; split <;> omega), rfl⟩

end Go.Proofs.YtiedoocgbajjjaaGreatDoor

namespace Go.Proofs.YtiedoocgbajjjaaGreatDoor
open Go.RowKit Go.Maps
set_option maxRecDepth 100000

def sndB (b : Int) : Bool := decide (1 ≤ b ∧ b < 4096)
def headB (m n more : Int) : Bool := decide (0 ≤ m ∧ m ≤ 4095) && if 6 < n then sndB more else decide (more = 0)
def validB (k m s more : Int) (l : List Int) : Bool := decide (0 ≤ dataI k s) && decide ((l.length : Int) = dataI k s) && headB m (dataI k s) more && l.all sndB
/-- A node as a value. -/
def nodeV (k m s : Int) (ao : Option Addr) (len cap : Nat) (more : Int) : Value := .agg #[.int .i64 k, .int .i64 m, .int .i64 s, .slice ao len cap, .int .i64 more]

theorem soundBlock_any (b : Int) (w : World) :
    Calls Tryz.prog 120 #[.int .i64 b] w fun e w' => e = .returned (.bool (sndB b)) ∧ w = w' := by
  by_cases h1 : 1 ≤ b
  · by_cases h2 : b < 4096
    · have HB := Lib.hid (show sndB b = true by simp [sndB]; omega)
      go_enter Tryz.func120, Tryz.ntmps120
      go_wp2
      go_ret
      exact ⟨retB HB.out.symm, rfl⟩
    · have HB := Lib.hid (show sndB b = false by simp [sndB]; omega)
      go_enter Tryz.func120, Tryz.ntmps120
      go_wp2
      go_ret
      exact ⟨retB HB.out.symm, rfl⟩
  · have HB := Lib.hid (show sndB b = false by simp [sndB]; omega)
    go_enter Tryz.func120, Tryz.ntmps120
    go_wp2
    go_ret
    exact ⟨retB HB.out.symm, rfl⟩

theorem all_snd_of {l : List Int} (h : ∀ i (hi : i < l.length), sndB l[i] = true) : l.all sndB = true := by
  rw [List.all_eq_true]
  intro x hx
  obtain ⟨i, hi, rfl⟩ := List.getElem_of_mem hx
  exact h i hi
theorem not_all_snd {l : List Int} (i : Nat) (hi : i < l.length) (h : sndB l[i] = false) : l.all sndB = false := by
  rw [Bool.eq_false_iff]
  intro hh
  rw [List.all_eq_true] at hh
  rw [hh _ (List.getElem_mem hi)] at h
  cases h

set_option maxHeartbeats 1000000 in
theorem soundBlocks_any (ao : Option Addr) (len cap : Nat) (l : List Int) (w : World) (hl : IntsIs w ao len l) :
    Calls Tryz.prog 92 #[.slice ao len cap] w fun e w' => e = .returned (.bool (l.all sndB)) ∧ w = w' := by
  have HL := Lib.hid hl
  have hlen := hl.2.1
  have HLL := Lib.hid hl.1
  clear hl
  go_enter Tryz.func92, Tryz.ntmps92
  go_wp2_with fail
  go_loop [7] (fun i => ∃ k : Nat, k ≤ len ∧ i = .int .i64 k ∧ Hid (∀ j (hj : j < l.length), j < k → sndB l[j] = true)) (fun i => len - (intOf i).toNat)
  case atStart => exact ⟨0, by omega, rfl, fun j hj h0 => by omega⟩
  case round =>
    obtain ⟨k, hk, rfl, HK⟩ := hrel
    by_cases hlt : k < len
    · obtain ⟨b, o, rfl, hb, hc⟩ := HL.out.cell (by omega)
      have c1 := hc k hlt
      have hll : k < l.length := by rw [HLL.out]; exact hlt
      obtain ⟨x, hx⟩ : ∃ x, l[k] = x := ⟨_, rfl⟩
      rw [hx] at c1
      have HX := Lib.hid hx
      clear hc hx
      cases hs : sndB x
      · have HS := Lib.hid hs
        clear hs
        go_wp2_with fail
        refine (soundBlock_any x _).mono ?_
        rw [HS.out]
        rintro e w' ⟨rfl, rfl⟩
        go_wp2_with fail
        go_ret
        exact ⟨retB (not_all_snd k hll (by rw [HX.out]; exact HS.out)).symm, rfl⟩
      · have HS := Lib.hid hs
        clear hs
        go_wp2_with fail
        refine (soundBlock_any x _).mono ?_
        rw [HS.out]
        rintro e w' ⟨rfl, rfl⟩
        go_wp2_with fail
        go_round
        case rel =>
          refine ⟨k + 1, by omega, by go_num, fun j hj h0 => ?_⟩
          by_cases e : j = k
          · subst e; rw [HX.out]; exact HS.out
          · exact HK.out j hj (by omega)
        case measure => simp [intOf]; omega
    · go_wp2_with fail
      go_ret
      exact ⟨retB (all_snd_of fun i hi => HK.out i hi (by rw [HLL.out] at hi; omega)).symm, rfl⟩

theorem headB_eq {m n more : Int} {b : Bool} (h : (0 ≤ m ∧ m ≤ 4095) ∧ ((6 < n ∧ sndB more = b) ∨ (¬ 6 < n ∧ decide (more = 0) = b))) : headB m n more = b := by
  obtain ⟨h1, h2⟩ := h
  unfold headB
  rw [decide_eq_true h1, Bool.true_and]
  rcases h2 with ⟨h2, h3⟩ | ⟨h2, h3⟩
  · rw [if_pos h2]; exact h3
  · rw [if_neg h2]; exact h3
theorem headB_no {m n more : Int} (h : m < 0 ∨ 4095 < m) : headB m n more = false := by
  unfold headB
  rw [decide_eq_false (by omega), Bool.false_and]

set_option maxHeartbeats 1000000 in
theorem soundHead_any (k m s : Int) (ao : Option Addr) (len cap : Nat) (more n : Int) (w : World) :
    Calls Tryz.prog 91 #[nodeV k m s ao len cap more, .int .i64 n] w fun e w' => e = .returned (.bool (headB m n more)) ∧ Kept [] w w' := by
  unfold nodeV
  rcases (by omega : m < 0 ∨ (¬ m < 0 ∧ 4095 < m) ∨ ((¬ m < 0 ∧ m ≤ 4095) ∧ 6 < n) ∨ ((¬ m < 0 ∧ m ≤ 4095) ∧ ¬ 6 < n)) with h | ⟨h, h2⟩ | ⟨⟨h, h2⟩, h3⟩ | ⟨⟨h, h2⟩, h3⟩
  · have HB := Lib.hid (headB_no (n := n) (more := more) (.inl h))
    go_enter Tryz.func91, Tryz.ntmps91
    go_wp2_with fail
    go_ret
    exact ⟨retB HB.out.symm, Kept.alloc _ _ _⟩
  · have HB := Lib.hid (headB_no (n := n) (more := more) (.inr h2))
    go_enter Tryz.func91, Tryz.ntmps91
    go_wp2_with fail
    go_ret
    exact ⟨retB HB.out.symm, Kept.alloc _ _ _⟩
  · have HB := Lib.hid (headB_eq (m := m) (n := n) (more := more) ⟨by omega, .inl ⟨h3, rfl⟩⟩)
    go_enter Tryz.func91, Tryz.ntmps91
    go_wp2_with fail
    refine (soundBlock_any more _).mono ?_
    rintro e w' ⟨rfl, rfl⟩
    go_wp2_with fail
    go_ret
    exact ⟨retB HB.out.symm, Kept.alloc _ _ _⟩
  · have HB := Lib.hid (headB_eq (m := m) (n := n) (more := more) ⟨by omega, .inr ⟨h3, rfl⟩⟩)
    by_cases h0 : more = 0
    · subst h0
      go_enter Tryz.func91, Tryz.ntmps91
      go_wp2_with fail
      go_ret
      exact ⟨retB HB.out.symm, Kept.alloc _ _ _⟩
    · have e0 : (more == 0) = false := by simpa using h0
      go_enter Tryz.func91, Tryz.ntmps91
      go_wp2_with fail
      go_ret
      exact ⟨retB (by rw [HB.out]; simpa using h0), Kept.alloc _ _ _⟩

theorem ne_of_get {l r : List Int} (i : Nat) (h1 : i < l.length) (h2 : i < r.length) (h : l[i] ≠ r[i]) : decide (l = r) = false := by
  rw [decide_eq_false_iff_not]
  intro e
  subst e
  exact h rfl
theorem ne_of_len {l r : List Int} (h : l.length ≠ r.length) : decide (l = r) = false := by
  rw [decide_eq_false_iff_not]
  intro e
  subst e
  exact h rfl
theorem eq_of_get {l r : List Int} (h0 : l.length = r.length) (h : ∀ i (h1 : i < l.length) (h2 : i < r.length), l[i] = r[i]) : decide (l = r) = true := by
  rw [decide_eq_true_iff]
  exact List.ext_getElem h0 h

def sameB (k m s more : Int) (l : List Int) (k' m' s' more' : Int) (l' : List Int) : Bool := decide (l = l') && (decide (k = k') && (decide (m = m') && (decide (s = s') && decide (more = more'))))

theorem validB_no {k m s more : Int} {l : List Int} {n : Int} (hn : dataI k s = n) (h : n < 0 ∨ m < 0 ∨ 4095 < m ∨ (l.length : Int) ≠ n) : validB k m s more l = false := by
  unfold validB
  rw [hn]
  rcases h with h | h | h | h
  · rw [decide_eq_false (by omega)]; rfl
  · rw [headB_no (.inl h)]; simp
  · rw [headB_no (.inr h)]; simp
  · rw [decide_eq_false h]; simp
theorem validB_all {k m s more : Int} {l : List Int} (h : l.all sndB = false) : validB k m s more l = false := by
  unfold validB
  rw [h, Bool.and_false]
theorem validB_rest {k m s more : Int} {l : List Int} {n : Int} {b : Bool} (hn : dataI k s = n) (h0 : 0 ≤ n) (h1 : 0 ≤ m) (h2 : m ≤ 4095) (h3 : (l.length : Int) = n) (h4 : l.all sndB = true) (h5 : (6 < n ∧ sndB more = b) ∨ (¬ 6 < n ∧ decide (more = 0) = b)) : validB k m s more l = b := by
  unfold validB
  rw [hn, h4, headB_eq ⟨⟨h1, h2⟩, h5⟩, decide_eq_true h0, decide_eq_true h3]
  simp

end Go.Proofs.YtiedoocgbajjjaaGreatDoor

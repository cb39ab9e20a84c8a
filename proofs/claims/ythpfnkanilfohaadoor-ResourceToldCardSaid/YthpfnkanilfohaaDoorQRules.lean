/-
  Layer 6: the document's first, rules, value and title.
  Conditions: those that each theorem states.
-/
import Derived.Test.YthpfnkanilfohaaDoorQRef
namespace Go.Proofs.YthpfnkanilfohaaDoor
open Go.RowKit Go.Maps

set_option maxHeartbeats 1000000 in
theorem rsfirst_any (t : List UInt8) (w : World) : Calls Tryd.prog 22 #[.string (strL t)] w fun e w' => e = .returned (.string (strL (dfltK (kindI t)))) ∧ w = w' := by
  by_cases h0 : t = nFile
  · subst h0
    have e0 : ((strL nFile).toList == [102, 105, 108, 101]) = true := by rw [strL_bytes]; rfl
    have e1 : ((strL nFile).toList == [97, 99, 99, 111, 117, 110, 116]) = false := by rw [strL_bytes]; rfl
    have e2 : ((strL nFile).toList == [103, 114, 111, 117, 112]) = false := by rw [strL_bytes]; rfl
    have e3 : ((strL nFile).toList == [112, 97, 99, 107, 97, 103, 101]) = false := by rw [strL_bytes]; rfl
    have e4 : ((strL nFile).toList == [115, 101, 114, 118, 105, 99, 101]) = false := by rw [strL_bytes]; rfl
    go_enter Tryd.func22, Tryd.ntmps22
    go_wp2_with fail
    all_goals
      go_ret
      exact ⟨rfl, rfl⟩
  by_cases h1 : t = nAccount
  · subst h1
    have e0 : ((strL nAccount).toList == [102, 105, 108, 101]) = false := by rw [strL_bytes]; rfl
    have e1 : ((strL nAccount).toList == [97, 99, 99, 111, 117, 110, 116]) = true := by rw [strL_bytes]; rfl
    have e2 : ((strL nAccount).toList == [103, 114, 111, 117, 112]) = false := by rw [strL_bytes]; rfl
    have e3 : ((strL nAccount).toList == [112, 97, 99, 107, 97, 103, 101]) = false := by rw [strL_bytes]; rfl
    have e4 : ((strL nAccount).toList == [115, 101, 114, 118, 105, 99, 101]) = false := by rw [strL_bytes]; rfl
    go_enter Tryd.func22, Tryd.ntmps22
    go_wp2_with fail
    all_goals
      go_ret
      exact ⟨rfl, rfl⟩
  by_cases h2 : t = nGroup
  · subst h2
    have e0 : ((strL nGroup).toList == [102, 105, 108, 101]) = false := by rw [strL_bytes]; rfl
    have e1 : ((strL nGroup).toList == [97, 99, 99, 111, 117, 110, 116]) = false := by rw [strL_bytes]; rfl
    have e2 : ((strL nGroup).toList == [103, 114, 111, 117, 112]) = true := by rw [strL_bytes]; rfl
    have e3 : ((strL nGroup).toList == [112, 97, 99, 107, 97, 103, 101]) = false := by rw [strL_bytes]; rfl
    have e4 : ((strL nGroup).toList == [115, 101, 114, 118, 105, 99, 101]) = false := by rw [strL_bytes]; rfl
    go_enter Tryd.func22, Tryd.ntmps22
    go_wp2_with fail
    all_goals
      go_ret
      exact ⟨rfl, rfl⟩
  by_cases h3 : t = nPackage
  · subst h3
    have e0 : ((strL nPackage).toList == [102, 105, 108, 101]) = false := by rw [strL_bytes]; rfl
    have e1 : ((strL nPackage).toList == [97, 99, 99, 111, 117, 110, 116]) = false := by rw [strL_bytes]; rfl
    have e2 : ((strL nPackage).toList == [103, 114, 111, 117, 112]) = false := by rw [strL_bytes]; rfl
    have e3 : ((strL nPackage).toList == [112, 97, 99, 107, 97, 103, 101]) = true := by rw [strL_bytes]; rfl
    have e4 : ((strL nPackage).toList == [115, 101, 114, 118, 105, 99, 101]) = false := by rw [strL_bytes]; rfl
    go_enter Tryd.func22, Tryd.ntmps22
    go_wp2_with fail
    all_goals
      go_ret
      exact ⟨rfl, rfl⟩
  by_cases h4 : t = nService
  · subst h4
    have e0 : ((strL nService).toList == [102, 105, 108, 101]) = false := by rw [strL_bytes]; rfl
    have e1 : ((strL nService).toList == [97, 99, 99, 111, 117, 110, 116]) = false := by rw [strL_bytes]; rfl
    have e2 : ((strL nService).toList == [103, 114, 111, 117, 112]) = false := by rw [strL_bytes]; rfl
    have e3 : ((strL nService).toList == [112, 97, 99, 107, 97, 103, 101]) = false := by rw [strL_bytes]; rfl
    have e4 : ((strL nService).toList == [115, 101, 114, 118, 105, 99, 101]) = true := by rw [strL_bytes]; rfl
    go_enter Tryd.func22, Tryd.ntmps22
    go_wp2_with fail
    all_goals
      go_ret
      exact ⟨rfl, rfl⟩
  have e0 : ((strL t).toList == [102, 105, 108, 101]) = false := by rw [strL_bytes]; exact beq_eq_false_iff_ne.2 h0
  have e1 : ((strL t).toList == [97, 99, 99, 111, 117, 110, 116]) = false := by rw [strL_bytes]; exact beq_eq_false_iff_ne.2 h1
  have e2 : ((strL t).toList == [103, 114, 111, 117, 112]) = false := by rw [strL_bytes]; exact beq_eq_false_iff_ne.2 h2
  have e3 : ((strL t).toList == [112, 97, 99, 107, 97, 103, 101]) = false := by rw [strL_bytes]; exact beq_eq_false_iff_ne.2 h3
  have e4 : ((strL t).toList == [115, 101, 114, 118, 105, 99, 101]) = false := by rw [strL_bytes]; exact beq_eq_false_iff_ne.2 h4
  have HK : Hid (kindI t = 0) := by show _ = _; unfold kindI; rw [if_neg h0, if_neg h1, if_neg h2, if_neg h3, if_neg h4]
  clear h0 h1 h2 h3 h4
  go_enter Tryd.func22, Tryd.ntmps22
  go_wp2_with fail
  all_goals
    go_ret
    exact ⟨by rw [HK.out]; rfl, rfl⟩

/-- The cells of rules. -/
def rlv : List (Prm × Bool) → List Value
  | [] => []
  | x :: l => .string (strL x.1.1) :: .string (strL x.1.2) :: .bool x.2 :: rlv l
theorem rlv_get : ∀ (l : List (Prm × Bool)) (k : Nat) (hk : k < l.length), (rlv l)[3 * k]? = some (.string (strL l[k].1.1)) ∧ (rlv l)[3 * k + 1]? = some (.string (strL l[k].1.2)) ∧ (rlv l)[3 * k + 2]? = some (.bool l[k].2)
  | x :: l, 0, _ => ⟨rfl, rfl, rfl⟩
  | x :: l, k + 1, hk => by
    have := rlv_get l k (by simpa using hk)
    rw [show 3 * (k + 1) = 3 * k + 3 by omega, show 3 * k + 3 + 1 = 3 * k + 1 + 3 by omega, show 3 * k + 3 + 2 = 3 * k + 2 + 3 by omega]
    simpa [rlv] using this
/-- A slice of rules. -/
def RuleRow (w : World) (v : Value) (L : List (Prm × Bool)) : Prop :=
  (L = [] ∧ v = .slice none 0 0) ∨ ∃ b cap, v = .slice (some ⟨b, 0, none⟩) L.length cap ∧ b < w.heap.size ∧ w.rangeAt b 0 (rlv L)
theorem RuleRow.kept {w w' : World} {v : Value} {L : List (Prm × Bool)} (h : RuleRow w v L) (hk : Kept [] w w') : RuleRow w' v L := by
  rcases h with h | ⟨b, cap, rfl, hb, hr⟩
  · exact .inl h
  · exact .inr ⟨b, cap, rfl, Nat.lt_of_lt_of_le hb hk.size, hk.range hb (by simp) hr⟩
theorem RuleRow.cell {w : World} {v : Value} {L : List (Prm × Bool)} (h : RuleRow w v L) : ∃ ao cap, v = .slice ao L.length cap ∧ (0 < L.length → ∃ b, ao = some ⟨b, 0, none⟩ ∧ b < w.heap.size ∧ ∀ k (hk : k < L.length),
    w.cell? ⟨b, k * 3, none⟩ = some (.string (strL L[k].1.1)) ∧ w.cell? ⟨b, k * 3 + 1, none⟩ = some (.string (strL L[k].1.2)) ∧ w.cell? ⟨b, k * 3 + 2, none⟩ = some (.bool L[k].2)) := by
  rcases h with ⟨rfl, rfl⟩ | ⟨b, cap, rfl, hb, hr⟩
  · exact ⟨none, 0, rfl, fun h => absurd h (by simp)⟩
  · refine ⟨_, cap, rfl, fun _ => ⟨b, rfl, hb, fun k hk => ?_⟩⟩
    obtain ⟨e0, e1, e2⟩ := rlv_get L k hk
    have f0 := hr _ _ e0
    have f1 := hr _ _ e1
    have f2 := hr _ _ e2
    rw [show 0 + 3 * k = k * 3 by omega] at f0
    rw [show 0 + (3 * k + 1) = k * 3 + 1 by omega] at f1
    rw [show 0 + (3 * k + 2) = k * 3 + 2 by omega] at f2
    exact ⟨f0, f1, f2⟩
/-- What the document's table says. -/
def rulesK (k : Nat) (st : List UInt8) : List (Prm × Bool) := (slotsK k st).map fun s => ((s.1, if s.1 = nEnsure ∧ st ≠ dfltK k then [] else s.2), decide (s.1 = nTarget))
def RulesOut (k st : List UInt8) (w : World) (e : Ending) (w' : World) : Prop := ∃ v b, e = .returned (.tuple #[v, .bool b]) ∧ Hid (b = decide (slotsK (kindI k) st ≠ []) ∧ RuleRow w' v (rulesK (kindI k) st) ∧ Kept [] w w')
theorem RulesOut.yes {k st : List UInt8} {w : World} {n : Nat} {L : List (Prm × Bool)} {cs : Array Value} (h0 : slotsK (kindI k) st ≠ []) (hL : rulesK (kindI k) st = L) (hn : L.length = n) (hc : cs = (rlv L).toArray) :
    RulesOut k st w (.returned (.tuple #[.slice (some ⟨w.heap.size, 0, none⟩) n n, .bool true])) (w.alloc (.cells cs 55)) := by
  subst hn hc
  refine ⟨_, _, rfl, by rw [decide_eq_true h0], .inr ⟨w.heap.size, _, by rw [hL], by rw [size_alloc]; exact Nat.lt_succ_self _, fun j u hu => ?_⟩, Kept.alloc _ _ _⟩
  rw [hL] at hu
  rw [Nat.zero_add, cell_of_row _ _ j _ _ _ (heap_alloc_last w _)]
  simpa using hu
theorem RulesOut.no {k st : List UInt8} {w : World} (h0 : slotsK (kindI k) st = []) : RulesOut k st w (.returned (.tuple #[.slice none 0 0, .bool false])) w := by
  refine ⟨_, _, rfl, by rw [h0]; rfl, .inl ⟨by unfold rulesK; rw [h0]; rfl, rfl⟩, Kept.refl _ _⟩
theorem strL_app (a b : List UInt8) : strL a ++ strL b = strL (a ++ b) := by
  apply ByteArray.ext
  apply Array.toList_inj.1
  simp [strL]

set_option maxRecDepth 100000 in
set_option maxHeartbeats 1000000 in
theorem rules_file_file (w : World) : Calls Tryd.prog 23 #[.string (strL nFile), .string (strL nFile)] w (RulesOut nFile nFile w) := by
  have hq : (strL nFile ++ { data := #[32] }) ++ strL nFile = strL [102, 105, 108, 101, 32, 102, 105, 108, 101] := rfl
  have s1 : (strL nFile).size = 4 := rfl
  have s2 : (strL nFile).size = 4 := rfl
  have s3 : (strL nFile ++ { data := #[32] }).size = 5 := rfl
  have e0 : ((strL [102, 105, 108, 101, 32, 102, 105, 108, 101]).toList == [102, 105, 108, 101, 32, 102, 105, 108, 101]) = true := by rw [strL_bytes]; rfl
  have e1 : ((strL [102, 105, 108, 101, 32, 102, 105, 108, 101]).toList == [102, 105, 108, 101, 32, 100, 105, 114, 101, 99, 116, 111, 114, 121]) = false := by rw [strL_bytes]; rfl
  have e2 : ((strL [102, 105, 108, 101, 32, 102, 105, 108, 101]).toList == [102, 105, 108, 101, 32, 108, 105, 110, 107]) = false := by rw [strL_bytes]; rfl
  have e3 : ((strL [102, 105, 108, 101, 32, 102, 105, 108, 101]).toList == [97, 99, 99, 111, 117, 110, 116, 32, 112, 114, 101, 115, 101, 110, 116]) = false := by rw [strL_bytes]; rfl
  have e4 : ((strL [102, 105, 108, 101, 32, 102, 105, 108, 101]).toList == [103, 114, 111, 117, 112, 32, 112, 114, 101, 115, 101, 110, 116]) = false := by rw [strL_bytes]; rfl
  have e5 : ((strL [102, 105, 108, 101, 32, 102, 105, 108, 101]).toList == [112, 97, 99, 107, 97, 103, 101, 32, 112, 114, 101, 115, 101, 110, 116]) = false := by rw [strL_bytes]; rfl
  have e6 : ((strL [102, 105, 108, 101, 32, 102, 105, 108, 101]).toList == [115, 101, 114, 118, 105, 99, 101, 32, 114, 117, 110, 110, 105, 110, 103]) = false := by rw [strL_bytes]; rfl
  have e7 : ((strL [102, 105, 108, 101, 32, 102, 105, 108, 101]).toList == [102, 105, 108, 101, 32, 97, 98, 115, 101, 110, 116]) = false := by rw [strL_bytes]; rfl
  have e8 : ((strL [102, 105, 108, 101, 32, 102, 105, 108, 101]).toList == [97, 99, 99, 111, 117, 110, 116, 32, 97, 98, 115, 101, 110, 116]) = false := by rw [strL_bytes]; rfl
  have e9 : ((strL [102, 105, 108, 101, 32, 102, 105, 108, 101]).toList == [103, 114, 111, 117, 112, 32, 97, 98, 115, 101, 110, 116]) = false := by rw [strL_bytes]; rfl
  have e10 : ((strL [102, 105, 108, 101, 32, 102, 105, 108, 101]).toList == [112, 97, 99, 107, 97, 103, 101, 32, 97, 98, 115, 101, 110, 116]) = false := by rw [strL_bytes]; rfl
  have e11 : ((strL [102, 105, 108, 101, 32, 102, 105, 108, 101]).toList == [115, 101, 114, 118, 105, 99, 101, 32, 115, 116, 111, 112, 112, 101, 100]) = false := by rw [strL_bytes]; rfl
  go_enter Tryd.func23, Tryd.ntmps23
  go_wp2_with fail
  all_goals
    go_ret2
    exact RulesOut.yes (by decide) rfl rfl rfl
set_option maxRecDepth 100000 in
set_option maxHeartbeats 1000000 in
theorem rules_file_directory (w : World) : Calls Tryd.prog 23 #[.string (strL nFile), .string (strL nDirectory)] w (RulesOut nFile nDirectory w) := by
  have hq : (strL nFile ++ { data := #[32] }) ++ strL nDirectory = strL [102, 105, 108, 101, 32, 100, 105, 114, 101, 99, 116, 111, 114, 121] := rfl
  have s1 : (strL nFile).size = 4 := rfl
  have s2 : (strL nDirectory).size = 9 := rfl
  have s3 : (strL nFile ++ { data := #[32] }).size = 5 := rfl
  have e0 : ((strL [102, 105, 108, 101, 32, 100, 105, 114, 101, 99, 116, 111, 114, 121]).toList == [102, 105, 108, 101, 32, 102, 105, 108, 101]) = false := by rw [strL_bytes]; rfl
  have e1 : ((strL [102, 105, 108, 101, 32, 100, 105, 114, 101, 99, 116, 111, 114, 121]).toList == [102, 105, 108, 101, 32, 100, 105, 114, 101, 99, 116, 111, 114, 121]) = true := by rw [strL_bytes]; rfl
  have e2 : ((strL [102, 105, 108, 101, 32, 100, 105, 114, 101, 99, 116, 111, 114, 121]).toList == [102, 105, 108, 101, 32, 108, 105, 110, 107]) = false := by rw [strL_bytes]; rfl
  have e3 : ((strL [102, 105, 108, 101, 32, 100, 105, 114, 101, 99, 116, 111, 114, 121]).toList == [97, 99, 99, 111, 117, 110, 116, 32, 112, 114, 101, 115, 101, 110, 116]) = false := by rw [strL_bytes]; rfl
  have e4 : ((strL [102, 105, 108, 101, 32, 100, 105, 114, 101, 99, 116, 111, 114, 121]).toList == [103, 114, 111, 117, 112, 32, 112, 114, 101, 115, 101, 110, 116]) = false := by rw [strL_bytes]; rfl
  have e5 : ((strL [102, 105, 108, 101, 32, 100, 105, 114, 101, 99, 116, 111, 114, 121]).toList == [112, 97, 99, 107, 97, 103, 101, 32, 112, 114, 101, 115, 101, 110, 116]) = false := by rw [strL_bytes]; rfl
  have e6 : ((strL [102, 105, 108, 101, 32, 100, 105, 114, 101, 99, 116, 111, 114, 121]).toList == [115, 101, 114, 118, 105, 99, 101, 32, 114, 117, 110, 110, 105, 110, 103]) = false := by rw [strL_bytes]; rfl
  have e7 : ((strL [102, 105, 108, 101, 32, 100, 105, 114, 101, 99, 116, 111, 114, 121]).toList == [102, 105, 108, 101, 32, 97, 98, 115, 101, 110, 116]) = false := by rw [strL_bytes]; rfl
  have e8 : ((strL [102, 105, 108, 101, 32, 100, 105, 114, 101, 99, 116, 111, 114, 121]).toList == [97, 99, 99, 111, 117, 110, 116, 32, 97, 98, 115, 101, 110, 116]) = false := by rw [strL_bytes]; rfl
  have e9 : ((strL [102, 105, 108, 101, 32, 100, 105, 114, 101, 99, 116, 111, 114, 121]).toList == [103, 114, 111, 117, 112, 32, 97, 98, 115, 101, 110, 116]) = false := by rw [strL_bytes]; rfl
  have e10 : ((strL [102, 105, 108, 101, 32, 100, 105, 114, 101, 99, 116, 111, 114, 121]).toList == [112, 97, 99, 107, 97, 103, 101, 32, 97, 98, 115, 101, 110, 116]) = false := by rw [strL_bytes]; rfl
  have e11 : ((strL [102, 105, 108, 101, 32, 100, 105, 114, 101, 99, 116, 111, 114, 121]).toList == [115, 101, 114, 118, 105, 99, 101, 32, 115, 116, 111, 112, 112, 101, 100]) = false := by rw [strL_bytes]; rfl
  go_enter Tryd.func23, Tryd.ntmps23
  go_wp2_with fail
  all_goals
    go_ret2
    exact RulesOut.yes (by decide) rfl rfl rfl
set_option maxRecDepth 100000 in
set_option maxHeartbeats 1000000 in
theorem rules_file_link (w : World) : Calls Tryd.prog 23 #[.string (strL nFile), .string (strL nLink)] w (RulesOut nFile nLink w) := by
  have hq : (strL nFile ++ { data := #[32] }) ++ strL nLink = strL [102, 105, 108, 101, 32, 108, 105, 110, 107] := rfl
  have s1 : (strL nFile).size = 4 := rfl
  have s2 : (strL nLink).size = 4 := rfl
  have s3 : (strL nFile ++ { data := #[32] }).size = 5 := rfl
  have e0 : ((strL [102, 105, 108, 101, 32, 108, 105, 110, 107]).toList == [102, 105, 108, 101, 32, 102, 105, 108, 101]) = false := by rw [strL_bytes]; rfl
  have e1 : ((strL [102, 105, 108, 101, 32, 108, 105, 110, 107]).toList == [102, 105, 108, 101, 32, 100, 105, 114, 101, 99, 116, 111, 114, 121]) = false := by rw [strL_bytes]; rfl
  have e2 : ((strL [102, 105, 108, 101, 32, 108, 105, 110, 107]).toList == [102, 105, 108, 101, 32, 108, 105, 110, 107]) = true := by rw [strL_bytes]; rfl
  have e3 : ((strL [102, 105, 108, 101, 32, 108, 105, 110, 107]).toList == [97, 99, 99, 111, 117, 110, 116, 32, 112, 114, 101, 115, 101, 110, 116]) = false := by rw [strL_bytes]; rfl
  have e4 : ((strL [102, 105, 108, 101, 32, 108, 105, 110, 107]).toList == [103, 114, 111, 117, 112, 32, 112, 114, 101, 115, 101, 110, 116]) = false := by rw [strL_bytes]; rfl
  have e5 : ((strL [102, 105, 108, 101, 32, 108, 105, 110, 107]).toList == [112, 97, 99, 107, 97, 103, 101, 32, 112, 114, 101, 115, 101, 110, 116]) = false := by rw [strL_bytes]; rfl
  have e6 : ((strL [102, 105, 108, 101, 32, 108, 105, 110, 107]).toList == [115, 101, 114, 118, 105, 99, 101, 32, 114, 117, 110, 110, 105, 110, 103]) = false := by rw [strL_bytes]; rfl
  have e7 : ((strL [102, 105, 108, 101, 32, 108, 105, 110, 107]).toList == [102, 105, 108, 101, 32, 97, 98, 115, 101, 110, 116]) = false := by rw [strL_bytes]; rfl
  have e8 : ((strL [102, 105, 108, 101, 32, 108, 105, 110, 107]).toList == [97, 99, 99, 111, 117, 110, 116, 32, 97, 98, 115, 101, 110, 116]) = false := by rw [strL_bytes]; rfl
  have e9 : ((strL [102, 105, 108, 101, 32, 108, 105, 110, 107]).toList == [103, 114, 111, 117, 112, 32, 97, 98, 115, 101, 110, 116]) = false := by rw [strL_bytes]; rfl
  have e10 : ((strL [102, 105, 108, 101, 32, 108, 105, 110, 107]).toList == [112, 97, 99, 107, 97, 103, 101, 32, 97, 98, 115, 101, 110, 116]) = false := by rw [strL_bytes]; rfl
  have e11 : ((strL [102, 105, 108, 101, 32, 108, 105, 110, 107]).toList == [115, 101, 114, 118, 105, 99, 101, 32, 115, 116, 111, 112, 112, 101, 100]) = false := by rw [strL_bytes]; rfl
  go_enter Tryd.func23, Tryd.ntmps23
  go_wp2_with fail
  all_goals
    go_ret2
    exact RulesOut.yes (by decide) rfl rfl rfl
set_option maxRecDepth 100000 in
set_option maxHeartbeats 1000000 in
theorem rules_file_absent (w : World) : Calls Tryd.prog 23 #[.string (strL nFile), .string (strL nAbsent)] w (RulesOut nFile nAbsent w) := by
  have hq : (strL nFile ++ { data := #[32] }) ++ strL nAbsent = strL [102, 105, 108, 101, 32, 97, 98, 115, 101, 110, 116] := rfl
  have s1 : (strL nFile).size = 4 := rfl
  have s2 : (strL nAbsent).size = 6 := rfl
  have s3 : (strL nFile ++ { data := #[32] }).size = 5 := rfl
  have e0 : ((strL [102, 105, 108, 101, 32, 97, 98, 115, 101, 110, 116]).toList == [102, 105, 108, 101, 32, 102, 105, 108, 101]) = false := by rw [strL_bytes]; rfl
  have e1 : ((strL [102, 105, 108, 101, 32, 97, 98, 115, 101, 110, 116]).toList == [102, 105, 108, 101, 32, 100, 105, 114, 101, 99, 116, 111, 114, 121]) = false := by rw [strL_bytes]; rfl
  have e2 : ((strL [102, 105, 108, 101, 32, 97, 98, 115, 101, 110, 116]).toList == [102, 105, 108, 101, 32, 108, 105, 110, 107]) = false := by rw [strL_bytes]; rfl
  have e3 : ((strL [102, 105, 108, 101, 32, 97, 98, 115, 101, 110, 116]).toList == [97, 99, 99, 111, 117, 110, 116, 32, 112, 114, 101, 115, 101, 110, 116]) = false := by rw [strL_bytes]; rfl
  have e4 : ((strL [102, 105, 108, 101, 32, 97, 98, 115, 101, 110, 116]).toList == [103, 114, 111, 117, 112, 32, 112, 114, 101, 115, 101, 110, 116]) = false := by rw [strL_bytes]; rfl
  have e5 : ((strL [102, 105, 108, 101, 32, 97, 98, 115, 101, 110, 116]).toList == [112, 97, 99, 107, 97, 103, 101, 32, 112, 114, 101, 115, 101, 110, 116]) = false := by rw [strL_bytes]; rfl
  have e6 : ((strL [102, 105, 108, 101, 32, 97, 98, 115, 101, 110, 116]).toList == [115, 101, 114, 118, 105, 99, 101, 32, 114, 117, 110, 110, 105, 110, 103]) = false := by rw [strL_bytes]; rfl
  have e7 : ((strL [102, 105, 108, 101, 32, 97, 98, 115, 101, 110, 116]).toList == [102, 105, 108, 101, 32, 97, 98, 115, 101, 110, 116]) = true := by rw [strL_bytes]; rfl
  have e8 : ((strL [102, 105, 108, 101, 32, 97, 98, 115, 101, 110, 116]).toList == [97, 99, 99, 111, 117, 110, 116, 32, 97, 98, 115, 101, 110, 116]) = false := by rw [strL_bytes]; rfl
  have e9 : ((strL [102, 105, 108, 101, 32, 97, 98, 115, 101, 110, 116]).toList == [103, 114, 111, 117, 112, 32, 97, 98, 115, 101, 110, 116]) = false := by rw [strL_bytes]; rfl
  have e10 : ((strL [102, 105, 108, 101, 32, 97, 98, 115, 101, 110, 116]).toList == [112, 97, 99, 107, 97, 103, 101, 32, 97, 98, 115, 101, 110, 116]) = false := by rw [strL_bytes]; rfl
  have e11 : ((strL [102, 105, 108, 101, 32, 97, 98, 115, 101, 110, 116]).toList == [115, 101, 114, 118, 105, 99, 101, 32, 115, 116, 111, 112, 112, 101, 100]) = false := by rw [strL_bytes]; rfl
  go_enter Tryd.func23, Tryd.ntmps23
  go_wp2_with fail
  all_goals
    go_ret2
    exact RulesOut.yes (by decide) rfl rfl rfl
set_option maxRecDepth 100000 in
set_option maxHeartbeats 1000000 in
theorem rules_account_present (w : World) : Calls Tryd.prog 23 #[.string (strL nAccount), .string (strL nPresent)] w (RulesOut nAccount nPresent w) := by
  have hq : (strL nAccount ++ { data := #[32] }) ++ strL nPresent = strL [97, 99, 99, 111, 117, 110, 116, 32, 112, 114, 101, 115, 101, 110, 116] := rfl
  have s1 : (strL nAccount).size = 7 := rfl
  have s2 : (strL nPresent).size = 7 := rfl
  have s3 : (strL nAccount ++ { data := #[32] }).size = 8 := rfl
  have e0 : ((strL [97, 99, 99, 111, 117, 110, 116, 32, 112, 114, 101, 115, 101, 110, 116]).toList == [102, 105, 108, 101, 32, 102, 105, 108, 101]) = false := by rw [strL_bytes]; rfl
  have e1 : ((strL [97, 99, 99, 111, 117, 110, 116, 32, 112, 114, 101, 115, 101, 110, 116]).toList == [102, 105, 108, 101, 32, 100, 105, 114, 101, 99, 116, 111, 114, 121]) = false := by rw [strL_bytes]; rfl
  have e2 : ((strL [97, 99, 99, 111, 117, 110, 116, 32, 112, 114, 101, 115, 101, 110, 116]).toList == [102, 105, 108, 101, 32, 108, 105, 110, 107]) = false := by rw [strL_bytes]; rfl
  have e3 : ((strL [97, 99, 99, 111, 117, 110, 116, 32, 112, 114, 101, 115, 101, 110, 116]).toList == [97, 99, 99, 111, 117, 110, 116, 32, 112, 114, 101, 115, 101, 110, 116]) = true := by rw [strL_bytes]; rfl
  have e4 : ((strL [97, 99, 99, 111, 117, 110, 116, 32, 112, 114, 101, 115, 101, 110, 116]).toList == [103, 114, 111, 117, 112, 32, 112, 114, 101, 115, 101, 110, 116]) = false := by rw [strL_bytes]; rfl
  have e5 : ((strL [97, 99, 99, 111, 117, 110, 116, 32, 112, 114, 101, 115, 101, 110, 116]).toList == [112, 97, 99, 107, 97, 103, 101, 32, 112, 114, 101, 115, 101, 110, 116]) = false := by rw [strL_bytes]; rfl
  have e6 : ((strL [97, 99, 99, 111, 117, 110, 116, 32, 112, 114, 101, 115, 101, 110, 116]).toList == [115, 101, 114, 118, 105, 99, 101, 32, 114, 117, 110, 110, 105, 110, 103]) = false := by rw [strL_bytes]; rfl
  have e7 : ((strL [97, 99, 99, 111, 117, 110, 116, 32, 112, 114, 101, 115, 101, 110, 116]).toList == [102, 105, 108, 101, 32, 97, 98, 115, 101, 110, 116]) = false := by rw [strL_bytes]; rfl
  have e8 : ((strL [97, 99, 99, 111, 117, 110, 116, 32, 112, 114, 101, 115, 101, 110, 116]).toList == [97, 99, 99, 111, 117, 110, 116, 32, 97, 98, 115, 101, 110, 116]) = false := by rw [strL_bytes]; rfl
  have e9 : ((strL [97, 99, 99, 111, 117, 110, 116, 32, 112, 114, 101, 115, 101, 110, 116]).toList == [103, 114, 111, 117, 112, 32, 97, 98, 115, 101, 110, 116]) = false := by rw [strL_bytes]; rfl
  have e10 : ((strL [97, 99, 99, 111, 117, 110, 116, 32, 112, 114, 101, 115, 101, 110, 116]).toList == [112, 97, 99, 107, 97, 103, 101, 32, 97, 98, 115, 101, 110, 116]) = false := by rw [strL_bytes]; rfl
  have e11 : ((strL [97, 99, 99, 111, 117, 110, 116, 32, 112, 114, 101, 115, 101, 110, 116]).toList == [115, 101, 114, 118, 105, 99, 101, 32, 115, 116, 111, 112, 112, 101, 100]) = false := by rw [strL_bytes]; rfl
  go_enter Tryd.func23, Tryd.ntmps23
  go_wp2_with fail
  all_goals
    go_ret2
    exact RulesOut.yes (by decide) rfl rfl rfl
set_option maxRecDepth 100000 in
set_option maxHeartbeats 1000000 in
theorem rules_account_absent (w : World) : Calls Tryd.prog 23 #[.string (strL nAccount), .string (strL nAbsent)] w (RulesOut nAccount nAbsent w) := by
  have hq : (strL nAccount ++ { data := #[32] }) ++ strL nAbsent = strL [97, 99, 99, 111, 117, 110, 116, 32, 97, 98, 115, 101, 110, 116] := rfl
  have s1 : (strL nAccount).size = 7 := rfl
  have s2 : (strL nAbsent).size = 6 := rfl
  have s3 : (strL nAccount ++ { data := #[32] }).size = 8 := rfl
  have e0 : ((strL [97, 99, 99, 111, 117, 110, 116, 32, 97, 98, 115, 101, 110, 116]).toList == [102, 105, 108, 101, 32, 102, 105, 108, 101]) = false := by rw [strL_bytes]; rfl
  have e1 : ((strL [97, 99, 99, 111, 117, 110, 116, 32, 97, 98, 115, 101, 110, 116]).toList == [102, 105, 108, 101, 32, 100, 105, 114, 101, 99, 116, 111, 114, 121]) = false := by rw [strL_bytes]; rfl
  have e2 : ((strL [97, 99, 99, 111, 117, 110, 116, 32, 97, 98, 115, 101, 110, 116]).toList == [102, 105, 108, 101, 32, 108, 105, 110, 107]) = false := by rw [strL_bytes]; rfl
  have e3 : ((strL [97, 99, 99, 111, 117, 110, 116, 32, 97, 98, 115, 101, 110, 116]).toList == [97, 99, 99, 111, 117, 110, 116, 32, 112, 114, 101, 115, 101, 110, 116]) = false := by rw [strL_bytes]; rfl
  have e4 : ((strL [97, 99, 99, 111, 117, 110, 116, 32, 97, 98, 115, 101, 110, 116]).toList == [103, 114, 111, 117, 112, 32, 112, 114, 101, 115, 101, 110, 116]) = false := by rw [strL_bytes]; rfl
  have e5 : ((strL [97, 99, 99, 111, 117, 110, 116, 32, 97, 98, 115, 101, 110, 116]).toList == [112, 97, 99, 107, 97, 103, 101, 32, 112, 114, 101, 115, 101, 110, 116]) = false := by rw [strL_bytes]; rfl
  have e6 : ((strL [97, 99, 99, 111, 117, 110, 116, 32, 97, 98, 115, 101, 110, 116]).toList == [115, 101, 114, 118, 105, 99, 101, 32, 114, 117, 110, 110, 105, 110, 103]) = false := by rw [strL_bytes]; rfl
  have e7 : ((strL [97, 99, 99, 111, 117, 110, 116, 32, 97, 98, 115, 101, 110, 116]).toList == [102, 105, 108, 101, 32, 97, 98, 115, 101, 110, 116]) = false := by rw [strL_bytes]; rfl
  have e8 : ((strL [97, 99, 99, 111, 117, 110, 116, 32, 97, 98, 115, 101, 110, 116]).toList == [97, 99, 99, 111, 117, 110, 116, 32, 97, 98, 115, 101, 110, 116]) = true := by rw [strL_bytes]; rfl
  have e9 : ((strL [97, 99, 99, 111, 117, 110, 116, 32, 97, 98, 115, 101, 110, 116]).toList == [103, 114, 111, 117, 112, 32, 97, 98, 115, 101, 110, 116]) = false := by rw [strL_bytes]; rfl
  have e10 : ((strL [97, 99, 99, 111, 117, 110, 116, 32, 97, 98, 115, 101, 110, 116]).toList == [112, 97, 99, 107, 97, 103, 101, 32, 97, 98, 115, 101, 110, 116]) = false := by rw [strL_bytes]; rfl
  have e11 : ((strL [97, 99, 99, 111, 117, 110, 116, 32, 97, 98, 115, 101, 110, 116]).toList == [115, 101, 114, 118, 105, 99, 101, 32, 115, 116, 111, 112, 112, 101, 100]) = false := by rw [strL_bytes]; rfl
  go_enter Tryd.func23, Tryd.ntmps23
  go_wp2_with fail
  all_goals
    go_ret2
    exact RulesOut.yes (by decide) rfl rfl rfl
set_option maxRecDepth 100000 in
set_option maxHeartbeats 1000000 in
theorem rules_group_present (w : World) : Calls Tryd.prog 23 #[.string (strL nGroup), .string (strL nPresent)] w (RulesOut nGroup nPresent w) := by
  have hq : (strL nGroup ++ { data := #[32] }) ++ strL nPresent = strL [103, 114, 111, 117, 112, 32, 112, 114, 101, 115, 101, 110, 116] := rfl
  have s1 : (strL nGroup).size = 5 := rfl
  have s2 : (strL nPresent).size = 7 := rfl
  have s3 : (strL nGroup ++ { data := #[32] }).size = 6 := rfl
  have e0 : ((strL [103, 114, 111, 117, 112, 32, 112, 114, 101, 115, 101, 110, 116]).toList == [102, 105, 108, 101, 32, 102, 105, 108, 101]) = false := by rw [strL_bytes]; rfl
  have e1 : ((strL [103, 114, 111, 117, 112, 32, 112, 114, 101, 115, 101, 110, 116]).toList == [102, 105, 108, 101, 32, 100, 105, 114, 101, 99, 116, 111, 114, 121]) = false := by rw [strL_bytes]; rfl
  have e2 : ((strL [103, 114, 111, 117, 112, 32, 112, 114, 101, 115, 101, 110, 116]).toList == [102, 105, 108, 101, 32, 108, 105, 110, 107]) = false := by rw [strL_bytes]; rfl
  have e3 : ((strL [103, 114, 111, 117, 112, 32, 112, 114, 101, 115, 101, 110, 116]).toList == [97, 99, 99, 111, 117, 110, 116, 32, 112, 114, 101, 115, 101, 110, 116]) = false := by rw [strL_bytes]; rfl
  have e4 : ((strL [103, 114, 111, 117, 112, 32, 112, 114, 101, 115, 101, 110, 116]).toList == [103, 114, 111, 117, 112, 32, 112, 114, 101, 115, 101, 110, 116]) = true := by rw [strL_bytes]; rfl
  have e5 : ((strL [103, 114, 111, 117, 112, 32, 112, 114, 101, 115, 101, 110, 116]).toList == [112, 97, 99, 107, 97, 103, 101, 32, 112, 114, 101, 115, 101, 110, 116]) = false := by rw [strL_bytes]; rfl
  have e6 : ((strL [103, 114, 111, 117, 112, 32, 112, 114, 101, 115, 101, 110, 116]).toList == [115, 101, 114, 118, 105, 99, 101, 32, 114, 117, 110, 110, 105, 110, 103]) = false := by rw [strL_bytes]; rfl
  have e7 : ((strL [103, 114, 111, 117, 112, 32, 112, 114, 101, 115, 101, 110, 116]).toList == [102, 105, 108, 101, 32, 97, 98, 115, 101, 110, 116]) = false := by rw [strL_bytes]; rfl
  have e8 : ((strL [103, 114, 111, 117, 112, 32, 112, 114, 101, 115, 101, 110, 116]).toList == [97, 99, 99, 111, 117, 110, 116, 32, 97, 98, 115, 101, 110, 116]) = false := by rw [strL_bytes]; rfl
  have e9 : ((strL [103, 114, 111, 117, 112, 32, 112, 114, 101, 115, 101, 110, 116]).toList == [103, 114, 111, 117, 112, 32, 97, 98, 115, 101, 110, 116]) = false := by rw [strL_bytes]; rfl
  have e10 : ((strL [103, 114, 111, 117, 112, 32, 112, 114, 101, 115, 101, 110, 116]).toList == [112, 97, 99, 107, 97, 103, 101, 32, 97, 98, 115, 101, 110, 116]) = false := by rw [strL_bytes]; rfl
  have e11 : ((strL [103, 114, 111, 117, 112, 32, 112, 114, 101, 115, 101, 110, 116]).toList == [115, 101, 114, 118, 105, 99, 101, 32, 115, 116, 111, 112, 112, 101, 100]) = false := by rw [strL_bytes]; rfl
  go_enter Tryd.func23, Tryd.ntmps23
  go_wp2_with fail
  all_goals
    go_ret2
    exact RulesOut.yes (by decide) rfl rfl rfl
set_option maxRecDepth 100000 in
set_option maxHeartbeats 1000000 in
theorem rules_group_absent (w : World) : Calls Tryd.prog 23 #[.string (strL nGroup), .string (strL nAbsent)] w (RulesOut nGroup nAbsent w) := by
  have hq : (strL nGroup ++ { data := #[32] }) ++ strL nAbsent = strL [103, 114, 111, 117, 112, 32, 97, 98, 115, 101, 110, 116] := rfl
  have s1 : (strL nGroup).size = 5 := rfl
  have s2 : (strL nAbsent).size = 6 := rfl
  have s3 : (strL nGroup ++ { data := #[32] }).size = 6 := rfl
  have e0 : ((strL [103, 114, 111, 117, 112, 32, 97, 98, 115, 101, 110, 116]).toList == [102, 105, 108, 101, 32, 102, 105, 108, 101]) = false := by rw [strL_bytes]; rfl
  have e1 : ((strL [103, 114, 111, 117, 112, 32, 97, 98, 115, 101, 110, 116]).toList == [102, 105, 108, 101, 32, 100, 105, 114, 101, 99, 116, 111, 114, 121]) = false := by rw [strL_bytes]; rfl
  have e2 : ((strL [103, 114, 111, 117, 112, 32, 97, 98, 115, 101, 110, 116]).toList == [102, 105, 108, 101, 32, 108, 105, 110, 107]) = false := by rw [strL_bytes]; rfl
  have e3 : ((strL [103, 114, 111, 117, 112, 32, 97, 98, 115, 101, 110, 116]).toList == [97, 99, 99, 111, 117, 110, 116, 32, 112, 114, 101, 115, 101, 110, 116]) = false := by rw [strL_bytes]; rfl
  have e4 : ((strL [103, 114, 111, 117, 112, 32, 97, 98, 115, 101, 110, 116]).toList == [103, 114, 111, 117, 112, 32, 112, 114, 101, 115, 101, 110, 116]) = false := by rw [strL_bytes]; rfl
  have e5 : ((strL [103, 114, 111, 117, 112, 32, 97, 98, 115, 101, 110, 116]).toList == [112, 97, 99, 107, 97, 103, 101, 32, 112, 114, 101, 115, 101, 110, 116]) = false := by rw [strL_bytes]; rfl
  have e6 : ((strL [103, 114, 111, 117, 112, 32, 97, 98, 115, 101, 110, 116]).toList == [115, 101, 114, 118, 105, 99, 101, 32, 114, 117, 110, 110, 105, 110, 103]) = false := by rw [strL_bytes]; rfl
  have e7 : ((strL [103, 114, 111, 117, 112, 32, 97, 98, 115, 101, 110, 116]).toList == [102, 105, 108, 101, 32, 97, 98, 115, 101, 110, 116]) = false := by rw [strL_bytes]; rfl
  have e8 : ((strL [103, 114, 111, 117, 112, 32, 97, 98, 115, 101, 110, 116]).toList == [97, 99, 99, 111, 117, 110, 116, 32, 97, 98, 115, 101, 110, 116]) = false := by rw [strL_bytes]; rfl
  have e9 : ((strL [103, 114, 111, 117, 112, 32, 97, 98, 115, 101, 110, 116]).toList == [103, 114, 111, 117, 112, 32, 97, 98, 115, 101, 110, 116]) = true := by rw [strL_bytes]; rfl
  have e10 : ((strL [103, 114, 111, 117, 112, 32, 97, 98, 115, 101, 110, 116]).toList == [112, 97, 99, 107, 97, 103, 101, 32, 97, 98, 115, 101, 110, 116]) = false := by rw [strL_bytes]; rfl
  have e11 : ((strL [103, 114, 111, 117, 112, 32, 97, 98, 115, 101, 110, 116]).toList == [115, 101, 114, 118, 105, 99, 101, 32, 115, 116, 111, 112, 112, 101, 100]) = false := by rw [strL_bytes]; rfl
  go_enter Tryd.func23, Tryd.ntmps23
  go_wp2_with fail
  all_goals
    go_ret2
    exact RulesOut.yes (by decide) rfl rfl rfl
set_option maxRecDepth 100000 in
set_option maxHeartbeats 1000000 in
theorem rules_package_present (w : World) : Calls Tryd.prog 23 #[.string (strL nPackage), .string (strL nPresent)] w (RulesOut nPackage nPresent w) := by
  have hq : (strL nPackage ++ { data := #[32] }) ++ strL nPresent = strL [112, 97, 99, 107, 97, 103, 101, 32, 112, 114, 101, 115, 101, 110, 116] := rfl
  have s1 : (strL nPackage).size = 7 := rfl
  have s2 : (strL nPresent).size = 7 := rfl
  have s3 : (strL nPackage ++ { data := #[32] }).size = 8 := rfl
  have e0 : ((strL [112, 97, 99, 107, 97, 103, 101, 32, 112, 114, 101, 115, 101, 110, 116]).toList == [102, 105, 108, 101, 32, 102, 105, 108, 101]) = false := by rw [strL_bytes]; rfl
  have e1 : ((strL [112, 97, 99, 107, 97, 103, 101, 32, 112, 114, 101, 115, 101, 110, 116]).toList == [102, 105, 108, 101, 32, 100, 105, 114, 101, 99, 116, 111, 114, 121]) = false := by rw [strL_bytes]; rfl
  have e2 : ((strL [112, 97, 99, 107, 97, 103, 101, 32, 112, 114, 101, 115, 101, 110, 116]).toList == [102, 105, 108, 101, 32, 108, 105, 110, 107]) = false := by rw [strL_bytes]; rfl
  have e3 : ((strL [112, 97, 99, 107, 97, 103, 101, 32, 112, 114, 101, 115, 101, 110, 116]).toList == [97, 99, 99, 111, 117, 110, 116, 32, 112, 114, 101, 115, 101, 110, 116]) = false := by rw [strL_bytes]; rfl
  have e4 : ((strL [112, 97, 99, 107, 97, 103, 101, 32, 112, 114, 101, 115, 101, 110, 116]).toList == [103, 114, 111, 117, 112, 32, 112, 114, 101, 115, 101, 110, 116]) = false := by rw [strL_bytes]; rfl
  have e5 : ((strL [112, 97, 99, 107, 97, 103, 101, 32, 112, 114, 101, 115, 101, 110, 116]).toList == [112, 97, 99, 107, 97, 103, 101, 32, 112, 114, 101, 115, 101, 110, 116]) = true := by rw [strL_bytes]; rfl
  have e6 : ((strL [112, 97, 99, 107, 97, 103, 101, 32, 112, 114, 101, 115, 101, 110, 116]).toList == [115, 101, 114, 118, 105, 99, 101, 32, 114, 117, 110, 110, 105, 110, 103]) = false := by rw [strL_bytes]; rfl
  have e7 : ((strL [112, 97, 99, 107, 97, 103, 101, 32, 112, 114, 101, 115, 101, 110, 116]).toList == [102, 105, 108, 101, 32, 97, 98, 115, 101, 110, 116]) = false := by rw [strL_bytes]; rfl
  have e8 : ((strL [112, 97, 99, 107, 97, 103, 101, 32, 112, 114, 101, 115, 101, 110, 116]).toList == [97, 99, 99, 111, 117, 110, 116, 32, 97, 98, 115, 101, 110, 116]) = false := by rw [strL_bytes]; rfl
  have e9 : ((strL [112, 97, 99, 107, 97, 103, 101, 32, 112, 114, 101, 115, 101, 110, 116]).toList == [103, 114, 111, 117, 112, 32, 97, 98, 115, 101, 110, 116]) = false := by rw [strL_bytes]; rfl
  have e10 : ((strL [112, 97, 99, 107, 97, 103, 101, 32, 112, 114, 101, 115, 101, 110, 116]).toList == [112, 97, 99, 107, 97, 103, 101, 32, 97, 98, 115, 101, 110, 116]) = false := by rw [strL_bytes]; rfl
  have e11 : ((strL [112, 97, 99, 107, 97, 103, 101, 32, 112, 114, 101, 115, 101, 110, 116]).toList == [115, 101, 114, 118, 105, 99, 101, 32, 115, 116, 111, 112, 112, 101, 100]) = false := by rw [strL_bytes]; rfl
  go_enter Tryd.func23, Tryd.ntmps23
  go_wp2_with fail
  all_goals
    go_ret2
    exact RulesOut.yes (by decide) rfl rfl rfl
set_option maxRecDepth 100000 in
set_option maxHeartbeats 1000000 in
theorem rules_package_absent (w : World) : Calls Tryd.prog 23 #[.string (strL nPackage), .string (strL nAbsent)] w (RulesOut nPackage nAbsent w) := by
  have hq : (strL nPackage ++ { data := #[32] }) ++ strL nAbsent = strL [112, 97, 99, 107, 97, 103, 101, 32, 97, 98, 115, 101, 110, 116] := rfl
  have s1 : (strL nPackage).size = 7 := rfl
  have s2 : (strL nAbsent).size = 6 := rfl
  have s3 : (strL nPackage ++ { data := #[32] }).size = 8 := rfl
  have e0 : ((strL [112, 97, 99, 107, 97, 103, 101, 32, 97, 98, 115, 101, 110, 116]).toList == [102, 105, 108, 101, 32, 102, 105, 108, 101]) = false := by rw [strL_bytes]; rfl
  have e1 : ((strL [112, 97, 99, 107, 97, 103, 101, 32, 97, 98, 115, 101, 110, 116]).toList == [102, 105, 108, 101, 32, 100, 105, 114, 101, 99, 116, 111, 114, 121]) = false := by rw [strL_bytes]; rfl
  have e2 : ((strL [112, 97, 99, 107, 97, 103, 101, 32, 97, 98, 115, 101, 110, 116]).toList == [102, 105, 108, 101, 32, 108, 105, 110, 107]) = false := by rw [strL_bytes]; rfl
  have e3 : ((strL [112, 97, 99, 107, 97, 103, 101, 32, 97, 98, 115, 101, 110, 116]).toList == [97, 99, 99, 111, 117, 110, 116, 32, 112, 114, 101, 115, 101, 110, 116]) = false := by rw [strL_bytes]; rfl
  have e4 : ((strL [112, 97, 99, 107, 97, 103, 101, 32, 97, 98, 115, 101, 110, 116]).toList == [103, 114, 111, 117, 112, 32, 112, 114, 101, 115, 101, 110, 116]) = false := by rw [strL_bytes]; rfl
  have e5 : ((strL [112, 97, 99, 107, 97, 103, 101, 32, 97, 98, 115, 101, 110, 116]).toList == [112, 97, 99, 107, 97, 103, 101, 32, 112, 114, 101, 115, 101, 110, 116]) = false := by rw [strL_bytes]; rfl
  have e6 : ((strL [112, 97, 99, 107, 97, 103, 101, 32, 97, 98, 115, 101, 110, 116]).toList == [115, 101, 114, 118, 105, 99, 101, 32, 114, 117, 110, 110, 105, 110, 103]) = false := by rw [strL_bytes]; rfl
  have e7 : ((strL [112, 97, 99, 107, 97, 103, 101, 32, 97, 98, 115, 101, 110, 116]).toList == [102, 105, 108, 101, 32, 97, 98, 115, 101, 110, 116]) = false := by rw [strL_bytes]; rfl
  have e8 : ((strL [112, 97, 99, 107, 97, 103, 101, 32, 97, 98, 115, 101, 110, 116]).toList == [97, 99, 99, 111, 117, 110, 116, 32, 97, 98, 115, 101, 110, 116]) = false := by rw [strL_bytes]; rfl
  have e9 : ((strL [112, 97, 99, 107, 97, 103, 101, 32, 97, 98, 115, 101, 110, 116]).toList == [103, 114, 111, 117, 112, 32, 97, 98, 115, 101, 110, 116]) = false := by rw [strL_bytes]; rfl
  have e10 : ((strL [112, 97, 99, 107, 97, 103, 101, 32, 97, 98, 115, 101, 110, 116]).toList == [112, 97, 99, 107, 97, 103, 101, 32, 97, 98, 115, 101, 110, 116]) = true := by rw [strL_bytes]; rfl
  have e11 : ((strL [112, 97, 99, 107, 97, 103, 101, 32, 97, 98, 115, 101, 110, 116]).toList == [115, 101, 114, 118, 105, 99, 101, 32, 115, 116, 111, 112, 112, 101, 100]) = false := by rw [strL_bytes]; rfl
  go_enter Tryd.func23, Tryd.ntmps23
  go_wp2_with fail
  all_goals
    go_ret2
    exact RulesOut.yes (by decide) rfl rfl rfl
set_option maxRecDepth 100000 in
set_option maxHeartbeats 1000000 in
theorem rules_service_running (w : World) : Calls Tryd.prog 23 #[.string (strL nService), .string (strL nRunning)] w (RulesOut nService nRunning w) := by
  have hq : (strL nService ++ { data := #[32] }) ++ strL nRunning = strL [115, 101, 114, 118, 105, 99, 101, 32, 114, 117, 110, 110, 105, 110, 103] := rfl
  have s1 : (strL nService).size = 7 := rfl
  have s2 : (strL nRunning).size = 7 := rfl
  have s3 : (strL nService ++ { data := #[32] }).size = 8 := rfl
  have e0 : ((strL [115, 101, 114, 118, 105, 99, 101, 32, 114, 117, 110, 110, 105, 110, 103]).toList == [102, 105, 108, 101, 32, 102, 105, 108, 101]) = false := by rw [strL_bytes]; rfl
  have e1 : ((strL [115, 101, 114, 118, 105, 99, 101, 32, 114, 117, 110, 110, 105, 110, 103]).toList == [102, 105, 108, 101, 32, 100, 105, 114, 101, 99, 116, 111, 114, 121]) = false := by rw [strL_bytes]; rfl
  have e2 : ((strL [115, 101, 114, 118, 105, 99, 101, 32, 114, 117, 110, 110, 105, 110, 103]).toList == [102, 105, 108, 101, 32, 108, 105, 110, 107]) = false := by rw [strL_bytes]; rfl
  have e3 : ((strL [115, 101, 114, 118, 105, 99, 101, 32, 114, 117, 110, 110, 105, 110, 103]).toList == [97, 99, 99, 111, 117, 110, 116, 32, 112, 114, 101, 115, 101, 110, 116]) = false := by rw [strL_bytes]; rfl
  have e4 : ((strL [115, 101, 114, 118, 105, 99, 101, 32, 114, 117, 110, 110, 105, 110, 103]).toList == [103, 114, 111, 117, 112, 32, 112, 114, 101, 115, 101, 110, 116]) = false := by rw [strL_bytes]; rfl
  have e5 : ((strL [115, 101, 114, 118, 105, 99, 101, 32, 114, 117, 110, 110, 105, 110, 103]).toList == [112, 97, 99, 107, 97, 103, 101, 32, 112, 114, 101, 115, 101, 110, 116]) = false := by rw [strL_bytes]; rfl
  have e6 : ((strL [115, 101, 114, 118, 105, 99, 101, 32, 114, 117, 110, 110, 105, 110, 103]).toList == [115, 101, 114, 118, 105, 99, 101, 32, 114, 117, 110, 110, 105, 110, 103]) = true := by rw [strL_bytes]; rfl
  have e7 : ((strL [115, 101, 114, 118, 105, 99, 101, 32, 114, 117, 110, 110, 105, 110, 103]).toList == [102, 105, 108, 101, 32, 97, 98, 115, 101, 110, 116]) = false := by rw [strL_bytes]; rfl
  have e8 : ((strL [115, 101, 114, 118, 105, 99, 101, 32, 114, 117, 110, 110, 105, 110, 103]).toList == [97, 99, 99, 111, 117, 110, 116, 32, 97, 98, 115, 101, 110, 116]) = false := by rw [strL_bytes]; rfl
  have e9 : ((strL [115, 101, 114, 118, 105, 99, 101, 32, 114, 117, 110, 110, 105, 110, 103]).toList == [103, 114, 111, 117, 112, 32, 97, 98, 115, 101, 110, 116]) = false := by rw [strL_bytes]; rfl
  have e10 : ((strL [115, 101, 114, 118, 105, 99, 101, 32, 114, 117, 110, 110, 105, 110, 103]).toList == [112, 97, 99, 107, 97, 103, 101, 32, 97, 98, 115, 101, 110, 116]) = false := by rw [strL_bytes]; rfl
  have e11 : ((strL [115, 101, 114, 118, 105, 99, 101, 32, 114, 117, 110, 110, 105, 110, 103]).toList == [115, 101, 114, 118, 105, 99, 101, 32, 115, 116, 111, 112, 112, 101, 100]) = false := by rw [strL_bytes]; rfl
  go_enter Tryd.func23, Tryd.ntmps23
  go_wp2_with fail
  all_goals
    go_ret2
    exact RulesOut.yes (by decide) rfl rfl rfl
set_option maxRecDepth 100000 in
set_option maxHeartbeats 1000000 in
theorem rules_service_stopped (w : World) : Calls Tryd.prog 23 #[.string (strL nService), .string (strL nStopped)] w (RulesOut nService nStopped w) := by
  have hq : (strL nService ++ { data := #[32] }) ++ strL nStopped = strL [115, 101, 114, 118, 105, 99, 101, 32, 115, 116, 111, 112, 112, 101, 100] := rfl
  have s1 : (strL nService).size = 7 := rfl
  have s2 : (strL nStopped).size = 7 := rfl
  have s3 : (strL nService ++ { data := #[32] }).size = 8 := rfl
  have e0 : ((strL [115, 101, 114, 118, 105, 99, 101, 32, 115, 116, 111, 112, 112, 101, 100]).toList == [102, 105, 108, 101, 32, 102, 105, 108, 101]) = false := by rw [strL_bytes]; rfl
  have e1 : ((strL [115, 101, 114, 118, 105, 99, 101, 32, 115, 116, 111, 112, 112, 101, 100]).toList == [102, 105, 108, 101, 32, 100, 105, 114, 101, 99, 116, 111, 114, 121]) = false := by rw [strL_bytes]; rfl
  have e2 : ((strL [115, 101, 114, 118, 105, 99, 101, 32, 115, 116, 111, 112, 112, 101, 100]).toList == [102, 105, 108, 101, 32, 108, 105, 110, 107]) = false := by rw [strL_bytes]; rfl
  have e3 : ((strL [115, 101, 114, 118, 105, 99, 101, 32, 115, 116, 111, 112, 112, 101, 100]).toList == [97, 99, 99, 111, 117, 110, 116, 32, 112, 114, 101, 115, 101, 110, 116]) = false := by rw [strL_bytes]; rfl
  have e4 : ((strL [115, 101, 114, 118, 105, 99, 101, 32, 115, 116, 111, 112, 112, 101, 100]).toList == [103, 114, 111, 117, 112, 32, 112, 114, 101, 115, 101, 110, 116]) = false := by rw [strL_bytes]; rfl
  have e5 : ((strL [115, 101, 114, 118, 105, 99, 101, 32, 115, 116, 111, 112, 112, 101, 100]).toList == [112, 97, 99, 107, 97, 103, 101, 32, 112, 114, 101, 115, 101, 110, 116]) = false := by rw [strL_bytes]; rfl
  have e6 : ((strL [115, 101, 114, 118, 105, 99, 101, 32, 115, 116, 111, 112, 112, 101, 100]).toList == [115, 101, 114, 118, 105, 99, 101, 32, 114, 117, 110, 110, 105, 110, 103]) = false := by rw [strL_bytes]; rfl
  have e7 : ((strL [115, 101, 114, 118, 105, 99, 101, 32, 115, 116, 111, 112, 112, 101, 100]).toList == [102, 105, 108, 101, 32, 97, 98, 115, 101, 110, 116]) = false := by rw [strL_bytes]; rfl
  have e8 : ((strL [115, 101, 114, 118, 105, 99, 101, 32, 115, 116, 111, 112, 112, 101, 100]).toList == [97, 99, 99, 111, 117, 110, 116, 32, 97, 98, 115, 101, 110, 116]) = false := by rw [strL_bytes]; rfl
  have e9 : ((strL [115, 101, 114, 118, 105, 99, 101, 32, 115, 116, 111, 112, 112, 101, 100]).toList == [103, 114, 111, 117, 112, 32, 97, 98, 115, 101, 110, 116]) = false := by rw [strL_bytes]; rfl
  have e10 : ((strL [115, 101, 114, 118, 105, 99, 101, 32, 115, 116, 111, 112, 112, 101, 100]).toList == [112, 97, 99, 107, 97, 103, 101, 32, 97, 98, 115, 101, 110, 116]) = false := by rw [strL_bytes]; rfl
  have e11 : ((strL [115, 101, 114, 118, 105, 99, 101, 32, 115, 116, 111, 112, 112, 101, 100]).toList == [115, 101, 114, 118, 105, 99, 101, 32, 115, 116, 111, 112, 112, 101, 100]) = true := by rw [strL_bytes]; rfl
  go_enter Tryd.func23, Tryd.ntmps23
  go_wp2_with fail
  all_goals
    go_ret2
    exact RulesOut.yes (by decide) rfl rfl rfl
set_option maxRecDepth 100000 in
set_option maxHeartbeats 1000000 in
theorem rules_file_no (st : List UInt8) (w : World) (hs : st.length ≤ 140737488355328) (h0 : st ≠ nFile) (h1 : st ≠ nDirectory) (h2 : st ≠ nLink) (h3 : st ≠ nAbsent) : Calls Tryd.prog 23 #[.string (strL nFile), .string (strL st)] w (RulesOut nFile st w) := by
  have hq : (strL nFile ++ { data := #[32] }) ++ strL st = strL (nFile ++ 32 :: st) := by
    rw [show (strL nFile ++ { data := #[32] }) = strL (nFile ++ [32]) from rfl, strL_app]
    simp
  have s1 : (strL nFile).size = 4 := rfl
  have s2 : (strL st).size ≤ 140737488355328 := by rw [strL_size]; exact hs
  have s3 : (strL nFile ++ { data := #[32] }).size = 5 := rfl
  have e0 : ((strL (nFile ++ 32 :: st)).toList == [102, 105, 108, 101, 32, 102, 105, 108, 101]) = false := by rw [strL_bytes, beq_eq_false_iff_ne]; intro e; exact h0 (by simpa [nFile, nFile] using e)
  have e1 : ((strL (nFile ++ 32 :: st)).toList == [102, 105, 108, 101, 32, 100, 105, 114, 101, 99, 116, 111, 114, 121]) = false := by rw [strL_bytes, beq_eq_false_iff_ne]; intro e; exact h1 (by simpa [nFile, nDirectory] using e)
  have e2 : ((strL (nFile ++ 32 :: st)).toList == [102, 105, 108, 101, 32, 108, 105, 110, 107]) = false := by rw [strL_bytes, beq_eq_false_iff_ne]; intro e; exact h2 (by simpa [nFile, nLink] using e)
  have e3 : ((strL (nFile ++ 32 :: st)).toList == [97, 99, 99, 111, 117, 110, 116, 32, 112, 114, 101, 115, 101, 110, 116]) = false := by rw [strL_bytes, beq_eq_false_iff_ne]; intro e; simp [nFile] at e
  have e4 : ((strL (nFile ++ 32 :: st)).toList == [103, 114, 111, 117, 112, 32, 112, 114, 101, 115, 101, 110, 116]) = false := by rw [strL_bytes, beq_eq_false_iff_ne]; intro e; simp [nFile] at e
  have e5 : ((strL (nFile ++ 32 :: st)).toList == [112, 97, 99, 107, 97, 103, 101, 32, 112, 114, 101, 115, 101, 110, 116]) = false := by rw [strL_bytes, beq_eq_false_iff_ne]; intro e; simp [nFile] at e
  have e6 : ((strL (nFile ++ 32 :: st)).toList == [115, 101, 114, 118, 105, 99, 101, 32, 114, 117, 110, 110, 105, 110, 103]) = false := by rw [strL_bytes, beq_eq_false_iff_ne]; intro e; simp [nFile] at e
  have e7 : ((strL (nFile ++ 32 :: st)).toList == [102, 105, 108, 101, 32, 97, 98, 115, 101, 110, 116]) = false := by rw [strL_bytes, beq_eq_false_iff_ne]; intro e; exact h3 (by simpa [nFile, nAbsent] using e)
  have e8 : ((strL (nFile ++ 32 :: st)).toList == [97, 99, 99, 111, 117, 110, 116, 32, 97, 98, 115, 101, 110, 116]) = false := by rw [strL_bytes, beq_eq_false_iff_ne]; intro e; simp [nFile] at e
  have e9 : ((strL (nFile ++ 32 :: st)).toList == [103, 114, 111, 117, 112, 32, 97, 98, 115, 101, 110, 116]) = false := by rw [strL_bytes, beq_eq_false_iff_ne]; intro e; simp [nFile] at e
  have e10 : ((strL (nFile ++ 32 :: st)).toList == [112, 97, 99, 107, 97, 103, 101, 32, 97, 98, 115, 101, 110, 116]) = false := by rw [strL_bytes, beq_eq_false_iff_ne]; intro e; simp [nFile] at e
  have e11 : ((strL (nFile ++ 32 :: st)).toList == [115, 101, 114, 118, 105, 99, 101, 32, 115, 116, 111, 112, 112, 101, 100]) = false := by rw [strL_bytes, beq_eq_false_iff_ne]; intro e; simp [nFile] at e
  have HS : Hid (slotsK (kindI nFile) st = []) := by show fileK st = []; unfold fileK; rw [if_neg h0, if_neg h1, if_neg h2, if_neg h3]
  clear h0 h1 h2 h3
  go_enter Tryd.func23, Tryd.ntmps23
  go_wp2_with fail
  all_goals
    go_ret2
    exact RulesOut.no HS.out
set_option maxRecDepth 100000 in
set_option maxHeartbeats 1000000 in
theorem rules_account_no (st : List UInt8) (w : World) (hs : st.length ≤ 140737488355328) (h0 : st ≠ nPresent) (h1 : st ≠ nAbsent) : Calls Tryd.prog 23 #[.string (strL nAccount), .string (strL st)] w (RulesOut nAccount st w) := by
  have hq : (strL nAccount ++ { data := #[32] }) ++ strL st = strL (nAccount ++ 32 :: st) := by
    rw [show (strL nAccount ++ { data := #[32] }) = strL (nAccount ++ [32]) from rfl, strL_app]
    simp
  have s1 : (strL nAccount).size = 7 := rfl
  have s2 : (strL st).size ≤ 140737488355328 := by rw [strL_size]; exact hs
  have s3 : (strL nAccount ++ { data := #[32] }).size = 8 := rfl
  have e0 : ((strL (nAccount ++ 32 :: st)).toList == [102, 105, 108, 101, 32, 102, 105, 108, 101]) = false := by rw [strL_bytes, beq_eq_false_iff_ne]; intro e; simp [nAccount] at e
  have e1 : ((strL (nAccount ++ 32 :: st)).toList == [102, 105, 108, 101, 32, 100, 105, 114, 101, 99, 116, 111, 114, 121]) = false := by rw [strL_bytes, beq_eq_false_iff_ne]; intro e; simp [nAccount] at e
  have e2 : ((strL (nAccount ++ 32 :: st)).toList == [102, 105, 108, 101, 32, 108, 105, 110, 107]) = false := by rw [strL_bytes, beq_eq_false_iff_ne]; intro e; simp [nAccount] at e
  have e3 : ((strL (nAccount ++ 32 :: st)).toList == [97, 99, 99, 111, 117, 110, 116, 32, 112, 114, 101, 115, 101, 110, 116]) = false := by rw [strL_bytes, beq_eq_false_iff_ne]; intro e; exact h0 (by simpa [nAccount, nPresent] using e)
  have e4 : ((strL (nAccount ++ 32 :: st)).toList == [103, 114, 111, 117, 112, 32, 112, 114, 101, 115, 101, 110, 116]) = false := by rw [strL_bytes, beq_eq_false_iff_ne]; intro e; simp [nAccount] at e
  have e5 : ((strL (nAccount ++ 32 :: st)).toList == [112, 97, 99, 107, 97, 103, 101, 32, 112, 114, 101, 115, 101, 110, 116]) = false := by rw [strL_bytes, beq_eq_false_iff_ne]; intro e; simp [nAccount] at e
  have e6 : ((strL (nAccount ++ 32 :: st)).toList == [115, 101, 114, 118, 105, 99, 101, 32, 114, 117, 110, 110, 105, 110, 103]) = false := by rw [strL_bytes, beq_eq_false_iff_ne]; intro e; simp [nAccount] at e
  have e7 : ((strL (nAccount ++ 32 :: st)).toList == [102, 105, 108, 101, 32, 97, 98, 115, 101, 110, 116]) = false := by rw [strL_bytes, beq_eq_false_iff_ne]; intro e; simp [nAccount] at e
  have e8 : ((strL (nAccount ++ 32 :: st)).toList == [97, 99, 99, 111, 117, 110, 116, 32, 97, 98, 115, 101, 110, 116]) = false := by rw [strL_bytes, beq_eq_false_iff_ne]; intro e; exact h1 (by simpa [nAccount, nAbsent] using e)
  have e9 : ((strL (nAccount ++ 32 :: st)).toList == [103, 114, 111, 117, 112, 32, 97, 98, 115, 101, 110, 116]) = false := by rw [strL_bytes, beq_eq_false_iff_ne]; intro e; simp [nAccount] at e
  have e10 : ((strL (nAccount ++ 32 :: st)).toList == [112, 97, 99, 107, 97, 103, 101, 32, 97, 98, 115, 101, 110, 116]) = false := by rw [strL_bytes, beq_eq_false_iff_ne]; intro e; simp [nAccount] at e
  have e11 : ((strL (nAccount ++ 32 :: st)).toList == [115, 101, 114, 118, 105, 99, 101, 32, 115, 116, 111, 112, 112, 101, 100]) = false := by rw [strL_bytes, beq_eq_false_iff_ne]; intro e; simp [nAccount] at e
  have HS : Hid (slotsK (kindI nAccount) st = []) := by show recK st lAccount = []; unfold recK; rw [if_neg h0, if_neg h1]
  clear h0 h1
  go_enter Tryd.func23, Tryd.ntmps23
  go_wp2_with fail
  all_goals
    go_ret2
    exact RulesOut.no HS.out
set_option maxRecDepth 100000 in
set_option maxHeartbeats 1000000 in
theorem rules_group_no (st : List UInt8) (w : World) (hs : st.length ≤ 140737488355328) (h0 : st ≠ nPresent) (h1 : st ≠ nAbsent) : Calls Tryd.prog 23 #[.string (strL nGroup), .string (strL st)] w (RulesOut nGroup st w) := by
  have hq : (strL nGroup ++ { data := #[32] }) ++ strL st = strL (nGroup ++ 32 :: st) := by
    rw [show (strL nGroup ++ { data := #[32] }) = strL (nGroup ++ [32]) from rfl, strL_app]
    simp
  have s1 : (strL nGroup).size = 5 := rfl
  have s2 : (strL st).size ≤ 140737488355328 := by rw [strL_size]; exact hs
  have s3 : (strL nGroup ++ { data := #[32] }).size = 6 := rfl
  have e0 : ((strL (nGroup ++ 32 :: st)).toList == [102, 105, 108, 101, 32, 102, 105, 108, 101]) = false := by rw [strL_bytes, beq_eq_false_iff_ne]; intro e; simp [nGroup] at e
  have e1 : ((strL (nGroup ++ 32 :: st)).toList == [102, 105, 108, 101, 32, 100, 105, 114, 101, 99, 116, 111, 114, 121]) = false := by rw [strL_bytes, beq_eq_false_iff_ne]; intro e; simp [nGroup] at e
  have e2 : ((strL (nGroup ++ 32 :: st)).toList == [102, 105, 108, 101, 32, 108, 105, 110, 107]) = false := by rw [strL_bytes, beq_eq_false_iff_ne]; intro e; simp [nGroup] at e
  have e3 : ((strL (nGroup ++ 32 :: st)).toList == [97, 99, 99, 111, 117, 110, 116, 32, 112, 114, 101, 115, 101, 110, 116]) = false := by rw [strL_bytes, beq_eq_false_iff_ne]; intro e; simp [nGroup] at e
  have e4 : ((strL (nGroup ++ 32 :: st)).toList == [103, 114, 111, 117, 112, 32, 112, 114, 101, 115, 101, 110, 116]) = false := by rw [strL_bytes, beq_eq_false_iff_ne]; intro e; exact h0 (by simpa [nGroup, nPresent] using e)
  have e5 : ((strL (nGroup ++ 32 :: st)).toList == [112, 97, 99, 107, 97, 103, 101, 32, 112, 114, 101, 115, 101, 110, 116]) = false := by rw [strL_bytes, beq_eq_false_iff_ne]; intro e; simp [nGroup] at e
  have e6 : ((strL (nGroup ++ 32 :: st)).toList == [115, 101, 114, 118, 105, 99, 101, 32, 114, 117, 110, 110, 105, 110, 103]) = false := by rw [strL_bytes, beq_eq_false_iff_ne]; intro e; simp [nGroup] at e
  have e7 : ((strL (nGroup ++ 32 :: st)).toList == [102, 105, 108, 101, 32, 97, 98, 115, 101, 110, 116]) = false := by rw [strL_bytes, beq_eq_false_iff_ne]; intro e; simp [nGroup] at e
  have e8 : ((strL (nGroup ++ 32 :: st)).toList == [97, 99, 99, 111, 117, 110, 116, 32, 97, 98, 115, 101, 110, 116]) = false := by rw [strL_bytes, beq_eq_false_iff_ne]; intro e; simp [nGroup] at e
  have e9 : ((strL (nGroup ++ 32 :: st)).toList == [103, 114, 111, 117, 112, 32, 97, 98, 115, 101, 110, 116]) = false := by rw [strL_bytes, beq_eq_false_iff_ne]; intro e; exact h1 (by simpa [nGroup, nAbsent] using e)
  have e10 : ((strL (nGroup ++ 32 :: st)).toList == [112, 97, 99, 107, 97, 103, 101, 32, 97, 98, 115, 101, 110, 116]) = false := by rw [strL_bytes, beq_eq_false_iff_ne]; intro e; simp [nGroup] at e
  have e11 : ((strL (nGroup ++ 32 :: st)).toList == [115, 101, 114, 118, 105, 99, 101, 32, 115, 116, 111, 112, 112, 101, 100]) = false := by rw [strL_bytes, beq_eq_false_iff_ne]; intro e; simp [nGroup] at e
  have HS : Hid (slotsK (kindI nGroup) st = []) := by show recK st lGroup = []; unfold recK; rw [if_neg h0, if_neg h1]
  clear h0 h1
  go_enter Tryd.func23, Tryd.ntmps23
  go_wp2_with fail
  all_goals
    go_ret2
    exact RulesOut.no HS.out
set_option maxRecDepth 100000 in
set_option maxHeartbeats 1000000 in
theorem rules_package_no (st : List UInt8) (w : World) (hs : st.length ≤ 140737488355328) (h0 : st ≠ nPresent) (h1 : st ≠ nAbsent) : Calls Tryd.prog 23 #[.string (strL nPackage), .string (strL st)] w (RulesOut nPackage st w) := by
  have hq : (strL nPackage ++ { data := #[32] }) ++ strL st = strL (nPackage ++ 32 :: st) := by
    rw [show (strL nPackage ++ { data := #[32] }) = strL (nPackage ++ [32]) from rfl, strL_app]
    simp
  have s1 : (strL nPackage).size = 7 := rfl
  have s2 : (strL st).size ≤ 140737488355328 := by rw [strL_size]; exact hs
  have s3 : (strL nPackage ++ { data := #[32] }).size = 8 := rfl
  have e0 : ((strL (nPackage ++ 32 :: st)).toList == [102, 105, 108, 101, 32, 102, 105, 108, 101]) = false := by rw [strL_bytes, beq_eq_false_iff_ne]; intro e; simp [nPackage] at e
  have e1 : ((strL (nPackage ++ 32 :: st)).toList == [102, 105, 108, 101, 32, 100, 105, 114, 101, 99, 116, 111, 114, 121]) = false := by rw [strL_bytes, beq_eq_false_iff_ne]; intro e; simp [nPackage] at e
  have e2 : ((strL (nPackage ++ 32 :: st)).toList == [102, 105, 108, 101, 32, 108, 105, 110, 107]) = false := by rw [strL_bytes, beq_eq_false_iff_ne]; intro e; simp [nPackage] at e
  have e3 : ((strL (nPackage ++ 32 :: st)).toList == [97, 99, 99, 111, 117, 110, 116, 32, 112, 114, 101, 115, 101, 110, 116]) = false := by rw [strL_bytes, beq_eq_false_iff_ne]; intro e; simp [nPackage] at e
  have e4 : ((strL (nPackage ++ 32 :: st)).toList == [103, 114, 111, 117, 112, 32, 112, 114, 101, 115, 101, 110, 116]) = false := by rw [strL_bytes, beq_eq_false_iff_ne]; intro e; simp [nPackage] at e
  have e5 : ((strL (nPackage ++ 32 :: st)).toList == [112, 97, 99, 107, 97, 103, 101, 32, 112, 114, 101, 115, 101, 110, 116]) = false := by rw [strL_bytes, beq_eq_false_iff_ne]; intro e; exact h0 (by simpa [nPackage, nPresent] using e)
  have e6 : ((strL (nPackage ++ 32 :: st)).toList == [115, 101, 114, 118, 105, 99, 101, 32, 114, 117, 110, 110, 105, 110, 103]) = false := by rw [strL_bytes, beq_eq_false_iff_ne]; intro e; simp [nPackage] at e
  have e7 : ((strL (nPackage ++ 32 :: st)).toList == [102, 105, 108, 101, 32, 97, 98, 115, 101, 110, 116]) = false := by rw [strL_bytes, beq_eq_false_iff_ne]; intro e; simp [nPackage] at e
  have e8 : ((strL (nPackage ++ 32 :: st)).toList == [97, 99, 99, 111, 117, 110, 116, 32, 97, 98, 115, 101, 110, 116]) = false := by rw [strL_bytes, beq_eq_false_iff_ne]; intro e; simp [nPackage] at e
  have e9 : ((strL (nPackage ++ 32 :: st)).toList == [103, 114, 111, 117, 112, 32, 97, 98, 115, 101, 110, 116]) = false := by rw [strL_bytes, beq_eq_false_iff_ne]; intro e; simp [nPackage] at e
  have e10 : ((strL (nPackage ++ 32 :: st)).toList == [112, 97, 99, 107, 97, 103, 101, 32, 97, 98, 115, 101, 110, 116]) = false := by rw [strL_bytes, beq_eq_false_iff_ne]; intro e; exact h1 (by simpa [nPackage, nAbsent] using e)
  have e11 : ((strL (nPackage ++ 32 :: st)).toList == [115, 101, 114, 118, 105, 99, 101, 32, 115, 116, 111, 112, 112, 101, 100]) = false := by rw [strL_bytes, beq_eq_false_iff_ne]; intro e; simp [nPackage] at e
  have HS : Hid (slotsK (kindI nPackage) st = []) := by show recK st lPackage = []; unfold recK; rw [if_neg h0, if_neg h1]
  clear h0 h1
  go_enter Tryd.func23, Tryd.ntmps23
  go_wp2_with fail
  all_goals
    go_ret2
    exact RulesOut.no HS.out
set_option maxRecDepth 100000 in
set_option maxHeartbeats 1000000 in
theorem rules_service_no (st : List UInt8) (w : World) (hs : st.length ≤ 140737488355328) (h0 : st ≠ nRunning) (h1 : st ≠ nStopped) : Calls Tryd.prog 23 #[.string (strL nService), .string (strL st)] w (RulesOut nService st w) := by
  have hq : (strL nService ++ { data := #[32] }) ++ strL st = strL (nService ++ 32 :: st) := by
    rw [show (strL nService ++ { data := #[32] }) = strL (nService ++ [32]) from rfl, strL_app]
    simp
  have s1 : (strL nService).size = 7 := rfl
  have s2 : (strL st).size ≤ 140737488355328 := by rw [strL_size]; exact hs
  have s3 : (strL nService ++ { data := #[32] }).size = 8 := rfl
  have e0 : ((strL (nService ++ 32 :: st)).toList == [102, 105, 108, 101, 32, 102, 105, 108, 101]) = false := by rw [strL_bytes, beq_eq_false_iff_ne]; intro e; simp [nService] at e
  have e1 : ((strL (nService ++ 32 :: st)).toList == [102, 105, 108, 101, 32, 100, 105, 114, 101, 99, 116, 111, 114, 121]) = false := by rw [strL_bytes, beq_eq_false_iff_ne]; intro e; simp [nService] at e
  have e2 : ((strL (nService ++ 32 :: st)).toList == [102, 105, 108, 101, 32, 108, 105, 110, 107]) = false := by rw [strL_bytes, beq_eq_false_iff_ne]; intro e; simp [nService] at e
  have e3 : ((strL (nService ++ 32 :: st)).toList == [97, 99, 99, 111, 117, 110, 116, 32, 112, 114, 101, 115, 101, 110, 116]) = false := by rw [strL_bytes, beq_eq_false_iff_ne]; intro e; simp [nService] at e
  have e4 : ((strL (nService ++ 32 :: st)).toList == [103, 114, 111, 117, 112, 32, 112, 114, 101, 115, 101, 110, 116]) = false := by rw [strL_bytes, beq_eq_false_iff_ne]; intro e; simp [nService] at e
  have e5 : ((strL (nService ++ 32 :: st)).toList == [112, 97, 99, 107, 97, 103, 101, 32, 112, 114, 101, 115, 101, 110, 116]) = false := by rw [strL_bytes, beq_eq_false_iff_ne]; intro e; simp [nService] at e
  have e6 : ((strL (nService ++ 32 :: st)).toList == [115, 101, 114, 118, 105, 99, 101, 32, 114, 117, 110, 110, 105, 110, 103]) = false := by rw [strL_bytes, beq_eq_false_iff_ne]; intro e; exact h0 (by simpa [nService, nRunning] using e)
  have e7 : ((strL (nService ++ 32 :: st)).toList == [102, 105, 108, 101, 32, 97, 98, 115, 101, 110, 116]) = false := by rw [strL_bytes, beq_eq_false_iff_ne]; intro e; simp [nService] at e
  have e8 : ((strL (nService ++ 32 :: st)).toList == [97, 99, 99, 111, 117, 110, 116, 32, 97, 98, 115, 101, 110, 116]) = false := by rw [strL_bytes, beq_eq_false_iff_ne]; intro e; simp [nService] at e
  have e9 : ((strL (nService ++ 32 :: st)).toList == [103, 114, 111, 117, 112, 32, 97, 98, 115, 101, 110, 116]) = false := by rw [strL_bytes, beq_eq_false_iff_ne]; intro e; simp [nService] at e
  have e10 : ((strL (nService ++ 32 :: st)).toList == [112, 97, 99, 107, 97, 103, 101, 32, 97, 98, 115, 101, 110, 116]) = false := by rw [strL_bytes, beq_eq_false_iff_ne]; intro e; simp [nService] at e
  have e11 : ((strL (nService ++ 32 :: st)).toList == [115, 101, 114, 118, 105, 99, 101, 32, 115, 116, 111, 112, 112, 101, 100]) = false := by rw [strL_bytes, beq_eq_false_iff_ne]; intro e; exact h1 (by simpa [nService, nStopped] using e)
  have HS : Hid (slotsK (kindI nService) st = []) := by show servK st = []; unfold servK; rw [if_neg h0, if_neg h1]
  clear h0 h1
  go_enter Tryd.func23, Tryd.ntmps23
  go_wp2_with fail
  all_goals
    go_ret2
    exact RulesOut.no HS.out
theorem kindI_cases {t : List UInt8} (h : kindI t ≠ 0) : t = nFile ∨ t = nAccount ∨ t = nGroup ∨ t = nPackage ∨ t = nService := by
  unfold kindI at h
  by_cases h0 : t = nFile; · exact .inl h0
  by_cases h1 : t = nAccount; · exact .inr (.inl h1)
  by_cases h2 : t = nGroup; · exact .inr (.inr (.inl h2))
  by_cases h3 : t = nPackage; · exact .inr (.inr (.inr (.inl h3)))
  by_cases h4 : t = nService; · exact .inr (.inr (.inr (.inr h4)))
  rw [if_neg h0, if_neg h1, if_neg h2, if_neg h3, if_neg h4] at h
  exact absurd rfl h
theorem rules_any (k st : List UInt8) (w : World) (hk : kindI k ≠ 0) (hs : st.length ≤ 140737488355328) : Calls Tryd.prog 23 #[.string (strL k), .string (strL st)] w (RulesOut k st w) := by
  rcases kindI_cases hk with rfl | rfl | rfl | rfl | rfl
  · by_cases h0 : st = nFile
    · subst h0; exact rules_file_file w
    by_cases h1 : st = nDirectory
    · subst h1; exact rules_file_directory w
    by_cases h2 : st = nLink
    · subst h2; exact rules_file_link w
    by_cases h3 : st = nAbsent
    · subst h3; exact rules_file_absent w
    exact rules_file_no st w hs h0 h1 h2 h3
  · by_cases h0 : st = nPresent
    · subst h0; exact rules_account_present w
    by_cases h1 : st = nAbsent
    · subst h1; exact rules_account_absent w
    exact rules_account_no st w hs h0 h1
  · by_cases h0 : st = nPresent
    · subst h0; exact rules_group_present w
    by_cases h1 : st = nAbsent
    · subst h1; exact rules_group_absent w
    exact rules_group_no st w hs h0 h1
  · by_cases h0 : st = nPresent
    · subst h0; exact rules_package_present w
    by_cases h1 : st = nAbsent
    · subst h1; exact rules_package_absent w
    exact rules_package_no st w hs h0 h1
  · by_cases h0 : st = nRunning
    · subst h0; exact rules_service_running w
    by_cases h1 : st = nStopped
    · subst h1; exact rules_service_stopped w
    exact rules_service_no st w hs h0 h1
end Go.Proofs.YthpfnkanilfohaaDoor

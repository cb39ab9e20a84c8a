/-
  Layer 6: the document's first, rules, value and title.
  Conditions: those that each theorem states.
  Layer 6: the document's value and title.
  Conditions: those that each theorem states.
  Layer 6: the document's test of parameters is the program's. No program text.
  Conditions: those that each theorem states.
-/
import Derived.Test.YtfofhnbijjocfaaGreatDoorQRef
namespace Go.Proofs.YtfofhnbijjocfaaGreatDoor
open Go.RowKit Go.Maps
set_option maxRecDepth 100000

set_option maxHeartbeats 1000000 in
theorem rsfirst_any (t : List UInt8) (w : World) : Calls Tryz.prog 40 #[.string (strL t)] w fun e w' => e = .returned (.string (strL (dfltK (kindI t)))) ∧ w = w' := by
  by_cases h0 : t = nFile
  · subst h0
    have e0 : ((strL nFile).toList == [102, 105, 108, 101]) = true := by rw [strL_bytes]; rfl
    have e1 : ((strL nFile).toList == [97, 99, 99, 111, 117, 110, 116]) = false := by rw [strL_bytes]; rfl
    have e2 : ((strL nFile).toList == [103, 114, 111, 117, 112]) = false := by rw [strL_bytes]; rfl
    have e3 : ((strL nFile).toList == [112, 97, 99, 107, 97, 103, 101]) = false := by rw [strL_bytes]; rfl
    have e4 : ((strL nFile).toList == [115, 101, 114, 118, 105, 99, 101]) = false := by rw [strL_bytes]; rfl
    go_enter Tryz.func40, Tryz.ntmps40
    go_wp2_with fail
    all_goals
      go_ret
      exact ⟨rfl, rfl⟩
  by_cases h1 : t = nAccount
  · subst h1
    have e0 : ((strL nAccount).toList == [102, 105, 108, 101]) = false := by rw [strL_bytes]; rfl
    have e1 : ((strL nAccount).toList == [97, 99, 99, 111, 117, 110, 116]) = true := by rw [strL_bytes]; rfl
    have e2 : ((strL nAccount).toList == [103, 114, 111, 117, 112]) = false := by rw [strL_bytes]; rfl
    have e3 : ((strL nAccount).toList == [112, 97, 99, 107, 97, 103, 101]) = false := by rw [strL_bytes]; rfl
    have e4 : ((strL nAccount).toList == [115, 101, 114, 118, 105, 99, 101]) = false := by rw [strL_bytes]; rfl
    go_enter Tryz.func40, Tryz.ntmps40
    go_wp2_with fail
    all_goals
      go_ret
      exact ⟨rfl, rfl⟩
  by_cases h2 : t = nGroup
  · subst h2
    have e0 : ((strL nGroup).toList == [102, 105, 108, 101]) = false := by rw [strL_bytes]; rfl
    have e1 : ((strL nGroup).toList == [97, 99, 99, 111, 117, 110, 116]) = false := by rw [strL_bytes]; rfl
    have e2 : ((strL nGroup).toList == [103, 114, 111, 117, 112]) = true := by rw [strL_bytes]; rfl
    have e3 : ((strL nGroup).toList == [112, 97, 99, 107, 97, 103, 101]) = false := by rw [strL_bytes]; rfl
    have e4 : ((strL nGroup).toList == [115, 101, 114, 118, 105, 99, 101]) = false := by rw [strL_bytes]; rfl
    go_enter Tryz.func40, Tryz.ntmps40
    go_wp2_with fail
    all_goals
      go_ret
      exact ⟨rfl, rfl⟩
  by_cases h3 : t = nPackage
  · subst h3
    have e0 : ((strL nPackage).toList == [102, 105, 108, 101]) = false := by rw [strL_bytes]; rfl
    have e1 : ((strL nPackage).toList == [97, 99, 99, 111, 117, 110, 116]) = false := by rw [strL_bytes]; rfl
    have e2 : ((strL nPackage).toList == [103, 114, 111, 117, 112]) = false := by rw [strL_bytes]; rfl
    have e3 : ((strL nPackage).toList == [112, 97, 99, 107, 97, 103, 101]) = true := by rw [strL_bytes]; rfl
    have e4 : ((strL nPackage).toList == [115, 101, 114, 118, 105, 99, 101]) = false := by rw [strL_bytes]; rfl
    go_enter Tryz.func40, Tryz.ntmps40
    go_wp2_with fail
    all_goals
      go_ret
      exact ⟨rfl, rfl⟩
  by_cases h4 : t = nService
  · subst h4
    have e0 : ((strL nService).toList == [102, 105, 108, 101]) = false := by rw [strL_bytes]; rfl
    have e1 : ((strL nService).toList == [97, 99, 99, 111, 117, 110, 116]) = false := by rw [strL_bytes]; rfl
    have e2 : ((strL nService).toList == [103, 114, 111, 117, 112]) = false := by rw [strL_bytes]; rfl
    have e3 : ((strL nService).toList == [112, 97, 99, 107, 97, 103, 101]) = false := by rw [strL_bytes]; rfl
    have e4 : ((strL nService).toList == [115, 101, 114, 118, 105, 99, 101]) = true := by rw [strL_bytes]; rfl
    go_enter Tryz.func40, Tryz.ntmps40
    go_wp2_with fail
    all_goals
      go_ret
      exact ⟨rfl, rfl⟩
  have e0 : ((strL t).toList == [102, 105, 108, 101]) = false := by rw [strL_bytes]; exact beq_eq_false_iff_ne.2 h0
  have e1 : ((strL t).toList == [97, 99, 99, 111, 117, 110, 116]) = false := by rw [strL_bytes]; exact beq_eq_false_iff_ne.2 h1
  have e2 : ((strL t).toList == [103, 114, 111, 117, 112]) = false := by rw [strL_bytes]; exact beq_eq_false_iff_ne.2 h2
  have e3 : ((strL t).toList == [112, 97, 99, 107, 97, 103, 101]) = false := by rw [strL_bytes]; exact beq_eq_false_iff_ne.2 h3
  have e4 : ((strL t).toList == [115, 101, 114, 118, 105, 99, 101]) = false := by rw [strL_bytes]; exact beq_eq_false_iff_ne.2 h4
  have HK : Hid (kindI t = 0) := by show _ = _; unfold kindI; rw [if_neg h0, if_neg h1, if_neg h2, if_neg h3, if_neg h4]
  clear h0 h1 h2 h3 h4
  go_enter Tryz.func40, Tryz.ntmps40
  go_wp2_with fail
  all_goals
    go_ret
    exact ⟨by rw [HK.out]; rfl, rfl⟩

/-- The cells of rules. -/
def rlv : List (Prm × Bool) → List Value
  | [] => []
  | x :: l => .string (strL x.1.1) :: .string (strL x.1.2) :: .bool x.2 :: rlv l
theorem rlv_get : ∀ (l : List (Prm × Bool)) (k : Nat) (hk : k < l.length), (rlv l)[3 * k]? = some (.string (strL l[k].1.1)) ∧ (rlv l)[3 * k + 1]? = some (.string (strL l[k].1.2)) ∧ (rlv l)[3 * k + 2]? = some (.bool l[k].2)
  | x :: l, 0, _ => ⟨rfl, rfl, rfl⟩
  | x :: l, k + 1, hk => by
    have := rlv_get l k (by simpa using hk)
    rw [show 3 * (k + 1) = 3 * k + 3 by omega, show 3 * k + 3 + 1 = 3 * k + 1 + 3 by omega, show 3 * k + 3 + 2 = 3 * k + 2 + 3 by omega]
    simpa [rlv] using this
/-- A slice of rules. -/
def RuleRow (w : World) (v : Value) (L : List (Prm × Bool)) : Prop :=
  (L = [] ∧ v = .slice none 0 0) ∨ ∃ b cap, v = .slice (some ⟨b, 0, none⟩) L.length cap ∧ b < w.heap.size ∧ w.rangeAt b 0 (rlv L)
theorem RuleRow.kept {w w' : World} {v : Value} {L : List (Prm × Bool)} (h : RuleRow w v L) (hk : Kept [] w w') : RuleRow w' v L := by
  rcases h with h | ⟨b, cap, rfl, hb, hr⟩
  · exact .inl h
  · exact .inr ⟨b, cap, rfl, Nat.lt_of_lt_of_le hb hk.size, hk.range hb (by simp) hr⟩
theorem RuleRow.cell {w : World} {v : Value} {L : List (Prm × Bool)} (h : RuleRow w v L) : ∃ ao cap, v = .slice ao L.length cap ∧ (0 < L.length → ∃ b, ao = some ⟨b, 0, none⟩ ∧ b < w.heap.size ∧ ∀ k (hk : k < L.length),
    w.cell? ⟨b, k * 3, none⟩ = some (.string (strL L[k].1.1)) ∧ w.cell? ⟨b, k * 3 + 1, none⟩ = some (.string (strL L[k].1.2)) ∧ w.cell? ⟨b, k * 3 + 2, none⟩ = some (.bool L[k].2)) := by
  rcases h with ⟨rfl, rfl⟩ | ⟨b, cap, rfl, hb, hr⟩
  · exact ⟨none, 0, rfl, fun h => absurd h (by simp)⟩
  · refine ⟨_, cap, rfl, fun _ => ⟨b, rfl, hb, fun k hk => ?_⟩⟩
    obtain ⟨e0, e1, e2⟩ := rlv_get L k hk
    have f0 := hr _ _ e0
    have f1 := hr _ _ e1
    have f2 := hr _ _ e2
    rw [show 0 + 3 * k = k * 3 by omega] at f0
    rw [show 0 + (3 * k + 1) = k * 3 + 1 by omega] at f1
    rw [show 0 + (3 * k + 2) = k * 3 + 2 by omega] at f2
    exact ⟨f0, f1, f2⟩
/-- What the document's table says. -/
def rulesK (k : Nat) (st : List UInt8) : List (Prm × Bool) := (slotsK k st).map fun s => ((s.1, if s.1 = nEnsure ∧ st ≠ dfltK k then [] else s.2), decide (s.1 = nTarget))
def RulesOut (k st : List UInt8) (w : World) (e : Ending) (w' : World) : Prop := ∃ v b, e = .returned (.tuple #[v, .bool b]) ∧ Hid (b = decide (slotsK (kindI k) st ≠ []) ∧ RuleRow w' v (rulesK (kindI k) st) ∧ Kept [] w w')
theorem RulesOut.yes {k st : List UInt8} {w : World} {n : Nat} {L : List (Prm × Bool)} {cs : Array Value} (h0 : slotsK (kindI k) st ≠ []) (hL : rulesK (kindI k) st = L) (hn : L.length = n) (hc : cs = (rlv L).toArray) :
    RulesOut k st w (.returned (.tuple #[.slice (some ⟨w.heap.size, 0, none⟩) n n, .bool true])) (w.alloc (.cells cs 76)) := by
  subst hn hc
  refine ⟨_, _, rfl, by rw [decide_eq_true h0], .inr ⟨w.heap.size, _, by rw [hL], by rw [size_alloc]; exact Nat.lt_succ_self _, fun j u hu => ?_⟩, Kept.alloc _ _ _⟩
  rw [hL] at hu
  rw [Nat.zero_add, cell_of_row _ _ j _ _ _ (heap_alloc_last w _)]
  simpa using hu
theorem RulesOut.no {k st : List UInt8} {w : World} (h0 : slotsK (kindI k) st = []) : RulesOut k st w (.returned (.tuple #[.slice none 0 0, .bool false])) w := by
  refine ⟨_, _, rfl, by rw [h0]; rfl, .inl ⟨by unfold rulesK; rw [h0]; rfl, rfl⟩, Kept.refl _ _⟩
theorem strL_app (a b : List UInt8) : strL a ++ strL b = strL (a ++ b) := by
  apply ByteArray.ext
  apply Array.toList_inj.1
  simp [strL]

set_option maxRecDepth 100000 in
set_option maxHeartbeats 1000000 in
theorem rules_file_file (w : World) : Calls Tryz.prog 41 #[.string (strL nFile), .string (strL nFile)] w (RulesOut nFile nFile w) := by
  have hq : (strL nFile ++ { data := #[32] }) ++ strL nFile = strL [102, 105, 108, 101, 32, 102, 105, 108, 101] := rfl
  have s1 : (strL nFile).size = 4 := rfl
  have s2 : (strL nFile).size = 4 := rfl
  have s3 : (strL nFile ++ { data := #[32] }).size = 5 := rfl
  have e0 : ((strL [102, 105, 108, 101, 32, 102, 105, 108, 101]).toList == [102, 105, 108, 101, 32, 102, 105, 108, 101]) = true := by rw [strL_bytes]; rfl
  have e1 : ((strL [102, 105, 108, 101, 32, 102, 105, 108, 101]).toList == [102, 105, 108, 101, 32, 100, 105, 114, 101, 99, 116, 111, 114, 121]) = false := by rw [strL_bytes]; rfl
  have e2 : ((strL [102, 105, 108, 101, 32, 102, 105, 108, 101]).toList == [102, 105, 108, 101, 32, 108, 105, 110, 107]) = false := by rw [strL_bytes]; rfl
  have e3 : ((strL [102, 105, 108, 101, 32, 102, 105, 108, 101]).toList == [97, 99, 99, 111, 117, 110, 116, 32, 112, 114, 101, 115, 101, 110, 116]) = false := by rw [strL_bytes]; rfl
  have e4 : ((strL [102, 105, 108, 101, 32, 102, 105, 108, 101]).toList == [103, 114, 111, 117, 112, 32, 112, 114, 101, 115, 101, 110, 116]) = false := by rw [strL_bytes]; rfl
  have e5 : ((strL [102, 105, 108, 101, 32, 102, 105, 108, 101]).toList == [112, 97, 99, 107, 97, 103, 101, 32, 112, 114, 101, 115, 101, 110, 116]) = false := by rw [strL_bytes]; rfl
  have e6 : ((strL [102, 105, 108, 101, 32, 102, 105, 108, 101]).toList == [115, 101, 114, 118, 105, 99, 101, 32, 114, 117, 110, 110, 105, 110, 103]) = false := by rw [strL_bytes]; rfl
  have e7 : ((strL [102, 105, 108, 101, 32, 102, 105, 108, 101]).toList == [102, 105, 108, 101, 32, 97, 98, 115, 101, 110, 116]) = false := by rw [strL_bytes]; rfl
  have e8 : ((strL [102, 105, 108, 101, 32, 102, 105, 108, 101]).toList == [97, 99, 99, 111, 117, 110, 116, 32, 97, 98, 115, 101, 110, 116]) = false := by rw [strL_bytes]; rfl
  have e9 : ((strL [102, 105, 108, 101, 32, 102, 105, 108, 101]).toList == [103, 114, 111, 117, 112, 32, 97, 98, 115, 101, 110, 116]) = false := by rw [strL_bytes]; rfl
  have e10 : ((strL [102, 105, 108, 101, 32, 102, 105, 108, 101]).toList == [112, 97, 99, 107, 97, 103, 101, 32, 97, 98, 115, 101, 110, 116]) = false := by rw [strL_bytes]; rfl
  have e11 : ((strL [102, 105, 108, 101, 32, 102, 105, 108, 101]).toList == [115, 101, 114, 118, 105, 99, 101, 32, 115, 116, 111, 112, 112, 101, 100]) = false := by rw [strL_bytes]; rfl
  go_enter Tryz.func41, Tryz.ntmps41
  go_wp2_with fail
  all_goals
    go_ret2
    exact RulesOut.yes (by decide) rfl rfl rfl
set_option maxRecDepth 100000 in
set_option maxHeartbeats 1000000 in
theorem rules_file_directory (w : World) : Calls Tryz.prog 41 #[.string (strL nFile), .string (strL nDirectory)] w (RulesOut nFile nDirectory w) := by
  have hq : (strL nFile ++ { data := #[32] }) ++ strL nDirectory = strL [102, 105, 108, 101, 32, 100, 105, 114, 101, 99, 116, 111, 114, 121] := rfl
  have s1 : (strL nFile).size = 4 := rfl
  have s2 : (strL nDirectory).size = 9 := rfl
  have s3 : (strL nFile ++ { data := #[32] }).size = 5 := rfl
  have e0 : ((strL [102, 105, 108, 101, 32, 100, 105, 114, 101, 99, 116, 111, 114, 121]).toList == [102, 105, 108, 101, 32, 102, 105, 108, 101]) = false := by rw [strL_bytes]; rfl
  have e1 : ((strL [102, 105, 108, 101, 32, 100, 105, 114, 101, 99, 116, 111, 114, 121]).toList == [102, 105, 108, 101, 32, 100, 105, 114, 101, 99, 116, 111, 114, 121]) = true := by rw [strL_bytes]; rfl
  have e2 : ((strL [102, 105, 108, 101, 32, 100, 105, 114, 101, 99, 116, 111, 114, 121]).toList == [102, 105, 108, 101, 32, 108, 105, 110, 107]) = false := by rw [strL_bytes]; rfl
  have e3 : ((strL [102, 105, 108, 101, 32, 100, 105, 114, 101, 99, 116, 111, 114, 121]).toList == [97, 99, 99, 111, 117, 110, 116, 32, 112, 114, 101, 115, 101, 110, 116]) = false := by rw [strL_bytes]; rfl
  have e4 : ((strL [102, 105, 108, 101, 32, 100, 105, 114, 101, 99, 116, 111, 114, 121]).toList == [103, 114, 111, 117, 112, 32, 112, 114, 101, 115, 101, 110, 116]) = false := by rw [strL_bytes]; rfl
  have e5 : ((strL [102, 105, 108, 101, 32, 100, 105, 114, 101, 99, 116, 111, 114, 121]).toList == [112, 97, 99, 107, 97, 103, 101, 32, 112, 114, 101, 115, 101, 110, 116]) = false := by rw [strL_bytes]; rfl
  have e6 : ((strL [102, 105, 108, 101, 32, 100, 105, 114, 101, 99, 116, 111, 114, 121]).toList == [115, 101, 114, 118, 105, 99, 101, 32, 114, 117, 110, 110, 105, 110, 103]) = false := by rw [strL_bytes]; rfl
  have e7 : ((strL [102, 105, 108, 101, 32, 100, 105, 114, 101, 99, 116, 111, 114, 121]).toList == [102, 105, 108, 101, 32, 97, 98, 115, 101, 110, 116]) = false := by rw [strL_bytes]; rfl
  have e8 : ((strL [102, 105, 108, 101, 32, 100, 105, 114, 101, 99, 116, 111, 114, 121]).toList == [97, 99, 99, 111, 117, 110, 116, 32, 97, 98, 115, 101, 110, 116]) = false := by rw [strL_bytes]; rfl
  have e9 : ((strL [102, 105, 108, 101, 32, 100, 105, 114, 101, 99, 116, 111, 114, 121]).toList == [103, 114, 111, 117, 112, 32, 97, 98, 115, 101, 110, 116]) = false := by rw [strL_bytes]; rfl
  have e10 : ((strL [102, 105, 108, 101, 32, 100, 105, 114, 101, 99, 116, 111, 114, 121]).toList == [112, 97, 99, 107, 97, 103, 101, 32, 97, 98, 115, 101, 110, 116]) = false := by rw [strL_bytes]; rfl
  have e11 : ((strL [102, 105, 108, 101, 32, 100, 105, 114, 101, 99, 116, 111, 114, 121]).toList == [115, 101, 114, 118, 105, 99, 101, 32, 115, 116, 111, 112, 112, 101, 100]) = false := by rw [strL_bytes]; rfl
  go_enter Tryz.func41, Tryz.ntmps41
  go_wp2_with fail
  all_goals
    go_ret2
    exact RulesOut.yes (by decide) rfl rfl rfl
set_option maxRecDepth 100000 in
set_option maxHeartbeats 1000000 in
theorem rules_file_link (w : World) : Calls Tryz.prog 41 #[.string (strL nFile), .string (strL nLink)] w (RulesOut nFile nLink w) := by
  have hq : (strL nFile ++ { data := #[32] }) ++ strL nLink = strL [102, 105, 108, 101, 32, 108, 105, 110, 107] := rfl
  have s1 : (strL nFile).size = 4 := rfl
  have s2 : (strL nLink).size = 4 := rfl
  have s3 : (strL nFile ++ { data := #[32] }).size = 5 := rfl
  have e0 : ((strL [102, 105, 108, 101, 32, 108, 105, 110, 107]).toList == [102, 105, 108, 101, 32, 102, 105, 108, 101]) = false := by rw [strL_bytes]; rfl
  have e1 : ((strL [102, 105, 108, 101, 32, 108, 105, 110, 107]).toList == [102, 105, 108, 101, 32, 100, 105, 114, 101, 99, 116, 111, 114, 121]) = false := by rw [strL_bytes]; rfl
  have e2 : ((strL [102, 105, 108, 101, 32, 108, 105, 110, 107]).toList == [102, 105, 108, 101, 32, 108, 105, 110, 107]) = true := by rw [strL_bytes]; rfl
  have e3 : ((strL [102, 105, 108, 101, 32, 108, 105, 110, 107]).toList == [97, 99, 99, 111, 117, 110, 116, 32, 112, 114, 101, 115, 101, 110, 116]) = false := by rw [strL_bytes]; rfl
  have e4 : ((strL [102, 105, 108, 101, 32, 108, 105, 110, 107]).toList == [103, 114, 111, 117, 112, 32, 112, 114, 101, 115, 101, 110, 116]) = false := by rw [strL_bytes]; rfl
  have e5 : ((strL [102, 105, 108, 101, 32, 108, 105, 110, 107]).toList == [112, 97, 99, 107, 97, 103, 101, 32, 112, 114, 101, 115, 101, 110, 116]) = false := by rw [strL_bytes]; rfl
  have e6 : ((strL [102, 105, 108, 101, 32, 108, 105, 110, 107]).toList == [115, 101, 114, 118, 105, 99, 101, 32, 114, 117, 110, 110, 105, 110, 103]) = false := by rw [strL_bytes]; rfl
  have e7 : ((strL [102, 105, 108, 101, 32, 108, 105, 110, 107]).toList == [102, 105, 108, 101, 32, 97, 98, 115, 101, 110, 116]) = false := by rw [strL_bytes]; rfl
  have e8 : ((strL [102, 105, 108, 101, 32, 108, 105, 110, 107]).toList == [97, 99, 99, 111, 117, 110, 116, 32, 97, 98, 115, 101, 110, 116]) = false := by rw [strL_bytes]; rfl
  have e9 : ((strL [102, 105, 108, 101, 32, 108, 105, 110, 107]).toList == [103, 114, 111, 117, 112, 32, 97, 98, 115, 101, 110, 116]) = false := by rw [strL_bytes]; rfl
  have e10 : ((strL [102, 105, 108, 101, 32, 108, 105, 110, 107]).toList == [112, 97, 99, 107, 97, 103, 101, 32, 97, 98, 115, 101, 110, 116]) = false := by rw [strL_bytes]; rfl
  have e11 : ((strL [102, 105, 108, 101, 32, 108, 105, 110, 107]).toList == [115, 101, 114, 118, 105, 99, 101, 32, 115, 116, 111, 112, 112, 101, 100]) = false := by rw [strL_bytes]; rfl
  go_enter Tryz.func41, Tryz.ntmps41
  go_wp2_with fail
  all_goals
    go_ret2
    exact RulesOut.yes (by decide) rfl rfl rfl
set_option maxRecDepth 100000 in
set_option maxHeartbeats 1000000 in
theorem rules_file_absent (w : World) : Calls Tryz.prog 41 #[.string (strL nFile), .string (strL nAbsent)] w (RulesOut nFile nAbsent w) := by
  have hq : (strL nFile ++ { data := #[32] }) ++ strL nAbsent = strL [102, 105, 108, 101, 32, 97, 98, 115, 101, 110, 116] := rfl
  have s1 : (strL nFile).size = 4 := rfl
  have s2 : (strL nAbsent).size = 6 := rfl
  have s3 : (strL nFile ++ { data := #[32] }).size = 5 := rfl
  have e0 : ((strL [102, 105, 108, 101, 32, 97, 98, 115, 101, 110, 116]).toList == [102, 105, 108, 101, 32, 102, 105, 108, 101]) = false := by rw [strL_bytes]; rfl
  have e1 : ((strL [102, 105, 108, 101, 32, 97, 98, 115, 101, 110, 116]).toList == [102, 105, 108, 101, 32, 100, 105, 114, 101, 99, 116, 111, 114, 121]) = false := by rw [strL_bytes]; rfl
  have e2 : ((strL [102, 105, 108, 101, 32, 97, 98, 115, 101, 110, 116]).toList == [102, 105, 108, 101, 32, 108, 105, 110, 107]) = false := by rw [strL_bytes]; rfl
  have e3 : ((strL [102, 105, 108, 101, 32, 97, 98, 115, 101, 110, 116]).toList == [97, 99, 99, 111, 117, 110, 116, 32, 112, 114, 101, 115, 101, 110, 116]) = false := by rw [strL_bytes]; rfl
  have e4 : ((strL [102, 105, 108, 101, 32, 97, 98, 115, 101, 110, 116]).toList == [103, 114, 111, 117, 112, 32, 112, 114, 101, 115, 101, 110, 116]) = false := by rw [strL_bytes]; rfl
  have e5 : ((strL [102, 105, 108, 101, 32, 97, 98, 115, 101, 110, 116]).toList == [112, 97, 99, 107, 97, 103, 101, 32, 112, 114, 101, 115, 101, 110, 116]) = false := by rw [strL_bytes]; rfl
  have e6 : ((strL [102, 105, 108, 101, 32, 97, 98, 115, 101, 110, 116]).toList == [115, 101, 114, 118, 105, 99, 101, 32, 114, 117, 110, 110, 105, 110, 103]) = false := by rw [strL_bytes]; rfl
  have e7 : ((strL [102, 105, 108, 101, 32, 97, 98, 115, 101, 110, 116]).toList == [102, 105, 108, 101, 32, 97, 98, 115, 101, 110, 116]) = true := by rw [strL_bytes]; rfl
  have e8 : ((strL [102, 105, 108, 101, 32, 97, 98, 115, 101, 110, 116]).toList == [97, 99, 99, 111, 117, 110, 116, 32, 97, 98, 115, 101, 110, 116]) = false := by rw [strL_bytes]; rfl
  have e9 : ((strL [102, 105, 108, 101, 32, 97, 98, 115, 101, 110, 116]).toList == [103, 114, 111, 117, 112, 32, 97, 98, 115, 101, 110, 116]) = false := by rw [strL_bytes]; rfl
  have e10 : ((strL [102, 105, 108, 101, 32, 97, 98, 115, 101, 110, 116]).toList == [112, 97, 99, 107, 97, 103, 101, 32, 97, 98, 115, 101, 110, 116]) = false := by rw [strL_bytes]; rfl
  have e11 : ((strL [102, 105, 108, 101, 32, 97, 98, 115, 101, 110, 116]).toList == [115, 101, 114, 118, 105, 99, 101, 32, 115, 116, 111, 112, 112, 101, 100]) = false := by rw [strL_bytes]; rfl
  go_enter Tryz.func41, Tryz.ntmps41
  go_wp2_with fail
  all_goals
    go_ret2
    exact RulesOut.yes (by decide) rfl rfl rfl
set_option maxRecDepth 100000 in
set_option maxHeartbeats 1000000 in
theorem rules_account_present (w : World) : Calls Tryz.prog 41 #[.string (strL nAccount), .string (strL nPresent)] w (RulesOut nAccount nPresent w) := by
  have hq : (strL nAccount ++ { data := #[32] }) ++ strL nPresent = strL [97, 99, 99, 111, 117, 110, 116, 32, 112, 114, 101, 115, 101, 110, 116] := rfl
  have s1 : (strL nAccount).size = 7 := rfl
  have s2 : (strL nPresent).size = 7 := rfl
  have s3 : (strL nAccount ++ { data := #[32] }).size = 8 := rfl
  have e0 : ((strL [97, 99, 99, 111, 117, 110, 116, 32, 112, 114, 101, 115, 101, 110, 116]).toList == [102, 105, 108, 101, 32, 102, 105, 108, 101]) = false := by rw [strL_bytes]; rfl
  have e1 : ((strL [97, 99, 99, 111, 117, 110, 116, 32, 112, 114, 101, 115, 101, 110, 116]).toList == [102, 105, 108, 101, 32, 100, 105, 114, 101, 99, 116, 111, 114, 121]) = false := by rw [strL_bytes]; rfl
  have e2 : ((strL [97, 99, 99, 111, 117, 110, 116, 32, 112, 114, 101, 115, 101, 110, 116]).toList == [102, 105, 108, 101, 32, 108, 105, 110, 107]) = false := by rw [strL_bytes]; rfl
  have e3 : ((strL [97, 99, 99, 111, 117, 110, 116, 32, 112, 114, 101, 115, 101, 110, 116]).toList == [97, 99, 99, 111, 117, 110, 116, 32, 112, 114, 101, 115, 101, 110, 116]) = true := by rw [strL_bytes]; rfl
  have e4 : ((strL [97, 99, 99, 111, 117, 110, 116, 32, 112, 114, 101, 115, 101, 110, 116]).toList == [103, 114, 111, 117, 112, 32, 112, 114, 101, 115, 101, 110, 116]) = false := by rw [strL_bytes]; rfl
  have e5 : ((strL [97, 99, 99, 111, 117, 110, 116, 32, 112, 114, 101, 115, 101, 110, 116]).toList == [112, 97, 99, 107, 97, 103, 101, 32, 112, 114, 101, 115, 101, 110, 116]) = false := by rw [strL_bytes]; rfl
  have e6 : ((strL [97, 99, 99, 111, 117, 110, 116, 32, 112, 114, 101, 115, 101, 110, 116]).toList == [115, 101, 114, 118, 105, 99, 101, 32, 114, 117, 110, 110, 105, 110, 103]) = false := by rw [strL_bytes]; rfl
  have e7 : ((strL [97, 99, 99, 111, 117, 110, 116, 32, 112, 114, 101, 115, 101, 110, 116]).toList == [102, 105, 108, 101, 32, 97, 98, 115, 101, 110, 116]) = false := by rw [strL_bytes]; rfl
  have e8 : ((strL [97, 99, 99, 111, 117, 110, 116, 32, 112, 114, 101, 115, 101, 110, 116]).toList == [97, 99, 99, 111, 117, 110, 116, 32, 97, 98, 115, 101, 110, 116]) = false := by rw [strL_bytes]; rfl
  have e9 : ((strL [97, 99, 99, 111, 117, 110, 116, 32, 112, 114, 101, 115, 101, 110, 116]).toList == [103, 114, 111, 117, 112, 32, 97, 98, 115, 101, 110, 116]) = false := by rw [strL_bytes]; rfl
  have e10 : ((strL [97, 99, 99, 111, 117, 110, 116, 32, 112, 114, 101, 115, 101, 110, 116]).toList == [112, 97, 99, 107, 97, 103, 101, 32, 97, 98, 115, 101, 110, 116]) = false := by rw [strL_bytes]; rfl
  have e11 : ((strL [97, 99, 99, 111, 117, 110, 116, 32, 112, 114, 101, 115, 101, 110, 116]).toList == [115, 101, 114, 118, 105, 99, 101, 32, 115, 116, 111, 112, 112, 101, 100]) = false := by rw [strL_bytes]; rfl
  go_enter Tryz.func41, Tryz.ntmps41
  go_wp2_with fail
  all_goals
    go_ret2
    exact RulesOut.yes (by decide) rfl rfl rfl
set_option maxRecDepth 100000 in
set_option maxHeartbeats 1000000 in
theorem rules_account_absent (w : World) : Calls Tryz.prog 41 #[.string (strL nAccount), .string (strL nAbsent)] w (RulesOut nAccount nAbsent w) := by
  have hq : (strL nAccount ++ { data := #[32] }) ++ strL nAbsent = strL [97, 99, 99, 111, 117, 110, 116, 32, 97, 98, 115, 101, 110, 116] := rfl
  have s1 : (strL nAccount).size = 7 := rfl
  have s2 : (strL nAbsent).size = 6 := rfl
  have s3 : (strL nAccount ++ { data := #[32] }).size = 8 := rfl
  have e0 : ((strL [97, 99, 99, 111, 117, 110, 116, 32, 97, 98, 115, 101, 110, 116]).toList == [102, 105, 108, 101, 32, 102, 105, 108, 101]) = false := by rw [strL_bytes]; rfl
  have e1 : ((strL [97, 99, 99, 111, 117, 110, 116, 32, 97, 98, 115, 101, 110, 116]).toList == [102, 105, 108, 101, 32, 100, 105, 114, 101, 99, 116, 111, 114, 121]) = false := by rw [strL_bytes]; rfl
  have e2 : ((strL [97, 99, 99, 111, 117, 110, 116, 32, 97, 98, 115, 101, 110, 116]).toList == [102, 105, 108, 101, 32, 108, 105, 110, 107]) = false := by rw [strL_bytes]; rfl
  have e3 : ((strL [97, 99, 99, 111, 117, 110, 116, 32, 97, 98, 115, 101, 110, 116]).toList == [97, 99, 99, 111, 117, 110, 116, 32, 112, 114, 101, 115, 101, 110, 116]) = false := by rw [strL_bytes]; rfl
  have e4 : ((strL [97, 99, 99, 111, 117, 110, 116, 32, 97, 98, 115, 101, 110, 116]).toList == [103, 114, 111, 117, 112, 32, 112, 114, 101, 115, 101, 110, 116]) = false := by rw [strL_bytes]; rfl
  have e5 : ((strL [97, 99, 99, 111, 117, 110, 116, 32, 97, 98, 115, 101, 110, 116]).toList == [112, 97, 99, 107, 97, 103, 101, 32, 112, 114, 101, 115, 101, 110, 116]) = false := by rw [strL_bytes]; rfl
  have e6 : ((strL [97, 99, 99, 111, 117, 110, 116, 32, 97, 98, 115, 101, 110, 116]).toList == [115, 101, 114, 118, 105, 99, 101, 32, 114, 117, 110, 110, 105, 110, 103]) = false := by rw [strL_bytes]; rfl
  have e7 : ((strL [97, 99, 99, 111, 117, 110, 116, 32, 97, 98, 115, 101, 110, 116]).toList == [102, 105, 108, 101, 32, 97, 98, 115, 101, 110, 116]) = false := by rw [strL_bytes]; rfl
  have e8 : ((strL [97, 99, 99, 111, 117, 110, 116, 32, 97, 98, 115, 101, 110, 116]).toList == [97, 99, 99, 111, 117, 110, 116, 32, 97, 98, 115, 101, 110, 116]) = true := by rw [strL_bytes]; rfl
  have e9 : ((strL [97, 99, 99, 111, 117, 110, 116, 32, 97, 98, 115, 101, 110, 116]).toList == [103, 114, 111, 117, 112, 32, 97, 98, 115, 101, 110, 116]) = false := by rw [strL_bytes]; rfl
  have e10 : ((strL [97, 99, 99, 111, 117, 110, 116, 32, 97, 98, 115, 101, 110, 116]).toList == [112, 97, 99, 107, 97, 103, 101, 32, 97, 98, 115, 101, 110, 116]) = false := by rw [strL_bytes]; rfl
  have e11 : ((strL [97, 99, 99, 111, 117, 110, 116, 32, 97, 98, 115, 101, 110, 116]).toList == [115, 101, 114, 118, 105, 99, 101, 32, 115, 116, 111, 112, 112, 101, 100]) = false := by rw [strL_bytes]; rfl
  go_enter Tryz.func41, Tryz.ntmps41
  go_wp2_with fail
  all_goals
    go_ret2
    exact RulesOut.yes (by decide) rfl rfl rfl
set_option maxRecDepth 100000 in
set_option maxHeartbeats 1000000 in
theorem rules_group_present (w : World) : Calls Tryz.prog 41 #[.string (strL nGroup), .string (strL nPresent)] w (RulesOut nGroup nPresent w) := by
  have hq : (strL nGroup ++ { data := #[32] }) ++ strL nPresent = strL [103, 114, 111, 117, 112, 32, 112, 114, 101, 115, 101, 110, 116] := rfl
  have s1 : (strL nGroup).size = 5 := rfl
  have s2 : (strL nPresent).size = 7 := rfl
  have s3 : (strL nGroup ++ { data := #[32] }).size = 6 := rfl
  have e0 : ((strL [103, 114, 111, 117, 112, 32, 112, 114, 101, 115, 101, 110, 116]).toList == [102, 105, 108, 101, 32, 102, 105, 108, 101]) = false := by rw [strL_bytes]; rfl
  have e1 : ((strL [103, 114, 111, 117, 112, 32, 112, 114, 101, 115, 101, 110, 116]).toList == [102, 105, 108, 101, 32, 100, 105, 114, 101, 99, 116, 111, 114, 121]) = false := by rw [strL_bytes]; rfl
  have e2 : ((strL [103, 114, 111, 117, 112, 32, 112, 114, 101, 115, 101, 110, 116]).toList == [102, 105, 108, 101, 32, 108, 105, 110, 107]) = false := by rw [strL_bytes]; rfl
  have e3 : ((strL [103, 114, 111, 117, 112, 32, 112, 114, 101, 115, 101, 110, 116]).toList == [97, 99, 99, 111, 117, 110, 116, 32, 112, 114, 101, 115, 101, 110, 116]) = false := by rw [strL_bytes]; rfl
  have e4 : ((strL [103, 114, 111, 117, 112, 32, 112, 114, 101, 115, 101, 110, 116]).toList == [103, 114, 111, 117, 112, 32, 112, 114, 101, 115, 101, 110, 116]) = true := by rw [strL_bytes]; rfl
  have e5 : ((strL [103, 114, 111, 117, 112, 32, 112, 114, 101, 115, 101, 110, 116]).toList == [112, 97, 99, 107, 97, 103, 101, 32, 112, 114, 101, 115, 101, 110, 116]) = false := by rw [strL_bytes]; rfl
  have e6 : ((strL [103, 114, 111, 117, 112, 32, 112, 114, 101, 115, 101, 110, 116]).toList == [115, 101, 114, 118, 105, 99, 101, 32, 114, 117, 110, 110, 105, 110, 103]) = false := by rw [strL_bytes]; rfl
  have e7 : ((strL [103, 114, 111, 117, 112, 32, 112, 114, 101, 115, 101, 110, 116]).toList == [102, 105, 108, 101, 32, 97, 98, 115, 101, 110, 116]) = false := by rw [strL_bytes]; rfl
  have e8 : ((strL [103, 114, 111, 117, 112, 32, 112, 114, 101, 115, 101, 110, 116]).toList == [97, 99, 99, 111, 117, 110, 116, 32, 97, 98, 115, 101, 110, 116]) = false := by rw [strL_bytes]; rfl
  have e9 : ((strL [103, 114, 111, 117, 112, 32, 112, 114, 101, 115, 101, 110, 116]).toList == [103, 114, 111, 117, 112, 32, 97, 98, 115, 101, 110, 116]) = false := by rw [strL_bytes]; rfl
  have e10 : ((strL [103, 114, 111, 117, 112, 32, 112, 114, 101, 115, 101, 110, 116]).toList == [112, 97, 99, 107, 97, 103, 101, 32, 97, 98, 115, 101, 110, 116]) = false := by rw [strL_bytes]; rfl
  have e11 : ((strL [103, 114, 111, 117, 112, 32, 112, 114, 101, 115, 101, 110, 116]).toList == [115, 101, 114, 118, 105, 99, 101, 32, 115, 116, 111, 112, 112, 101, 100]) = false := by rw [strL_bytes]; rfl
  go_enter Tryz.func41, Tryz.ntmps41
  go_wp2_with fail
  all_goals
    go_ret2
    exact RulesOut.yes (by decide) rfl rfl rfl
set_option maxRecDepth 100000 in
set_option maxHeartbeats 1000000 in
theorem rules_group_absent (w : World) : Calls Tryz.prog 41 #[.string (strL nGroup), .string (strL nAbsent)] w (RulesOut nGroup nAbsent w) := by
  have hq : (strL nGroup ++ { data := #[32] }) ++ strL nAbsent = strL [103, 114, 111, 117, 112, 32, 97, 98, 115, 101, 110, 116] := rfl
  have s1 : (strL nGroup).size = 5 := rfl
  have s2 : (strL nAbsent).size = 6 := rfl
  have s3 : (strL nGroup ++ { data := #[32] }).size = 6 := rfl
  have e0 : ((strL [103, 114, 111, 117, 112, 32, 97, 98, 115, 101, 110, 116]).toList == [102, 105, 108, 101, 32, 102, 105, 108, 101]) = false := by rw [strL_bytes]; rfl
  have e1 : ((strL [103, 114, 111, 117, 112, 32, 97, 98, 115, 101, 110, 116]).toList == [102, 105, 108, 101, 32, 100, 105, 114, 101, 99, 116, 111, 114, 121]) = false := by rw [strL_bytes]; rfl
  have e2 : ((strL [103, 114, 111, 117, 112, 32, 97, 98, 115, 101, 110, 116]).toList == [102, 105, 108, 101, 32, 108, 105, 110, 107]) = false := by rw [strL_bytes]; rfl
  have e3 : ((strL [103, 114, 111, 117, 112, 32, 97, 98, 115, 101, 110, 116]).toList == [97, 99, 99, 111, 117, 110, 116, 32, 112, 114, 101, 115, 101, 110, 116]) = false := by rw [strL_bytes]; rfl
  have e4 : ((strL [103, 114, 111, 117, 112, 32, 97, 98, 115, 101, 110, 116]).toList == [103, 114, 111, 117, 112, 32, 112, 114, 101, 115, 101, 110, 116]) = false := by rw [strL_bytes]; rfl
  have e5 : ((strL [103, 114, 111, 117, 112, 32, 97, 98, 115, 101, 110, 116]).toList == [112, 97, 99, 107, 97, 103, 101, 32, 112, 114, 101, 115, 101, 110, 116]) = false := by rw [strL_bytes]; rfl
  have e6 : ((strL [103, 114, 111, 117, 112, 32, 97, 98, 115, 101, 110, 116]).toList == [115, 101, 114, 118, 105, 99, 101, 32, 114, 117, 110, 110, 105, 110, 103]) = false := by rw [strL_bytes]; rfl
  have e7 : ((strL [103, 114, 111, 117, 112, 32, 97, 98, 115, 101, 110, 116]).toList == [102, 105, 108, 101, 32, 97, 98, 115, 101, 110, 116]) = false := by rw [strL_bytes]; rfl
  have e8 : ((strL [103, 114, 111, 117, 112, 32, 97, 98, 115, 101, 110, 116]).toList == [97, 99, 99, 111, 117, 110, 116, 32, 97, 98, 115, 101, 110, 116]) = false := by rw [strL_bytes]; rfl
  have e9 : ((strL [103, 114, 111, 117, 112, 32, 97, 98, 115, 101, 110, 116]).toList == [103, 114, 111, 117, 112, 32, 97, 98, 115, 101, 110, 116]) = true := by rw [strL_bytes]; rfl
  have e10 : ((strL [103, 114, 111, 117, 112, 32, 97, 98, 115, 101, 110, 116]).toList == [112, 97, 99, 107, 97, 103, 101, 32, 97, 98, 115, 101, 110, 116]) = false := by rw [strL_bytes]; rfl
  have e11 : ((strL [103, 114, 111, 117, 112, 32, 97, 98, 115, 101, 110, 116]).toList == [115, 101, 114, 118, 105, 99, 101, 32, 115, 116, 111, 112, 112, 101, 100]) = false := by rw [strL_bytes]; rfl
  go_enter Tryz.func41, Tryz.ntmps41
  go_wp2_with fail
  all_goals
    go_ret2
    exact RulesOut.yes (by decide) rfl rfl rfl
set_option maxRecDepth 100000 in
set_option maxHeartbeats 1000000 in
theorem rules_package_present (w : World) : Calls Tryz.prog 41 #[.string (strL nPackage), .string (strL nPresent)] w (RulesOut nPackage nPresent w) := by
  have hq : (strL nPackage ++ { data := #[32] }) ++ strL nPresent = strL [112, 97, 99, 107, 97, 103, 101, 32, 112, 114, 101, 115, 101, 110, 116] := rfl
  have s1 : (strL nPackage).size = 7 := rfl
  have s2 : (strL nPresent).size = 7 := rfl
  have s3 : (strL nPackage ++ { data := #[32] }).size = 8 := rfl
  have e0 : ((strL [112, 97, 99, 107, 97, 103, 101, 32, 112, 114, 101, 115, 101, 110, 116]).toList == [102, 105, 108, 101, 32, 102, 105, 108, 101]) = false := by rw [strL_bytes]; rfl
  have e1 : ((strL [112, 97, 99, 107, 97, 103, 101, 32, 112, 114, 101, 115, 101, 110, 116]).toList == [102, 105, 108, 101, 32, 100, 105, 114, 101, 99, 116, 111, 114, 121]) = false := by rw [strL_bytes]; rfl
  have e2 : ((strL [112, 97, 99, 107, 97, 103, 101, 32, 112, 114, 101, 115, 101, 110, 116]).toList == [102, 105, 108, 101, 32, 108, 105, 110, 107]) = false := by rw [strL_bytes]; rfl
  have e3 : ((strL [112, 97, 99, 107, 97, 103, 101, 32, 112, 114, 101, 115, 101, 110, 116]).toList == [97, 99, 99, 111, 117, 110, 116, 32, 112, 114, 101, 115, 101, 110, 116]) = false := by rw [strL_bytes]; rfl
  have e4 : ((strL [112, 97, 99, 107, 97, 103, 101, 32, 112, 114, 101, 115, 101, 110, 116]).toList == [103, 114, 111, 117, 112, 32, 112, 114, 101, 115, 101, 110, 116]) = false := by rw [strL_bytes]; rfl
  have e5 : ((strL [112, 97, 99, 107, 97, 103, 101, 32, 112, 114, 101, 115, 101, 110, 116]).toList == [112, 97, 99, 107, 97, 103, 101, 32, 112, 114, 101, 115, 101, 110, 116]) = true := by rw [strL_bytes]; rfl
  have e6 : ((strL [112, 97, 99, 107, 97, 103, 101, 32, 112, 114, 101, 115, 101, 110, 116]).toList == [115, 101, 114, 118, 105, 99, 101, 32, 114, 117, 110, 110, 105, 110, 103]) = false := by rw [strL_bytes]; rfl
  have e7 : ((strL [112, 97, 99, 107, 97, 103, 101, 32, 112, 114, 101, 115, 101, 110, 116]).toList == [102, 105, 108, 101, 32, 97, 98, 115, 101, 110, 116]) = false := by rw [strL_bytes]; rfl
  have e8 : ((strL [112, 97, 99, 107, 97, 103, 101, 32, 112, 114, 101, 115, 101, 110, 116]).toList == [97, 99, 99, 111, 117, 110, 116, 32, 97, 98, 115, 101, 110, 116]) = false := by rw [strL_bytes]; rfl
  have e9 : ((strL [112, 97, 99, 107, 97, 103, 101, 32, 112, 114, 101, 115, 101, 110, 116]).toList == [103, 114, 111, 117, 112, 32, 97, 98, 115, 101, 110, 116]) = false := by rw [strL_bytes]; rfl
  have e10 : ((strL [112, 97, 99, 107, 97, 103, 101, 32, 112, 114, 101, 115, 101, 110, 116]).toList == [112, 97, 99, 107, 97, 103, 101, 32, 97, 98, 115, 101, 110, 116]) = false := by rw [strL_bytes]; rfl
  have e11 : ((strL [112, 97, 99, 107, 97, 103, 101, 32, 112, 114, 101, 115, 101, 110, 116]).toList == [115, 101, 114, 118, 105, 99, 101, 32, 115, 116, 111, 112, 112, 101, 100]) = false := by rw [strL_bytes]; rfl
  go_enter Tryz.func41, Tryz.ntmps41
  go_wp2_with fail
  all_goals
    go_ret2
    exact RulesOut.yes (by decide) rfl rfl rfl
set_option maxRecDepth 100000 in
set_option maxHeartbeats 1000000 in
theorem rules_package_absent (w : World) : Calls Tryz.prog 41 #[.string (strL nPackage), .string (strL nAbsent)] w (RulesOut nPackage nAbsent w) := by
  have hq : (strL nPackage ++ { data := #[32] }) ++ strL nAbsent = strL [112, 97, 99, 107, 97, 103, 101, 32, 97, 98, 115, 101, 110, 116] := rfl
  have s1 : (strL nPackage).size = 7 := rfl
  have s2 : (strL nAbsent).size = 6 := rfl
  have s3 : (strL nPackage ++ { data := #[32] }).size = 8 := rfl
  have e0 : ((strL [112, 97, 99, 107, 97, 103, 101, 32, 97, 98, 115, 101, 110, 116]).toList == [102, 105, 108, 101, 32, 102, 105, 108, 101]) = false := by rw [strL_bytes]; rfl
  have e1 : ((strL [112, 97, 99, 107, 97, 103, 101, 32, 97, 98, 115, 101, 110, 116]).toList == [102, 105, 108, 101, 32, 100, 105, 114, 101, 99, 116, 111, 114, 121]) = false := by rw [strL_bytes]; rfl
  have e2 : ((strL [112, 97, 99, 107, 97, 103, 101, 32, 97, 98, 115, 101, 110, 116]).toList == [102, 105, 108, 101, 32, 108, 105, 110, 107]) = false := by rw [strL_bytes]; rfl
  have e3 : ((strL [112, 97, 99, 107, 97, 103, 101, 32, 97, 98, 115, 101, 110, 116]).toList == [97, 99, 99, 111, 117, 110, 116, 32, 112, 114, 101, 115, 101, 110, 116]) = false := by rw [strL_bytes]; rfl
  have e4 : ((strL [112, 97, 99, 107, 97, 103, 101, 32, 97, 98, 115, 101, 110, 116]).toList == [103, 114, 111, 117, 112, 32, 112, 114, 101, 115, 101, 110, 116]) = false := by rw [strL_bytes]; rfl
  have e5 : ((strL [112, 97, 99, 107, 97, 103, 101, 32, 97, 98, 115, 101, 110, 116]).toList == [112, 97, 99, 107, 97, 103, 101, 32, 112, 114, 101, 115, 101, 110, 116]) = false := by rw [strL_bytes]; rfl
  have e6 : ((strL [112, 97, 99, 107, 97, 103, 101, 32, 97, 98, 115, 101, 110, 116]).toList == [115, 101, 114, 118, 105, 99, 101, 32, 114, 117, 110, 110, 105, 110, 103]) = false := by rw [strL_bytes]; rfl
  have e7 : ((strL [112, 97, 99, 107, 97, 103, 101, 32, 97, 98, 115, 101, 110, 116]).toList == [102, 105, 108, 101, 32, 97, 98, 115, 101, 110, 116]) = false := by rw [strL_bytes]; rfl
  have e8 : ((strL [112, 97, 99, 107, 97, 103, 101, 32, 97, 98, 115, 101, 110, 116]).toList == [97, 99, 99, 111, 117, 110, 116, 32, 97, 98, 115, 101, 110, 116]) = false := by rw [strL_bytes]; rfl
  have e9 : ((strL [112, 97, 99, 107, 97, 103, 101, 32, 97, 98, 115, 101, 110, 116]).toList == [103, 114, 111, 117, 112, 32, 97, 98, 115, 101, 110, 116]) = false := by rw [strL_bytes]; rfl
  have e10 : ((strL [112, 97, 99, 107, 97, 103, 101, 32, 97, 98, 115, 101, 110, 116]).toList == [112, 97, 99, 107, 97, 103, 101, 32, 97, 98, 115, 101, 110, 116]) = true := by rw [strL_bytes]; rfl
  have e11 : ((strL [112, 97, 99, 107, 97, 103, 101, 32, 97, 98, 115, 101, 110, 116]).toList == [115, 101, 114, 118, 105, 99, 101, 32, 115, 116, 111, 112, 112, 101, 100]) = false := by rw [strL_bytes]; rfl
  go_enter Tryz.func41, Tryz.ntmps41
  go_wp2_with fail
  all_goals
    go_ret2
    exact RulesOut.yes (by decide) rfl rfl rfl
set_option maxRecDepth 100000 in
set_option maxHeartbeats 1000000 in
theorem rules_service_running (w : World) : Calls Tryz.prog 41 #[.string (strL nService), .string (strL nRunning)] w (RulesOut nService nRunning w) := by
  have hq : (strL nService ++ { data := #[32] }) ++ strL nRunning = strL [115, 101, 114, 118, 105, 99, 101, 32, 114, 117, 110, 110, 105, 110, 103] := rfl
  have s1 : (strL nService).size = 7 := rfl
  have s2 : (strL nRunning).size = 7 := rfl
  have s3 : (strL nService ++ { data := #[32] }).size = 8 := rfl
  have e0 : ((strL [115, 101, 114, 118, 105, 99, 101, 32, 114, 117, 110, 110, 105, 110, 103]).toList == [102, 105, 108, 101, 32, 102, 105, 108, 101]) = false := by rw [strL_bytes]; rfl
  have e1 : ((strL [115, 101, 114, 118, 105, 99, 101, 32, 114, 117, 110, 110, 105, 110, 103]).toList == [102, 105, 108, 101, 32, 100, 105, 114, 101, 99, 116, 111, 114, 121]) = false := by rw [strL_bytes]; rfl
  have e2 : ((strL [115, 101, 114, 118, 105, 99, 101, 32, 114, 117, 110, 110, 105, 110, 103]).toList == [102, 105, 108, 101, 32, 108, 105, 110, 107]) = false := by rw [strL_bytes]; rfl
  have e3 : ((strL [115, 101, 114, 118, 105, 99, 101, 32, 114, 117, 110, 110, 105, 110, 103]).toList == [97, 99, 99, 111, 117, 110, 116, 32, 112, 114, 101, 115, 101, 110, 116]) = false := by rw [strL_bytes]; rfl
  have e4 : ((strL [115, 101, 114, 118, 105, 99, 101, 32, 114, 117, 110, 110, 105, 110, 103]).toList == [103, 114, 111, 117, 112, 32, 112, 114, 101, 115, 101, 110, 116]) = false := by rw [strL_bytes]; rfl
  have e5 : ((strL [115, 101, 114, 118, 105, 99, 101, 32, 114, 117, 110, 110, 105, 110, 103]).toList == [112, 97, 99, 107, 97, 103, 101, 32, 112, 114, 101, 115, 101, 110, 116]) = false := by rw [strL_bytes]; rfl
  have e6 : ((strL [115, 101, 114, 118, 105, 99, 101, 32, 114, 117, 110, 110, 105, 110, 103]).toList == [115, 101, 114, 118, 105, 99, 101, 32, 114, 117, 110, 110, 105, 110, 103]) = true := by rw [strL_bytes]; rfl
  have e7 : ((strL [115, 101, 114, 118, 105, 99, 101, 32, 114, 117, 110, 110, 105, 110, 103]).toList == [102, 105, 108, 101, 32, 97, 98, 115, 101, 110, 116]) = false := by rw [strL_bytes]; rfl
  have e8 : ((strL [115, 101, 114, 118, 105, 99, 101, 32, 114, 117, 110, 110, 105, 110, 103]).toList == [97, 99, 99, 111, 117, 110, 116, 32, 97, 98, 115, 101, 110, 116]) = false := by rw [strL_bytes]; rfl
  have e9 : ((strL [115, 101, 114, 118, 105, 99, 101, 32, 114, 117, 110, 110, 105, 110, 103]).toList == [103, 114, 111, 117, 112, 32, 97, 98, 115, 101, 110, 116]) = false := by rw [strL_bytes]; rfl
  have e10 : ((strL [115, 101, 114, 118, 105, 99, 101, 32, 114, 117, 110, 110, 105, 110, 103]).toList == [112, 97, 99, 107, 97, 103, 101, 32, 97, 98, 115, 101, 110, 116]) = false := by rw [strL_bytes]; rfl
  have e11 : ((strL [115, 101, 114, 118, 105, 99, 101, 32, 114, 117, 110, 110, 105, 110, 103]).toList == [115, 101, 114, 118, 105, 99, 101, 32, 115, 116, 111, 112, 112, 101, 100]) = false := by rw [strL_bytes]; rfl
  go_enter Tryz.func41, Tryz.ntmps41
  go_wp2_with fail
  all_goals
    go_ret2
    exact RulesOut.yes (by decide) rfl rfl rfl
set_option maxRecDepth 100000 in
set_option maxHeartbeats 1000000 in
theorem rules_service_stopped (w : World) : Calls Tryz.prog 41 #[.string (strL nService), .string (strL nStopped)] w (RulesOut nService nStopped w) := by
  have hq : (strL nService ++ { data := #[32] }) ++ strL nStopped = strL [115, 101, 114, 118, 105, 99, 101, 32, 115, 116, 111, 112, 112, 101, 100] := rfl
  have s1 : (strL nService).size = 7 := rfl
  have s2 : (strL nStopped).size = 7 := rfl
  have s3 : (strL nService ++ { data := #[32] }).size = 8 := rfl
  have e0 : ((strL [115, 101, 114, 118, 105, 99, 101, 32, 115, 116, 111, 112, 112, 101, 100]).toList == [102, 105, 108, 101, 32, 102, 105, 108, 101]) = false := by rw [strL_bytes]; rfl
  have e1 : ((strL [115, 101, 114, 118, 105, 99, 101, 32, 115, 116, 111, 112, 112, 101, 100]).toList == [102, 105, 108, 101, 32, 100, 105, 114, 101, 99, 116, 111, 114, 121]) = false := by rw [strL_bytes]; rfl
  have e2 : ((strL [115, 101, 114, 118, 105, 99, 101, 32, 115, 116, 111, 112, 112, 101, 100]).toList == [102, 105, 108, 101, 32, 108, 105, 110, 107]) = false := by rw [strL_bytes]; rfl
  have e3 : ((strL [115, 101, 114, 118, 105, 99, 101, 32, 115, 116, 111, 112, 112, 101, 100]).toList == [97, 99, 99, 111, 117, 110, 116, 32, 112, 114, 101, 115, 101, 110, 116]) = false := by rw [strL_bytes]; rfl
  have e4 : ((strL [115, 101, 114, 118, 105, 99, 101, 32, 115, 116, 111, 112, 112, 101, 100]).toList == [103, 114, 111, 117, 112, 32, 112, 114, 101, 115, 101, 110, 116]) = false := by rw [strL_bytes]; rfl
  have e5 : ((strL [115, 101, 114, 118, 105, 99, 101, 32, 115, 116, 111, 112, 112, 101, 100]).toList == [112, 97, 99, 107, 97, 103, 101, 32, 112, 114, 101, 115, 101, 110, 116]) = false := by rw [strL_bytes]; rfl
  have e6 : ((strL [115, 101, 114, 118, 105, 99, 101, 32, 115, 116, 111, 112, 112, 101, 100]).toList == [115, 101, 114, 118, 105, 99, 101, 32, 114, 117, 110, 110, 105, 110, 103]) = false := by rw [strL_bytes]; rfl
  have e7 : ((strL [115, 101, 114, 118, 105, 99, 101, 32, 115, 116, 111, 112, 112, 101, 100]).toList == [102, 105, 108, 101, 32, 97, 98, 115, 101, 110, 116]) = false := by rw [strL_bytes]; rfl
  have e8 : ((strL [115, 101, 114, 118, 105, 99, 101, 32, 115, 116, 111, 112, 112, 101, 100]).toList == [97, 99, 99, 111, 117, 110, 116, 32, 97, 98, 115, 101, 110, 116]) = false := by rw [strL_bytes]; rfl
  have e9 : ((strL [115, 101, 114, 118, 105, 99, 101, 32, 115, 116, 111, 112, 112, 101, 100]).toList == [103, 114, 111, 117, 112, 32, 97, 98, 115, 101, 110, 116]) = false := by rw [strL_bytes]; rfl
  have e10 : ((strL [115, 101, 114, 118, 105, 99, 101, 32, 115, 116, 111, 112, 112, 101, 100]).toList == [112, 97, 99, 107, 97, 103, 101, 32, 97, 98, 115, 101, 110, 116]) = false := by rw [strL_bytes]; rfl
  have e11 : ((strL [115, 101, 114, 118, 105, 99, 101, 32, 115, 116, 111, 112, 112, 101, 100]).toList == [115, 101, 114, 118, 105, 99, 101, 32, 115, 116, 111, 112, 112, 101, 100]) = true := by rw [strL_bytes]; rfl
  go_enter Tryz.func41, Tryz.ntmps41
  go_wp2_with fail
  all_goals
    go_ret2
    exact RulesOut.yes (by decide) rfl rfl rfl
set_option maxRecDepth 100000 in
set_option maxHeartbeats 1000000 in
theorem rules_file_no (st : List UInt8) (w : World) (hs : st.length ≤ 140737488355328) (h0 : st ≠ nFile) (h1 : st ≠ nDirectory) (h2 : st ≠ nLink) (h3 : st ≠ nAbsent) : Calls Tryz.prog 41 #[.string (strL nFile), .string (strL st)] w (RulesOut nFile st w) := by
  have hq : (strL nFile ++ { data := #[32] }) ++ strL st = strL (nFile ++ 32 :: st) := by
    rw [show (strL nFile ++ { data := #[32] }) = strL (nFile ++ [32]) from rfl, strL_app]
    simp
  have s1 : (strL nFile).size = 4 := rfl
  have s2 : (strL st).size ≤ 140737488355328 := by rw [strL_size]; exact hs
  have s3 : (strL nFile ++ { data := #[32] }).size = 5 := rfl
  have e0 : ((strL (nFile ++ 32 :: st)).toList == [102, 105, 108, 101, 32, 102, 105, 108, 101]) = false := by rw [strL_bytes, beq_eq_false_iff_ne]; intro e; exact h0 (by simpa [nFile, nFile] using e)
  have e1 : ((strL (nFile ++ 32 :: st)).toList == [102, 105, 108, 101, 32, 100, 105, 114, 101, 99, 116, 111, 114, 121]) = false := by rw [strL_bytes, beq_eq_false_iff_ne]; intro e; exact h1 (by simpa [nFile, nDirectory] using e)
  have e2 : ((strL (nFile ++ 32 :: st)).toList == [102, 105, 108, 101, 32, 108, 105, 110, 107]) = false := by rw [strL_bytes, beq_eq_false_iff_ne]; intro e; exact h2 (by simpa [nFile, nLink] using e)
  have e3 : ((strL (nFile ++ 32 :: st)).toList == [97, 99, 99, 111, 117, 110, 116, 32, 112, 114, 101, 115, 101, 110, 116]) = false := by rw [strL_bytes, beq_eq_false_iff_ne]; intro e; simp [nFile] at e
  have e4 : ((strL (nFile ++ 32 :: st)).toList == [103, 114, 111, 117, 112, 32, 112, 114, 101, 115, 101, 110, 116]) = false := by rw [strL_bytes, beq_eq_false_iff_ne]; intro e; simp [nFile] at e
  have e5 : ((strL (nFile ++ 32 :: st)).toList == [112, 97, 99, 107, 97, 103, 101, 32, 112, 114, 101, 115, 101, 110, 116]) = false := by rw [strL_bytes, beq_eq_false_iff_ne]; intro e; simp [nFile] at e
  have e6 : ((strL (nFile ++ 32 :: st)).toList == [115, 101, 114, 118, 105, 99, 101, 32, 114, 117, 110, 110, 105, 110, 103]) = false := by rw [strL_bytes, beq_eq_false_iff_ne]; intro e; simp [nFile] at e
  have e7 : ((strL (nFile ++ 32 :: st)).toList == [102, 105, 108, 101, 32, 97, 98, 115, 101, 110, 116]) = false := by rw [strL_bytes, beq_eq_false_iff_ne]; intro e; exact h3 (by simpa [nFile, nAbsent] using e)
  have e8 : ((strL (nFile ++ 32 :: st)).toList == [97, 99, 99, 111, 117, 110, 116, 32, 97, 98, 115, 101, 110, 116]) = false := by rw [strL_bytes, beq_eq_false_iff_ne]; intro e; simp [nFile] at e
  have e9 : ((strL (nFile ++ 32 :: st)).toList == [103, 114, 111, 117, 112, 32, 97, 98, 115, 101, 110, 116]) = false := by rw [strL_bytes, beq_eq_false_iff_ne]; intro e; simp [nFile] at e
  have e10 : ((strL (nFile ++ 32 :: st)).toList == [112, 97, 99, 107, 97, 103, 101, 32, 97, 98, 115, 101, 110, 116]) = false := by rw [strL_bytes, beq_eq_false_iff_ne]; intro e; simp [nFile] at e
  have e11 : ((strL (nFile ++ 32 :: st)).toList == [115, 101, 114, 118, 105, 99, 101, 32, 115, 116, 111, 112, 112, 101, 100]) = false := by rw [strL_bytes, beq_eq_false_iff_ne]; intro e; simp [nFile] at e
  have HS : Hid (slotsK (kindI nFile) st = []) := by show fileK st = []; unfold fileK; rw [if_neg h0, if_neg h1, if_neg h2, if_neg h3]
  clear h0 h1 h2 h3
  go_enter Tryz.func41, Tryz.ntmps41
  go_wp2_with fail
  all_goals
    go_ret2
    exact RulesOut.no HS.out
set_option maxRecDepth 100000 in
set_option maxHeartbeats 1000000 in
theorem rules_account_no (st : List UInt8) (w : World) (hs : st.length ≤ 140737488355328) (h0 : st ≠ nPresent) (h1 : st ≠ nAbsent) : Calls Tryz.prog 41 #[.string (strL nAccount), .string (strL st)] w (RulesOut nAccount st w) := by
  have hq : (strL nAccount ++ { data := #[32] }) ++ strL st = strL (nAccount ++ 32 :: st) := by
    rw [show (strL nAccount ++ { data := #[32] }) = strL (nAccount ++ [32]) from rfl, strL_app]
    simp
  have s1 : (strL nAccount).size = 7 := rfl
  have s2 : (strL st).size ≤ 140737488355328 := by rw [strL_size]; exact hs
  have s3 : (strL nAccount ++ { data := #[32] }).size = 8 := rfl
  have e0 : ((strL (nAccount ++ 32 :: st)).toList == [102, 105, 108, 101, 32, 102, 105, 108, 101]) = false := by rw [strL_bytes, beq_eq_false_iff_ne]; intro e; simp [nAccount] at e
  have e1 : ((strL (nAccount ++ 32 :: st)).toList == [102, 105, 108, 101, 32, 100, 105, 114, 101, 99, 116, 111, 114, 121]) = false := by rw [strL_bytes, beq_eq_false_iff_ne]; intro e; simp [nAccount] at e
  have e2 : ((strL (nAccount ++ 32 :: st)).toList == [102, 105, 108, 101, 32, 108, 105, 110, 107]) = false := by rw [strL_bytes, beq_eq_false_iff_ne]; intro e; simp [nAccount] at e
  have e3 : ((strL (nAccount ++ 32 :: st)).toList == [97, 99, 99, 111, 117, 110, 116, 32, 112, 114, 101, 115, 101, 110, 116]) = false := by rw [strL_bytes, beq_eq_false_iff_ne]; intro e; exact h0 (by simpa [nAccount, nPresent] using e)
  have e4 : ((strL (nAccount ++ 32 :: st)).toList == [103, 114, 111, 117, 112, 32, 112, 114, 101, 115, 101, 110, 116]) = false := by rw [strL_bytes, beq_eq_false_iff_ne]; intro e; simp [nAccount] at e
  have e5 : ((strL (nAccount ++ 32 :: st)).toList == [112, 97, 99, 107, 97, 103, 101, 32, 112, 114, 101, 115, 101, 110, 116]) = false := by rw [strL_bytes, beq_eq_false_iff_ne]; intro e; simp [nAccount] at e
  have e6 : ((strL (nAccount ++ 32 :: st)).toList == [115, 101, 114, 118, 105, 99, 101, 32, 114, 117, 110, 110, 105, 110, 103]) = false := by rw [strL_bytes, beq_eq_false_iff_ne]; intro e; simp [nAccount] at e
  have e7 : ((strL (nAccount ++ 32 :: st)).toList == [102, 105, 108, 101, 32, 97, 98, 115, 101, 110, 116]) = false := by rw [strL_bytes, beq_eq_false_iff_ne]; intro e; simp [nAccount] at e
  have e8 : ((strL (nAccount ++ 32 :: st)).toList == [97, 99, 99, 111, 117, 110, 116, 32, 97, 98, 115, 101, 110, 116]) = false := by rw [strL_bytes, beq_eq_false_iff_ne]; intro e; exact h1 (by simpa [nAccount, nAbsent] using e)
  have e9 : ((strL (nAccount ++ 32 :: st)).toList == [103, 114, 111, 117, 112, 32, 97, 98, 115, 101, 110, 116]) = false := by rw [strL_bytes, beq_eq_false_iff_ne]; intro e; simp [nAccount] at e
  have e10 : ((strL (nAccount ++ 32 :: st)).toList == [112, 97, 99, 107, 97, 103, 101, 32, 97, 98, 115, 101, 110, 116]) = false := by rw [strL_bytes, beq_eq_false_iff_ne]; intro e; simp [nAccount] at e
  have e11 : ((strL (nAccount ++ 32 :: st)).toList == [115, 101, 114, 118, 105, 99, 101, 32, 115, 116, 111, 112, 112, 101, 100]) = false := by rw [strL_bytes, beq_eq_false_iff_ne]; intro e; simp [nAccount] at e
  have HS : Hid (slotsK (kindI nAccount) st = []) := by show recK st lAccount = []; unfold recK; rw [if_neg h0, if_neg h1]
  clear h0 h1
  go_enter Tryz.func41, Tryz.ntmps41
  go_wp2_with fail
  all_goals
    go_ret2
    exact RulesOut.no HS.out
set_option maxRecDepth 100000 in
set_option maxHeartbeats 1000000 in
theorem rules_group_no (st : List UInt8) (w : World) (hs : st.length ≤ 140737488355328) (h0 : st ≠ nPresent) (h1 : st ≠ nAbsent) : Calls Tryz.prog 41 #[.string (strL nGroup), .string (strL st)] w (RulesOut nGroup st w) := by
  have hq : (strL nGroup ++ { data := #[32] }) ++ strL st = strL (nGroup ++ 32 :: st) := by
    rw [show (strL nGroup ++ { data := #[32] }) = strL (nGroup ++ [32]) from rfl, strL_app]
    simp
  have s1 : (strL nGroup).size = 5 := rfl
  have s2 : (strL st).size ≤ 140737488355328 := by rw [strL_size]; exact hs
  have s3 : (strL nGroup ++ { data := #[32] }).size = 6 := rfl
  have e0 : ((strL (nGroup ++ 32 :: st)).toList == [102, 105, 108, 101, 32, 102, 105, 108, 101]) = false := by rw [strL_bytes, beq_eq_false_iff_ne]; intro e; simp [nGroup] at e
  have e1 : ((strL (nGroup ++ 32 :: st)).toList == [102, 105, 108, 101, 32, 100, 105, 114, 101, 99, 116, 111, 114, 121]) = false := by rw [strL_bytes, beq_eq_false_iff_ne]; intro e; simp [nGroup] at e
  have e2 : ((strL (nGroup ++ 32 :: st)).toList == [102, 105, 108, 101, 32, 108, 105, 110, 107]) = false := by rw [strL_bytes, beq_eq_false_iff_ne]; intro e; simp [nGroup] at e
  have e3 : ((strL (nGroup ++ 32 :: st)).toList == [97, 99, 99, 111, 117, 110, 116, 32, 112, 114, 101, 115, 101, 110, 116]) = false := by rw [strL_bytes, beq_eq_false_iff_ne]; intro e; simp [nGroup] at e
  have e4 : ((strL (nGroup ++ 32 :: st)).toList == [103, 114, 111, 117, 112, 32, 112, 114, 101, 115, 101, 110, 116]) = false := by rw [strL_bytes, beq_eq_false_iff_ne]; intro e; exact h0 (by simpa [nGroup, nPresent] using e)
  have e5 : ((strL (nGroup ++ 32 :: st)).toList == [112, 97, 99, 107, 97, 103, 101, 32, 112, 114, 101, 115, 101, 110, 116]) = false := by rw [strL_bytes, beq_eq_false_iff_ne]; intro e; simp [nGroup] at e
  have e6 : ((strL (nGroup ++ 32 :: st)).toList == [115, 101, 114, 118, 105, 99, 101, 32, 114, 117, 110, 110, 105, 110, 103]) = false := by rw [strL_bytes, beq_eq_false_iff_ne]; intro e; simp [nGroup] at e
  have e7 : ((strL (nGroup ++ 32 :: st)).toList == [102, 105, 108, 101, 32, 97, 98, 115, 101, 110, 116]) = false := by rw [strL_bytes, beq_eq_false_iff_ne]; intro e; simp [nGroup] at e
  have e8 : ((strL (nGroup ++ 32 :: st)).toList == [97, 99, 99, 111, 117, 110, 116, 32, 97, 98, 115, 101, 110, 116]) = false := by rw [strL_bytes, beq_eq_false_iff_ne]; intro e; simp [nGroup] at e
  have e9 : ((strL (nGroup ++ 32 :: st)).toList == [103, 114, 111, 117, 112, 32, 97, 98, 115, 101, 110, 116]) = false := by rw [strL_bytes, beq_eq_false_iff_ne]; intro e; exact h1 (by simpa [nGroup, nAbsent] using e)
  have e10 : ((strL (nGroup ++ 32 :: st)).toList == [112, 97, 99, 107, 97, 103, 101, 32, 97, 98, 115, 101, 110, 116]) = false := by rw [strL_bytes, beq_eq_false_iff_ne]; intro e; simp [nGroup] at e
  have e11 : ((strL (nGroup ++ 32 :: st)).toList == [115, 101, 114, 118, 105, 99, 101, 32, 115, 116, 111, 112, 112, 101, 100]) = false := by rw [strL_bytes, beq_eq_false_iff_ne]; intro e; simp [nGroup] at e
  have HS : Hid (slotsK (kindI nGroup) st = []) := by show recK st lGroup = []; unfold recK; rw [if_neg h0, if_neg h1]
  clear h0 h1
  go_enter Tryz.func41, Tryz.ntmps41
  go_wp2_with fail
  all_goals
    go_ret2
    exact RulesOut.no HS.out
set_option maxRecDepth 100000 in
set_option maxHeartbeats 1000000 in
theorem rules_package_no (st : List UInt8) (w : World) (hs : st.length ≤ 140737488355328) (h0 : st ≠ nPresent) (h1 : st ≠ nAbsent) : Calls Tryz.prog 41 #[.string (strL nPackage), .string (strL st)] w (RulesOut nPackage st w) := by
  have hq : (strL nPackage ++ { data := #[32] }) ++ strL st = strL (nPackage ++ 32 :: st) := by
    rw [show (strL nPackage ++ { data := #[32] }) = strL (nPackage ++ [32]) from rfl, strL_app]
    simp
  have s1 : (strL nPackage).size = 7 := rfl
  have s2 : (strL st).size ≤ 140737488355328 := by rw [strL_size]; exact hs
  have s3 : (strL nPackage ++ { data := #[32] }).size = 8 := rfl
  have e0 : ((strL (nPackage ++ 32 :: st)).toList == [102, 105, 108, 101, 32, 102, 105, 108, 101]) = false := by rw [strL_bytes, beq_eq_false_iff_ne]; intro e; simp [nPackage] at e
  have e1 : ((strL (nPackage ++ 32 :: st)).toList == [102, 105, 108, 101, 32, 100, 105, 114, 101, 99, 116, 111, 114, 121]) = false := by rw [strL_bytes, beq_eq_false_iff_ne]; intro e; simp [nPackage] at e
  have e2 : ((strL (nPackage ++ 32 :: st)).toList == [102, 105, 108, 101, 32, 108, 105, 110, 107]) = false := by rw [strL_bytes, beq_eq_false_iff_ne]; intro e; simp [nPackage] at e
  have e3 : ((strL (nPackage ++ 32 :: st)).toList == [97, 99, 99, 111, 117, 110, 116, 32, 112, 114, 101, 115, 101, 110, 116]) = false := by rw [strL_bytes, beq_eq_false_iff_ne]; intro e; simp [nPackage] at e
  have e4 : ((strL (nPackage ++ 32 :: st)).toList == [103, 114, 111, 117, 112, 32, 112, 114, 101, 115, 101, 110, 116]) = false := by rw [strL_bytes, beq_eq_false_iff_ne]; intro e; simp [nPackage] at e
  have e5 : ((strL (nPackage ++ 32 :: st)).toList == [112, 97, 99, 107, 97, 103, 101, 32, 112, 114, 101, 115, 101, 110, 116]) = false := by rw [strL_bytes, beq_eq_false_iff_ne]; intro e; exact h0 (by simpa [nPackage, nPresent] using e)
  have e6 : ((strL (nPackage ++ 32 :: st)).toList == [115, 101, 114, 118, 105, 99, 101, 32, 114, 117, 110, 110, 105, 110, 103]) = false := by rw [strL_bytes, beq_eq_false_iff_ne]; intro e; simp [nPackage] at e
  have e7 : ((strL (nPackage ++ 32 :: st)).toList == [102, 105, 108, 101, 32, 97, 98, 115, 101, 110, 116]) = false := by rw [strL_bytes, beq_eq_false_iff_ne]; intro e; simp [nPackage] at e
  have e8 : ((strL (nPackage ++ 32 :: st)).toList == [97, 99, 99, 111, 117, 110, 116, 32, 97, 98, 115, 101, 110, 116]) = false := by rw [strL_bytes, beq_eq_false_iff_ne]; intro e; simp [nPackage] at e
  have e9 : ((strL (nPackage ++ 32 :: st)).toList == [103, 114, 111, 117, 112, 32, 97, 98, 115, 101, 110, 116]) = false := by rw [strL_bytes, beq_eq_false_iff_ne]; intro e; simp [nPackage] at e
  have e10 : ((strL (nPackage ++ 32 :: st)).toList == [112, 97, 99, 107, 97, 103, 101, 32, 97, 98, 115, 101, 110, 116]) = false := by rw [strL_bytes, beq_eq_false_iff_ne]; intro e; exact h1 (by simpa [nPackage, nAbsent] using e)
  have e11 : ((strL (nPackage ++ 32 :: st)).toList == [115, 101, 114, 118, 105, 99, 101, 32, 115, 116, 111, 112, 112, 101, 100]) = false := by rw [strL_bytes, beq_eq_false_iff_ne]; intro e; simp [nPackage] at e
  have HS : Hid (slotsK (kindI nPackage) st = []) := by show recK st lPackage = []; unfold recK; rw [if_neg h0, if_neg h1]
  clear h0 h1
  go_enter Tryz.func41, Tryz.ntmps41
  go_wp2_with fail
  all_goals
    go_ret2
    exact RulesOut.no HS.out
set_option maxRecDepth 100000 in
set_option maxHeartbeats 1000000 in
theorem rules_service_no (st : List UInt8) (w : World) (hs : st.length ≤ 140737488355328) (h0 : st ≠ nRunning) (h1 : st ≠ nStopped) : Calls Tryz.prog 41 #[.string (strL nService), .string (strL st)] w (RulesOut nService st w) := by
  have hq : (strL nService ++ { data := #[32] }) ++ strL st = strL (nService ++ 32 :: st) := by
    rw [show (strL nService ++ { data := #[32] }) = strL (nService ++ [32]) from rfl, strL_app]
    simp
  have s1 : (strL nService).size = 7 := rfl
  have s2 : (strL st).size ≤ 140737488355328 := by rw [strL_size]; exact hs
  have s3 : (strL nService ++ { data := #[32] }).size = 8 := rfl
  have e0 : ((strL (nService ++ 32 :: st)).toList == [102, 105, 108, 101, 32, 102, 105, 108, 101]) = false := by rw [strL_bytes, beq_eq_false_iff_ne]; intro e; simp [nService] at e
  have e1 : ((strL (nService ++ 32 :: st)).toList == [102, 105, 108, 101, 32, 100, 105, 114, 101, 99, 116, 111, 114, 121]) = false := by rw [strL_bytes, beq_eq_false_iff_ne]; intro e; simp [nService] at e
  have e2 : ((strL (nService ++ 32 :: st)).toList == [102, 105, 108, 101, 32, 108, 105, 110, 107]) = false := by rw [strL_bytes, beq_eq_false_iff_ne]; intro e; simp [nService] at e
  have e3 : ((strL (nService ++ 32 :: st)).toList == [97, 99, 99, 111, 117, 110, 116, 32, 112, 114, 101, 115, 101, 110, 116]) = false := by rw [strL_bytes, beq_eq_false_iff_ne]; intro e; simp [nService] at e
  have e4 : ((strL (nService ++ 32 :: st)).toList == [103, 114, 111, 117, 112, 32, 112, 114, 101, 115, 101, 110, 116]) = false := by rw [strL_bytes, beq_eq_false_iff_ne]; intro e; simp [nService] at e
  have e5 : ((strL (nService ++ 32 :: st)).toList == [112, 97, 99, 107, 97, 103, 101, 32, 112, 114, 101, 115, 101, 110, 116]) = false := by rw [strL_bytes, beq_eq_false_iff_ne]; intro e; simp [nService] at e
  have e6 : ((strL (nService ++ 32 :: st)).toList == [115, 101, 114, 118, 105, 99, 101, 32, 114, 117, 110, 110, 105, 110, 103]) = false := by rw [strL_bytes, beq_eq_false_iff_ne]; intro e; exact h0 (by simpa [nService, nRunning] using e)
  have e7 : ((strL (nService ++ 32 :: st)).toList == [102, 105, 108, 101, 32, 97, 98, 115, 101, 110, 116]) = false := by rw [strL_bytes, beq_eq_false_iff_ne]; intro e; simp [nService] at e
  have e8 : ((strL (nService ++ 32 :: st)).toList == [97, 99, 99, 111, 117, 110, 116, 32, 97, 98, 115, 101, 110, 116]) = false := by rw [strL_bytes, beq_eq_false_iff_ne]; intro e; simp [nService] at e
  have e9 : ((strL (nService ++ 32 :: st)).toList == [103, 114, 111, 117, 112, 32, 97, 98, 115, 101, 110, 116]) = false := by rw [strL_bytes, beq_eq_false_iff_ne]; intro e; simp [nService] at e
  have e10 : ((strL (nService ++ 32 :: st)).toList == [112, 97, 99, 107, 97, 103, 101, 32, 97, 98, 115, 101, 110, 116]) = false := by rw [strL_bytes, beq_eq_false_iff_ne]; intro e; simp [nService] at e
  have e11 : ((strL (nService ++ 32 :: st)).toList == [115, 101, 114, 118, 105, 99, 101, 32, 115, 116, 111, 112, 112, 101, 100]) = false := by rw [strL_bytes, beq_eq_false_iff_ne]; intro e; exact h1 (by simpa [nService, nStopped] using e)
  have HS : Hid (slotsK (kindI nService) st = []) := by show servK st = []; unfold servK; rw [if_neg h0, if_neg h1]
  clear h0 h1
  go_enter Tryz.func41, Tryz.ntmps41
  go_wp2_with fail
  all_goals
    go_ret2
    exact RulesOut.no HS.out
theorem kindI_cases {t : List UInt8} (h : kindI t ≠ 0) : t = nFile ∨ t = nAccount ∨ t = nGroup ∨ t = nPackage ∨ t = nService := by
  unfold kindI at h
  by_cases h0 : t = nFile; · exact .inl h0
  by_cases h1 : t = nAccount; · exact .inr (.inl h1)
  by_cases h2 : t = nGroup; · exact .inr (.inr (.inl h2))
  by_cases h3 : t = nPackage; · exact .inr (.inr (.inr (.inl h3)))
  by_cases h4 : t = nService; · exact .inr (.inr (.inr (.inr h4)))
  rw [if_neg h0, if_neg h1, if_neg h2, if_neg h3, if_neg h4] at h
  exact absurd rfl h
theorem rules_any (k st : List UInt8) (w : World) (hk : kindI k ≠ 0) (hs : st.length ≤ 140737488355328) : Calls Tryz.prog 41 #[.string (strL k), .string (strL st)] w (RulesOut k st w) := by
  rcases kindI_cases hk with rfl | rfl | rfl | rfl | rfl
  · by_cases h0 : st = nFile
    · subst h0; exact rules_file_file w
    by_cases h1 : st = nDirectory
    · subst h1; exact rules_file_directory w
    by_cases h2 : st = nLink
    · subst h2; exact rules_file_link w
    by_cases h3 : st = nAbsent
    · subst h3; exact rules_file_absent w
    exact rules_file_no st w hs h0 h1 h2 h3
  · by_cases h0 : st = nPresent
    · subst h0; exact rules_account_present w
    by_cases h1 : st = nAbsent
    · subst h1; exact rules_account_absent w
    exact rules_account_no st w hs h0 h1
  · by_cases h0 : st = nPresent
    · subst h0; exact rules_group_present w
    by_cases h1 : st = nAbsent
    · subst h1; exact rules_group_absent w
    exact rules_group_no st w hs h0 h1
  · by_cases h0 : st = nPresent
    · subst h0; exact rules_package_present w
    by_cases h1 : st = nAbsent
    · subst h1; exact rules_package_absent w
    exact rules_package_no st w hs h0 h1
  · by_cases h0 : st = nRunning
    · subst h0; exact rules_service_running w
    by_cases h1 : st = nStopped
    · subst h1; exact rules_service_stopped w
    exact rules_service_no st w hs h0 h1
end Go.Proofs.YtfofhnbijjocfaaGreatDoor

namespace Go.Proofs.YtfofhnbijjocfaaGreatDoor
open Go.RowKit Go.Maps
set_option maxRecDepth 100000

set_option maxRecDepth 100000 in
set_option maxHeartbeats 2000000 in
theorem value_content (v : List UInt8) (w : World) (hv : v.length ≤ 140737488355328) : Calls Tryz.prog 56 #[.string (strL nContent), .string (strL v)] w fun e w' => e = .returned (.bool (valB nContent v)) ∧ Kept [] w w' := by
  rw [valB_content]
  have e0 : ((strL nContent).toList == [99, 111, 110, 116, 101, 110, 116]) = true := by rw [strL_bytes]; rfl
  have e1 : ((strL nContent).toList == [109, 111, 100, 101]) = false := by rw [strL_bytes]; rfl
  have e2 : ((strL nContent).toList == [112, 117, 114, 103, 101]) = false := by rw [strL_bytes]; rfl
  have e3 : ((strL nContent).toList == [116, 97, 114, 103, 101, 116]) = false := by rw [strL_bytes]; rfl
  have e4 : ((strL nContent).toList == [117, 105, 100]) = false := by rw [strL_bytes]; rfl
  have e5 : ((strL nContent).toList == [103, 105, 100]) = false := by rw [strL_bytes]; rfl
  have e6 : ((strL nContent).toList == [103, 114, 111, 117, 112]) = false := by rw [strL_bytes]; rfl
  have e7 : ((strL nContent).toList == [115, 104, 101, 108, 108]) = false := by rw [strL_bytes]; rfl
  have e8 : ((strL nContent).toList == [118, 101, 114, 115, 105, 111, 110]) = false := by rw [strL_bytes]; rfl
  have e9 : ((strL nContent).toList == [101, 110, 115, 117, 114, 101]) = false := by rw [strL_bytes]; rfl
  have hsz := strL_size v
  by_cases h1 : v.length ≤ 512
  · have h1' : ((strL v).size : Int) ≤ 512 := by rw [hsz]; omega
    have HB : Hid (textB v = true) := decide_eq_true h1
    clear hsz
    go_enter Tryz.func56, Tryz.ntmps56
    go_wp2_with fail
    all_goals
      go_ret
      exact ⟨retB HB.out.symm, Kept.refl _ _⟩
  · have h1' : ¬ ((strL v).size : Int) ≤ 512 := by rw [hsz]; omega
    have HB : Hid (textB v = false) := decide_eq_false h1
    clear hsz
    go_enter Tryz.func56, Tryz.ntmps56
    go_wp2_with fail
    all_goals
      go_ret
      exact ⟨retB HB.out.symm, Kept.refl _ _⟩
theorem modeB_eq (v : List UInt8) : modeB v = ((dgB v 55 && (decide ((4 : Int) ≤ (v.length : Int)) && decide ((v.length : Int) ≤ 4))) && decide (v.head? = some 48)) := by
  unfold modeB
  by_cases h : v.length = 4
  · rw [decide_eq_true h, decide_eq_true (show (4 : Int) ≤ (v.length : Int) by omega), decide_eq_true (show (v.length : Int) ≤ 4 by omega)]
    cases dgB v 55 <;> cases decide (v.head? = some 48) <;> rfl
  · rw [decide_eq_false h]
    by_cases h2 : (4 : Int) ≤ (v.length : Int)
    · rw [decide_eq_false (show ¬ (v.length : Int) ≤ 4 by omega)]
      cases dgB v 55 <;> simp
    · rw [decide_eq_false h2]
      cases dgB v 55 <;> simp
set_option maxRecDepth 100000 in
set_option maxHeartbeats 2000000 in
theorem value_mode (v : List UInt8) (w : World) (hv : v.length ≤ 140737488355328) : Calls Tryz.prog 56 #[.string (strL nMode), .string (strL v)] w fun e w' => e = .returned (.bool (valB nMode v)) ∧ Kept [] w w' := by
  rw [valB_mode]
  have e0 : ((strL nMode).toList == [99, 111, 110, 116, 101, 110, 116]) = false := by rw [strL_bytes]; rfl
  have e1 : ((strL nMode).toList == [109, 111, 100, 101]) = true := by rw [strL_bytes]; rfl
  have e2 : ((strL nMode).toList == [112, 117, 114, 103, 101]) = false := by rw [strL_bytes]; rfl
  have e3 : ((strL nMode).toList == [116, 97, 114, 103, 101, 116]) = false := by rw [strL_bytes]; rfl
  have e4 : ((strL nMode).toList == [117, 105, 100]) = false := by rw [strL_bytes]; rfl
  have e5 : ((strL nMode).toList == [103, 105, 100]) = false := by rw [strL_bytes]; rfl
  have e6 : ((strL nMode).toList == [103, 114, 111, 117, 112]) = false := by rw [strL_bytes]; rfl
  have e7 : ((strL nMode).toList == [115, 104, 101, 108, 108]) = false := by rw [strL_bytes]; rfl
  have e8 : ((strL nMode).toList == [118, 101, 114, 115, 105, 111, 110]) = false := by rw [strL_bytes]; rfl
  have e9 : ((strL nMode).toList == [101, 110, 115, 117, 114, 101]) = false := by rw [strL_bytes]; rfl
  have HD : Hid (∀ w', Calls Tryz.prog 65 #[.string (strL v), .int .i64 4, .int .i64 4, .int .u8 55] w' fun e w2 => e = .returned (.bool (dgB v 55 && (decide ((4 : Int) ≤ (v.length : Int)) && decide ((v.length : Int) ≤ 4)))) ∧ w' = w2) := fun w' => rsdigits_any v 4 4 55 w' (by omega)
  cases hb : (dgB v 55 && (decide ((4 : Int) ≤ (v.length : Int)) && decide ((v.length : Int) ≤ 4)))
  · have HB : Hid (modeB v = false) := by show _ = _; rw [modeB_eq, hb]; rfl
    have HBB := Lib.hid hb
    clear hb
    go_enter Tryz.func56, Tryz.ntmps56
    go_wp2_with fail
    refine (HD.out _).mono ?_
    rw [HBB.out]
    rintro e w2 ⟨rfl, rfl⟩
    go_wp2_with fail
    all_goals
      go_ret
      exact ⟨retB HB.out.symm, Kept.refl _ _⟩
  · have HB : Hid (modeB v = decide (v.head? = some 48)) := by show _ = _; rw [modeB_eq, hb]; rfl
    have hl : v.length = 4 := by simp only [Bool.and_eq_true, decide_eq_true_eq] at hb; omega
    have HBB := Lib.hid hb
    obtain ⟨c, hc⟩ : ∃ c : Int, ((v[0]'(by omega)).toNat : Int) = c := ⟨_, rfl⟩
    have hix := run_index_str0 v (by omega) w
    have hd := head_get v (by omega) 48
    rw [hc] at hix
    by_cases h2 : v.head? = some 48
    · have q2 : (c == 48) = true := by rw [decide_eq_true h2] at hd; have := of_decide_eq_true hd.symm; rw [← hc, this]; rfl
      have HB2 : Hid (modeB v = true) := by show _ = _; rw [HB.out, decide_eq_true h2]
      clear hb h2 hd hc hl
      go_enter Tryz.func56, Tryz.ntmps56
      go_wp2_with fail
      refine (HD.out _).mono ?_
      rw [HBB.out]
      rintro e w2 ⟨rfl, rfl⟩
      go_wp2_with fail
      all_goals
        go_ret
        exact ⟨retB HB2.out.symm, Kept.refl _ _⟩
    · have q2 : (c == 48) = false := by
        rw [decide_eq_false h2] at hd
        have := of_decide_eq_false hd.symm
        rw [beq_eq_false_iff_ne]
        intro e
        apply this
        have h48 : (48 : UInt8).toNat = 48 := rfl
        rw [h48]; omega
      have HB2 : Hid (modeB v = false) := by show _ = _; rw [HB.out, decide_eq_false h2]
      clear hb h2 hd hc hl
      go_enter Tryz.func56, Tryz.ntmps56
      go_wp2_with fail
      refine (HD.out _).mono ?_
      rw [HBB.out]
      rintro e w2 ⟨rfl, rfl⟩
      go_wp2_with fail
      all_goals
        go_ret
        exact ⟨retB HB2.out.symm, Kept.refl _ _⟩
set_option maxRecDepth 100000 in
set_option maxHeartbeats 2000000 in
theorem value_purge (v : List UInt8) (w : World) : Calls Tryz.prog 56 #[.string (strL nPurge), .string (strL v)] w fun e w' => e = .returned (.bool (valB nPurge v)) ∧ Kept [] w w' := by
  rw [valB_purge]
  have e0 : ((strL nPurge).toList == [99, 111, 110, 116, 101, 110, 116]) = false := by rw [strL_bytes]; rfl
  have e1 : ((strL nPurge).toList == [109, 111, 100, 101]) = false := by rw [strL_bytes]; rfl
  have e2 : ((strL nPurge).toList == [112, 117, 114, 103, 101]) = true := by rw [strL_bytes]; rfl
  have e3 : ((strL nPurge).toList == [116, 97, 114, 103, 101, 116]) = false := by rw [strL_bytes]; rfl
  have e4 : ((strL nPurge).toList == [117, 105, 100]) = false := by rw [strL_bytes]; rfl
  have e5 : ((strL nPurge).toList == [103, 105, 100]) = false := by rw [strL_bytes]; rfl
  have e6 : ((strL nPurge).toList == [103, 114, 111, 117, 112]) = false := by rw [strL_bytes]; rfl
  have e7 : ((strL nPurge).toList == [115, 104, 101, 108, 108]) = false := by rw [strL_bytes]; rfl
  have e8 : ((strL nPurge).toList == [118, 101, 114, 115, 105, 111, 110]) = false := by rw [strL_bytes]; rfl
  have e9 : ((strL nPurge).toList == [101, 110, 115, 117, 114, 101]) = false := by rw [strL_bytes]; rfl
  by_cases h1 : v = nFalse
  · have HB : Hid (decide (v ∈ [nFalse, nTrue]) = true) := decide_eq_true (by rw [h1]; simp)
    have f1 : ((strL v).toList == [102, 97, 108, 115, 101]) = true := by rw [strL_bytes, h1]; rfl
    clear h1
    go_enter Tryz.func56, Tryz.ntmps56
    go_wp2_with fail
    all_goals
      go_ret
      exact ⟨retB HB.out.symm, Kept.refl _ _⟩
  · have f1 : ((strL v).toList == [102, 97, 108, 115, 101]) = false := by rw [strL_bytes]; exact beq_eq_false_iff_ne.2 h1
    by_cases h2 : v = nTrue
    · have HB : Hid (decide (v ∈ [nFalse, nTrue]) = true) := decide_eq_true (by rw [h2]; simp)
      have f2 : ((strL v).toList == [116, 114, 117, 101]) = true := by rw [strL_bytes, h2]; rfl
      clear h1 h2
      go_enter Tryz.func56, Tryz.ntmps56
      go_wp2_with fail
      all_goals
        go_ret
        exact ⟨retB HB.out.symm, Kept.refl _ _⟩
    · have HB : Hid (decide (v ∈ [nFalse, nTrue]) = false) := decide_eq_false (by simp [h1, h2])
      have f2 : ((strL v).toList == [116, 114, 117, 101]) = false := by rw [strL_bytes]; exact beq_eq_false_iff_ne.2 h2
      clear h1 h2
      go_enter Tryz.func56, Tryz.ntmps56
      go_wp2_with fail
      all_goals
        go_ret
        exact ⟨retB HB.out.symm, Kept.refl _ _⟩
set_option maxRecDepth 100000 in
set_option maxHeartbeats 2000000 in
theorem value_target (v : List UInt8) (w : World) (hv : v.length ≤ 140737488355328) : Calls Tryz.prog 56 #[.string (strL nTarget), .string (strL v)] w fun e w' => e = .returned (.bool (valB nTarget v)) ∧ Kept [] w w' := by
  rw [valB_target]
  have e0 : ((strL nTarget).toList == [99, 111, 110, 116, 101, 110, 116]) = false := by rw [strL_bytes]; rfl
  have e1 : ((strL nTarget).toList == [109, 111, 100, 101]) = false := by rw [strL_bytes]; rfl
  have e2 : ((strL nTarget).toList == [112, 117, 114, 103, 101]) = false := by rw [strL_bytes]; rfl
  have e3 : ((strL nTarget).toList == [116, 97, 114, 103, 101, 116]) = true := by rw [strL_bytes]; rfl
  have e4 : ((strL nTarget).toList == [117, 105, 100]) = false := by rw [strL_bytes]; rfl
  have e5 : ((strL nTarget).toList == [103, 105, 100]) = false := by rw [strL_bytes]; rfl
  have e6 : ((strL nTarget).toList == [103, 114, 111, 117, 112]) = false := by rw [strL_bytes]; rfl
  have e7 : ((strL nTarget).toList == [115, 104, 101, 108, 108]) = false := by rw [strL_bytes]; rfl
  have e8 : ((strL nTarget).toList == [118, 101, 114, 115, 105, 111, 110]) = false := by rw [strL_bytes]; rfl
  have e9 : ((strL nTarget).toList == [101, 110, 115, 117, 114, 101]) = false := by rw [strL_bytes]; rfl
  have HP : Hid (Calls Tryz.prog 64 #[.string (strL v)] w (PathOut v w)) := rpath_any v w (by omega)
  go_enter Tryz.func56, Tryz.ntmps56
  go_wp2_with fail
  refine HP.out.mono ?_
  rintro e w' ⟨hk, ⟨hp, rfl⟩ | ⟨ps, u, hp, rfl, _⟩⟩
  · have HB : Hid (pathB v = false ∧ Kept [] w w') := ⟨by unfold pathB; rw [hp]; rfl, hk⟩
    clear hk hp
    go_wp2_with fail
    all_goals
      go_ret
      exact ⟨retB HB.out.1.symm, HB.out.2⟩
  · have HB : Hid (pathB v = true ∧ Kept [] w w') := ⟨by unfold pathB; rw [hp]; rfl, hk⟩
    clear hk hp
    go_wp2_with fail
    all_goals
      go_ret
      exact ⟨retB HB.out.1.symm, HB.out.2⟩
theorem idB_eq (v : List UInt8) : idB v = (dgB v 57 && (decide ((1 : Int) ≤ (v.length : Int)) && decide ((v.length : Int) ≤ 5))) := by
  unfold idB
  rw [show decide ((1 : Int) ≤ (v.length : Int)) = decide (1 ≤ v.length) from decide_eq_decide.2 (by omega), show decide ((v.length : Int) ≤ 5) = decide (v.length ≤ 5) from decide_eq_decide.2 (by omega)]
  cases dgB v 57 <;> cases decide (1 ≤ v.length) <;> cases decide (v.length ≤ 5) <;> rfl
set_option maxRecDepth 100000 in
set_option maxHeartbeats 2000000 in
theorem value_uid (v : List UInt8) (w : World) (hv : v.length ≤ 140737488355328) : Calls Tryz.prog 56 #[.string (strL nUid), .string (strL v)] w fun e w' => e = .returned (.bool (valB nUid v)) ∧ Kept [] w w' := by
  rw [valB_uid]
  have e0 : ((strL nUid).toList == [99, 111, 110, 116, 101, 110, 116]) = false := by rw [strL_bytes]; rfl
  have e1 : ((strL nUid).toList == [109, 111, 100, 101]) = false := by rw [strL_bytes]; rfl
  have e2 : ((strL nUid).toList == [112, 117, 114, 103, 101]) = false := by rw [strL_bytes]; rfl
  have e3 : ((strL nUid).toList == [116, 97, 114, 103, 101, 116]) = false := by rw [strL_bytes]; rfl
  have e4 : ((strL nUid).toList == [117, 105, 100]) = true := by rw [strL_bytes]; rfl
  have e5 : ((strL nUid).toList == [103, 105, 100]) = false := by rw [strL_bytes]; rfl
  have e6 : ((strL nUid).toList == [103, 114, 111, 117, 112]) = false := by rw [strL_bytes]; rfl
  have e7 : ((strL nUid).toList == [115, 104, 101, 108, 108]) = false := by rw [strL_bytes]; rfl
  have e8 : ((strL nUid).toList == [118, 101, 114, 115, 105, 111, 110]) = false := by rw [strL_bytes]; rfl
  have e9 : ((strL nUid).toList == [101, 110, 115, 117, 114, 101]) = false := by rw [strL_bytes]; rfl
  have HD : Hid (∀ w', Calls Tryz.prog 65 #[.string (strL v), .int .i64 1, .int .i64 5, .int .u8 57] w' fun e w2 => e = .returned (.bool (idB v)) ∧ w' = w2) := fun w' => by rw [idB_eq]; exact rsdigits_any v 1 5 57 w' (by omega)
  go_enter Tryz.func56, Tryz.ntmps56
  go_wp2_with fail
  all_goals
    refine (HD.out _).mono ?_
    rintro e w2 ⟨rfl, rfl⟩
    go_wp2_with fail
    go_ret
    exact ⟨rfl, Kept.refl _ _⟩
set_option maxRecDepth 100000 in
set_option maxHeartbeats 2000000 in
theorem value_gid (v : List UInt8) (w : World) (hv : v.length ≤ 140737488355328) : Calls Tryz.prog 56 #[.string (strL nGid), .string (strL v)] w fun e w' => e = .returned (.bool (valB nGid v)) ∧ Kept [] w w' := by
  rw [valB_gid]
  have e0 : ((strL nGid).toList == [99, 111, 110, 116, 101, 110, 116]) = false := by rw [strL_bytes]; rfl
  have e1 : ((strL nGid).toList == [109, 111, 100, 101]) = false := by rw [strL_bytes]; rfl
  have e2 : ((strL nGid).toList == [112, 117, 114, 103, 101]) = false := by rw [strL_bytes]; rfl
  have e3 : ((strL nGid).toList == [116, 97, 114, 103, 101, 116]) = false := by rw [strL_bytes]; rfl
  have e4 : ((strL nGid).toList == [117, 105, 100]) = false := by rw [strL_bytes]; rfl
  have e5 : ((strL nGid).toList == [103, 105, 100]) = true := by rw [strL_bytes]; rfl
  have e6 : ((strL nGid).toList == [103, 114, 111, 117, 112]) = false := by rw [strL_bytes]; rfl
  have e7 : ((strL nGid).toList == [115, 104, 101, 108, 108]) = false := by rw [strL_bytes]; rfl
  have e8 : ((strL nGid).toList == [118, 101, 114, 115, 105, 111, 110]) = false := by rw [strL_bytes]; rfl
  have e9 : ((strL nGid).toList == [101, 110, 115, 117, 114, 101]) = false := by rw [strL_bytes]; rfl
  have HD : Hid (∀ w', Calls Tryz.prog 65 #[.string (strL v), .int .i64 1, .int .i64 5, .int .u8 57] w' fun e w2 => e = .returned (.bool (idB v)) ∧ w' = w2) := fun w' => by rw [idB_eq]; exact rsdigits_any v 1 5 57 w' (by omega)
  go_enter Tryz.func56, Tryz.ntmps56
  go_wp2_with fail
  all_goals
    refine (HD.out _).mono ?_
    rintro e w2 ⟨rfl, rfl⟩
    go_wp2_with fail
    go_ret
    exact ⟨rfl, Kept.refl _ _⟩
set_option maxRecDepth 100000 in
set_option maxHeartbeats 2000000 in
theorem value_group (v : List UInt8) (w : World) (hv : v.length ≤ 140737488355328) : Calls Tryz.prog 56 #[.string (strL nGroup), .string (strL v)] w fun e w' => e = .returned (.bool (valB nGroup v)) ∧ Kept [] w w' := by
  rw [valB_group]
  have e0 : ((strL nGroup).toList == [99, 111, 110, 116, 101, 110, 116]) = false := by rw [strL_bytes]; rfl
  have e1 : ((strL nGroup).toList == [109, 111, 100, 101]) = false := by rw [strL_bytes]; rfl
  have e2 : ((strL nGroup).toList == [112, 117, 114, 103, 101]) = false := by rw [strL_bytes]; rfl
  have e3 : ((strL nGroup).toList == [116, 97, 114, 103, 101, 116]) = false := by rw [strL_bytes]; rfl
  have e4 : ((strL nGroup).toList == [117, 105, 100]) = false := by rw [strL_bytes]; rfl
  have e5 : ((strL nGroup).toList == [103, 105, 100]) = false := by rw [strL_bytes]; rfl
  have e6 : ((strL nGroup).toList == [103, 114, 111, 117, 112]) = true := by rw [strL_bytes]; rfl
  have e7 : ((strL nGroup).toList == [115, 104, 101, 108, 108]) = false := by rw [strL_bytes]; rfl
  have e8 : ((strL nGroup).toList == [118, 101, 114, 115, 105, 111, 110]) = false := by rw [strL_bytes]; rfl
  have e9 : ((strL nGroup).toList == [101, 110, 115, 117, 114, 101]) = false := by rw [strL_bytes]; rfl
  have HD : Hid (∀ w', Calls Tryz.prog 63 #[.string (strL v)] w' fun e w2 => e = .returned (.bool (keyB v)) ∧ w' = w2) := fun w' => rskey_any v w' (by omega)
  go_enter Tryz.func56, Tryz.ntmps56
  go_wp2_with fail
  all_goals
    refine (HD.out _).mono ?_
    rintro e w2 ⟨rfl, rfl⟩
    go_wp2_with fail
    go_ret
    exact ⟨rfl, Kept.refl _ _⟩
set_option maxRecDepth 100000 in
set_option maxHeartbeats 2000000 in
theorem value_shell (v : List UInt8) (w : World) (hv : v.length ≤ 140737488355328) : Calls Tryz.prog 56 #[.string (strL nShell), .string (strL v)] w fun e w' => e = .returned (.bool (valB nShell v)) ∧ Kept [] w w' := by
  rw [valB_shell]
  have e0 : ((strL nShell).toList == [99, 111, 110, 116, 101, 110, 116]) = false := by rw [strL_bytes]; rfl
  have e1 : ((strL nShell).toList == [109, 111, 100, 101]) = false := by rw [strL_bytes]; rfl
  have e2 : ((strL nShell).toList == [112, 117, 114, 103, 101]) = false := by rw [strL_bytes]; rfl
  have e3 : ((strL nShell).toList == [116, 97, 114, 103, 101, 116]) = false := by rw [strL_bytes]; rfl
  have e4 : ((strL nShell).toList == [117, 105, 100]) = false := by rw [strL_bytes]; rfl
  have e5 : ((strL nShell).toList == [103, 105, 100]) = false := by rw [strL_bytes]; rfl
  have e6 : ((strL nShell).toList == [103, 114, 111, 117, 112]) = false := by rw [strL_bytes]; rfl
  have e7 : ((strL nShell).toList == [115, 104, 101, 108, 108]) = true := by rw [strL_bytes]; rfl
  have e8 : ((strL nShell).toList == [118, 101, 114, 115, 105, 111, 110]) = false := by rw [strL_bytes]; rfl
  have e9 : ((strL nShell).toList == [101, 110, 115, 117, 114, 101]) = false := by rw [strL_bytes]; rfl
  have HD : Hid (∀ w', Calls Tryz.prog 18 #[.string (strL v), .int .i64 64] w' fun e w2 => e = .returned (.bool (wdB v)) ∧ w' = w2) := fun w' => rword_any v 64 w' (by omega)
  go_enter Tryz.func56, Tryz.ntmps56
  go_wp2_with fail
  all_goals
    refine (HD.out _).mono ?_
    rintro e w2 ⟨rfl, rfl⟩
    go_wp2_with fail
    go_ret
    exact ⟨rfl, Kept.refl _ _⟩
set_option maxRecDepth 100000 in
set_option maxHeartbeats 2000000 in
theorem value_version (v : List UInt8) (w : World) (hv : v.length ≤ 140737488355328) : Calls Tryz.prog 56 #[.string (strL nVersion), .string (strL v)] w fun e w' => e = .returned (.bool (valB nVersion v)) ∧ Kept [] w w' := by
  rw [valB_version]
  have e0 : ((strL nVersion).toList == [99, 111, 110, 116, 101, 110, 116]) = false := by rw [strL_bytes]; rfl
  have e1 : ((strL nVersion).toList == [109, 111, 100, 101]) = false := by rw [strL_bytes]; rfl
  have e2 : ((strL nVersion).toList == [112, 117, 114, 103, 101]) = false := by rw [strL_bytes]; rfl
  have e3 : ((strL nVersion).toList == [116, 97, 114, 103, 101, 116]) = false := by rw [strL_bytes]; rfl
  have e4 : ((strL nVersion).toList == [117, 105, 100]) = false := by rw [strL_bytes]; rfl
  have e5 : ((strL nVersion).toList == [103, 105, 100]) = false := by rw [strL_bytes]; rfl
  have e6 : ((strL nVersion).toList == [103, 114, 111, 117, 112]) = false := by rw [strL_bytes]; rfl
  have e7 : ((strL nVersion).toList == [115, 104, 101, 108, 108]) = false := by rw [strL_bytes]; rfl
  have e8 : ((strL nVersion).toList == [118, 101, 114, 115, 105, 111, 110]) = true := by rw [strL_bytes]; rfl
  have e9 : ((strL nVersion).toList == [101, 110, 115, 117, 114, 101]) = false := by rw [strL_bytes]; rfl
  by_cases h0 : v = []
  · have q1 : (strL v).toList.isEmpty = true := by rw [strL_bytes, h0]; rfl
    have HB : Hid (fwB v = false) := by show _ = _; unfold fwB; rw [h0]; rfl
    clear h0
    go_enter Tryz.func56, Tryz.ntmps56
    go_wp2_with fail
    all_goals
      go_ret
      exact ⟨retB HB.out.symm, Kept.refl _ _⟩
  · have q1 : (strL v).toList.isEmpty = false := by rw [strL_bytes]; simpa using h0
    have HB : Hid (fwB v = wordB v 64) := by show _ = _; unfold fwB; rw [decide_eq_true h0]; rfl
    clear h0
    go_enter Tryz.func56, Tryz.ntmps56
    go_wp2_with fail
    all_goals
      refine (rword_any v 64 _ (by omega)).mono ?_
      rintro e w2 ⟨rfl, rfl⟩
      go_wp2_with fail
      go_ret
      exact ⟨retB HB.out.symm, Kept.refl _ _⟩
set_option maxRecDepth 100000 in
set_option maxHeartbeats 2000000 in
theorem value_other (n v : List UInt8) (w : World) (h0 : n ≠ nContent) (h1 : n ≠ nMode) (h2 : n ≠ nPurge) (h3 : n ≠ nTarget) (h4 : n ≠ nUid) (h5 : n ≠ nGid) (h6 : n ≠ nGroup) (h7 : n ≠ nShell) (h8 : n ≠ nVersion) : Calls Tryz.prog 56 #[.string (strL n), .string (strL v)] w fun e w' => e = .returned (.bool (valB n v)) ∧ Kept [] w w' := by
  have e0 : ((strL n).toList == [99, 111, 110, 116, 101, 110, 116]) = false := by rw [strL_bytes]; exact beq_eq_false_iff_ne.2 h0
  have e1 : ((strL n).toList == [109, 111, 100, 101]) = false := by rw [strL_bytes]; exact beq_eq_false_iff_ne.2 h1
  have e2 : ((strL n).toList == [112, 117, 114, 103, 101]) = false := by rw [strL_bytes]; exact beq_eq_false_iff_ne.2 h2
  have e3 : ((strL n).toList == [116, 97, 114, 103, 101, 116]) = false := by rw [strL_bytes]; exact beq_eq_false_iff_ne.2 h3
  have e4 : ((strL n).toList == [117, 105, 100]) = false := by rw [strL_bytes]; exact beq_eq_false_iff_ne.2 h4
  have e5 : ((strL n).toList == [103, 105, 100]) = false := by rw [strL_bytes]; exact beq_eq_false_iff_ne.2 h5
  have e6 : ((strL n).toList == [103, 114, 111, 117, 112]) = false := by rw [strL_bytes]; exact beq_eq_false_iff_ne.2 h6
  have e7 : ((strL n).toList == [115, 104, 101, 108, 108]) = false := by rw [strL_bytes]; exact beq_eq_false_iff_ne.2 h7
  have e8 : ((strL n).toList == [118, 101, 114, 115, 105, 111, 110]) = false := by rw [strL_bytes]; exact beq_eq_false_iff_ne.2 h8
  have HB : Hid (valB n v = decide (n = nEnsure)) := by show _ = _; unfold valB; rw [if_neg h0, if_neg h1, if_neg h2, if_neg h3, if_neg h4, if_neg h5, if_neg h6, if_neg h7, if_neg h8]
  have e9 : ((strL n).toList == [101, 110, 115, 117, 114, 101]) = decide (n = nEnsure) := by rw [strL_bytes, Bool.eq_iff_iff, beq_iff_eq, decide_eq_true_iff]; rfl
  obtain ⟨d, hd⟩ : ∃ d, decide (n = nEnsure) = d := ⟨_, rfl⟩
  rw [hd] at e9 HB
  clear hd h0 h1 h2 h3 h4 h5 h6 h7 h8
  go_enter Tryz.func56, Tryz.ntmps56
  go_wp2_with fail
  all_goals
    go_ret
    exact ⟨retB HB.out.symm, Kept.refl _ _⟩
theorem rsvalue_any (n v : List UInt8) (w : World) (hv : v.length ≤ 140737488355328) : Calls Tryz.prog 56 #[.string (strL n), .string (strL v)] w fun e w' => e = .returned (.bool (valB n v)) ∧ Kept [] w w' := by
  by_cases h0 : n = nContent
  · subst h0; exact value_content v w hv
  by_cases h1 : n = nMode
  · subst h1; exact value_mode v w hv
  by_cases h2 : n = nPurge
  · subst h2; exact value_purge v w
  by_cases h3 : n = nTarget
  · subst h3; exact value_target v w hv
  by_cases h4 : n = nUid
  · subst h4; exact value_uid v w hv
  by_cases h5 : n = nGid
  · subst h5; exact value_gid v w hv
  by_cases h6 : n = nGroup
  · subst h6; exact value_group v w hv
  by_cases h7 : n = nShell
  · subst h7; exact value_shell v w hv
  by_cases h8 : n = nVersion
  · subst h8; exact value_version v w hv
  exact value_other n v w h0 h1 h2 h3 h4 h5 h6 h7 h8

set_option maxRecDepth 100000 in
set_option maxHeartbeats 2000000 in
theorem rstitle_any (t s : List UInt8) (w : World) (hs : s.length ≤ 140737488355328) : Calls Tryz.prog 55 #[.string (strL t), .string (strL s)] w fun e w' => e = .returned (.bool (titleK (kindI t) s)) ∧ Kept [] w w' := by
  by_cases h0 : t = nFile
  · have HT : Hid (titleK (kindI t) s = titB s) := by show _ = _; rw [h0]; rfl
    have e0 : ((strL t).toList == [102, 105, 108, 101]) = true := by rw [strL_bytes, h0]; rfl
    clear h0
    rw [HT.out]
    have HP : Hid (Calls Tryz.prog 64 #[.string (strL s)] w (PathOut s w)) := rpath_any s w (by omega)
    go_enter Tryz.func55, Tryz.ntmps55
    go_wp2_with fail
    refine HP.out.mono ?_
    rintro e w' ⟨hk, ⟨hp, rfl⟩ | ⟨ps, v, hp, rfl, hsv⟩⟩
    · have HB : Hid (titB s = false ∧ Kept [] w w') := ⟨by unfold titB; rw [hp], hk⟩
      clear hk hp
      go_wp2_with fail
      go_ret
      exact ⟨retB HB.out.1.symm, HB.out.2⟩
    · obtain ⟨ao, cap, rfl, hh⟩ := strs_head hsv
      cases ps with
      | nil =>
        have HB : Hid (titB s = false ∧ Kept [] w w') := ⟨by unfold titB; rw [hp], hk⟩
        clear hk hp hh hsv
        simp only [List.length_nil]
        go_wp2_with fail
        go_ret
        exact ⟨retB HB.out.1.symm, HB.out.2⟩
      | cons x r =>
        obtain ⟨b, o, rfl, hc⟩ := hh (by simp)
        have c0 := hc x r rfl
        have hx : (x :: r).length ≤ 9223372036854775807 := by
          have hpo := hp
          unfold pathO at hpo
          split at hpo
          · cases hpo
          · split at hpo
            · rename_i h8
              injection hpo with hpo
              rw [← hpo]
              omega
            · cases hpo
        have HB : Hid (titB s = (decide (x ≠ nTab) && decide (x ≠ nRun)) ∧ Kept [] w w') := ⟨by unfold titB; rw [hp], hk⟩
        obtain ⟨n, hn⟩ : ∃ n, (x :: r).length = n := ⟨_, rfl⟩
        have hn0 : 0 < n := by rw [← hn]; simp
        rw [hn] at hx
        rw [hn]
        clear hk hp hh hsv hc hn
        by_cases h1 : x = nTab
        · have q1 : ((strL x).toList == [116, 97, 98]) = true := by rw [strL_bytes, h1]; rfl
          have HB2 : Hid (titB s = false) := by show _ = _; rw [HB.out.1, decide_eq_false (by simpa using h1)]; rfl
          clear h1
          go_wp2_with fail
          go_ret
          exact ⟨retB HB2.out.symm, HB.out.2⟩
        · have q1 : ((strL x).toList == [116, 97, 98]) = false := by rw [strL_bytes]; simpa [nTab] using h1
          by_cases h2 : x = nRun
          · have q2 : ((strL x).toList == [114, 117, 110]) = true := by rw [strL_bytes, h2]; rfl
            have HB2 : Hid (titB s = false) := by show _ = _; rw [HB.out.1, decide_eq_false (p := x ≠ nRun) (by simpa using h2)]; simp
            clear h1 h2
            go_wp2_with fail
            go_ret
            exact ⟨retB HB2.out.symm, HB.out.2⟩
          · have q2 : ((strL x).toList == [114, 117, 110]) = false := by rw [strL_bytes]; simpa [nRun] using h2
            have HB2 : Hid (titB s = true) := by show _ = _; rw [HB.out.1, decide_eq_true h1, decide_eq_true h2]; rfl
            clear h1 h2
            go_wp2_with fail
            go_ret
            exact ⟨retB HB2.out.symm, HB.out.2⟩
  · have e0 : ((strL t).toList == [102, 105, 108, 101]) = false := by rw [strL_bytes]; exact beq_eq_false_iff_ne.2 h0
    have HT : Hid (titleK (kindI t) s = keyB s) := by
      show _ = _
      unfold titleK
      rw [if_neg]
      unfold kindI
      rw [if_neg h0]
      repeat' split
      all_goals decide
    clear h0
    rw [HT.out]
    go_enter Tryz.func55, Tryz.ntmps55
    go_wp2_with fail
    refine (rskey_any s _ (by omega)).mono ?_
    rintro e w2 ⟨rfl, rfl⟩
    go_wp2_with fail
    go_ret
    exact ⟨rfl, Kept.refl _ _⟩
end Go.Proofs.YtfofhnbijjocfaaGreatDoor

namespace Go.Proofs.YtfofhnbijjocfaaGreatDoor
open Go.RowKit Go.Maps
set_option maxRecDepth 100000

def knB (S : List Prm) (n : List UInt8) : Bool := S.any fun x => decide (x.1 = n)
def prevN (P : List Prm) (i : Nat) : List UInt8 := ((P[i - 1]?).map (·.1)).getD []
/-- What the document asks of a parameter at its place. -/
def stepB (S P : List Prm) (i : Nat) (p : Prm) : Bool := knB S p.1 && ((decide (i = 0) || lessB (prevN P i) p.1) && valB p.1 p.2)
def docOk (S P : List Prm) : Prop := (∀ i (hi : i < P.length), stepB S P i P[i] = true) ∧ ∀ s ∈ S, s.1 = nTarget → getB P s.1 = true
theorem kn_iff {S : List Prm} {n : List UInt8} : knB S n = true ↔ ∃ s ∈ S, s.1 = n := by
  unfold knB
  rw [List.any_eq_true]
  constructor
  · rintro ⟨s, h1, h2⟩; exact ⟨s, h1, by simpa using h2⟩
  · rintro ⟨s, h1, h2⟩; exact ⟨s, h1, by simpa using h2⟩
theorem rise_adj {P : List Prm} (h : ∀ i (hi : i + 1 < P.length), lessB P[i].1 P[i + 1].1 = true) : rise P := by
  unfold rise
  rw [List.pairwise_iff_getElem]
  intro i j hi hj hij
  induction j with
  | zero => omega
  | succ j ih =>
    by_cases e : i = j
    · subst e; exact h i hj
    · exact less_tr (ih (by omega) (by omega)) (h j hj)
theorem rise_get {P : List Prm} (h : rise P) (i : Nat) (hi : i + 1 < P.length) : lessB P[i].1 P[i + 1].1 = true := by
  unfold rise at h
  rw [List.pairwise_iff_getElem] at h
  exact h i (i + 1) (by omega) hi (by omega)
theorem getB_iff {P : List Prm} {n : List UInt8} : getB P n = true ↔ ∃ p ∈ P, p.1 = n := by
  unfold getB
  constructor
  · intro h
    cases hg : getP P n with
    | none => rw [hg] at h; cases h
    | some v => exact ⟨(n, v), getP_some hg, rfl⟩
  · rintro ⟨p, hp, rfl⟩
    cases hg : getP P p.1 with
    | some v => rfl
    | none =>
      exfalso
      unfold getP at hg
      cases hf : P.find? (fun q => decide (q.1 = p.1)) with
      | none =>
        rw [List.find?_eq_none] at hf
        exact hf p hp (by simp)
      | some q => rw [hf] at hg; cases hg
theorem takes_self (st : List UInt8) : takesB st nEnsure st = true := by unfold takesB; rw [if_pos rfl]; simp
theorem slots_dflt (k : Nat) (st : List UInt8) : ∀ s ∈ slotsK k st, s.1 = nTarget ∨ takesB st s.1 s.2 = true := by
  have c1 : ∀ n v, n ≠ nEnsure → valB n v = true → takesB st n v = true := fun n v h1 h2 => by rw [takes_of h1]; exact h2
  intro s hs
  unfold slotsK fileK recK servK at hs
  split at hs
  · split at hs
    · simp only [List.mem_cons, List.not_mem_nil, or_false] at hs
      rcases hs with rfl | rfl | rfl
      · exact .inr (c1 _ _ (by decide) (by rw [valB_content]; decide))
      · exact .inr (takes_self st)
      · exact .inr (c1 _ _ (by decide) (by rw [valB_mode]; decide))
    · split at hs
      · simp only [List.mem_cons, List.not_mem_nil, or_false] at hs
        rcases hs with rfl | rfl | rfl
        · exact .inr (takes_self st)
        · exact .inr (c1 _ _ (by decide) (by rw [valB_mode]; decide))
        · exact .inr (c1 _ _ (by decide) (by rw [valB_purge]; decide))
      · split at hs
        · simp only [List.mem_cons, List.not_mem_nil, or_false] at hs
          rcases hs with rfl | rfl
          · exact .inr (takes_self st)
          · exact .inl rfl
        · split at hs
          · simp only [List.mem_cons, List.not_mem_nil, or_false] at hs
            subst hs
            exact .inr (takes_self st)
          · cases hs
  · split at hs
    · split at hs
      · simp only [lAccount, List.mem_cons, List.not_mem_nil, or_false] at hs
        rcases hs with rfl | rfl | rfl | rfl
        · exact .inr (takes_self st)
        · exact .inr (c1 _ _ (by decide) (by rw [valB_group]; decide))
        · exact .inr (c1 _ _ (by decide) (by rw [valB_shell]; decide))
        · exact .inr (c1 _ _ (by decide) (by rw [valB_uid]; decide))
      · split at hs
        · simp only [List.mem_cons, List.not_mem_nil, or_false] at hs
          subst hs
          exact .inr (takes_self st)
        · cases hs
    · split at hs
      · split at hs
        · simp only [lGroup, List.mem_cons, List.not_mem_nil, or_false] at hs
          rcases hs with rfl | rfl
          · exact .inr (takes_self st)
          · exact .inr (c1 _ _ (by decide) (by rw [valB_gid]; decide))
        · split at hs
          · simp only [List.mem_cons, List.not_mem_nil, or_false] at hs
            subst hs
            exact .inr (takes_self st)
          · cases hs
      · split at hs
        · split at hs
          · simp only [lPackage, List.mem_cons, List.not_mem_nil, or_false] at hs
            rcases hs with rfl | rfl
            · exact .inr (takes_self st)
            · exact .inr (c1 _ _ (by decide) (by rw [valB_version]; decide))
          · split at hs
            · simp only [List.mem_cons, List.not_mem_nil, or_false] at hs
              subst hs
              exact .inr (takes_self st)
            · cases hs
        · split at hs
          · split at hs
            · simp only [List.mem_cons, List.not_mem_nil, or_false] at hs
              subst hs
              exact .inr (takes_self st)
            · split at hs
              · simp only [List.mem_cons, List.not_mem_nil, or_false] at hs
                subst hs
                exact .inr (takes_self st)
              · cases hs
          · cases hs
theorem slots_target (k : Nat) (st : List UInt8) : ∀ s ∈ slotsK k st, s.1 = nTarget → s.2 = [] := by
  have n0 : nContent ≠ nTarget := by decide
  have n1 : nEnsure ≠ nTarget := by decide
  have n2 : nMode ≠ nTarget := by decide
  have n3 : nPurge ≠ nTarget := by decide
  have n4 : nGroup ≠ nTarget := by decide
  have n5 : nShell ≠ nTarget := by decide
  have n6 : nUid ≠ nTarget := by decide
  have n7 : nGid ≠ nTarget := by decide
  have n8 : nVersion ≠ nTarget := by decide
  unfold slotsK fileK recK servK
  split
  · split
    · simp [n0, n1, n2]
    · split
      · simp [n1, n2, n3]
      · split
        · simp [n1]
        · split <;> simp [n1]
  · split
    · split
      · simp [lAccount, n1, n4, n5, n6]
      · split <;> simp [n1]
    · split
      · split
        · simp [lGroup, n1, n7]
        · split <;> simp [n1]
      · split
        · split
          · simp [lPackage, n1, n8]
          · split <;> simp [n1]
        · split
          · split
            · simp [n1]
            · split <;> simp [n1]
          · simp
theorem kindI_le (t : List UInt8) : kindI t ≤ 5 := by
  unfold kindI
  repeat' split
  all_goals omega
theorem slots_first {k : Nat} (h0 : k ≠ 0) (h5 : k ≤ 5) : slotsK k (dfltK k) ≠ [] := by
  rcases (by omega : k = 1 ∨ k = 2 ∨ k = 3 ∨ k = 4 ∨ k = 5) with rfl | rfl | rfl | rfl | rfl <;> decide
theorem pathB_nil : pathB [] = false := by decide
theorem valB_ensure (v : List UInt8) : valB nEnsure v = true := by
  unfold valB
  rw [if_neg (by decide), if_neg (by decide), if_neg (by decide), if_neg (by decide), if_neg (by decide), if_neg (by decide), if_neg (by decide), if_neg (by decide), if_neg (by decide)]
  exact decide_eq_true rfl
theorem prevN_of {P : List Prm} {i : Nat} (hi : i < P.length) (h0 : 0 < i) : prevN P i = (P[i - 1]'(by omega)).1 := by
  unfold prevN
  rw [List.getElem?_eq_getElem (by omega)]; rfl
theorem doc_good {t : List UInt8} {P : List Prm} : docOk (slotsK (kindI t) (stO t P)) P ↔ goodP (takesB (stO t P)) (slotsK (kindI t) (stO t P)) P := by
  constructor
  · rintro ⟨h1, h2⟩
    have hr : rise P := rise_adj fun i hi => by
      have := h1 (i + 1) hi
      unfold stepB at this
      simp only [Bool.and_eq_true, Bool.or_eq_true, decide_eq_true_eq] at this
      rcases this.2.1 with h | h
      · omega
      · rw [prevN_of hi (by omega)] at h
        exact h
    refine ⟨hr, fun p hp => ?_, fun s hs => ?_⟩
    · obtain ⟨i, hi, rfl⟩ := List.getElem_of_mem hp
      have := h1 i hi
      unfold stepB at this
      simp only [Bool.and_eq_true] at this
      obtain ⟨s, hs, hse⟩ := kn_iff.1 this.1
      refine ⟨s, hs, hse, ?_⟩
      by_cases he : P[i].1 = nEnsure
      · have hg := getP_mem hr hp
        have : stO t P = P[i].2 := by
          unfold stO
          rw [← he, hg]; rfl
        rw [this, he]
        exact takes_self _
      · rw [takes_of he]
        exact this.2.2
    · rcases slots_dflt _ _ s hs with h | h
      · exact .inr (getB_iff.1 (h2 s hs h))
      · exact .inl h
  · rintro ⟨hr, h1, h2⟩
    refine ⟨fun i hi => ?_, fun s hs ht => ?_⟩
    · obtain ⟨s, hs, hse, hst⟩ := h1 _ (List.getElem_mem hi)
      unfold stepB
      simp only [Bool.and_eq_true, Bool.or_eq_true, decide_eq_true_eq]
      refine ⟨kn_iff.2 ⟨s, hs, hse⟩, ?_, ?_⟩
      · by_cases h0 : i = 0
        · exact .inl h0
        · right
          rw [prevN_of hi (by omega)]
          have := rise_get hr (i - 1) (by omega)
          have e : i - 1 + 1 = i := by omega
          simp only [e] at this
          exact this
      · by_cases he : P[i].1 = nEnsure
        · rw [he]; exact valB_ensure _
        · rw [takes_of he] at hst
          exact hst
    · rcases h2 s hs with h | h
      · rw [ht, slots_target _ _ s hs ht, takes_of (by decide), valB_target, pathB_nil] at h
        cases h
      · exact getB_iff.2 h
theorem codeO_no {t ti : List UInt8} {P : List Prm} (h1 : kindI t ≠ 0) (h2 : titleK (kindI t) ti = true) (h3 : ¬ docOk (slotsK (kindI t) (stO t P)) P) : codeO t ti P = 62 := by
  unfold codeO
  rw [if_neg h1, if_neg (by rw [h2]; simp), if_pos]
  have hf := fill_iff (takesB (stO t P)) (slotsK (kindI t) (stO t P)) P [] (slots_rise _ _)
  classical
  rw [if_neg fun h => h3 (doc_good.2 h)] at hf
  exact hf
theorem codeO_yes {t ti : List UInt8} {P : List Prm} (h1 : kindI t ≠ 0) (h2 : titleK (kindI t) ti = true) (h3 : docOk (slotsK (kindI t) (stO t P)) P) : codeO t ti P = 0 := codeO_of h1 h2 (doc_good.1 h3)
theorem codeO_none {t ti : List UInt8} {P : List Prm} (h1 : kindI t ≠ 0) (h2 : titleK (kindI t) ti = true) (h3 : slotsK (kindI t) (stO t P) = []) : codeO t ti P = 62 := by
  refine codeO_no h1 h2 fun h => ?_
  have hg := doc_good.1 h
  rw [h3] at hg
  cases P with
  | nil => exact slots_first h1 (kindI_le t) h3
  | cons p g => obtain ⟨s, hs, _⟩ := hg.2.1 p (by simp); cases hs
theorem not_step {S P : List Prm} {i : Nat} (hi : i < P.length) (h : stepB S P i P[i] = false) : ¬ docOk S P := fun hd => by rw [hd.1 i hi] at h; cases h
theorem not_target {S P : List Prm} {s : Prm} (hs : s ∈ S) (ht : s.1 = nTarget) (h : getB P s.1 = false) : ¬ docOk S P := fun hd => by rw [hd.2 s hs ht] at h; cases h
end Go.Proofs.YtfofhnbijjocfaaGreatDoor

/-
  Layer 5: words, and how many cells a table's rows have: the program's wordByte, word, Width, and the document's Word, Width.
  Conditions: those that each theorem states.
  Layer 5: how many cells a table's rows have: the program's Width (a map of five entries) and the document's.
  Conditions: those that each theorem states.
-/
import Derived.Test.YtfofhnbijjocfaaGreatDoorGEdg
import Derived.Maps.OwnSet
import Derived.StringKeys
namespace Go.Proofs.YtfofhnbijjocfaaGreatDoor
open Go.RowKit Go.Maps
set_option maxRecDepth 100000

/-- A byte of a word. -/
def wbI (c : Int) : Bool := decide ((65 ≤ c ∧ c ≤ 90) ∨ (97 ≤ c ∧ c ≤ 122) ∨ (48 ≤ c ∧ c ≤ 57) ∨ c = 46 ∨ c = 95 ∨ c = 45 ∨ c = 47)
def wordB (l : List UInt8) (most : Int) : Bool := decide ((l.length : Int) ≤ most) && l.all (fun c => wbI (c.toNat : Int))

theorem wordB_long {l : List UInt8} {m : Int} (h : m < l.length) : wordB l m = false := by
  unfold wordB
  rw [decide_eq_false (by omega), Bool.false_and]
theorem wordB_byte {l : List UInt8} {m : Int} (i : Nat) (hi : i < l.length) (h : wbI (l[i].toNat : Int) = false) : wordB l m = false := by
  have : l.all (fun c => wbI (c.toNat : Int)) = false := by
    rw [Bool.eq_false_iff]
    intro hh
    rw [List.all_eq_true] at hh
    rw [hh _ (List.getElem_mem hi)] at h
    cases h
  unfold wordB
  rw [this, Bool.and_false]
theorem wordB_all {l : List UInt8} {m : Int} (h : ∀ i (hi : i < l.length), wbI (l[i].toNat : Int) = true) : wordB l m = decide ((l.length : Int) ≤ m) := by
  have : l.all (fun c => wbI (c.toNat : Int)) = true := by
    rw [List.all_eq_true]
    intro x hx
    obtain ⟨i, hi, rfl⟩ := List.getElem_of_mem hx
    exact h i hi
  unfold wordB
  rw [this, Bool.and_true]

set_option maxHeartbeats 1000000 in
theorem wordByte_any (c : Int) (w : World) (h0 : 0 ≤ c) (h1 : c < 256) :
    Calls Tryz.prog 102 #[.int .u8 c] w fun e w' => e = .returned (.bool (wbI c)) ∧ w = w' := by
  go_enter Tryz.func102, Tryz.ntmps102
  go_wp2
  all_goals
    go_ret
    refine ⟨retB ?_, rfl⟩
    unfold wbI
    rw [Bool.eq_iff_iff]
    first
      | (simp; done)
      | (simp; omega)

set_option maxHeartbeats 2000000 in
theorem wordS_any (S : ByteArray) (m : Int) (w : World) (hs : S.size ≤ 9223372036854775807) :
    Calls Tryz.prog 97 #[.string S, .int .i64 m] w fun e w' => e = .returned (.bool (wordB S.data.toList m)) ∧ w = w' := by
  have hsl := size_toList S
  have HSL := Lib.hid hsl
  rcases (by omega : m < (S.size : Int) ∨ ¬ m < (S.size : Int)) with h1 | h1
  · have HB := Lib.hid (wordB_long (l := S.data.toList) (m := m) (by omega))
    clear hsl
    go_enter Tryz.func97, Tryz.ntmps97
    go_wp2_with fail
    go_ret
    exact ⟨retB HB.out.symm, rfl⟩
  · have hz : S.size ≤ 9223372036854775807 := hs
    clear hsl
    go_enter Tryz.func97, Tryz.ntmps97
    go_wp2_with fail
    go_loop [12] (fun i => ∃ k : Nat, k ≤ S.size ∧ i = .int .i64 k ∧ Hid (∀ j (hj : j < S.data.toList.length), j < k → wbI ((S.data.toList[j]).toNat : Int) = true)) (fun i => S.size - (intOf i).toNat)
    case atStart => exact ⟨0, by omega, rfl, fun j hj h0 => by omega⟩
    case round =>
      obtain ⟨k, hk, rfl, HK⟩ := hrel
      by_cases hlt : k < S.size
      · have hkl : k < S.data.toList.length := by rw [HSL.out]; exact hlt
        have hc := UInt8.toNat_lt S[k]
        have HE : Hid (S[k] = S.data.toList[k]) := by show _ = _; exact (get_toList S k hlt).symm
        cases hn : wbI (S[k].toNat : Int)
        all_goals
          have HN := Lib.hid hn
          clear hn
          go_wp2_with fail
          refine (wordByte_any _ _ (by omega) (by omega)).mono ?_
          rw [HN.out]
          rintro e w' ⟨rfl, rfl⟩
          go_wp2_with fail
        · go_ret
          exact ⟨retB (wordB_byte k hkl (by rw [← HE.out]; exact HN.out)).symm, rfl⟩
        · go_round
          case rel =>
            refine ⟨k + 1, by omega, by go_num, fun j hj h0 => ?_⟩
            by_cases e : j = k
            · subst e; rw [← HE.out]; exact HN.out
            · exact HK.out j hj (by omega)
          case measure => simp [intOf]; omega
      · have HB : Hid (wordB S.data.toList m = true) := by
          show _ = _
          rw [wordB_all fun i hi => HK.out i hi (by rw [HSL.out] at hi; omega)]
          exact decide_eq_true (by rw [HSL.out]; omega)
        go_wp2_with fail
        go_ret
        exact ⟨retB HB.out.symm, rfl⟩

set_option maxRecDepth 100000 in
set_option maxHeartbeats 4000000 in
theorem rwordS_any (S : ByteArray) (m : Int) (w : World) (hs : S.size ≤ 9223372036854775807) :
    Calls Tryz.prog 18 #[.string S, .int .i64 m] w fun e w' => e = .returned (.bool (wordB S.data.toList m)) ∧ w = w' := by
  have HSL := Lib.hid (size_toList S)
  have hz : S.size ≤ 9223372036854775807 := hs
  go_enter Tryz.func18, Tryz.ntmps18
  go_wp2_with fail
  go_loop [5] (fun i => ∃ k : Nat, k ≤ S.size ∧ i = .int .i64 k ∧ Hid (∀ j (hj : j < S.data.toList.length), j < k → wbI ((S.data.toList[j]).toNat : Int) = true)) (fun i => S.size - (intOf i).toNat)
  case atStart => exact ⟨0, by omega, rfl, fun j hj h0 => by omega⟩
  case round =>
    obtain ⟨k, hk, rfl, HK⟩ := hrel
    by_cases hlt : k < S.size
    · have hkl : k < S.data.toList.length := by rw [HSL.out]; exact hlt
      have hc := UInt8.toNat_lt S[k]
      have HE0 : Hid (S[k] = S.data.toList[k]) := by show _ = _; exact (get_toList S k hlt).symm
      obtain ⟨c, hcc⟩ : ∃ c : Int, (S[k].toNat : Int) = c := ⟨_, rfl⟩
      have h0 : 0 ≤ c ∧ c < 256 := by omega
      have HC := Lib.hid hcc
      have hix : (Instr.index 9 (.string S) (.int .i64 (k : Int))).run Tryz.prog w = .ok (.int .u8 c) w := by
        rw [← hcc]
        simp [Instr.index, run_underlying Tryz.underlying9, asIntOf, go_sem, hlt]
      clear hcc hc
      have HE : Hid (wbI ((S.data.toList[k]).toNat : Int) = wbI c) := by show _ = _; rw [← HE0.out, HC.out]
      clear HC HE0
      rcases (by omega : (65 ≤ c ∧ c ≤ 90) ∨ (97 ≤ c ∧ c ≤ 122) ∨ (48 ≤ c ∧ c ≤ 57) ∨ c = 46 ∨ c = 95 ∨ c = 45 ∨ c = 47 ∨ (¬ (65 ≤ c ∧ c ≤ 90) ∧ ¬ (97 ≤ c ∧ c ≤ 122) ∧ ¬ (48 ≤ c ∧ c ≤ 57) ∧ c ≠ 46 ∧ c ≠ 95 ∧ c ≠ 45 ∧ c ≠ 47)) with ⟨h, h'⟩ | ⟨h, h'⟩ | ⟨h, h'⟩ | h | h | h | h | h
      case inr.inr.inr.inr.inr.inr.inr =>
        have q1 : (c == 46) = false := by simp; omega
        have q2 : (c == 95) = false := by simp; omega
        have q3 : (c == 45) = false := by simp; omega
        have q4 : (c == 47) = false := by simp; omega
        have HF : Hid (wbI c = false) := by show _ = _; unfold wbI; rw [decide_eq_false_iff_not]; omega
        go_wp2_with fail
        all_goals
          first
            | (exfalso; omega)
            | (exfalso; rename_i hz; simp at hz; omega)
            | (go_ret
               exact ⟨retB (wordB_byte k hkl (by rw [HE.out]; exact HF.out)).symm, rfl⟩)
      all_goals
        have HF : Hid (wbI c = true) := by show _ = _; unfold wbI; rw [decide_eq_true_iff]; omega
        try subst h
        have HP : Hid (∀ j (hj : j < S.data.toList.length), j < k + 1 → wbI ((S.data.toList[j]).toNat : Int) = true) := fun j hj h0 => by
          by_cases e : j = k
          · subst e
            rw [HE.out]
            exact HF.out
          · exact HK.out j hj (by omega)
        clear HE HF HK
        go_wp2_with fail
        all_goals
          first
            | (exfalso; omega)
            | (go_round
               case rel => exact ⟨k + 1, by omega, by go_num, HP⟩
               case measure => simp [intOf]; omega)
    · have HA : Hid (wordB S.data.toList m = decide ((S.data.toList.length : Int) ≤ m)) := wordB_all fun i hi => HK.out i hi (by rw [HSL.out] at hi; omega)
      clear HK
      go_wp2_with fail
      go_ret
      exact ⟨retB (by rw [HA.out, HSL.out]), rfl⟩
theorem word_any (s : List UInt8) (m : Int) (w : World) (hs : s.length ≤ 9223372036854775807) :
    Calls Tryz.prog 97 #[.string (strL s), .int .i64 m] w fun e w' => e = .returned (.bool (wordB s m)) ∧ w = w' := wordS_any (strL s) m w (by rw [strL_size]; exact hs)
theorem rword_any (s : List UInt8) (m : Int) (w : World) (hs : s.length ≤ 9223372036854775807) :
    Calls Tryz.prog 18 #[.string (strL s), .int .i64 m] w fun e w' => e = .returned (.bool (wordB s m)) ∧ w = w' := rwordS_any (strL s) m w (by rw [strL_size]; exact hs)
end Go.Proofs.YtfofhnbijjocfaaGreatDoor

namespace Go.Proofs.YtfofhnbijjocfaaGreatDoor
open Go.RowKit Go.Maps
set_option maxRecDepth 100000

def nAccounts : List UInt8 := [97, 99, 99, 111, 117, 110, 116, 115]
def nGroups : List UInt8 := [103, 114, 111, 117, 112, 115]
def nPackages : List UInt8 := [112, 97, 99, 107, 97, 103, 101, 115]
def nServices : List UInt8 := [115, 101, 114, 118, 105, 99, 101, 115]
def nFacts : List UInt8 := [102, 97, 99, 116, 115]
/-- How many cells a table's rows have. -/
def widthI (t : List UInt8) : Int := if t = nFacts then 1 else if t = nServices then 2 else if t = nPackages then 1 else if t = nGroups then 1 else if t = nAccounts then 3 else 0
theorem widthI_bd (t : List UInt8) : 0 ≤ widthI t ∧ widthI t ≤ 3 := by
  unfold widthI
  split; · omega
  split; · omega
  split; · omega
  split; · omega
  split <;> omega

/-- How an entry of the map reads: a number. -/
def intR (v : Value) : Option (DataW Unit × List MemPlace) :=
  match v with
  | .int .i64 n => some (.lit (.int .i64 n), [])
  | _ => none
theorem intR_inv {v : Value} {n : Int} {ps : List MemPlace} (h : intR v = some (.lit (.int .i64 n), ps)) : v = .int .i64 n := by
  unfold intR at h
  split at h
  · simp only [Option.some.injEq, Prod.mk.injEq, DataW.lit.injEq, Lit.int.injEq, true_and] at h
    rw [h.1]
  · cases h
/-- Block m of w is a map of texts to numbers. -/
def SMap (w : World) (m n : Nat) (f : List UInt8 → Int) : Prop :=
  ∃ D : DataW Unit, w.ownsMap Tryz.prog 9 intR m n D ∧ IsMap D ∧ ∀ s : List UInt8, D.atKey (.string s) (.lit (.int .i64 0)) = .lit (.int .i64 (f s))
theorem SMap.made (w : World) : SMap (w.alloc (.map #[] 0)) w.heap.size 0 (fun _ => 0) := ⟨.map [], World.ownsMap_made w _ _ _, isMap_empty, fun s => by rfl⟩
theorem SMap.look {w : World} {m n : Nat} {f : List UInt8 → Int} (h : SMap w m n f) (s : List UInt8) (hs : s.length ≤ 9223372036854775807) :
    (Instr.lookup 124 (.map (some m)) (.string (strL s)) false).run Tryz.prog w = .ok (.int .i64 (f s)) w := by
  obtain ⟨D, h1, h2, h3⟩ := h
  obtain ⟨v, ps, hrun, hv⟩ := h1.lookup (string_keyed Tryz.underlying9) Tryz.underlying124 (z := .int .i64 0) (by kernel_rfl) (zd := .lit (.int .i64 0)) (zp := []) rfl (key := .string (strL s)) (kl := .string s) (WideMaps.keyOf_string_mk Tryz.underlying9 (by rw [strL_size]; unfold maxLen; omega))
  rw [h3 s] at hv
  rw [hrun, intR_inv hv]
theorem SMap.upd {w : World} {m n : Nat} {f : List UInt8 → Int} (h : SMap w m n f) (hn : n < 1000) (s : List UInt8) (hs : s.length ≤ 1000) (i : Int) :
    ∃ w', (Instr.mapUpdate 124 (.map (some m)) (.string (strL s)) (.int .i64 i)).run Tryz.prog w = .ok () w' ∧ SMap w' m (n + 1) (fun t => if t = s then i else f t) ∧ Kept [m] w w' := by
  obtain ⟨D, h1, h2, h3⟩ := h
  obtain ⟨w', hrun, r1, r2⟩ := h1.update (string_keyed Tryz.underlying9) Tryz.underlying124 (by unfold maxLen; omega) (WideMaps.keyOf_string_mk (s := strL s) Tryz.underlying9 (by rw [strL_size]; unfold maxLen; omega)) (val := .int .i64 i) (d := .lit (.int .i64 i)) (ps := []) rfl
  refine ⟨w', hrun, ⟨_, r1, h2.put _ _, fun t => ?_⟩, Kept.grown r2 (fun k hk => by injection hk with hk; simp [hk])⟩
  by_cases e : t = s
  · subst e
    simp only [if_true]
    exact atKey_put_same (k := .string t) h2 (by simp [WideAt.IsKeyLit]) _ _
  · simp only [e, if_false]
    rw [← h3 t]
    exact atKey_put_other (fun hh => e (Lit.string.inj hh)) _ _

set_option maxHeartbeats 2000000 in
theorem width_any (t : List UInt8) (w : World) (ht : t.length ≤ 9223372036854775807) :
    Calls Tryz.prog 92 #[.string (strL t)] w fun e w' => e = .returned (.int .i64 (widthI t)) ∧ Kept [] w w' := by
  have s0 := SMap.made w
  have k0 : Kept [] w (w.alloc (.map #[] 0)) := Kept.alloc _ _ _
  obtain ⟨w1, r1, s1, k1⟩ := s0.upd (by omega) nAccounts (by decide) 3
  obtain ⟨w2, r2, s2, k2⟩ := s1.upd (by omega) nGroups (by decide) 1
  obtain ⟨w3, r3, s3, k3⟩ := s2.upd (by omega) nPackages (by decide) 1
  obtain ⟨w4, r4, s4, k4⟩ := s3.upd (by omega) nServices (by decide) 2
  obtain ⟨w5, r5, s5, k5⟩ := s4.upd (by omega) nFacts (by decide) 1
  have r6 := s5.look t ht
  have HK : Hid (Kept [] w w5) := ((((k0.into k1 (by simp)).into k2 (by simp)).into k3 (by simp)).into k4 (by simp)).into k5 (by simp)
  clear k0 k1 k2 k3 k4 k5 s0 s1 s2 s3 s4 s5
  have e6 : (if t = nFacts then (1 : Int) else if t = nServices then 2 else if t = nPackages then 1 else if t = nGroups then 1 else if t = nAccounts then 3 else 0) = widthI t := rfl
  simp only [e6] at r6
  clear e6
  generalize widthI t = n at *
  have q1 : strL nAccounts = { data := #[97, 99, 99, 111, 117, 110, 116, 115] } := rfl
  have q2 : strL nGroups = { data := #[103, 114, 111, 117, 112, 115] } := rfl
  have q3 : strL nPackages = { data := #[112, 97, 99, 107, 97, 103, 101, 115] } := rfl
  have q4 : strL nServices = { data := #[115, 101, 114, 118, 105, 99, 101, 115] } := rfl
  have q5 : strL nFacts = { data := #[102, 97, 99, 116, 115] } := rfl
  rw [q1] at r1
  rw [q2] at r2
  rw [q3] at r3
  rw [q4] at r4
  rw [q5] at r5
  clear q1 q2 q3 q4 q5
  have r0 : (Instr.makeMap 124 none).run Tryz.prog w = .ok (.map (some w.heap.size)) (w.alloc (.map #[] 0)) := by kernel_rfl
  go_enter Tryz.func92, Tryz.ntmps92
  go_wp2_with fail
  go_ret
  exact ⟨rfl, HK.out⟩

end Go.Proofs.YtfofhnbijjocfaaGreatDoor

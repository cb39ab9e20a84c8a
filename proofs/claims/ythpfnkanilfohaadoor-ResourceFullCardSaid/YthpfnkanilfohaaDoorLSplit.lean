/-
  Layer 3: strings.Split at one byte, by the library's own contracts: the pieces between the strokes.
  Conditions: those that each theorem states.
-/
import Derived.Test.YthpfnkanilfohaaDoorLName
import Derived.Test.YthpfnkanilfohaaDoorLShelf
import Derived.Lib.SplitLaws
namespace Go.Proofs.YthpfnkanilfohaaDoor
open Go.RowKit Go.Maps Go.Shelf

def strokeS : ByteArray := ⟨#[47]⟩
/-- A text's pieces between the strokes. -/
def cutL : List UInt8 → List (List UInt8)
  | [] => [[]]
  | c :: l => if c = 47 then [] :: cutL l else match cutL l with
    | [] => [[c]]
    | p :: ps => (c :: p) :: ps

theorem cutL_miss : ∀ (a : List UInt8), (∀ c ∈ a, c ≠ 47) → cutL a = [a]
  | [], _ => rfl
  | c :: a, h => by
    rw [cutL, if_neg (h c (by simp)), cutL_miss a fun x hx => h x (by simp [hx])]
theorem cutL_hit : ∀ (a b : List UInt8), (∀ c ∈ a, c ≠ 47) → cutL (a ++ 47 :: b) = a :: cutL b
  | [], b, _ => by simp [cutL]
  | c :: a, b, h => by
    rw [List.cons_append, cutL, if_neg (h c (by simp)), cutL_hit a b fun x hx => h x (by simp [hx])]

theorem occ_one (s : List UInt8) (j : Nat) (h : Lib.occAt s [47] j = false) (hj : j < s.length) : s[j] ≠ 47 := by
  intro e
  rw [Lib.occAt_iff_take s [47] j (by simp; omega)] at h
  rw [List.drop_eq_getElem_cons hj, e] at h
  simp at h

theorem splitK_cut : ∀ (n : Nat) (s : List UInt8), s.length ≤ n → Lib.splitK [47] 0 (Lib.count s [47]) s = cutL s
  | n, s, hn => by
    rcases Lib.index_spec s [47] with ⟨hi, hno⟩ | ⟨i, hi, hil, hocc, hno⟩
    · rw [Lib.count_miss hi, Lib.splitK]
      symm
      refine cutL_miss s fun c hc => ?_
      obtain ⟨j, hj, rfl⟩ := List.getElem_of_mem hc
      exact occ_one s j (hno j (by omega)) hj
    · have hc := Lib.count_hit (sub := [47]) (by simp) hi
      rw [hc, Nat.add_comm, Lib.splitK]
      have hm : ¬ (Lib.index s [47] == -1) = true := fun e => by have := beq_iff_eq.1 e; omega
      rw [if_neg hm, hi]
      have hg := Lib.occAt_head (t := []) rfl hocc
      obtain ⟨hlt, hge⟩ := List.getElem?_eq_some_iff.1 hg
      have hsp : s = s.take i ++ 47 :: s.drop (i + 1) := by
        conv => lhs; rw [← List.take_append_drop i s, List.drop_eq_getElem_cons hlt, hge]
      have hfree : ∀ c ∈ s.take i, c ≠ 47 := fun c hc => by
        obtain ⟨j, hj, rfl⟩ := List.getElem_of_mem hc
        rw [List.length_take] at hj
        rw [List.getElem_take]
        exact occ_one s j (hno j (by omega)) (by omega)
      have hcut : cutL s = s.take i :: cutL (s.drop (i + 1)) := by
        conv => lhs; rw [hsp]
        exact cutL_hit _ _ hfree
      rw [hcut]
      cases n with
      | zero => omega
      | succ n =>
        have ih := splitK_cut n (s.drop (i + 1)) (by rw [List.length_drop]; omega)
        simp only [Int.toNat_natCast, Nat.add_zero, List.length_singleton]
        rw [ih]

theorem splitB_cut (l : List UInt8) : Lib.splitB strokeS 0 (Lib.countB (strL l) strokeS) (strL l) = (cutL l).map strL := by
  have h := Lib.splitB_data strokeS 0 (Lib.countB (strL l) strokeS) (strL l)
  have h2 : Lib.splitK strokeS.data.toList 0 (Lib.countB (strL l) strokeS) (strL l).data.toList = cutL l := splitK_cut l.length l (Nat.le_refl _)
  rw [h2] at h
  rw [← h, List.map_map]
  symm
  exact List.map_id _

theorem count_stroke (s : ByteArray) (w : World) : Calls Tryd.prog 61 #[.string s, .string strokeS] w fun e w' => e = .returned (.int .i64 (Lib.countB s strokeS)) ∧ w' = w := by
  refine (Any.strings_Count_one Tryd.lays138 s 47 w).mono fun e w' ⟨he, hw⟩ => ⟨?_, hw⟩
  rw [he]
  show _ = Ending.returned (Value.int .i64 ((Lib.count s.data.toList [47] : Nat) : Int))
  rw [Lib.count_one]
  rfl

theorem index_stroke (s : ByteArray) (w : World) : Calls Tryd.prog 62 #[.string s, .string strokeS] w fun e w' => e = .returned (.int .i64 (Lib.indexB s strokeS)) ∧ w' = w := by
  refine (Any.strings_Index_one Tryd.lays143 s 47 w).mono fun e w' ⟨he, hw⟩ => ⟨?_, hw⟩
  rw [he]
  show _ = Ending.returned (Value.int .i64 (Lib.index s.data.toList [47]))
  rw [Lib.index_one]

theorem cutL_count (l : List UInt8) : (cutL l).length = Lib.countB (strL l) strokeS + 1 := by
  have := Lib.splitB_all strokeS (by decide) 0 _ (strL l) rfl
  rw [splitB_cut, List.length_map] at this
  exact this

set_option maxHeartbeats 1000000 in
/-- strings.Split(s, "/"). -/
theorem split_stroke (l : List UInt8) (w : World) (hs : l.length < 4294967281) :
    Calls Tryd.prog 49 #[.string (strL l), .string strokeS] w fun e w' =>
      e = .returned (.slice (some ⟨w.heap.size, 0, none⟩) (cutL l).length (cutL l).length) ∧ w' = w.alloc (.cells (svA (cutL l)) 9) := by
  have hss : (strL l).size < 4294967281 := by rw [strL_size]; exact hs
  have hle := Lib.countB_le strokeS (by decide) _ (strL l) (Nat.le_refl _)
  have hcc := cutL_count l
  have c := Any.strings_genSplit_core Tryd.lays221 (by kernel_rfl) (strL l) strokeS 0 (-1) (cutL l).length w hss (by decide) (Nat.zero_le _)
    (fun x c _ => index_stroke x _) (count_stroke (strL l) w) (by decide) (by decide) (by rw [if_pos (by decide), hcc]; omega)
  have e1 : (cutL l).length - 1 = Lib.countB (strL l) strokeS := by omega
  rw [e1, splitB_cut, List.length_map] at c
  have e2 : Lib.cellsOf ((cutL l).map strL) (cutL l).length = svA (cutL l) := by
    have := Lib.cellsOf_full ((cutL l).map strL)
    rw [List.length_map] at this
    rw [this]
    simp [svA, sv]
  rw [e2] at c
  have c' : Calls Tryd.prog 55 #[.string (strL l), .string strokeS, .int .i64 0, .int .i64 (-1)] w fun e w' => e = .returned (.slice (some ⟨w.heap.size, 0, none⟩) (cutL l).length (cutL l).length) ∧ w' = w.alloc (.cells (svA (cutL l)) 9) := c
  have HC := Lib.hid c'
  clear hle hcc c c' e1 e2 hss
  go_enter Tryd.func49, Tryd.ntmps49
  go_wp2_with fail
  refine HC.out.mono ?_
  rintro e w' ⟨rfl, rfl⟩
  go_wp2_with fail
  go_ret
  exact ⟨rfl, rfl⟩

theorem hasPrefix_stroke (l : List UInt8) (w : World) : Calls Tryd.prog 48 #[.string (strL l), .string strokeS] w fun e w' => e = .returned (.bool (decide (l.head? = some 47))) ∧ w = w' := by
  refine (Any.strings_HasPrefix Tryd.lays99 (strL l) strokeS w).mono fun e w' ⟨he, hw⟩ => ⟨?_, hw.symm⟩
  rw [he]
  congr 2
  show Lib.hasPrefix l [47] = _
  cases l with
  | nil => rfl
  | cons c l =>
    rw [Bool.eq_iff_iff]
    simp [Lib.hasPrefix, List.isPrefixOf]
    exact eq_comm

end Go.Proofs.YthpfnkanilfohaaDoor

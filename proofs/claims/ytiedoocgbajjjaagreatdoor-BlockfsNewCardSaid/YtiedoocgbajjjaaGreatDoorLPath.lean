/-
  Layer 3's areas of a disk: Of, the program's and the document's.
  Conditions: those that each theorem states.
  Layer 3: names: the program's nameByte and Name, and the document's.
  Conditions: those that each theorem states.
  Layer 3: strings.Split at one byte, by the library's own contracts: the pieces between the strokes.
  Conditions: those that each theorem states.
  Layer 3: Path, the program's and the document's.
  Conditions: those that each theorem states.
-/
import Derived.Test.YtiedoocgbajjjaaGreatDoorLSnd
import Derived.Test.YtiedoocgbajjjaaGreatDoorTKit
import Derived.Lib.Strings
import Derived.Laws.Strings3
import Derived.Test.YtiedoocgbajjjaaGreatDoorLShelf
import Derived.Lib.SplitLaws
namespace Go.Proofs.YtiedoocgbajjjaaGreatDoor
open Go.RowKit Go.Maps
set_option maxRecDepth 100000

def layV (n : Int) : Array Value := #[.int .i64 n, .int .i64 0, .int .i64 1, .int .i64 2, .int .i64 201, .int .i64 (201 + (n + 511) / 512), .int .i64 (201 + (n + 511) / 512 + 32), .int .i64 64]
def lay0 : Array Value := #[.int .i64 0, .int .i64 0, .int .i64 0, .int .i64 0, .int .i64 0, .int .i64 0, .int .i64 0, .int .i64 0]

theorem rof_yes (n : Int) (w : World) (h0 : 512 ≤ n) (h1 : n ≤ 4096) :
    Calls Tryz.prog 24 #[.int .i64 n] w fun e w' => e = .returned (.tuple #[.agg (layV n), .int .i64 0]) ∧ Kept [] w w' := by
  go_enter Tryz.func24, Tryz.ntmps24
  go_wp2
  exact bodyPost_ret (v := .tuple #[.agg (layV n), .int .i64 0]) (by simp [results, Tryz.results24, go_sem, layV]) rfl ⟨rfl, Kept.alloc _ _ _⟩

theorem rof_no (n : Int) (w : World) (h0 : n < 512 ∨ 4096 < n) :
    Calls Tryz.prog 24 #[.int .i64 n] w fun e w' => e = .returned (.tuple #[.agg lay0, .int .i64 1]) ∧ Kept [] w w' := by
  rcases h0 with h0 | h0
  · go_enter Tryz.func24, Tryz.ntmps24
    go_wp2
    exact bodyPost_ret (v := .tuple #[.agg lay0, .int .i64 1]) (by simp [results, Tryz.results24, go_sem, lay0]) rfl ⟨rfl, Kept.alloc _ _ _⟩
  · have h1 : ¬ n < 512 := by omega
    go_enter Tryz.func24, Tryz.ntmps24
    go_wp2
    exact bodyPost_ret (v := .tuple #[.agg lay0, .int .i64 1]) (by simp [results, Tryz.results24, go_sem, lay0]) rfl ⟨rfl, Kept.alloc _ _ _⟩

theorem of_no (n : Int) (w : World) (h0 : n < 512 ∨ 4096 < n) :
    Calls Tryz.prog 34 #[.int .i64 n] w fun e w' => e = .returned (.tuple #[.agg lay0, .int .i64 1]) ∧ Kept [] w w' := by
  rcases h0 with h0 | h0
  · go_enter Tryz.func34, Tryz.ntmps34
    go_wp2
    exact bodyPost_ret (v := .tuple #[.agg lay0, .int .i64 1]) (by simp [results, Tryz.results34, go_sem, lay0]) rfl ⟨rfl, Kept.alloc _ _ _⟩
  · have h1 : ¬ n < 512 := by omega
    go_enter Tryz.func34, Tryz.ntmps34
    go_wp2
    exact bodyPost_ret (v := .tuple #[.agg lay0, .int .i64 1]) (by simp [results, Tryz.results34, go_sem, lay0]) rfl ⟨rfl, Kept.alloc _ _ _⟩

structure OfSt (w : World) (cs : Array Value) (wr : World) : Prop where
  r : wr.heap[w.heap.size]? = some (.cells lay0 60)
  l : wr.heap[w.heap.size + 1]? = some (.cells cs 60)
  kept : Kept [] w wr

theorem OfSt.go {w : World} {cs : Array Value} {wr w' : World} (h : OfSt w cs wr) (hk : Kept [] wr w') : OfSt w cs w' :=
  ⟨hk.heap (by simp) h.r, hk.heap (by simp) h.l, h.kept.trans hk⟩
theorem OfSt.set {w : World} {cs : Array Value} {wr : World} (h : OfSt w cs wr) (j : Nat) (v : Value) : OfSt w (cs.setIfInBounds j v) (wr.setCell ⟨w.heap.size + 1, j, none⟩ v) :=
  ⟨(Kept.setCell [w.heap.size + 1] wr ⟨w.heap.size + 1, j, none⟩ v (by simp)).heap (by simp) h.r, heap_setCell_same _ _ _ _ _ _ h.l, h.kept.into (Kept.setCell [w.heap.size + 1] wr ⟨w.heap.size + 1, j, none⟩ v (by simp)) (by simp)⟩

set_option maxHeartbeats 2000000 in
theorem of_yes (n : Int) (w : World) (h0 : 512 ≤ n) (h1 : n ≤ 4096) :
    Calls Tryz.prog 34 #[.int .i64 n] w fun e w' => e = .returned (.tuple #[.agg (layV n), .int .i64 0]) ∧ Kept [] w w' := by
  have hq : 0 ≤ (n + 512 - 1) / 512 ∧ (n + 512 - 1) / 512 ≤ 9 := by omega
  obtain ⟨q, hq'⟩ : ∃ q, (n + 512 - 1) / 512 = q := ⟨_, rfl⟩
  rw [hq'] at hq
  have HQ := Lib.hid hq'
  clear hq'
  go_enter Tryz.func34, Tryz.ntmps34
  go_wp2_with fail
  generalize hw3 : World.alloc (World.alloc w _) _ = w3
  have HS : OfSt w #[.int .i64 n, .int .i64 0, .int .i64 1, .int .i64 2, .int .i64 201, .int .i64 0, .int .i64 0, .int .i64 64] w3 := by
    rw [← hw3]
    refine ⟨(Kept.alloc [] _ _).heap (by simp) (heap_alloc_last w _), ?_, (Kept.alloc _ _ _).trans (Kept.alloc _ _ _)⟩
    have := heap_alloc_last (w.alloc (.cells lay0 60)) (.cells #[.int .i64 n, .int .i64 0, .int .i64 1, .int .i64 2, .int .i64 201, .int .i64 0, .int .i64 0, .int .i64 64] 60)
    rw [size_alloc] at this
    exact this
  clear hw3
  have HS3 := Lib.hid HS
  clear HS
  have c4 : w3.cell? ⟨w.heap.size + 1, 4, none⟩ = some (.int .i64 201) := cell_of_row _ _ 4 _ _ _ HS3.out.l
  have c5 : w3.cell? ⟨w.heap.size + 1, 5, none⟩ = some (.int .i64 0) := cell_of_row _ _ 5 _ _ _ HS3.out.l
  have f5 : w3.frozen? ⟨w.heap.size + 1, 5, none⟩ = false := frozen_of_row _ _ 5 _ _ HS3.out.l
  refine wp_region_still_tail 6 (by kernel_rfl) (by kernel_rfl) ?_
  simp only [List.take_succ_cons, List.take_zero, List.drop_succ_cons, List.drop_zero]
  still_step
  still_step
  still_step
  still_call ((blocksFor_any n 512 _ (by omega) (by omega) (by omega) (by omega)).mono fun _ _ h => ⟨h.1, h.2.symm⟩)
  rw [HQ.out]
  still_step
  still_step
  refine wpStill_nil ?_
  go_wp2_with fail
  generalize hw4 : World.drew (World.setCell w3 _ _) = w4
  have HS4 := HS3.out.set 5 (.int .i64 (201 + q))
  have HS5 : OfSt w #[.int .i64 n, .int .i64 0, .int .i64 1, .int .i64 2, .int .i64 201, .int .i64 (201 + q), .int .i64 0, .int .i64 64] w4 := by
    rw [← hw4]; exact HS4.go (Kept.drew _ _)
  clear hw4 HS4 HS3 c4 c5 f5
  have HS6 := Lib.hid HS5
  have c0 : w4.cell? ⟨w.heap.size + 1, 0, none⟩ = some (.int .i64 n) := cell_of_row _ _ 0 _ _ _ HS6.out.l
  have c1 : w4.cell? ⟨w.heap.size + 1, 1, none⟩ = some (.int .i64 0) := cell_of_row _ _ 1 _ _ _ HS6.out.l
  have c2 : w4.cell? ⟨w.heap.size + 1, 2, none⟩ = some (.int .i64 1) := cell_of_row _ _ 2 _ _ _ HS6.out.l
  have c3 : w4.cell? ⟨w.heap.size + 1, 3, none⟩ = some (.int .i64 2) := cell_of_row _ _ 3 _ _ _ HS6.out.l
  have c4 : w4.cell? ⟨w.heap.size + 1, 4, none⟩ = some (.int .i64 201) := cell_of_row _ _ 4 _ _ _ HS6.out.l
  have c5 : w4.cell? ⟨w.heap.size + 1, 5, none⟩ = some (.int .i64 (201 + q)) := cell_of_row _ _ 5 _ _ _ HS6.out.l
  have c6 : w4.cell? ⟨w.heap.size + 1, 6, none⟩ = some (.int .i64 0) := cell_of_row _ _ 6 _ _ _ HS6.out.l
  have c7 : w4.cell? ⟨w.heap.size + 1, 7, none⟩ = some (.int .i64 64) := cell_of_row _ _ 7 _ _ _ HS6.out.l
  have f5 : ∀ j, w4.frozen? ⟨w.heap.size + 1, j, none⟩ = false := fun j => frozen_of_row _ _ j _ _ HS6.out.l
  have f6 : ∀ j, w4.frozen? ⟨w.heap.size, j, none⟩ = false := fun j => frozen_of_row _ _ j _ _ HS6.out.r
  have r0 : w4.cell? ⟨w.heap.size, 0, none⟩ = some (.int .i64 0) := cell_of_row _ _ 0 _ _ _ HS6.out.r
  have r1 : w4.cell? ⟨w.heap.size, 1, none⟩ = some (.int .i64 0) := cell_of_row _ _ 1 _ _ _ HS6.out.r
  have r2 : w4.cell? ⟨w.heap.size, 2, none⟩ = some (.int .i64 0) := cell_of_row _ _ 2 _ _ _ HS6.out.r
  have r3 : w4.cell? ⟨w.heap.size, 3, none⟩ = some (.int .i64 0) := cell_of_row _ _ 3 _ _ _ HS6.out.r
  have r4 : w4.cell? ⟨w.heap.size, 4, none⟩ = some (.int .i64 0) := cell_of_row _ _ 4 _ _ _ HS6.out.r
  have r5 : w4.cell? ⟨w.heap.size, 5, none⟩ = some (.int .i64 0) := cell_of_row _ _ 5 _ _ _ HS6.out.r
  have r6 : w4.cell? ⟨w.heap.size, 6, none⟩ = some (.int .i64 0) := cell_of_row _ _ 6 _ _ _ HS6.out.r
  have r7 : w4.cell? ⟨w.heap.size, 7, none⟩ = some (.int .i64 0) := cell_of_row _ _ 7 _ _ _ HS6.out.r
  clear HS5
  refine wp_region_still_tail 5 (by kernel_rfl) (by kernel_rfl) ?_
  simp only [List.take_succ_cons, List.take_zero, List.drop_succ_cons, List.drop_zero]
  still_step
  still_step
  still_call ((blocksFor_any 64 2 _ (by omega) (by omega) (by omega) (by omega)).mono fun _ _ h => ⟨h.1, h.2.symm⟩)
  rw [show ((64 : Int) + 2 - 1) / 2 = 32 from rfl]
  still_step
  still_step
  refine wpStill_nil ?_
  go_wp2_with fail
  have hqq : q = (n + 511) / 512 := by rw [← HQ.out]; congr 1; omega
  refine bodyPost_ret (v := .tuple #[.agg (layV n), .int .i64 0]) (by simp [results, Tryz.results34, go_sem, layV, hqq, r0, r1, r2, r3, r4, r5, r6, r7]) rfl ⟨rfl, ?_⟩
  have hk := HS6.out.kept
  repeat (first | (with_reducible refine Kept.drewNew ?_) | (with_reducible refine Kept.setNew ?_ _ _ (by simp)))
  with_reducible exact hk
end Go.Proofs.YtiedoocgbajjjaaGreatDoor

namespace Go.Proofs.YtiedoocgbajjjaaGreatDoor
open Go.RowKit Go.Maps
set_option maxRecDepth 100000

/-- A byte of a name. -/
def nbI (c : Int) : Bool := decide ((65 ≤ c ∧ c ≤ 90) ∨ (97 ≤ c ∧ c ≤ 122) ∨ (48 ≤ c ∧ c ≤ 57) ∨ c = 46 ∨ c = 95 ∨ c = 45)
def nameB (l : List UInt8) : Bool := decide (1 ≤ l.length ∧ l.length ≤ 28) && (l.all (fun c => nbI (c.toNat : Int)) && (decide (l ≠ [46]) && decide (l ≠ [46, 46])))

set_option maxHeartbeats 1000000 in
theorem nameByte_any (c : Int) (w : World) (h0 : 0 ≤ c) (h1 : c < 256) :
    Calls Tryz.prog 124 #[.int .u8 c] w fun e w' => e = .returned (.bool (nbI c)) ∧ w = w' := by
  go_enter Tryz.func124, Tryz.ntmps124
  go_wp2
  all_goals
    go_ret
    refine ⟨retB ?_, rfl⟩
    unfold nbI
    rw [Bool.eq_iff_iff]
    first
      | (simp; done)
      | (simp; omega)

theorem nameB_len {l : List UInt8} (h : l.length < 1 ∨ 28 < l.length) : nameB l = false := by
  unfold nameB
  rw [decide_eq_false (by omega), Bool.false_and]
theorem nameB_dot {l : List UInt8} (h : l = [46] ∨ l = [46, 46]) : nameB l = false := by
  rcases h with rfl | rfl <;> decide
theorem nameB_byte {l : List UInt8} (i : Nat) (hi : i < l.length) (h : nbI (l[i].toNat : Int) = false) : nameB l = false := by
  have : l.all (fun c => nbI (c.toNat : Int)) = false := by
    rw [Bool.eq_false_iff]
    intro hh
    rw [List.all_eq_true] at hh
    rw [hh _ (List.getElem_mem hi)] at h
    cases h
  unfold nameB
  rw [this, Bool.false_and, Bool.and_false]
theorem nameB_yes {l : List UInt8} (h1 : 1 ≤ l.length) (h2 : l.length ≤ 28) (h3 : l ≠ [46]) (h4 : l ≠ [46, 46]) (h : ∀ i (hi : i < l.length), nbI (l[i].toNat : Int) = true) : nameB l = true := by
  have : l.all (fun c => nbI (c.toNat : Int)) = true := by
    rw [List.all_eq_true]
    intro x hx
    obtain ⟨i, hi, rfl⟩ := List.getElem_of_mem hx
    exact h i hi
  unfold nameB
  rw [this, decide_eq_true ⟨h1, h2⟩, decide_eq_true h3, decide_eq_true h4]
  rfl
set_option maxHeartbeats 2000000 in
theorem name_any (s : ByteArray) (w : World) (hs : s.size ≤ 9223372036854775807) :
    Calls Tryz.prog 97 #[.string s] w fun e w' => e = .returned (.bool (nameB s.data.toList)) ∧ w = w' := by
  have hsl := size_toList s
  have htl := Lib.toList_data s
  have HSL := Lib.hid hsl
  have HTL := Lib.hid htl
  rcases (by omega : s.size < 1 ∨ (¬ s.size < 1 ∧ ¬ s.size ≤ 28) ∨ (¬ s.size < 1 ∧ s.size ≤ 28)) with h1 | ⟨h1, h2⟩ | ⟨h1, h2⟩
  · have HB := Lib.hid (nameB_len (l := s.data.toList) (by omega))
    clear hsl htl
    go_enter Tryz.func97, Tryz.ntmps97
    go_wp2_with fail
    go_ret
    exact ⟨retB HB.out.symm, rfl⟩
  · have HB := Lib.hid (nameB_len (l := s.data.toList) (by omega))
    clear hsl htl
    go_enter Tryz.func97, Tryz.ntmps97
    go_wp2_with fail
    go_ret
    exact ⟨retB HB.out.symm, rfl⟩
  · by_cases h3 : s.data.toList = [46]
    · have HB := Lib.hid (nameB_dot (.inl h3))
      have e1 : (s.toList == [46]) = true := by rw [htl, h3]; rfl
      clear hsl htl h3
      go_enter Tryz.func97, Tryz.ntmps97
      go_wp2_with fail
      all_goals
        go_ret
        exact ⟨retB HB.out.symm, rfl⟩
    · have e1 : (s.toList == [46]) = false := by rw [htl]; simpa using h3
      by_cases h4 : s.data.toList = [46, 46]
      · have HB := Lib.hid (nameB_dot (.inr h4))
        have e2 : (s.toList == [46, 46]) = true := by rw [htl, h4]; rfl
        clear hsl htl h3 h4
        go_enter Tryz.func97, Tryz.ntmps97
        go_wp2_with fail
        all_goals
          go_ret
          exact ⟨retB HB.out.symm, rfl⟩
      · have e2 : (s.toList == [46, 46]) = false := by rw [htl]; simpa using h4
        have H3 := Lib.hid h3
        have H4 := Lib.hid h4
        clear hsl htl h3 h4
        go_enter Tryz.func97, Tryz.ntmps97
        go_wp2_with fail
        go_loop [22] (fun i => ∃ k : Nat, k ≤ s.size ∧ i = .int .i64 k ∧ Hid (∀ j (hj : j < s.data.toList.length), j < k → nbI ((s.data.toList[j]).toNat : Int) = true)) (fun i => s.size - (intOf i).toNat)
        case atStart => exact ⟨0, by omega, rfl, fun j hj h0 => by omega⟩
        case round =>
          obtain ⟨k, hk, rfl, HK⟩ := hrel
          by_cases hlt : k < s.size
          · have hkl : k < s.data.toList.length := by rw [HSL.out]; exact hlt
            have hc := UInt8.toNat_lt s[k]
            cases hn : nbI (s[k].toNat : Int)
            all_goals
              have HN := Lib.hid hn
              clear hn
              go_wp2_with fail
              refine (nameByte_any _ _ (by omega) (by omega)).mono ?_
              rw [HN.out]
              rintro e w' ⟨rfl, rfl⟩
              go_wp2_with fail
            · go_ret
              exact ⟨retB (nameB_byte k hkl HN.out).symm, rfl⟩
            · go_round
              case rel =>
                refine ⟨k + 1, by omega, by go_num, fun j hj h0 => ?_⟩
                by_cases e : j = k
                · subst e; exact HN.out
                · exact HK.out j hj (by omega)
              case measure => simp [intOf]; omega
          · go_wp2_with fail
            go_ret
            exact ⟨retB (nameB_yes (by rw [HSL.out]; omega) (by rw [HSL.out]; omega) H3.out H4.out fun i hi => HK.out i hi (by rw [HSL.out] at hi; omega)).symm, rfl⟩

end Go.Proofs.YtiedoocgbajjjaaGreatDoor

namespace Go.Proofs.YtiedoocgbajjjaaGreatDoor
open Go.RowKit Go.Maps Go.Shelf
set_option maxRecDepth 100000

def strokeS : ByteArray := ⟨#[47]⟩
/-- A text's pieces between the strokes. -/
def cutL : List UInt8 → List (List UInt8)
  | [] => [[]]
  | c :: l => if c = 47 then [] :: cutL l else match cutL l with
    | [] => [[c]]
    | p :: ps => (c :: p) :: ps

theorem cutL_miss : ∀ (a : List UInt8), (∀ c ∈ a, c ≠ 47) → cutL a = [a]
  | [], _ => rfl
  | c :: a, h => by
    rw [cutL, if_neg (h c (by simp)), cutL_miss a fun x hx => h x (by simp [hx])]
theorem cutL_hit : ∀ (a b : List UInt8), (∀ c ∈ a, c ≠ 47) → cutL (a ++ 47 :: b) = a :: cutL b
  | [], b, _ => by simp [cutL]
  | c :: a, b, h => by
    rw [List.cons_append, cutL, if_neg (h c (by simp)), cutL_hit a b fun x hx => h x (by simp [hx])]

theorem occ_one (s : List UInt8) (j : Nat) (h : Lib.occAt s [47] j = false) (hj : j < s.length) : s[j] ≠ 47 := by
  intro e
  rw [Lib.occAt_iff_take s [47] j (by simp; omega)] at h
  rw [List.drop_eq_getElem_cons hj, e] at h
  simp at h

theorem splitK_cut : ∀ (n : Nat) (s : List UInt8), s.length ≤ n → Lib.splitK [47] 0 (Lib.count s [47]) s = cutL s
  | n, s, hn => by
    rcases Lib.index_spec s [47] with ⟨hi, hno⟩ | ⟨i, hi, hil, hocc, hno⟩
    · rw [Lib.count_miss hi, Lib.splitK]
      symm
      refine cutL_miss s fun c hc => ?_
      obtain ⟨j, hj, rfl⟩ := List.getElem_of_mem hc
      exact occ_one s j (hno j (by omega)) hj
    · have hc := Lib.count_hit (sub := [47]) (by simp) hi
      rw [hc, Nat.add_comm, Lib.splitK]
      have hm : ¬ (Lib.index s [47] == -1) = true := fun e => by have := beq_iff_eq.1 e; omega
      rw [if_neg hm, hi]
      have hg := Lib.occAt_head (t := []) rfl hocc
      obtain ⟨hlt, hge⟩ := List.getElem?_eq_some_iff.1 hg
      have hsp : s = s.take i ++ 47 :: s.drop (i + 1) := by
        conv => lhs; rw [← List.take_append_drop i s, List.drop_eq_getElem_cons hlt, hge]
      have hfree : ∀ c ∈ s.take i, c ≠ 47 := fun c hc => by
        obtain ⟨j, hj, rfl⟩ := List.getElem_of_mem hc
        rw [List.length_take] at hj
        rw [List.getElem_take]
        exact occ_one s j (hno j (by omega)) (by omega)
      have hcut : cutL s = s.take i :: cutL (s.drop (i + 1)) := by
        conv => lhs; rw [hsp]
        exact cutL_hit _ _ hfree
      rw [hcut]
      cases n with
      | zero => omega
      | succ n =>
        have ih := splitK_cut n (s.drop (i + 1)) (by rw [List.length_drop]; omega)
        simp only [Int.toNat_natCast, Nat.add_zero, List.length_singleton]
        rw [ih]

theorem splitB_cut (l : List UInt8) : Lib.splitB strokeS 0 (Lib.countB (strL l) strokeS) (strL l) = (cutL l).map strL := by
  have h := Lib.splitB_data strokeS 0 (Lib.countB (strL l) strokeS) (strL l)
  have h2 : Lib.splitK strokeS.data.toList 0 (Lib.countB (strL l) strokeS) (strL l).data.toList = cutL l := splitK_cut l.length l (Nat.le_refl _)
  rw [h2] at h
  rw [← h, List.map_map]
  symm
  exact List.map_id _

theorem count_stroke (s : ByteArray) (w : World) : Calls Tryz.prog 138 #[.string s, .string strokeS] w fun e w' => e = .returned (.int .i64 (Lib.countB s strokeS)) ∧ w' = w := by
  refine (Any.strings_Count_one Tryz.lays138 s 47 w).mono fun e w' ⟨he, hw⟩ => ⟨?_, hw⟩
  rw [he]
  show _ = Ending.returned (Value.int .i64 ((Lib.count s.data.toList [47] : Nat) : Int))
  rw [Lib.count_one]
  rfl

theorem index_stroke (s : ByteArray) (w : World) : Calls Tryz.prog 139 #[.string s, .string strokeS] w fun e w' => e = .returned (.int .i64 (Lib.indexB s strokeS)) ∧ w' = w := by
  refine (Any.strings_Index_one Tryz.lays143 s 47 w).mono fun e w' ⟨he, hw⟩ => ⟨?_, hw⟩
  rw [he]
  show _ = Ending.returned (Value.int .i64 (Lib.index s.data.toList [47]))
  rw [Lib.index_one]

theorem cutL_count (l : List UInt8) : (cutL l).length = Lib.countB (strL l) strokeS + 1 := by
  have := Lib.splitB_all strokeS (by decide) 0 _ (strL l) rfl
  rw [splitB_cut, List.length_map] at this
  exact this

set_option maxHeartbeats 1000000 in
/-- strings.Split(s, "/"). -/
theorem split_stroke (l : List UInt8) (w : World) (hs : l.length < 4294967281) :
    Calls Tryz.prog 96 #[.string (strL l), .string strokeS] w fun e w' =>
      e = .returned (.slice (some ⟨w.heap.size, 0, none⟩) (cutL l).length (cutL l).length) ∧ w' = w.alloc (.cells (svA (cutL l)) 9) := by
  have hss : (strL l).size < 4294967281 := by rw [strL_size]; exact hs
  have hle := Lib.countB_le strokeS (by decide) _ (strL l) (Nat.le_refl _)
  have hcc := cutL_count l
  have c := Any.strings_genSplit_core Tryz.lays221 (by kernel_rfl) (strL l) strokeS 0 (-1) (cutL l).length w hss (by decide) (Nat.zero_le _)
    (fun x c _ => index_stroke x _) (count_stroke (strL l) w) (by decide) (by decide) (by rw [if_pos (by decide), hcc]; omega)
  have e1 : (cutL l).length - 1 = Lib.countB (strL l) strokeS := by omega
  rw [e1, splitB_cut, List.length_map] at c
  have e2 : Lib.cellsOf ((cutL l).map strL) (cutL l).length = svA (cutL l) := by
    have := Lib.cellsOf_full ((cutL l).map strL)
    rw [List.length_map] at this
    rw [this]
    simp [svA, sv]
  rw [e2] at c
  have c' : Calls Tryz.prog 123 #[.string (strL l), .string strokeS, .int .i64 0, .int .i64 (-1)] w fun e w' => e = .returned (.slice (some ⟨w.heap.size, 0, none⟩) (cutL l).length (cutL l).length) ∧ w' = w.alloc (.cells (svA (cutL l)) 9) := c
  have HC := Lib.hid c'
  clear hle hcc c c' e1 e2 hss
  go_enter Tryz.func96, Tryz.ntmps96
  go_wp2_with fail
  refine HC.out.mono ?_
  rintro e w' ⟨rfl, rfl⟩
  go_wp2_with fail
  go_ret
  exact ⟨rfl, rfl⟩

theorem hasPrefix_stroke (l : List UInt8) (w : World) : Calls Tryz.prog 95 #[.string (strL l), .string strokeS] w fun e w' => e = .returned (.bool (decide (l.head? = some 47))) ∧ w = w' := by
  refine (Any.strings_HasPrefix Tryz.lays99 (strL l) strokeS w).mono fun e w' ⟨he, hw⟩ => ⟨?_, hw.symm⟩
  rw [he]
  congr 2
  show Lib.hasPrefix l [47] = _
  cases l with
  | nil => rfl
  | cons c l =>
    rw [Bool.eq_iff_iff]
    simp [Lib.hasPrefix, List.isPrefixOf]
    exact eq_comm

end Go.Proofs.YtiedoocgbajjjaaGreatDoor

namespace Go.Proofs.YtiedoocgbajjjaaGreatDoor
open Go.RowKit Go.Maps
set_option maxRecDepth 100000

/-- A path's names. -/
def pathO (s : List UInt8) : Option (List (List UInt8)) :=
  if s = [47] then some [] else if s.length ≤ 120 ∧ s.head? = some 47 ∧ (cutL s.tail).length ≤ 8 ∧ (cutL s.tail).all nameB = true then some (cutL s.tail) else none

/-- What Path leaves. -/
def PathOut (s : List UInt8) (w : World) (e : Ending) (w' : World) : Prop :=
  Kept [] w w' ∧ ((pathO s = none ∧ e = .returned (.tuple #[.slice none 0 0, .int .i64 40])) ∨ ∃ ps v, pathO s = some ps ∧ e = .returned (.tuple #[v, .int .i64 0]) ∧ StrsIs w' v ps)

theorem not_all_name {l : List (List UInt8)} (i : Nat) (hi : i < l.length) (h : nameB l[i] = false) : l.all nameB = false := by
  rw [Bool.eq_false_iff]
  intro hh
  rw [List.all_eq_true] at hh
  rw [hh _ (List.getElem_mem hi)] at h
  cases h
theorem all_name {l : List (List UInt8)} (h : ∀ i (hi : i < l.length), nameB l[i] = true) : l.all nameB = true := by
  rw [List.all_eq_true]
  intro x hx
  obtain ⟨i, hi, rfl⟩ := List.getElem_of_mem hx
  exact h i hi
theorem pathO_no {s : List UInt8} (h0 : s ≠ [47]) (h : ¬ (s.length ≤ 120 ∧ s.head? = some 47 ∧ (cutL s.tail).length ≤ 8 ∧ (cutL s.tail).all nameB = true)) : pathO s = none := by
  unfold pathO
  rw [if_neg h0, if_neg h]
theorem pathO_yes {s : List UInt8} (h0 : s ≠ [47]) (h : s.length ≤ 120 ∧ s.head? = some 47 ∧ (cutL s.tail).length ≤ 8 ∧ (cutL s.tail).all nameB = true) : pathO s = some (cutL s.tail) := by
  unfold pathO
  rw [if_neg h0, if_pos h]
theorem extract_tail (l : List UInt8) : (strL l).extract 1 (strL l).size = strL l.tail := by
  apply ByteArray.ext
  apply Array.toList_inj.1
  rw [Lib.extract_data, strL_size]
  simp [strL]
  exact List.take_of_length_le (by simp)
theorem cutL_le : ∀ (l : List UInt8), ∀ x ∈ cutL l, x.length ≤ l.length
  | [], x, hx => by simp [cutL] at hx; simp [hx]
  | c :: l, x, hx => by
    have ih := cutL_le l
    rw [cutL] at hx
    split at hx
    · simp at hx
      rcases hx with rfl | hx
      · simp
      · have := ih x hx; simp; omega
    · split at hx
      · simp at hx; simp [hx]
      · rename_i p ps hp
        simp at hx
        rcases hx with rfl | hx
        · have := ih p (by rw [hp]; simp); simp; omega
        · have := ih x (by rw [hp]; simp [hx]); simp; omega

set_option maxRecDepth 100000 in
set_option maxHeartbeats 4000000 in
theorem path_any (s : List UInt8) (w : World) (hs : s.length ≤ 9223372036854775807) :
    Calls Tryz.prog 75 #[.string (strL s)] w (PathOut s w) := by
  have hsz : (strL s).size = s.length := strL_size s
  have HSZ := Lib.hid hsz
  clear hsz
  have htl : (strL s).toList = s := Lib.toList_data _
  by_cases h1 : 120 < s.length
  · have HP := Lib.hid (pathO_no (s := s) (fun e => by rw [e] at h1; simp at h1) (fun h => by omega))
    have h1' : (120 : Int) < ((strL s).size : Int) := by rw [HSZ.out]; omega
    clear htl
    go_enter Tryz.func75, Tryz.ntmps75
    go_wp2_with fail
    go_ret2
    exact ⟨Kept.refl _ _, .inl ⟨HP.out, rfl⟩⟩
  · have h1' : ¬ (120 : Int) < ((strL s).size : Int) := by rw [HSZ.out]; omega
    by_cases h2 : s.head? = some 47
    · have HH := Lib.hid (show decide (s.head? = some 47) = true by rw [decide_eq_true_iff]; exact h2)
      by_cases h3 : s = [47]
      · have e3 : ((strL s).toList == [47]) = true := by rw [htl, h3]; rfl
        have HP := Lib.hid (show pathO s = some [] by unfold pathO; rw [if_pos h3])
        clear htl h3 h2
        go_enter Tryz.func75, Tryz.ntmps75
        go_wp2_with fail
        refine (hasPrefix_stroke s _).mono ?_
        rw [HH.out]
        rintro e w' ⟨rfl, rfl⟩
        go_wp2_with fail
        all_goals
          go_ret2
          exact ⟨Kept.refl _ _, .inr ⟨[], _, HP.out, rfl, .inr ⟨rfl, rfl⟩⟩⟩
      · have e3 : ((strL s).toList == [47]) = false := by rw [htl]; simpa using h3
        have htail : s.tail.length ≤ 120 := by rw [List.length_tail]; omega
        obtain ⟨C, hC⟩ : ∃ C, cutL s.tail = C := ⟨_, rfl⟩
        have hsl := extract_tail s
        have H2 := Lib.hid h2
        have H3 := Lib.hid h3
        have HCC := Lib.hid hC
        clear htl h3 h2 hC
        have hn1 : 1 ≤ (strL s).size := by
          rw [HSZ.out]
          cases s with
          | nil => have := H2.out; simp at this
          | cons a b => simp
        have hcl : C.length ≤ 121 := by
          rw [← HCC.out, cutL_count]
          have := Lib.countB_le strokeS (by decide) _ (strL s.tail) (Nat.le_refl _)
          rw [strL_size] at this
          omega
        go_enter Tryz.func75, Tryz.ntmps75
        go_wp2_with fail
        refine (hasPrefix_stroke s _).mono ?_
        rw [HH.out]
        rintro e w' ⟨rfl, rfl⟩
        go_wp2_with fail
        clear hsl
        refine (split_stroke s.tail _ (by omega)).mono ?_
        rw [HCC.out]
        rintro e w1 ⟨rfl, hw1⟩
        have HW : Hid (w1.heap[w.heap.size]? = some (.cells (svA C) 9) ∧ Kept [] w w1) := ⟨by rw [hw1]; exact heap_alloc_last _ _, by rw [hw1]; exact Kept.alloc _ _ _⟩
        clear hw1
        by_cases h8 : C.length ≤ 8
        · go_wp2_with fail
          go_loop [25] (fun i => ∃ k : Nat, k ≤ C.length ∧ i = .int .i64 k ∧ Hid (∀ j (hj : j < C.length), j < k → nameB C[j] = true)) (fun i => C.length - (intOf i).toNat)
          case atStart => exact ⟨0, by omega, rfl, fun j hj h0 => by omega⟩
          case round =>
            obtain ⟨k, hk, rfl, HK⟩ := hrel
            by_cases hlt : k < C.length
            · have c1 : w1.cell? ⟨w.heap.size, k, none⟩ = some (.string (strL C[k])) := by
                rw [cell_of_row _ _ k _ _ _ HW.out.1]
                simp [svA, sv, hlt]
              obtain ⟨x, hx⟩ : ∃ x, C[k] = x := ⟨_, rfl⟩
              rw [hx] at c1
              have HX := Lib.hid hx
              have hxl : (strL x).size ≤ 9223372036854775807 := by
                have hm : x ∈ cutL s.tail := by rw [HCC.out, ← hx]; exact List.getElem_mem hlt
                have := cutL_le s.tail x hm
                rw [strL_size]
                omega
              clear hx
              cases hn : nameB x
              all_goals
                have HN := Lib.hid hn
                clear hn
                go_wp2_with fail
                refine (name_any (strL x) _ hxl).mono ?_
                rw [strL_toList, HN.out]
                rintro e w' ⟨rfl, rfl⟩
                go_wp2_with fail
              · go_ret2
                refine ⟨HW.out.2, .inl ⟨?_, rfl⟩⟩
                refine pathO_no H3.out fun h => ?_
                rw [HCC.out] at h
                rw [not_all_name k hlt (by rw [HX.out]; exact HN.out)] at h
                exact absurd h.2.2.2 (by simp)
              · go_round
                case rel =>
                  refine ⟨k + 1, by omega, by go_num, fun j hj h0 => ?_⟩
                  by_cases e : j = k
                  · subst e; rw [HX.out]; exact HN.out
                  · exact HK.out j hj (by omega)
                case measure => simp [intOf]; omega
            · go_wp2_with fail
              go_ret2
              refine ⟨HW.out.2, .inr ⟨C, _, ?_, rfl, .inl ⟨w.heap.size, 0, _, rfl, (Array.getElem?_eq_some_iff.1 HW.out.1).1, range_svA HW.out.1⟩⟩⟩
              rw [← HCC.out]
              refine pathO_yes H3.out ⟨by omega, H2.out, by rw [HCC.out]; exact h8, ?_⟩
              rw [HCC.out]
              exact all_name fun i hi => HK.out i hi (by omega)
        · go_wp2_with fail
          go_ret2
          refine ⟨HW.out.2, .inl ⟨pathO_no H3.out fun h => ?_, rfl⟩⟩
          rw [HCC.out] at h
          omega
    · have HH := Lib.hid (show decide (s.head? = some 47) = false by rw [decide_eq_false_iff_not]; exact h2)
      have HP := Lib.hid (pathO_no (s := s) (fun e => h2 (by rw [e]; rfl)) (fun h => h2 h.2.1))
      clear htl h2
      go_enter Tryz.func75, Tryz.ntmps75
      go_wp2_with fail
      refine (hasPrefix_stroke s _).mono ?_
      rw [HH.out]
      rintro e w' ⟨rfl, rfl⟩
      go_wp2_with fail
      go_ret2
      exact ⟨Kept.refl _ _, .inl ⟨HP.out, rfl⟩⟩

theorem run_index_str (l : List UInt8) (k : Nat) (hk : k < l.length) (w : World) : (Instr.index 9 (.string (strL l)) (.int .i64 (k : Int))).run Tryz.prog w = .ok (.int .u8 (l[k].toNat : Int)) w := by
  have h : (strL l)[k]? = some l[k] := by
    show (strL l).data[k]? = _
    simp [strL, hk]
  simp [Instr.index, run_underlying Tryz.underlying9, asIntOf, go_sem, h]
theorem run_index_str0 (l : List UInt8) (hk : 0 < l.length) (w : World) : (Instr.index 9 (.string (strL l)) (.int .i64 0)).run Tryz.prog w = .ok (.int .u8 (l[0].toNat : Int)) w := run_index_str l 0 hk w
theorem extract_piece (l : List UInt8) (f i : Nat) : (strL l).extract f i = strL ((l.take i).drop f) := by
  apply ByteArray.ext
  apply Array.toList_inj.1
  rw [Lib.extract_data]
  simp [strL, List.drop_take]

theorem elemStr : ElemOk Tryz.prog 44 9 (.string ByteArray.empty) 1 16 := ⟨Tryz.underlying44, by kernel_rfl, rfl, by omega⟩

/-- What is still to be cut. -/
def restL (s : List UInt8) (f : Nat) : List (List UInt8) := if f ≤ s.length then cutL (s.drop f) else []

structure RpSt (w : World) (s : List UInt8) (ps : List (List UInt8)) (f i : Nat) (v : Value) (wr : World) : Prop where
  own : wr.ownsRow w.heap.size 9 1 v ps.length (sv ps)
  cut : cutL s.tail = ps ++ restL s f
  fi : 1 ≤ f ∧ f ≤ i ∧ i ≤ s.length + 1
  free : ∀ j (hj : j < s.length), f ≤ j → j < i → s[j] ≠ 47
  done : i ≤ s.length ∨ f = s.length + 1
  name : ∀ x ∈ ps, nameB x = true
  few : ps.length ≤ i
  kept : Kept [] w wr

theorem RpSt.piece {w : World} {s : List UInt8} {ps : List (List UInt8)} {f i : Nat} {v : Value} {wr : World} (R : RpSt w s ps f i v wr) (hi : i ≤ s.length) (hs : i = s.length ∨ ∃ hj : i < s.length, s[i] = 47) :
    restL s f = (s.take i).drop f :: restL s (i + 1) := by
  have hfi := R.fi
  have hfree : ∀ c ∈ (s.take i).drop f, c ≠ 47 := fun c hc => by
    obtain ⟨j, hj, rfl⟩ := List.getElem_of_mem hc
    simp at hj
    rw [List.getElem_drop, List.getElem_take]
    exact R.free (f + j) (by omega) (by omega) (by omega)
  unfold restL
  rw [if_pos (by omega)]
  rcases hs with hs | ⟨hj, hs⟩
  · rw [if_neg (by omega)]
    have e : (s.take i).drop f = s.drop f := by rw [hs, List.take_length]
    rw [e] at hfree ⊢
    exact cutL_miss _ hfree
  · rw [if_pos (by omega)]
    have e : s.drop f = (s.take i).drop f ++ 47 :: s.drop (i + 1) := by
      have h1 : s = s.take i ++ 47 :: s.drop (i + 1) := by
        conv => lhs; rw [← List.take_append_drop i s, List.drop_eq_getElem_cons hj, hs]
      conv => lhs; rw [h1]
      rw [List.drop_append_of_le_length (by simp; omega)]
    rw [e]
    exact cutL_hit _ _ hfree

theorem RpSt.strs {w : World} {s : List UInt8} {ps : List (List UInt8)} {f i : Nat} {v : Value} {wr : World} (R : RpSt w s ps f i v wr) : StrsIs wr v ps := by
  rcases owns_range R.own with ⟨g, cap, rfl, _, hg, _, _, hr⟩ | ⟨rfl, _, hx⟩
  · exact .inl ⟨g, 0, cap, rfl, hg, hr⟩
  · refine .inr ⟨rfl, ?_⟩
    have := congrArg List.length hx
    rw [sv_length] at this
    exact List.eq_nil_of_length_eq_zero this
theorem sv_one (l : List (List UInt8)) : ∀ v ∈ sv l, v.oneCell' = true := by
  intro v hv
  simp [sv] at hv
  obtain ⟨c, _, rfl⟩ := hv
  rfl

theorem RpSt.next {w : World} {s : List UInt8} {ps : List (List UInt8)} {f i : Nat} {v : Value} {wr : World} (R : RpSt w s ps f i v wr) (hi : i ≤ s.length) (hs : i = s.length ∨ ∃ hj : i < s.length, s[i] = 47) (h120 : s.length ≤ 120) (hn : nameB ((s.take i).drop f) = true) :
    ∃ v' w7, (Builtin.append_ #[44, 44] 44 #[v, .slice (some ⟨wr.heap.size, 0, none⟩) 1 1]).run Tryz.prog (wr.alloc (.cells #[.string (strL ((s.take i).drop f))] 9)) = .ok v' w7 ∧ RpSt w s (ps ++ [(s.take i).drop f]) (i + 1) (i + 1) v' w7 := by
  have hfew := R.few
  have hs0 : w.heap.size ≤ (wr.alloc (.cells #[.string (strL ((s.take i).drop f))] 9)).heap.size := by have := R.kept.size; rw [size_alloc]; omega
  obtain ⟨v', w7, hrun, hown, hk7, _⟩ := own_app elemStr 44 (wr.alloc (.cells #[.string (strL ((s.take i).drop f))] 9)) w.heap.size v ps.length (sv ps) (R.own.alloc _) ⟨wr.heap.size, 0, none⟩ 1 1 (sv [(s.take i).drop f]) rfl
    (fun j u hu => by
      rw [Addr.add_mid, Nat.zero_add, cell_of_row _ _ j _ _ _ (heap_alloc_last wr _)]
      simpa [sv] using hu) (sv_one _) (by unfold maxLen; omega) (by omega) hs0
  refine ⟨v', w7, hrun, ?_, ?_, by have := R.fi; omega, fun j hj h1 h2 => by omega, by omega, ?_, by simp; omega, (R.kept.trans (Kept.alloc _ _ _)).own (R.own.alloc _) (Nat.le_refl _) hk7⟩
  · rw [List.length_append, show sv (ps ++ [(s.take i).drop f]) = sv ps ++ sv [(s.take i).drop f] by simp [sv]]
    exact hown
  · rw [R.cut, R.piece hi hs]
    simp
  · intro x hx
    simp only [List.mem_append, List.mem_singleton] at hx
    rcases hx with hx | rfl
    · exact R.name x hx
    · exact hn
theorem RpSt.bad {w : World} {s : List UInt8} {ps : List (List UInt8)} {f i : Nat} {v : Value} {wr : World} (R : RpSt w s ps f i v wr) (hi : i ≤ s.length) (hs : i = s.length ∨ ∃ hj : i < s.length, s[i] = 47) (h3 : s ≠ [47]) (hn : nameB ((s.take i).drop f) = false) : pathO s = none := by
  refine pathO_no h3 fun h => ?_
  have := List.all_eq_true.1 h.2.2.2 ((s.take i).drop f) (by rw [R.cut, R.piece hi hs]; simp)
  rw [this] at hn
  cases hn

end Go.Proofs.YtiedoocgbajjjaaGreatDoor

/-
  Layer 5: which rows may be: the program's soundRow, soundRows, Check, and the document's Check.
  Conditions: those that each theorem states.
-/
import Derived.Test.YthpfnkanilfohaaDoorTRow
namespace Go.Proofs.YthpfnkanilfohaaDoor
open Go.RowKit Go.Maps

/-- A row that may be, of a table whose rows have n cells. -/
def rowB (n : Int) (r : TRow) : Bool := decide (r.1 ≠ []) && (wordB r.1 32 && (decide ((r.2.length : Int) = n) && r.2.all fun c => wordB c 64))
def goodR (n : Int) (l : List TRow) : Bool := decide (∀ i, (hi : i < l.length) → rowB n l[i] = true ∧ (0 < i → lessB (l[i - 1]'(by omega)).1 l[i].1 = true))
theorem goodR_of {n : Int} {l : List TRow} (h : ∀ i, (hi : i < l.length) → rowB n l[i] = true ∧ (0 < i → lessB (l[i - 1]'(by omega)).1 l[i].1 = true)) : goodR n l = true := decide_eq_true h
theorem not_goodR {n : Int} {l : List TRow} (i : Nat) (hi : i < l.length) (h : rowB n l[i] = false ∨ (0 < i ∧ lessB (l[i - 1]'(by omega)).1 l[i].1 = false)) : goodR n l = false := by
  refine decide_eq_false fun ha => ?_
  obtain ⟨h1, h2⟩ := ha i hi
  rcases h with h | ⟨h0, h⟩
  · rw [h1] at h; cases h
  · rw [h2 h0] at h; cases h
theorem rowB_empty {n : Int} {k : List UInt8} {c : List (List UInt8)} (h : k = []) : rowB n (k, c) = false := by
  unfold rowB
  rw [decide_eq_false (by simp [h]), Bool.false_and]
theorem rowB_key {n : Int} {k : List UInt8} {c : List (List UInt8)} (h : wordB k 32 = false) : rowB n (k, c) = false := by
  unfold rowB
  simp [h]
theorem rowB_len {n : Int} {k : List UInt8} {c : List (List UInt8)} (h : (c.length : Int) ≠ n) : rowB n (k, c) = false := by
  unfold rowB
  simp [h]
theorem rowB_cell {n : Int} {k : List UInt8} {c : List (List UInt8)} (i : Nat) (hi : i < c.length) (h : wordB c[i] 64 = false) : rowB n (k, c) = false := by
  have : c.all (fun c => wordB c 64) = false := by
    rw [Bool.eq_false_iff]
    intro hh
    rw [List.all_eq_true] at hh
    rw [hh _ (List.getElem_mem hi)] at h
    cases h
  unfold rowB
  simp only [this, Bool.and_false]
theorem rowB_yes {n : Int} {k : List UInt8} {c : List (List UInt8)} (h1 : k ≠ []) (h2 : wordB k 32 = true) (h3 : (c.length : Int) = n) (h : ∀ i (hi : i < c.length), wordB c[i] 64 = true) : rowB n (k, c) = true := by
  have : c.all (fun c => wordB c 64) = true := by
    rw [List.all_eq_true]
    intro x hx
    obtain ⟨i, hi, rfl⟩ := List.getElem_of_mem hx
    exact h i hi
  unfold rowB
  simp only [this, h2, decide_eq_true h1, decide_eq_true h3, Bool.and_self]

set_option maxRecDepth 100000 in
set_option maxHeartbeats 4000000 in
theorem soundRow_any (k : List UInt8) (v : Value) (c : List (List UInt8)) (n : Int) (w : World) (hkl : k.length ≤ 140737488355328) (hc : CellsIs w v c) :
    Calls Tryd.prog 59 #[rowV k v, .int .i64 n] w fun e w' => e = .returned (.bool (rowB n (k, c))) ∧ Kept [] w w' := by
  have HC := Lib.hid hc
  obtain ⟨ao, cap, rfl, h2, h3, h4, h5⟩ := hc.open
  have hcl : c.length ≤ 140737488355328 := by have := hc.len; omega
  have HT := Lib.hid (strL_bytes k)
  have H5 := Lib.hid h5
  have H4 := Lib.hid h4
  clear hc h5 h4
  unfold rowV
  have HK := Lib.hid (Kept.alloc [] w (.cells #[.string (strL k), .slice ao c.length cap] 72))
  by_cases e1 : k = []
  · have HB := Lib.hid (rowB_empty (n := n) (c := c) e1)
    have q1 : ((strL k).toList == []) = true := by rw [HT.out, e1]; rfl
    clear e1
    go_enter Tryd.func59, Tryd.ntmps59
    go_wp2_with fail
    go_ret
    exact ⟨retB HB.out.symm, HK.out⟩
  · have q1 : ((strL k).toList == []) = false := by rw [HT.out]; simpa using e1
    have H1 := Lib.hid e1
    clear e1
    cases hb : wordB k 32
    · have HB := Lib.hid (rowB_key (n := n) (c := c) hb)
      have HW := Lib.hid hb
      clear hb
      go_enter Tryd.func59, Tryd.ntmps59
      go_wp2_with fail
      refine (word_any k 32 _ (by omega)).mono ?_
      rw [HW.out]
      rintro e w' ⟨rfl, rfl⟩
      go_wp2_with fail
      go_ret
      exact ⟨retB HB.out.symm, HK.out⟩
    · have HW := Lib.hid hb
      clear hb
      by_cases e3 : (c.length : Int) = n
      · have H3 := Lib.hid e3
        have q3 : ((c.length : Int) != n) = false := by simpa using e3
        clear e3
        go_enter Tryd.func59, Tryd.ntmps59
        go_wp2_with fail
        refine (word_any k 32 _ (by omega)).mono ?_
        rw [HW.out]
        rintro e w' ⟨rfl, rfl⟩
        go_wp2_with fail
        go_loop [26] (fun i => ∃ j : Nat, j ≤ c.length ∧ i = .int .i64 j ∧ Hid (∀ q (hq : q < c.length), q < j → wordB c[q] 64 = true)) (fun i => c.length - (intOf i).toNat)
        case atStart => exact ⟨0, by omega, rfl, fun j hj h0 => by omega⟩
        case round =>
          obtain ⟨j, hj, rfl, HJ⟩ := hrel
          by_cases hlt : j < c.length
          · obtain ⟨b, o, rfl, hb, hcell⟩ := H5.out (by omega)
            have c1 := hcell j hlt
            obtain ⟨x, hx⟩ : ∃ x, c[j] = x := ⟨_, rfl⟩
            rw [hx] at c1
            have HX := Lib.hid hx
            have HXL : Hid (x.length ≤ 140737488355328) := by show _ ≤ _; rw [← hx]; exact HC.out.each _ (List.getElem_mem hlt)
            clear hx hcell
            have c2 : (w.alloc (.cells #[.string (strL k), .slice (some ⟨b, o, none⟩) c.length cap] 72)).cell? ⟨b, o + j, none⟩ = some (.string (strL x)) := by
              rw [World.cell?_alloc_old _ _ _ (by simp; omega)]; exact c1
            cases hn : wordB x 64
            all_goals
              have HN := Lib.hid hn
              clear hn
              go_wp2_with fail
              refine (word_any x 64 _ (by have := HXL.out; omega)).mono ?_
              rw [HN.out]
              rintro e w' ⟨rfl, rfl⟩
              go_wp2_with fail
            · go_ret
              exact ⟨retB (rowB_cell j hlt (by rw [HX.out]; exact HN.out)).symm, HK.out⟩
            · go_round
              case rel =>
                refine ⟨j + 1, by omega, by go_num, fun q hq h0 => ?_⟩
                by_cases e : q = j
                · subst e; rw [HX.out]; exact HN.out
                · exact HJ.out q hq (by omega)
              case measure => simp [intOf]; omega
          · have HB : Hid (rowB n (k, c) = true) := rowB_yes H1.out HW.out H3.out fun i hi => HJ.out i hi (by omega)
            go_wp2_with fail
            go_ret
            exact ⟨retB HB.out.symm, HK.out⟩
      · have HB := Lib.hid (rowB_len (k := k) e3)
        have q3 : ((c.length : Int) != n) = true := by simpa using e3
        clear e3
        go_enter Tryd.func59, Tryd.ntmps59
        go_wp2_with fail
        refine (word_any k 32 _ (by omega)).mono ?_
        rw [HW.out]
        rintro e w' ⟨rfl, rfl⟩
        go_wp2_with fail
        go_ret
        exact ⟨retB HB.out.symm, HK.out⟩

/-- What Check answers. -/
def checkI (t : List UInt8) (r : TRow) : Int := if widthI t = 0 then 50 else if rowB (widthI t) r = true then 0 else 51

set_option maxHeartbeats 2000000 in
theorem check_any (t k : List UInt8) (v : Value) (c : List (List UInt8)) (w : World) (ht : t.length ≤ 9223372036854775807) (hkl : k.length ≤ 140737488355328) (hc : CellsIs w v c) :
    Calls Tryd.prog 53 #[.string (strL t), rowV k v] w fun e w' => e = .returned (.int .i64 (checkI t (k, c))) ∧ Kept [] w w' := by
  have HC := Lib.hid hc
  have hvs : ∃ u m c, v = .slice u m c := by obtain ⟨u, c, rfl, _⟩ := hc.val; exact ⟨u, _, c, rfl⟩
  obtain ⟨vu, vm, vc, rfl⟩ := hvs
  clear hc
  unfold rowV
  have HK := Lib.hid (Kept.alloc [] w (.cells #[.string (strL k), .slice vu vm vc] 72))
  have HR : Hid (checkI t (k, c) = if widthI t = 0 then 50 else if rowB (widthI t) (k, c) = true then 0 else 51) := rfl
  obtain ⟨n, hn⟩ : ∃ n, widthI t = n := ⟨_, rfl⟩
  have HN := Lib.hid hn
  by_cases h0 : n = 0
  · have HR2 : Hid (checkI t (k, c) = 50) := by show _ = _; rw [HR.out, hn, if_pos h0]
    have q0 : (n == 0) = true := by simpa using h0
    clear hn h0 HR
    go_enter Tryd.func53, Tryd.ntmps53
    go_wp2_with fail
    refine (width_any t _ ht).mono ?_
    rw [HN.out]
    rintro e w1 ⟨rfl, hk1⟩
    have HK1 := Lib.hid hk1
    clear hk1
    go_wp2_with fail
    go_ret
    exact ⟨ret1 HR2.out.symm, HK.out.trans HK1.out⟩
  · have q0 : (n == 0) = false := by simpa using h0
    cases hg : rowB n (k, c)
    all_goals
      have HG := Lib.hid hg
      have HR2 : Hid (checkI t (k, c) = if rowB n (k, c) = true then 0 else 51) := by show _ = _; rw [HR.out, hn, if_neg h0]
      rw [hg] at HR2
      clear hg hn
      go_enter Tryd.func53, Tryd.ntmps53
      go_wp2_with fail
      refine (width_any t _ ht).mono ?_
      rw [HN.out]
      rintro e w1 ⟨rfl, hk1⟩
      have HK1 := Lib.hid hk1
      have c0 : w1.cell? ⟨w.heap.size, 0, none⟩ = some (.string (strL k)) := by
        rw [hk1.cell (by rw [size_alloc]; exact Nat.lt_succ_self _) (by simp)]
        exact cell_of_row _ _ 0 _ _ _ (heap_alloc_last w _)
      have c1 : w1.cell? ⟨w.heap.size, 1, none⟩ = some (.slice vu vm vc) := by
        rw [hk1.cell (by rw [size_alloc]; exact Nat.lt_succ_self _) (by simp)]
        exact cell_of_row _ _ 1 _ _ _ (heap_alloc_last w _)
      clear hk1
      go_wp2_with fail
      refine (soundRow_any k _ c n _ hkl ((HC.out.kept HK.out).kept HK1.out)).mono ?_
      rw [HG.out]
      rintro e w2 ⟨rfl, hk2⟩
      have HK2 := Lib.hid hk2
      clear hk2
      go_wp2_with fail
      go_ret
      exact ⟨ret1 HR2.out.symm, (HK.out.trans HK1.out).trans HK2.out⟩
end Go.Proofs.YthpfnkanilfohaaDoor

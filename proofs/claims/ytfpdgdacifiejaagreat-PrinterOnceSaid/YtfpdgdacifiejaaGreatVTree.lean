/-
  Layer 12: the walk of SyntaxTree, over what Parse answers.
  Conditions: those that each theorem states.
-/
import Derived.Test.YtfpdgdacifiejaaGreatURLex
import Derived.Test.YtfpdgdacifiejaaGreatUCut
namespace Go.Proofs.YtfpdgdacifiejaaGreat
open Go.RowKit Go.Maps

/-- Two rows of numbers of the call's own. -/
structure TwoR (w wr : World) (gB gF : Nat) (B F : List Nat) : Prop where
  kept : Kept [] w wr
  hB : wr.heap[gB]? = some (.cells (nvA B) 3)
  hF : wr.heap[gF]? = some (.cells (nvA F) 3)
  ne : gB ≠ gF
  newB : w.heap.size ≤ gB
  newF : w.heap.size ≤ gF
theorem TwoR.cellB {w wr : World} {gB gF : Nat} {B F : List Nat} (h : TwoR w wr gB gF B F) (k : Nat) (hk : k < B.length) : wr.cell? ⟨gB, k, none⟩ = some (.int .i64 (B[k] : Int)) := by
  rw [cell_of_row _ _ _ _ _ _ h.hB, nvA_get B k hk]
theorem TwoR.cellF {w wr : World} {gB gF : Nat} {B F : List Nat} (h : TwoR w wr gB gF B F) (k : Nat) (hk : k < F.length) : wr.cell? ⟨gF, k, none⟩ = some (.int .i64 (F[k] : Int)) := by
  rw [cell_of_row _ _ _ _ _ _ h.hF, nvA_get F k hk]
theorem TwoR.setB {w wr : World} {gB gF : Nat} {B F : List Nat} (h : TwoR w wr gB gF B F) (k c : Nat) : TwoR w (wr.setCell ⟨gB, k, none⟩ (.int .i64 (c : Int))) gB gF (B.set k c) F := by
  refine ⟨h.kept.setNew _ _ h.newB, ?_, ?_, h.ne, h.newB, h.newF⟩
  · rw [heap_setCell_same _ _ _ _ _ _ h.hB, nvA_set]
  · exact (Kept.setCell [gB] wr ⟨gB, k, none⟩ _ (by simp)).heap (by simpa using fun e => h.ne e.symm) h.hF
theorem TwoR.setF {w wr : World} {gB gF : Nat} {B F : List Nat} (h : TwoR w wr gB gF B F) (k c : Nat) : TwoR w (wr.setCell ⟨gF, k, none⟩ (.int .i64 (c : Int))) gB gF B (F.set k c) := by
  refine ⟨h.kept.setNew _ _ h.newF, ?_, ?_, h.ne, h.newB, h.newF⟩
  · exact (Kept.setCell [gF] wr ⟨gF, k, none⟩ _ (by simp)).heap (by simpa using h.ne) h.hB
  · rw [heap_setCell_same _ _ _ _ _ _ h.hF, nvA_set]

theorem stN_le (ns : List Nod) (i : Nat) : stN ns i ≤ i := by
  induction i using Nat.strongRecOn with
  | _ i ih =>
    unfold stN
    split
    · exact Nat.le_refl _
    · split
      · rename_i h
        have := ih _ h
        omega
      · exact Nat.le_refl _
theorem bk_take {ns : List Nod} {ks : List Nat} {nx q r : Nat} (hq : q < ks.length) (h : bk ns nx (ks.take (q + 1)).reverse = some r) : ks[q] + 1 = nx ∧ bk ns (stN ns ks[q]) (ks.take q).reverse = some r := by
  rw [List.take_succ_eq_append_getElem hq, List.reverse_append] at h
  change bk ns nx (ks[q] :: (ks.take q).reverse) = some r at h
  unfold bk at h
  split at h
  · rename_i e; exact ⟨e, h⟩
  · cases h
theorem count_take {ks : List Nat} {k : Nat} (h : k < ks.length) (j : Nat) : (ks.take (k + 1)).count j = (ks.take k).count j + if ks[k] = j then 1 else 0 := by
  rw [List.take_succ_eq_append_getElem h, List.count_append]
  simp [List.count_singleton]
theorem cntN_mono (ns : List Nod) (a j : Nat) {m k : Nat} (h : m ≤ k) : cntN ns a m j ≤ cntN ns a k j := by
  obtain ⟨d, rfl⟩ : ∃ d, k = m + d := ⟨k - m, by omega⟩
  rw [cntN_add]
  omega
theorem cnt_few {ns : List Nod} (h : ArOk ns) {i x k : Nat} (hi : i < ns.length) (hx : x < ns.length) : cntN ns 0 i x + ((kidsN ns i).take k).count x ≤ 1 := by
  have h1 := h.seg.count x (by omega) hx
  have h2 := cntN_mono ns 0 x (show i + 1 ≤ ns.length by omega)
  have h3 : cntN ns 0 (i + 1) x = cntN ns 0 i x + (kidsN ns i).count x := by simp [cntN]
  have h4 : ((kidsN ns i).take k).count x ≤ (kidsN ns i).count x := (List.take_sublist k _).count_le x
  rw [Nat.sub_zero] at h1
  omega
/-- A cell of a row that may be written. -/
theorem TwoR.frozB {w wr : World} {gB gF : Nat} {B F : List Nat} (h : TwoR w wr gB gF B F) (k : Nat) : wr.frozen? ⟨gB, k, none⟩ = false := frozen_of_row _ _ _ _ _ h.hB
theorem TwoR.frozF {w wr : World} {gB gF : Nat} {B F : List Nat} (h : TwoR w wr gB gF B F) (k : Nat) : wr.frozen? ⟨gF, k, none⟩ = false := frozen_of_row _ _ _ _ _ h.hF

end Go.Proofs.YtfpdgdacifiejaaGreat

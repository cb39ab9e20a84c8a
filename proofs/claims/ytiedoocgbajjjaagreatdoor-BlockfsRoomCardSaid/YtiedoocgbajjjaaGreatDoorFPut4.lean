/-
  Layer 4: the statements' 'among' and 'put'.
  Conditions: those that each theorem states.
-/
import Derived.Test.YtiedoocgbajjjaaGreatDoorLProof
import Derived.Test.YtiedoocgbajjjaaGreatDoorFInode
namespace Go.Proofs.YtiedoocgbajjjaaGreatDoor
open Go.RowKit Go.Maps
set_option maxRecDepth 100000

def amongN (c n : Int) : Int := if c < 0 then (-(c + 1)) % n else c % n
theorem amongN_rng (c n : Int) (hn : 0 < n) : 0 ≤ amongN c n ∧ amongN c n < n := by
  unfold amongN
  split
  · exact ⟨Int.emod_nonneg _ (by omega), Int.emod_lt_of_pos _ hn⟩
  · exact ⟨Int.emod_nonneg _ (by omega), Int.emod_lt_of_pos _ hn⟩
set_option maxRecDepth 100000 in
set_option maxHeartbeats 2000000 in
theorem among4_any (c n : Int) (w : World) (hc : -9223372036854775808 ≤ c ∧ c ≤ 9223372036854775807) (hn : 0 < n ∧ n ≤ 100000) :
    Calls Tryz.prog 26 #[.int .i64 c, .int .i64 n] w fun e w' => e = .returned (.int .i64 (amongN c n)) ∧ w = w' := by
  obtain ⟨hc, hc2⟩ := hc
  obtain ⟨hn, hn2⟩ := hn
  go_enter Tryz.func26, Tryz.ntmps26
  by_cases h : c < 0
  · have h2 : Hid (-Int.tmod (c + 1) n = amongN c n) := by
      show _ = _
      unfold amongN
      rw [← Int.neg_tmod, if_pos h, Int.tmod_eq_emod_of_nonneg (by omega)]
    go_wp2_with fail
    go_ret
    exact ⟨by rw [← h2.out]; rfl, rfl⟩
  · have h2 : Hid (c % n = amongN c n) := by
      show _ = _
      unfold amongN
      rw [if_neg h]
    go_wp2_with fail
    go_ret
    exact ⟨by rw [← h2.out]; rfl, rfl⟩
set_option maxRecDepth 100000 in
set_option maxHeartbeats 4000000 in
theorem put4_any (fo : Option Addr) (fl fc : Nat) (F : List BRow) (z : Nat) (w0 w : World) (hF : RowsIn w0 fo fl F) (hk0 : Kept [] w0 w) (hz : z < F.length) (h12 : z < 12) :
    Calls Tryz.prog 28 #[.slice fo fl fc, .int .i64 z] w fun e w' => e = .returned (.agg #[.int .i64 1, .string (strL (47 :: fnm z)), .int .i64 z, .slice F[z].ao F[z].len F[z].cap]) ∧ Kept [] w w' := by
  obtain ⟨fb, fof, rfl, hfc⟩ := hF.at' z hz
  have q1 : (z : Int) < (fl : Int) := by have := hF.len.1; omega
  have HB : Hid (fb < w.heap.size ∧ w.cell? ⟨fb, fof + z, none⟩ = some (.slice F[z].ao F[z].len F[z].cap)) := by
    have hfb := World.block_lt_of_cell? w0 _ hfc
    exact ⟨Nat.lt_of_lt_of_le hfb hk0.size, (hk0.cell (p := ⟨fb, fof + z, none⟩) hfb (by simp)).trans hfc⟩
  obtain ⟨x, hx⟩ : ∃ x, F[z] = x := ⟨_, rfl⟩
  rw [hx] at HB ⊢
  obtain ⟨P, hP⟩ : ∃ P, w.heap.size = P := ⟨_, rfl⟩
  have HPP := Lib.hid hP
  clear hF hk0 hfc hx
  go_enter Tryz.func28, Tryz.ntmps28
  go_wp2_with fail
  generalize hw1 : World.alloc w _ = w1
  have hk1 : Kept [] w w1 := by rw [← hw1]; exact Kept.alloc _ _ _
  have hr1 : w1.heap[P]? = some (.cells #[.int .i64 0, .string (strL []), .int .i64 0, .slice none 0 0] 35) := by
    rw [← hw1, ← hP]
    exact heap_alloc_last _ _
  have H1 := Lib.hid (And.intro hk1 hr1)
  have zf : ∀ w', Kept [P] w1.drew w' → w'.cell? ⟨fb, fof + z, none⟩ = some (.slice x.ao x.len x.cap) := fun w' hk =>
    (hk.cell (p := ⟨fb, fof + z, none⟩) (Nat.lt_of_lt_of_le HB.out.1 hk1.size) (by have := HB.out.1; have := HPP.out; simp; omega)).trans ((hk1.cell (p := ⟨fb, fof + z, none⟩) HB.out.1 (by simp)).trans HB.out.2)
  clear hk1 hr1 hw1 hP
  go_wp2_with fail
  refine wp_region_ord [(true, 0), (true, 1), (true, 2), (true, 6), (true, 7), (true, 8), (true, 9), (true, 10), (false, 3), (true, 4), (true, 5), (true, 11), (false, 12)] [P] (by kernel_rfl) (fun _ _ d _ _ h => by cases d <;> exact h) (by kernel_rfl) rfl (by kernel_rfl) (by kernel_rfl) ?_
  simp only [named, List.getD_cons_zero, List.getD_cons_succ]
  repeat (first | (apply wpGrow_take; (case hw => rfl); (case hv => intro w' hk; go_simp; with_reducible rfl); simp only [Act.put, List.setIfInBounds_toArray, List.set_cons_zero, List.set_cons_succ]) | (refine wpGrow_pass (by rfl) ?_; simp only [Act.put, List.setIfInBounds_toArray, List.set_cons_zero, List.set_cons_succ]) | (refine wpGrow_skip (by rfl) ?_; simp only [Act.put, List.setIfInBounds_toArray, List.set_cons_zero, List.set_cons_succ]))
  clear zf
  refine wpGrow_force (by rfl) (fun K hK => ?_)
  go_simp
  obtain ⟨c, hc⟩ : ∃ c, UInt8.ofNat (97 + z) = c := ⟨_, rfl⟩
  have hch : IntKind.u8.wrap (IntKind.i64.wrap (97 + (z : Int))) = (c.toNat : Int) := by
    have h1 : IntKind.i64.wrap (97 + (z : Int)) = 97 + (z : Int) := by rw [IntKind.wrap_i64]; omega
    have h2 : IntKind.u8.wrap (97 + (z : Int)) = 97 + (z : Int) := by rw [IntKind.wrap_u8]; omega
    rw [h1, h2, ← hc]
    simp only [UInt8.toNat_ofNat']
    omega
  rw [hch]
  obtain ⟨g, hg⟩ : ∃ g, w1.heap.size = g := ⟨_, rfl⟩
  obtain ⟨w2, hw2⟩ : ∃ w2, (w1.alloc (.cells #[.int .u8 (c.toNat : Int)] 5)).drew = w2 := ⟨_, rfl⟩
  rw [hw2]
  have hk2 : Kept [] w1 w2 := by rw [← hw2]; exact (Kept.alloc _ _ _).trans (Kept.drew _ _)
  have hr2 : w2.heap[g]? = some (.cells (bvA [c]) 5) := by rw [← hw2, ← hg]; exact (Kept.drew [] _).heap (by simp) (heap_alloc_last _ _)
  have hgP : g ∉ [P] := by
    have := (Array.getElem?_eq_some_iff.1 H1.out.2).1
    simp
    omega
  have cv : ∀ w', Kept [P] w2 w' → (convert 22 9 (.slice (some ⟨w1.heap.size, 0, none⟩) 1 1)).run Tryz.prog w' = .ok (.string (strL [c])) w' := fun w' hk => by
    rw [hg]
    exact (SlIs.row (hk.heap hgP hr2) 1 1 rfl).conv
  have hps : ¬ 9223372036854775807 < 2 + (strL [c]).size := by rw [strL_size]; simp
  refine hK _ _ (by rw [← hw2]; exact Kept.alloc [P] w1.drew _) ?_
  have H2 : Hid (Kept [] w w2 ∧ w2.heap[P]? = _) := ⟨H1.out.1.trans hk2, hk2.heap (by simp) H1.out.2⟩
  have HC := Lib.hid hc
  clear hK K hk2 hr2 hw2 hch hc hg hgP
  repeat (first | (apply wpGrow_take; (case hw => rfl); (case hv => intro w' hk; go_simp; with_reducible rfl); simp only [Act.put, List.setIfInBounds_toArray, List.set_cons_zero, List.set_cons_succ]) | (refine wpGrow_pass (by rfl) ?_; simp only [Act.put, List.setIfInBounds_toArray, List.set_cons_zero, List.set_cons_succ]) | (refine wpGrow_skip (by rfl) ?_; simp only [Act.put, List.setIfInBounds_toArray, List.set_cons_zero, List.set_cons_succ]))
  clear cv hps
  rw [show ({ data := #[47, 102] } : ByteArray) ++ strL [c] = strL ([47, 102] ++ [c]) from strL_cat _ _, show ([47, 102] ++ [c] : List UInt8) = 47 :: fnm z by rw [← HC.out]; rfl]
  refine wpGrow_force (by rfl) (fun K hK => ?_)
  have hst : (w2.setRow P #[.int .i64 1, .string (strL (47 :: fnm z)), .int .i64 z, .slice x.ao x.len x.cap]).heap[P]? = some (.cells #[.int .i64 1, .string (strL (47 :: fnm z)), .int .i64 z, .slice x.ao x.len x.cap] 35) := setRow_heap _ _ _ _ _ _ H2.out.2
  have hsk := setRow_kept w2 P #[.int .i64 1, .string (strL (47 :: fnm z)), .int .i64 z, .slice x.ao x.len x.cap]
  refine wp_store_cells 35 _ _ rfl P _ _ _ rfl rfl H2.out.2 rfl (by intro v hv; simp at hv; rcases hv with rfl | rfl | rfl | rfl <;> rfl) (by kernel_rfl) ?_
  obtain ⟨w3, hw3⟩ : ∃ w3, w2.setRow P #[.int .i64 1, .string (strL (47 :: fnm z)), .int .i64 z, .slice x.ao x.len x.cap] = w3 := ⟨_, rfl⟩
  rw [hw3] at hst hsk ⊢
  refine hK _ _ hsk ?_
  clear hK K hw3
  have H3 : Hid (w3.heap[P]? = _ ∧ Kept [] w w3) := ⟨hst, H2.out.1.into hsk (by have := HPP.out; simp; omega)⟩
  clear hst hsk
  refine wpGrow_nil ?_
  go_wp2_with fail
  refine bodyPost_ret_by (results_cell_row rfl _ _ P 35 _ (0, 0) _ rfl H3.out.1 Tryz.underlying35 rfl (by kernel_rfl)) rfl ⟨rfl, H3.out.2⟩
end Go.Proofs.YtiedoocgbajjjaaGreatDoor

/-
  Layer 4: the root's record is read.
  Conditions: those that each theorem states.
  Layer 4: where a formatted disk holds the root's record.
  Conditions: those that each theorem states.
  Layer 4: the root of an empty tree is read.
  Conditions: those that each theorem states.
  Layer 4: takenBlocks of no node; a shelf's first place.
  Conditions: those that each theorem states.
-/
import Derived.Test.YtiedoocgbajjjaaGreatDoorFClaim
import Derived.Test.YtiedoocgbajjjaaGreatDoorFAsk
import Derived.Deep.DeepCutAuto
namespace Go.Proofs.YtiedoocgbajjjaaGreatDoor
open Go.RowKit Go.Maps
set_option maxRecDepth 100000

set_option maxRecDepth 100000 in
set_option maxHeartbeats 4000000 in
theorem linode_root (g d N E D g2 n2 g3 : Nat) (S : DiskS) (L : List UInt8) (w : World) (hrow : w.heap[g]? = some (.cells (loaderRow d N E D g2 n2 g3) 146)) (hl : Live w d S) (hE : (E : Int) < S.size) (hE2 : E ≤ 4096) (hL : S.blk E = L) (hr : L.take 32 = rootRec) :
    Calls Tryz.prog 116 #[.pointer (some ⟨g, 0, none⟩), .int .i64 0] w fun e w' => ∃ ao cap, e = .returned (nodeV 2 493 0 ao 0 cap 0) ∧ Kept [] w w' ∧ w'.ownsRow w.heap.size 3 1 (.slice ao 0 cap) 0 [] := by
  unfold loaderRow at hrow
  obtain ⟨s0, hs0⟩ : ∃ s0, w.heap.size = s0 := ⟨_, rfl⟩
  obtain ⟨w1, hw1⟩ : ∃ w1, w.alloc (.cells #[.int .i64 0, .int .i64 0, .int .i64 0, .slice none 0 0, .int .i64 0] 123) = w1 := ⟨_, rfl⟩
  have hk1 : Kept [] w w1 := by rw [← hw1]; exact Kept.alloc _ _ _
  have hx1 : w1.heap[s0]? = some (.cells #[.int .i64 0, .int .i64 0, .int .i64 0, .slice none 0 0, .int .i64 0] 123) := by rw [← hw1, ← hs0]; exact heap_alloc_last _ _
  have HW1 := Lib.hid hw1
  have HS0 := Lib.hid hs0
  have hl64 : L.length = 64 := by rw [← hL]; exact hl.disk.blk64 _
  have HL := Lib.hid (And.intro hl64 (And.intro hr hL))
  have H1 := Lib.hid (And.intro hk1 (And.intro hx1 (And.intro (hk1.heap (by simp) hrow) (hl.kept hk1 (by simp) (by simp)))))
  have HE := Lib.hid (And.intro hE hE2)
  have hzl : ∀ w', Imp (Kept [] w1) w1.drew w' → w'.cell? ⟨g, 0, none⟩ = some (.pointer (some ⟨d, 0, none⟩)) ∧ w'.cell? ⟨g, 6, none⟩ = some (.int .i64 (E : Int)) := fun w' hk => by
    have := (hk (Kept.drew _ _)).heap (by simp) H1.out.2.2.1
    exact ⟨cell_of_row _ _ 0 _ _ _ this, cell_of_row _ _ 6 _ _ _ this⟩
  have z0 : ∀ w', Imp (Kept [] w1) w1.drew w' → w'.cell? ⟨g, 0, none⟩ = some (.pointer (some ⟨d, 0, none⟩)) := fun w' hk => (hzl w' hk).1
  have z6 : ∀ w', Imp (Kept [] w1) w1.drew w' → w'.cell? ⟨g, 6, none⟩ = some (.int .i64 (E : Int)) := fun w' hk => (hzl w' hk).2
  have hz : ∀ w, (zeroValue 77).run Tryz.prog w = .ok (.agg (bvA zeroL)) w := fun _ => by kernel_rfl
  have e0 : IntKind.i64.wrap 0 = 0 := by rw [IntKind.wrap_i64]; rfl
  have e1 : (E : Int) + 0 = (E : Int) := by omega
  have ew : IntKind.i64.wrap (E : Int) = (E : Int) := by rw [IntKind.wrap_i64]; omega
  clear hw1 hs0 hl64 hk1 hx1 hrow hl hzl hL hr hE
  go_enter Tryz.func116, Tryz.ntmps116
  go_upto_region 1 with (fail)
  rw [HW1.out, HS0.out]
  go_cut [5] (fun s5 wx => ∃ s, s5 = .pointer (some ⟨s, 0, none⟩) ∧ Hid (Kept [] w1 wx ∧ wx.heap[s]? = some (.cells (bvA L) 77)))
  case first =>
    have HRD := Lib.hid (bread_any d S E)
    have hsz : (Tryz.prog.info? 77).map (·.size) = some (bvA L).size := by rw [bvA_size, HL.out.1]; kernel_rfl
    have hlz : (bvA L).size = (bvA zeroL).size := by rw [bvA_size, bvA_size, HL.out.1]; rfl
    refine wp_region_plan (R := Imp (Kept [] w1)) (.take 0 (.take 1 (.take 2 (.take 3 (.take 4 (.take 5 (.take 6 (.take 7 (.take 8 (.take 9 (.take 10 (.take 11 (.two 12 (.one 13 (.one 14 .fin)) 13 (.one 12 (.one 14 .fin))))))))))))))) (fun _ => Imp.refl _ _) (fun _ _ _ h k => Imp.trans h k) (by kernel_rfl) (fun _ _ d _ _ h => by cases d <;> exact h) (by kernel_rfl) rfl (by kernel_rfl) ?_
    repeat (first | (apply wpP_take; (case hw => rfl); (case hv => intro w' hk; simp only [List.getD_cons_zero, List.getD_cons_succ]; go_simp; with_reducible rfl); simp only [List.getD_cons_zero, List.getD_cons_succ, Act.put, List.setIfInBounds_toArray, List.set_cons_zero, List.set_cons_succ]) | (refine wpP_pass (by rfl) ?_; simp only [List.getD_cons_zero, List.getD_cons_succ, Act.put, List.setIfInBounds_toArray, List.set_cons_zero, List.set_cons_succ]))
    refine wpP_two ?_ ?_
    · refine wpP_one (by rfl) (fun K hK => ?_); simp only [List.getD_cons_zero, List.getD_cons_succ]
      go_simp
      refine (HRD.out w1.drew (H1.out.2.2.2.kept (Kept.drew [] _) (by simp) (by simp)) (by omega) HE.out.1).mono ?_
      rw [HL.out.2.2]
      rintro e w2 ⟨rfl, hk2⟩
      refine hK _ _ (fun hh => hh.trans hk2) ?_
      clear hK K
      refine wpP_one (by rfl) (fun K hK => ?_); simp only [List.getD_cons_zero, List.getD_cons_succ]
      go_simp
      refine hK _ _ (fun hh => hh.trans (Kept.alloc _ _ _)) ?_
      clear hK K
      refine wpP_one (by rfl) (fun K hK => ?_); simp only [List.getD_cons_zero, List.getD_cons_succ]
      have hra : (w2.alloc (.cells (bvA zeroL) 77)).heap[w2.heap.size]? = some (.cells (bvA zeroL) 77) := heap_alloc_last _ _
      refine wp_store_cells _ _ _ rfl w2.heap.size 77 (bvA zeroL) (bvA L) rfl rfl hra hlz (by rw [bvA_toList]; exact bv_one L) hsz ?_
      have HF : Hid (Kept [] w1 ((w2.alloc (.cells (bvA zeroL) 77)).setRow w2.heap.size (bvA L))) := (((Kept.drew _ _).trans hk2).trans (Kept.alloc _ _ _)).into (setRow_kept _ _ _) (by have := hk2.size; have h2 : w1.drew.heap.size = w1.heap.size := rfl; simp; omega)
      refine hK _ _ (fun _ => HF.out) ?_
      clear hK K
      refine wpP_fin ?_
      simp only [Act.put]
      go_wp2_with fail
      go_meet
      exact ⟨_, rfl, HF.out, setRow_heap _ _ _ _ _ _ hra⟩
    · refine wpP_one (by rfl) (fun K hK => ?_); simp only [List.getD_cons_zero, List.getD_cons_succ]
      go_simp
      refine hK _ _ (fun hh => hh.trans (Kept.alloc _ _ _)) ?_
      clear hK K
      have hka : Kept [] w1 (w1.alloc (.cells (bvA zeroL) 77)).drew := (Kept.alloc _ _ _).trans (Kept.drew _ _)
      refine wpP_one (by rfl) (fun K hK => ?_); simp only [List.getD_cons_zero, List.getD_cons_succ]
      go_simp
      refine (HRD.out _ (H1.out.2.2.2.kept hka (by simp) (by simp)) (by omega) HE.out.1).mono ?_
      rw [HL.out.2.2]
      rintro e w2 ⟨rfl, hk2⟩
      refine hK _ _ (fun hh => hh.trans hk2) ?_
      clear hK K
      refine wpP_one (by rfl) (fun K hK => ?_); simp only [List.getD_cons_zero, List.getD_cons_succ]
      have hra : w2.heap[w1.heap.size]? = some (.cells (bvA zeroL) 77) := hk2.heap (by simp) (show (w1.alloc (.cells (bvA zeroL) 77)).heap[w1.heap.size]? = _ from heap_alloc_last w1 _)
      refine wp_store_cells _ _ _ rfl w1.heap.size 77 (bvA zeroL) (bvA L) rfl rfl hra hlz (by rw [bvA_toList]; exact bv_one L) hsz ?_
      have HF : Hid (Kept [] w1 (w2.setRow w1.heap.size (bvA L))) := (hka.trans hk2).into (setRow_kept _ _ _) (by simp)
      refine hK _ _ (fun _ => HF.out) ?_
      clear hK K
      refine wpP_fin ?_
      simp only [Act.put]
      go_wp2_with fail
      go_meet
      exact ⟨_, rfl, HF.out, setRow_heap _ _ _ _ _ _ hra⟩
  case rest =>
    clear z0 z6
    obtain ⟨s, rfl, HC⟩ := hcut
    have hr0 : wc.rangeAt s 0 (bv rootRec) := fun j v hv => by
      have h1 := range_row HC.out.2
      refine h1 j v ?_
      have h2 : (bv L)[j]? = ((bv L).take 32)[j]? := by
        have h3 : j < 32 := by
          have h4 := (List.getElem?_eq_some_iff.1 hv).1
          rw [bv_length, root_taken.2.2.2.2.2.2] at h4
          exact h4
        rw [List.getElem?_take_of_lt h3]
      rw [h2]
      have h5 : (bv L).take 32 = bv rootRec := by rw [← HL.out.2.1]; unfold bv; rw [List.map_take]
      rw [h5]
      exact hv
    have HT := Lib.hid (takeNode_32 s 0 64 rootRec wc root_taken.2.2.2.2.2.2 (Array.getElem?_eq_some_iff.1 HC.out.2).1 hr0)
    have e2 : IntKind.i64.wrap 32 = 32 := by rw [IntKind.wrap_i64]; rfl
    clear hr0
    go_wp2_with fail
    refine HT.out.mono ?_
    rintro e w5 ⟨hk5, ⟨hf, _⟩ | ⟨ao, cap, _, rfl, _, _, how⟩⟩
    · rw [root_taken.1] at hf
      cases hf
    obtain ⟨r1, r2, r3, r4, r5, r6, r7⟩ := root_taken
    rw [r6] at how
    rw [r2, r3, r4, r5, r6]
    have HOW := Lib.hid how
    have HK5 := Lib.hid hk5
    have hv : Value.tuple #[nodeV ((2 : Nat) : Int) ((493 : Nat) : Int) ((0 : Nat) : Int) ao ([] : List Nat).length cap ((0 : Nat) : Int), .int .i64 (dataI ((2 : Nat) : Int) ((0 : Nat) : Int) - (([] : List Nat).length : Int)), .int .i64 0] = .tuple #[.agg #[.int .i64 2, .int .i64 493, .int .i64 0, .slice ao 0 cap, .int .i64 0], .int .i64 0, .int .i64 0] := by
      rw [show dataI ((2 : Nat) : Int) ((0 : Nat) : Int) - (([] : List Nat).length : Int) = 0 by decide]
      rfl
    rw [hv]
    clear hv hk5 how r1 r2 r3 r4 r5 r6 r7
    go_wp2_with fail
    obtain ⟨w6, hw6⟩ : ∃ w6, w5.alloc (.cells #[.int .i64 2, .int .i64 493, .int .i64 0, .slice ao 0 cap, .int .i64 0] 123) = w6 := ⟨_, rfl⟩
    rw [hw6]
    have hk6 : Kept [] w5 w6 := by rw [← hw6]; exact Kept.alloc _ _ _
    have hn6 : w6.heap[w5.heap.size]? = some (.cells #[.int .i64 2, .int .i64 493, .int .i64 0, .slice ao 0 cap, .int .i64 0] 123) := by rw [← hw6]; exact heap_alloc_last _ _
    have hx6 : w6.heap[s0]? = some (.cells #[.int .i64 0, .int .i64 0, .int .i64 0, .slice none 0 0, .int .i64 0] 123) := hk6.heap (by simp) (HK5.out.heap (by simp) (HC.out.1.heap (by simp) H1.out.2.1))
    have H6 := Lib.hid (And.intro hk6 (And.intro hn6 hx6))
    obtain ⟨p6, hp6⟩ : ∃ p6, w5.heap.size = p6 := ⟨_, rfl⟩
    rw [hp6] at hn6 ⊢
    have n0 := cell_of_row w6 p6 0 _ _ _ hn6
    have n1 := cell_of_row w6 p6 1 _ _ _ hn6
    have n2' := cell_of_row w6 p6 2 _ _ _ hn6
    have n3 := cell_of_row w6 p6 3 _ _ _ hn6
    have n4 := cell_of_row w6 p6 4 _ _ _ hn6
    have m0 := cell_of_row w6 s0 0 _ _ _ hx6
    have m1 := cell_of_row w6 s0 1 _ _ _ hx6
    have m2 := cell_of_row w6 s0 2 _ _ _ hx6
    have m3 := cell_of_row w6 s0 3 _ _ _ hx6
    have m4 := cell_of_row w6 s0 4 _ _ _ hx6
    have mf := fun q => frozen_of_row w6 s0 q _ _ hx6
    clear hk6 hn6 hx6 hw6 hp6
    refine (bsure_any w6).mono ?_
    rintro e w7 ⟨rfl, rfl⟩
    go_wp2_with fail
    have hrow := rowSet (rowSet (rowSet (rowSet (rowSet H6.out.2.2 0 (.int .i64 2)) 1 (.int .i64 493)) 2 (.int .i64 0)) 3 (.slice ao 0 cap)) 4 (.int .i64 0)
    have hkk : ∀ (w' : World) (q : Nat) (v : Value), Kept [s0] w' (w'.setCell ⟨s0, q, none⟩ v) := fun w' q v => Kept.setCell _ _ _ _ (by simp)
    refine bodyPost_ret_by (results_cell_row rfl _ _ s0 123 #[.int .i64 2, .int .i64 493, .int .i64 0, .slice ao 0 cap, .int .i64 0] (0, 0) _ rfl hrow Tryz.underlying123 rfl (by kernel_rfl)) rfl ⟨ao, cap, rfl, ?_, ?_⟩
    · exact (((H1.out.1.trans HC.out.1).trans HK5.out).trans H6.out.1).into ((((((hkk _ 0 _).trans (hkk _ 1 _)).trans (hkk _ 2 _)).trans (hkk _ 3 _)).trans (hkk _ 4 _))) (by have := HS0.out; simp; omega)
    · have hk7 : Kept [s0] w5 _ := (H6.out.1.mono (by simp)).trans (((((hkk w7 0 (.int .i64 2)).trans (hkk _ 1 (.int .i64 493))).trans (hkk _ 2 (.int .i64 0))).trans (hkk _ 3 (.slice ao 0 cap))).trans (hkk _ 4 (.int .i64 0)))
      have h1 := HS0.out
      have h2 := (Array.getElem?_eq_some_iff.1 H1.out.2.1).1
      have h3 := HC.out.1.size
      refine owns_low (owns_kept HOW.out hk7 (fun q hq => ?_)) (by omega)
      have h4 := (World.ownsRow.lt HOW.out q hq).1
      simp
      omega
end Go.Proofs.YtiedoocgbajjjaaGreatDoor

namespace Go.Proofs.YtiedoocgbajjjaaGreatDoor
open Go.RowKit Go.Maps
set_option maxRecDepth 100000

theorem root_recB (a : Nat) : (newT 2 493 a).recB = rootRec := rfl
/-- The block that holds the root's record begins with it. -/
theorem area_root {N q : Nat} : (blkAt (areaF N q) q).take 32 = rootRec := by
  obtain ⟨M, hM⟩ : ∃ M, bitsTo (zerosL ((q + 32) * 64)) (takenL N (233 + q) ((newT 2 493 0).all.flatMap ATr.blks)) N = M := ⟨_, rfl⟩
  have hl : M.length = (q + 32) * 64 := by rw [← hM, bitsTo_len, zerosL_length]
  have hr : rootRec.length = 32 := root_taken.2.2.2.2.2.2
  have e : areaF N q = M.take (q * 64) ++ rootRec ++ M.drop (q * 64 + 32) := by
    unfold areaF areaL
    rw [hM]
    show putAtL M (q * 64 + 0 * 32) (newT 2 493 0).recB = _
    rw [root_recB]
    unfold putAtL
    rw [hr, Nat.zero_mul, Nat.add_zero]
  have h1 : (M.take (q * 64)).length = q * 64 := by rw [List.length_take]; omega
  unfold blkAt padL
  rw [e, List.append_assoc, List.append_assoc, List.drop_append_of_le_length (by rw [h1]; omega), List.drop_of_length_le (by rw [h1]; omega), List.nil_append, List.take_take, List.append_assoc]
  rw [show min 32 64 = 32 from rfl, List.take_append_of_le_length (by rw [hr]; omega), List.take_of_length_le (by rw [hr]; omega)]
end Go.Proofs.YtiedoocgbajjjaaGreatDoor

namespace Go.Proofs.YtiedoocgbajjjaaGreatDoor
open Go.RowKit Go.Maps
set_option maxRecDepth 100000

/-- The root that Open makes of an empty tree's disk. -/
def rootT (a : Nat) (ao : Option Addr) (cap : Nat) : ATr := .node a (some (a + 1)) (.slice none 0 0) (.slice ao 0 cap) ⟨2, 493, [], 0, [], 0, false⟩ .nil

set_option maxRecDepth 100000 in
set_option maxHeartbeats 4000000 in
theorem lnode_root (g d N E D g2 n2 g3 : Nat) (S : DiskS) (L : List UInt8) (A2 : Array Value) (w : World) (hrow : w.heap[g]? = some (.cells (loaderRow d N E D g2 n2 g3) 146)) (h2 : w.heap[g2]? = some (.cells A2 4)) (hg : g2 ≠ g ∧ g2 ≠ d ∧ g2 ≠ S.m) (hA : A2[0]? = some (.bool false)) (hn : 0 < n2)
    (hl : Live w d S) (hE : (E : Int) < S.size) (hE2 : E ≤ 4096) (hL : S.blk E = L) (hr : L.take 32 = rootRec) :
    Calls Tryz.prog 88 #[.pointer (some ⟨g, 0, none⟩), .int .i64 0] w fun e w' => ∃ a ao cap, e = .returned (.pointer (some ⟨a, 0, none⟩)) ∧ Hid (MTr w.heap.size w' (rootT a ao cap) ∧ Kept [g2] w w') := by
  have HCL := Lib.hid (sclaim_any g2 n2 n2 0 A2 4 w h2 hn hA)
  have hk1 : Kept [g2] w (w.setCell ⟨g2, 0, none⟩ (.bool true)) := Kept.setCell _ _ _ _ (by simp)
  obtain ⟨w1, hw1⟩ : ∃ w1, w.setCell ⟨g2, 0, none⟩ (.bool true) = w1 := ⟨_, rfl⟩
  rw [hw1] at hk1 HCL
  have hr1 := hk1.heap (by simp; exact fun hh => hg.1 hh.symm) hrow
  have HIN := Lib.hid (linode_root g d N E D g2 n2 g3 S L w1 hr1 (hl.kept hk1 (by simp; exact fun hh => hg.2.1 hh.symm) (by simp; exact fun hh => hg.2.2 hh.symm)) hE hE2 hL hr)
  have HK1 := Lib.hid hk1
  have hrow' := hrow
  unfold loaderRow at hrow'
  have c9 : w.cell? ⟨g, 9, none⟩ = some (.slice (some ⟨g2, 0, none⟩) n2 n2) := cell_of_row _ _ 9 _ _ _ hrow'
  clear hrow h2 hg hA hn hl hE hE2 hL hr hk1 hw1 hr1 hrow'
  go_enter Tryz.func88, Tryz.ntmps88
  go_wp2_with fail
  refine HCL.out.mono ?_
  rintro e w2 ⟨rfl, rfl⟩
  clear c9
  go_wp2_with fail
  refine HIN.out.mono ?_
  rintro e w3 ⟨ao, cap, rfl, hk3, how⟩
  unfold nodeV
  obtain ⟨x, hx⟩ : ∃ x, w3.heap.size = x := ⟨_, rfl⟩
  obtain ⟨w4, hw4⟩ : ∃ w4, w3.alloc (.cells #[.int .i64 2, .int .i64 493, .int .i64 0, .slice ao 0 cap, .int .i64 0] 123) = w4 := ⟨_, rfl⟩
  have hk4 : Kept [] w3 w4 := by rw [← hw4]; exact Kept.alloc _ _ _
  have hx4 : w4.heap[x]? = some (.cells #[.int .i64 2, .int .i64 493, .int .i64 0, .slice ao 0 cap, .int .i64 0] 123) := by rw [← hw4, ← hx]; exact heap_alloc_last _ _
  have HW3 := Lib.hid (And.intro hk3 (And.intro how (And.intro hk4 hx4)))
  have HW4 := Lib.hid hw4
  have HX := Lib.hid hx
  have c0 : w4.cell? ⟨x, 0, none⟩ = some (.int .i64 2) := cell_of_row _ _ 0 _ _ _ hx4
  have c1 : w4.cell? ⟨x, 1, none⟩ = some (.int .i64 493) := cell_of_row _ _ 1 _ _ _ hx4
  have HNN := Lib.hid (newNode_any 2 493 w4)
  clear hk3 how hk4 hx4 hw4 hx
  go_wp2_with fail
  rw [HW4.out, HX.out]
  go_wp2_with fail
  refine HNN.out.mono ?_
  rintro e w5 ⟨rfl, H5⟩
  obtain ⟨a, ha⟩ : ∃ a, w4.heap.size = a := ⟨_, rfl⟩
  rw [ha] at H5 ⊢
  have HA := Lib.hid ha
  have hx5 := H5.out.1.heap (by simp) HW3.out.2.2.2
  obtain ⟨hn5, _⟩ := H5.out.2.ok
  have HN5 : Hid (w5.heap[a]? = some (.cells #[.int .i64 2, .int .i64 493, .slice none 0 0, .map (some (a + 1)), .int .i64 0, .slice none 0 0, .int .i64 0, .bool false] 100)) := hn5
  have HX5 := Lib.hid hx5
  have HXA : Hid (x ≠ a) := by
    have h1 := HX.out
    have h2 := HA.out
    have h3 := (Array.getElem?_eq_some_iff.1 HW3.out.2.2.2).1
    show x ≠ a
    omega
  have z3 : ∀ w', Kept [a] w5.drew w' → w'.cell? ⟨x, 3, none⟩ = some (.slice ao 0 cap) := fun w' hk => cell_of_row _ _ 3 _ _ _ (hk.heap (by simpa using HXA.out) (show w5.drew.heap[x]? = _ from HX5.out))
  have z4 : ∀ w', Kept [a] w5.drew w' → w'.cell? ⟨x, 4, none⟩ = some (.int .i64 0) := fun w' hk => cell_of_row _ _ 4 _ _ _ (hk.heap (by simpa using HXA.out) (show w5.drew.heap[x]? = _ from HX5.out))
  have y4 : w5.cell? ⟨a, 4, none⟩ = some (.int .i64 0) := cell_of_row _ _ 4 _ _ _ HN5.out
  have y4' : w5.frozen? ⟨a, 4, none⟩ = false := frozen_of_row _ _ _ _ _ HN5.out
  clear c0 c1 ha hx5 hn5 HNN
  go_wp2_with fail
  refine wp_region_ord [(true, 0), (true, 1), (true, 2), (true, 3), (true, 4), (true, 5), (true, 6), (true, 7), (true, 8), (true, 9), (false, 10), (true, 11), (true, 12), (false, 13), (true, 14), (true, 15), (false, 16)] [a] (by kernel_rfl) (fun _ _ d _ _ h => by cases d <;> exact h) (by kernel_rfl) rfl (by kernel_rfl) (by kernel_rfl) ?_
  simp only [named, List.getD_cons_zero, List.getD_cons_succ]
  repeat (first | (apply wpGrow_take; (case hw => rfl); (case hv => intro w' hk; go_simp; with_reducible rfl); simp only [Act.put, List.setIfInBounds_toArray, List.set_cons_zero, List.set_cons_succ]) | (refine wpGrow_pass (by rfl) ?_; simp only [Act.put, List.setIfInBounds_toArray, List.set_cons_zero, List.set_cons_succ]) | (refine wpGrow_skip (by rfl) ?_; simp only [Act.put, List.setIfInBounds_toArray, List.set_cons_zero, List.set_cons_succ]))
  clear z3 z4
  refine wpGrow_force (by rfl) (fun K hK => ?_)
  go_simp
  refine hK _ _ (Kept.setCell _ _ _ _ (by simp)) ?_
  clear hK K y4 y4'
  obtain ⟨w6, hw6⟩ : ∃ w6, (w5.setCell ⟨a, 4, none⟩ (.int .i64 0)).drew = w6 := ⟨_, rfl⟩
  have hn6 : w6.heap[a]? = some (.cells #[.int .i64 2, .int .i64 493, .slice none 0 0, .map (some (a + 1)), .int .i64 0, .slice none 0 0, .int .i64 0, .bool false] 100) := by rw [← hw6]; exact (show (w5.setCell ⟨a, 4, none⟩ (.int .i64 0)).heap[a]? = _ from rowSet HN5.out 4 _)
  have hk6 : Kept [a] w5 w6 := by rw [← hw6]; exact (Kept.setCell [a] w5 ⟨a, 4, none⟩ (.int .i64 0) (by simp)).trans (Kept.drew _ _)
  rw [hw6]
  clear hw6
  have y5 : w6.cell? ⟨a, 5, none⟩ = some (.slice none 0 0) := cell_of_row _ _ 5 _ _ _ hn6
  have y5' : w6.frozen? ⟨a, 5, none⟩ = false := frozen_of_row _ _ _ _ _ hn6
  have HN6 := Lib.hid (And.intro hn6 hk6)
  clear hn6 hk6
  repeat (first | (apply wpGrow_take; (case hw => rfl); (case hv => intro w' hk; go_simp; with_reducible rfl); simp only [Act.put, List.setIfInBounds_toArray, List.set_cons_zero, List.set_cons_succ]) | (refine wpGrow_pass (by rfl) ?_; simp only [Act.put, List.setIfInBounds_toArray, List.set_cons_zero, List.set_cons_succ]) | (refine wpGrow_skip (by rfl) ?_; simp only [Act.put, List.setIfInBounds_toArray, List.set_cons_zero, List.set_cons_succ]))
  refine wpGrow_force (by rfl) (fun K hK => ?_)
  go_simp
  refine hK _ _ (Kept.setCell _ _ _ _ (by simp)) ?_
  clear hK K y5 y5'
  obtain ⟨w7, hw7⟩ : ∃ w7, w6.setCell ⟨a, 5, none⟩ (.slice ao 0 cap) = w7 := ⟨_, rfl⟩
  have hn7 : w7.heap[a]? = some (.cells #[.int .i64 2, .int .i64 493, .slice none 0 0, .map (some (a + 1)), .int .i64 0, .slice ao 0 cap, .int .i64 0, .bool false] 100) := by rw [← hw7]; exact rowSet HN6.out.1 5 _
  have hk7 : Kept [a] w5 w7 := by rw [← hw7]; exact HN6.out.2.trans (Kept.setCell _ _ _ _ (by simp))
  rw [hw7]
  clear hw7
  have y6 : w7.cell? ⟨a, 6, none⟩ = some (.int .i64 0) := cell_of_row _ _ 6 _ _ _ hn7
  have y6' : w7.frozen? ⟨a, 6, none⟩ = false := frozen_of_row _ _ _ _ _ hn7
  have HN7 := Lib.hid (And.intro hn7 hk7)
  clear hn7 hk7
  repeat (first | (apply wpGrow_take; (case hw => rfl); (case hv => intro w' hk; go_simp; with_reducible rfl); simp only [Act.put, List.setIfInBounds_toArray, List.set_cons_zero, List.set_cons_succ]) | (refine wpGrow_pass (by rfl) ?_; simp only [Act.put, List.setIfInBounds_toArray, List.set_cons_zero, List.set_cons_succ]) | (refine wpGrow_skip (by rfl) ?_; simp only [Act.put, List.setIfInBounds_toArray, List.set_cons_zero, List.set_cons_succ]))
  refine wpGrow_force (by rfl) (fun K hK => ?_)
  go_simp
  refine hK _ _ (Kept.setCell _ _ _ _ (by simp)) ?_
  clear hK K y6 y6'
  obtain ⟨w8, hw8⟩ : ∃ w8, w7.setCell ⟨a, 6, none⟩ (.int .i64 0) = w8 := ⟨_, rfl⟩
  have hn8 : w8.heap[a]? = some (.cells #[.int .i64 2, .int .i64 493, .slice none 0 0, .map (some (a + 1)), .int .i64 0, .slice ao 0 cap, .int .i64 0, .bool false] 100) := by rw [← hw8]; exact rowSet HN7.out.1 6 _
  have hk8 : Kept [a] w5 w8 := by rw [← hw8]; exact HN7.out.2.trans (Kept.setCell _ _ _ _ (by simp))
  rw [hw8]
  clear hw8
  have hx8 := hk8.heap (by simpa using HXA.out) HX5.out
  have c3 : w8.cell? ⟨x, 3, none⟩ = some (.slice ao 0 cap) := cell_of_row _ _ 3 _ _ _ hx8
  have c0 : w8.cell? ⟨x, 0, none⟩ = some (.int .i64 2) := cell_of_row _ _ 0 _ _ _ hx8
  have c2 : w8.cell? ⟨x, 2, none⟩ = some (.int .i64 0) := cell_of_row _ _ 2 _ _ _ hx8
  have HN8 := Lib.hid (And.intro hn8 hk8)
  clear hn8 hk8 hx8
  refine wpGrow_nil ?_
  go_wp2_with fail
  refine (lbody_nil _ ao cap w8).mono ?_
  rintro e w9 ⟨rfl, rfl⟩
  go_wp2_with fail
  refine (lentries_nil _ _ _).mono ?_
  rintro e w10 ⟨rfl, hk10⟩
  clear c0 c2 c3
  have HFIN : Hid (MTr w.heap.size w10 (rootT a ao cap) ∧ Kept [g2] w w10) := by
    have hs1 := HK1.out.size
    have hs3 := HW3.out.1.size
    have hs4 := HW3.out.2.2.1.size
    have ha := HA.out
    have hk59 : Kept [a] w5 w10 := HN8.out.2.trans (hk10.mono (by simp))
    have hk39 : Kept [a] w3 w10 := (HW3.out.2.2.1.mono (by simp)).trans ((H5.out.1.mono (by simp)).trans hk59)
    have hown : w10.ownsRow w2.heap.size 3 1 (.slice ao 0 cap) 0 [] := owns_kept HW3.out.2.1 hk39 (fun q hq => by
      have := (World.ownsRow.lt HW3.out.2.1 q hq).2
      simp
      omega)
    have hob : ∀ q, (Value.slice ao 0 cap).ownBlock = some q → q < a := fun q hq => by
      have := (World.ownsRow.lt HW3.out.2.1 q hq).2
      omega
    have hm : KMap w10 (a + 1) [] := by
      have h1 := H5.out.2.ok.2.2.2.1
      exact h1.2.kept hk59 (by simp)
    refine ⟨⟨⟨?_, ⟨bytes_nil _, by simp⟩, nums_own (l := []) hown (by simp), ⟨rfl, hm⟩, trivial⟩, ⟨by omega, fun b hb => by simp at hb; omega, owns_low hown (by omega), trivial⟩, ?_⟩, ?_⟩
    · exact hk10.heap (by simp) HN8.out.1
    · unfold rootT
      simp only [ATr.foot, AKs.foot, Option.toList, List.append_nil, List.cons_append, List.nil_append]
      cases hb : (Value.slice ao 0 cap).ownBlock with
      | none => simp
      | some q =>
        have := hob q hb
        simp
        omega
    · exact (((HK1.out.trans (HW3.out.1.mono (by simp))).trans (HW3.out.2.2.1.mono (by simp))).trans (H5.out.1.mono (by simp))).andThen hk59 (fun q hq => .inr (by simp at hq; omega))
  go_wp2_with fail
  go_ret
  exact ⟨a, ao, cap, rfl, HFIN.out⟩
end Go.Proofs.YtiedoocgbajjjaaGreatDoor

namespace Go.Proofs.YtiedoocgbajjjaaGreatDoor
open Go.RowKit Go.Maps
set_option maxRecDepth 100000

set_option maxRecDepth 100000 in
set_option maxHeartbeats 4000000 in
theorem takenBlocks_nil (w : World) (c : Nat) (x1 x2 x3 x4 x5 y : Int) (d : Nat) (hc : c ≤ 100000) (hd : d ≤ c) :
    Calls Tryz.prog 59 #[.agg (layW c x1 x2 x3 x4 x5 d y), .slice none 0 0] w fun e w' => e = .returned (.slice (some ⟨w.heap.size + 1, 0, none⟩) c c) ∧ Hid (ShelfSt w (w.heap.size + 1) (setAll (List.replicate c false) (List.range d)) w') := by
  unfold layW
  obtain ⟨P, hP⟩ : ∃ P, w.heap.size = P := ⟨_, rfl⟩
  have HP : Hid (w.heap.size ≤ P + 1) := by show _ ≤ _; omega
  rw [hP]
  obtain ⟨w1, hw1⟩ : ∃ w1, w.alloc (.cells #[.int .i64 c, .int .i64 x1, .int .i64 x2, .int .i64 x3, .int .i64 x4, .int .i64 x5, .int .i64 d, .int .i64 y] 60) = w1 := ⟨_, rfl⟩
  have hk1 : Kept [] w w1 := by rw [← hw1]; exact Kept.alloc _ _ _
  have hx : w1.heap[P]? = some (.cells #[.int .i64 c, .int .i64 x1, .int .i64 x2, .int .i64 x3, .int .i64 x4, .int .i64 x5, .int .i64 d, .int .i64 y] 60) := by rw [← hw1, ← hP]; exact heap_alloc_last _ _
  have hs1 : w1.heap.size = P + 1 := by rw [← hw1, size_alloc, hP]
  have c0 : w1.cell? ⟨P, 0, none⟩ = some (.int .i64 c) := cell_of_row _ _ 0 _ _ _ hx
  have hmk := run_makeShelf c hc w1
  rw [hs1] at hmk
  obtain ⟨w2, hw2⟩ : ∃ w2, w1.alloc (.cells (bvl (List.replicate c false)).toArray 4) = w2 := ⟨_, rfl⟩
  rw [hw2] at hmk
  have H2 : Hid (ShelfSt w (P + 1) (List.replicate c false) w2) := by
    rw [← hw2, ← hs1]
    exact ⟨hk1.trans (Kept.alloc _ _ _), heap_alloc_last _ _⟩
  have c6 : w2.cell? ⟨P, 6, none⟩ = some (.int .i64 d) := by
    rw [← hw2]
    exact cell_of_row _ _ 6 _ _ _ ((Kept.alloc [] _ _).heap (by simp) hx)
  clear hk1 hx hw2
  go_enter Tryz.func59, Tryz.ntmps59
  go_wp2_with fail
  clear hmk hw1 hs1 c0 c6
  obtain ⟨Q, hQ⟩ : ∃ Q, P + 1 = Q := ⟨_, rfl⟩
  rw [hQ] at HP H2 ⊢
  have HQ := Lib.hid hQ
  clear hQ hP
  go_loopw [16] (fun i wr => ∃ j : Nat, j ≤ d ∧ i = .int .i64 j ∧ Hid (ShelfSt w Q (setAll (List.replicate c false) (List.range j)) wr)) (fun i _ => d - (intOf i).toNat)
  case atStart => exact ⟨0, by omega, rfl, H2.out⟩
  case round =>
    clear H2
    obtain ⟨j, hj, rfl, HS⟩ := hrel
    by_cases hlt : j < d
    · obtain ⟨bb, cb⟩ := HS.out.cell (i := j) (by rw [setAll_length]; simp; omega)
      have fz : ∀ q, wr.frozen? ⟨Q, q, none⟩ = false := fun q => frozen_of_row _ _ q _ _ HS.out.row
      have HFIN : Hid (ShelfSt w Q (setAll (List.replicate c false) (List.range (j + 1))) (wr.setCell ⟨Q, j, none⟩ (.bool true))) := by
        show ShelfSt _ _ _ _
        rw [List.range_succ, setAll_append]
        exact HS.out.set HP.out j
      go_wp2_with fail
      go_roundw
      case rel => exact ⟨j + 1, by omega, by go_num, HFIN.out⟩
      case measure => simp [intOf]; omega
    · obtain rfl : j = d := by omega
      clear hlt
      go_wp2_with fail
      refine wp_loop_rounds 1 ?_
      rw [rounds_succ]
      go_wp2_with fail
      go_ret
      have hPQ := HQ.out
      subst hPQ
      exact ⟨rfl, HS.out⟩
end Go.Proofs.YtiedoocgbajjjaaGreatDoor

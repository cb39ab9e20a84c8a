/-
  Layer 4: load of a disk that was formatted.
  Conditions: those that each theorem states.
  Layer 4: find: a tree is found on a disk that was formatted; none on another one.
  Conditions: those that each theorem states.
-/
import Derived.Test.YtiedoocgbajjjaaGreatDoorFTakN
namespace Go.Proofs.YtiedoocgbajjjaaGreatDoor
open Go.RowKit Go.Maps
set_option maxRecDepth 100000

theorem rootT_stands {N q : Nat} (h : SizeOk N q) (a : Nat) (ao : Option Addr) (cap : Nat) : Stands N q (rootT a ao cap) := by
  have s := root_stands h a
  exact ⟨s.fine, s.root, s.set, s.len⟩
theorem rootT_area (N q a : Nat) (ao : Option Addr) (cap : Nat) : areaL N q (rootT a ao cap) = areaF N q := rfl

set_option maxRecDepth 100000 in
set_option maxHeartbeats 8000000 in
theorem bload_root (d N q : Nat) (S : DiskS) (w : World) (hl : Live w d S) (hF : Formatted N q S) (hok : SizeOk N q) :
    Calls Tryz.prog 66 #[.pointer (some ⟨d, 0, none⟩), .agg (layW N 0 1 2 201 ((201 + q : Nat) : Int) ((233 + q : Nat) : Int) 64)] w fun e w' => ∃ a ao cap, e = .returned (.pointer (some ⟨a, 0, none⟩)) ∧ Hid (MTr w.heap.size w' (rootT a ao cap) ∧ Kept [] w w') := by
  unfold layW
  obtain ⟨D, hD⟩ : ∃ D : Nat, 233 + q = D := ⟨_, rfl⟩
  obtain ⟨E, hE⟩ : ∃ E : Nat, 201 + q = E := ⟨_, rfl⟩
  have HDE := Lib.hid (And.intro hD hE)
  rw [hD, hE]
  obtain ⟨P, hP⟩ : ∃ P, w.heap.size = P := ⟨_, rfl⟩
  obtain ⟨w1, hw1⟩ : ∃ w1, w.alloc (.cells #[.int .i64 N, .int .i64 0, .int .i64 1, .int .i64 2, .int .i64 201, .int .i64 E, .int .i64 D, .int .i64 64] 60) = w1 := ⟨_, rfl⟩
  have hk1 : Kept [] w w1 := by rw [← hw1]; exact Kept.alloc _ _ _
  have hx1 : w1.heap[P]? = some (.cells #[.int .i64 N, .int .i64 0, .int .i64 1, .int .i64 2, .int .i64 201, .int .i64 E, .int .i64 D, .int .i64 64] 60) := by rw [← hw1, ← hP]; exact heap_alloc_last _ _
  have H1 := Lib.hid (And.intro hk1 (And.intro hx1 (hl.kept hk1 (by simp) (by simp))))
  have HF := Lib.hid (And.intro hF hok)
  have HP := Lib.hid hP
  have HW1 := Lib.hid hw1
  have hzl : ∀ w', Imp (Kept [] w1) w1.drew w' → ∀ j v, #[Value.int .i64 N, .int .i64 0, .int .i64 1, .int .i64 2, .int .i64 201, .int .i64 E, .int .i64 D, .int .i64 64][j]? = some v → w'.cell? ⟨P, j, none⟩ = some v := fun w' hk j v hv => by
    rw [cell_of_row _ _ j _ _ _ ((hk (Kept.drew _ _)).heap (by simp) H1.out.2.1)]; exact hv
  have q0 : ∀ w', Imp (Kept [] w1) w1.drew w' → w'.cell? ⟨P, 0, none⟩ = some (.int .i64 N) := fun w' hk => hzl w' hk 0 _ rfl
  have q1 : ∀ w', Imp (Kept [] w1) w1.drew w' → w'.cell? ⟨P, 1, none⟩ = some (.int .i64 0) := fun w' hk => hzl w' hk 1 _ rfl
  have q2 : ∀ w', Imp (Kept [] w1) w1.drew w' → w'.cell? ⟨P, 2, none⟩ = some (.int .i64 1) := fun w' hk => hzl w' hk 2 _ rfl
  have q3 : ∀ w', Imp (Kept [] w1) w1.drew w' → w'.cell? ⟨P, 3, none⟩ = some (.int .i64 2) := fun w' hk => hzl w' hk 3 _ rfl
  have q4 : ∀ w', Imp (Kept [] w1) w1.drew w' → w'.cell? ⟨P, 4, none⟩ = some (.int .i64 201) := fun w' hk => hzl w' hk 4 _ rfl
  have q5 : ∀ w', Imp (Kept [] w1) w1.drew w' → w'.cell? ⟨P, 5, none⟩ = some (.int .i64 E) := fun w' hk => hzl w' hk 5 _ rfl
  have q6 : ∀ w', Imp (Kept [] w1) w1.drew w' → w'.cell? ⟨P, 6, none⟩ = some (.int .i64 D) := fun w' hk => hzl w' hk 6 _ rfl
  have q7 : ∀ w', Imp (Kept [] w1) w1.drew w' → w'.cell? ⟨P, 7, none⟩ = some (.int .i64 64) := fun w' hk => hzl w' hk 7 _ rfl
  have hmk : ∀ w, (Instr.makeSlice 104 (.int .i64 64) (.int .i64 64)).run Tryz.prog w = .ok (.slice (some ⟨w.heap.size, 0, none⟩) 64 64) (w.alloc (.cells (bvl (List.replicate 64 false)).toArray 4)) := fun w => run_makeShelf 64 (by omega) w
  obtain ⟨Z, hZ⟩ : ∃ Z, (bvl (List.replicate 64 false)).toArray = Z := ⟨_, rfl⟩
  have HZ := Lib.hid hZ
  rw [hZ] at hmk
  clear hk1 hx1 hl hF hok hD hE hw1 hP hZ
  go_enter Tryz.func66, Tryz.ntmps66
  go_upto_region 1 with (fail)
  rw [HW1.out, HP.out]
  go_cut [5] (fun s5 wx => ∃ g g2 g3, s5 = .pointer (some ⟨g, 0, none⟩) ∧ Hid (Kept [] w1 wx ∧ wx.heap[g]? = some (.cells (loaderRow d N E D g2 64 g3) 146) ∧ wx.heap[g2]? = some (.cells Z 4) ∧ w1.heap.size ≤ g2 ∧ g2 ≠ g))
  case first =>
    have HTK := Lib.hid (fun w' => takenBlocks_nil w' N 0 1 2 201 E 64 D (by have := HF.out.2.hi; omega) (by have := HF.out.2.lo; have := HF.out.2.q; have := HDE.out.1; omega))
    unfold layW at HTK
    refine wp_region_plan (R := Imp (Kept [] w1)) (.take 0 (.take 1 (.take 2 (.take 3 (.take 5 (.two 4 (.one 6 (.take 7 (.one 8 (.take 9 .fin)))) 6 (.one 4 (.take 7 (.one 8 (.take 9 .fin)))))))))) (fun _ => Imp.refl _ _) (fun _ _ _ h k => Imp.trans h k) (by kernel_rfl) (fun _ _ d _ _ h => by cases d <;> exact h) (by kernel_rfl) rfl (by kernel_rfl) ?_
    repeat (first | (apply wpP_take; (case hw => rfl); (case hv => intro w' hk; simp only [List.getD_cons_zero, List.getD_cons_succ]; go_simp; with_reducible rfl); simp only [List.getD_cons_zero, List.getD_cons_succ, Act.put, List.setIfInBounds_toArray, List.set_cons_zero, List.set_cons_succ]) | (refine wpP_pass (by rfl) ?_; simp only [List.getD_cons_zero, List.getD_cons_succ, Act.put, List.setIfInBounds_toArray, List.set_cons_zero, List.set_cons_succ]))
    refine wpP_two ?_ ?_
    · refine wpP_one (by rfl) (fun K hK => ?_); simp only [List.getD_cons_zero, List.getD_cons_succ]
      go_simp
      obtain ⟨g2, hg2⟩ : ∃ g2, w1.heap.size = g2 := ⟨_, rfl⟩
      obtain ⟨w2, hw2⟩ : ∃ w2, (w1.alloc (.cells Z 4)).drew = w2 := ⟨_, rfl⟩
      have hk2 : Kept [] w1 w2 := by rw [← hw2]; exact (Kept.alloc _ _ _).trans (Kept.drew _ _)
      have hr2 : w2.heap[g2]? = some (.cells Z 4) := by rw [← hw2, ← hg2]; exact heap_alloc_last w1 _
      rw [hw2]
      refine hK _ _ (fun _ => hk2) ?_
      clear hK K hw2
      refine wpP_one (by rfl) (fun K hK => ?_); simp only [List.getD_cons_zero, List.getD_cons_succ]
      go_simp
      refine (HTK.out w2).mono ?_
      rintro e w3 ⟨rfl, H3⟩
      refine hK _ _ (fun hh => hh.trans H3.out.kept) ?_
      clear hK K
      repeat (first | (apply wpP_take; (case hw => rfl); (case hv => intro w' hk; simp only [List.getD_cons_zero, List.getD_cons_succ]; go_simp; with_reducible rfl); simp only [List.getD_cons_zero, List.getD_cons_succ, Act.put, List.setIfInBounds_toArray, List.set_cons_zero, List.set_cons_succ]) | (refine wpP_pass (by rfl) ?_; simp only [List.getD_cons_zero, List.getD_cons_succ, Act.put, List.setIfInBounds_toArray, List.set_cons_zero, List.set_cons_succ]))
      refine wpP_one (by rfl) (fun K hK => ?_); simp only [List.getD_cons_zero, List.getD_cons_succ]
      go_simp
      refine hK _ _ (fun hh => hh.trans (Kept.alloc _ _ _)) ?_
      clear hK K
      repeat (first | (apply wpP_take; (case hw => rfl); (case hv => intro w' hk; simp only [List.getD_cons_zero, List.getD_cons_succ]; go_simp; with_reducible rfl); simp only [List.getD_cons_zero, List.getD_cons_succ, Act.put, List.setIfInBounds_toArray, List.set_cons_zero, List.set_cons_succ]) | (refine wpP_pass (by rfl) ?_; simp only [List.getD_cons_zero, List.getD_cons_succ, Act.put, List.setIfInBounds_toArray, List.set_cons_zero, List.set_cons_succ]))
      refine wpP_fin ?_
      try simp only [Act.put]
      go_wp2_with fail
      go_meet
      have hs3 : g2 < w3.heap.size := (Array.getElem?_eq_some_iff.1 (H3.out.kept.heap (by simp) hr2)).1
      exact ⟨_, g2, _, rfl, (hk2.trans H3.out.kept).trans (Kept.alloc _ _ _), heap_alloc_last _ _, (Kept.alloc [] _ _).heap (by simp) (H3.out.kept.heap (by simp) hr2), by omega, by omega⟩
    · refine wpP_one (by rfl) (fun K hK => ?_); simp only [List.getD_cons_zero, List.getD_cons_succ]
      go_simp
      refine (HTK.out _).mono ?_
      rintro e w2 ⟨rfl, H2⟩
      refine hK _ _ (fun _ => (Kept.drew _ _).trans H2.out.kept) ?_
      clear hK K
      refine wpP_one (by rfl) (fun K hK => ?_); simp only [List.getD_cons_zero, List.getD_cons_succ]
      go_simp
      refine hK _ _ (fun hh => hh.trans (Kept.alloc _ _ _)) ?_
      clear hK K
      repeat (first | (apply wpP_take; (case hw => rfl); (case hv => intro w' hk; simp only [List.getD_cons_zero, List.getD_cons_succ]; go_simp; with_reducible rfl); simp only [List.getD_cons_zero, List.getD_cons_succ, Act.put, List.setIfInBounds_toArray, List.set_cons_zero, List.set_cons_succ]) | (refine wpP_pass (by rfl) ?_; simp only [List.getD_cons_zero, List.getD_cons_succ, Act.put, List.setIfInBounds_toArray, List.set_cons_zero, List.set_cons_succ]))
      refine wpP_one (by rfl) (fun K hK => ?_); simp only [List.getD_cons_zero, List.getD_cons_succ]
      go_simp
      refine hK _ _ (fun hh => hh.trans (Kept.alloc _ _ _)) ?_
      clear hK K
      repeat (first | (apply wpP_take; (case hw => rfl); (case hv => intro w' hk; simp only [List.getD_cons_zero, List.getD_cons_succ]; go_simp; with_reducible rfl); simp only [List.getD_cons_zero, List.getD_cons_succ, Act.put, List.setIfInBounds_toArray, List.set_cons_zero, List.set_cons_succ]) | (refine wpP_pass (by rfl) ?_; simp only [List.getD_cons_zero, List.getD_cons_succ, Act.put, List.setIfInBounds_toArray, List.set_cons_zero, List.set_cons_succ]))
      refine wpP_fin ?_
      try simp only [Act.put]
      go_wp2_with fail
      go_meet
      exact ⟨_, _, _, rfl, (((Kept.drew _ _).trans H2.out.kept).trans (Kept.alloc _ _ _)).trans (Kept.alloc _ _ _), (by have e := heap_alloc_last (w2.alloc (.cells Z 4)) (.cells (loaderRow d N E D w2.heap.size 64 (w1.heap.size + 1)) 146); rw [size_alloc] at e; exact e), (Kept.alloc [] _ _).heap (by simp) (heap_alloc_last _ _), H2.out.kept.size, by omega⟩
  case rest =>
    obtain ⟨g, g2, g3, rfl, HC⟩ := hcut
    clear hmk hzl q0 q1 q2 q3 q4 q5 q6 q7
    have hdl := H1.out.2.2.disk.lt
    have hml := H1.out.2.2.disk.map.lt
    have hNL : (E : Int) < S.size := by rw [HF.out.1.size]; have := HF.out.2.lo; have := HF.out.2.q; have := HDE.out.2; omega
    have hE4 : E ≤ 4096 := by have := HF.out.2.q; have := HDE.out.2; omega
    have hrt : (S.blk (E : Int)).take 32 = rootRec := by rw [← HDE.out.2, HF.out.1.area q (by omega)]; exact area_root
    have HND := Lib.hid (lnode_root g d N E D g2 64 g3 S _ Z wc HC.out.2.1 HC.out.2.2.1 ⟨HC.out.2.2.2.2, by have := HC.out.2.2.2.1; omega, by have := HC.out.2.2.2.1; omega⟩ (by rw [← HZ.out]; rfl) (by omega) (H1.out.2.2.kept HC.out.1 (by simp) (by simp)) hNL hE4 rfl hrt)
    clear hNL hE4 hrt hdl hml
    go_wp2_with fail
    refine HND.out.mono ?_
    rintro e w5 ⟨a, ao, cap, rfl, H5⟩
    have hk15 : Kept [] w1 w5 := HC.out.1.into H5.out.2 (by have := HC.out.2.2.2.1; simp; omega)
    have hx5 := hk15.heap (by simp) H1.out.2.1
    obtain ⟨hn5, _⟩ := H5.out.1.ok
    have HN5 : Hid (w5.heap[a]? = some (.cells #[.int .i64 2, .int .i64 493, .slice none 0 0, .map (some (a + 1)), .int .i64 0, .slice ao 0 cap, .int .i64 0, .bool false] 100)) := hn5
    have hst := rootT_stands (N := N) (q := q) HF.out.2 a ao cap
    have har := bareas_any N q (rootT a ao cap) w5 H5.out.1.ok hst.fine hst.set HF.out.2.hi HF.out.2.q (by have := hst.len; exact this)
    rw [rootT_area] at har
    unfold layW at har
    rw [HDE.out.1, HDE.out.2] at har
    have HAR := Lib.hid har
    have HX5 := Lib.hid (And.intro hk15 hx5)
    have k0 : w5.cell? ⟨a, 0, none⟩ = some (.int .i64 2) := cell_of_row _ _ 0 _ _ _ HN5.out
    have c0 : w5.cell? ⟨P, 0, none⟩ = some (.int .i64 N) := cell_of_row _ _ 0 _ _ _ hx5
    have c1 : w5.cell? ⟨P, 1, none⟩ = some (.int .i64 0) := cell_of_row _ _ 1 _ _ _ hx5
    have c2 : w5.cell? ⟨P, 2, none⟩ = some (.int .i64 1) := cell_of_row _ _ 2 _ _ _ hx5
    have c3 : w5.cell? ⟨P, 3, none⟩ = some (.int .i64 2) := cell_of_row _ _ 3 _ _ _ hx5
    have c4 : w5.cell? ⟨P, 4, none⟩ = some (.int .i64 201) := cell_of_row _ _ 4 _ _ _ hx5
    have c5 : w5.cell? ⟨P, 5, none⟩ = some (.int .i64 E) := cell_of_row _ _ 5 _ _ _ hx5
    have c6 : w5.cell? ⟨P, 6, none⟩ = some (.int .i64 D) := cell_of_row _ _ 6 _ _ _ hx5
    have c7 : w5.cell? ⟨P, 7, none⟩ = some (.int .i64 64) := cell_of_row _ _ 7 _ _ _ hx5
    clear hk15 hx5 hn5 hst har HND
    rw [show (rootT a ao cap).addr = a from rfl] at HAR
    go_wp2_with fail
    refine HAR.out.mono ?_
    rintro e w7 ⟨v, rfl, H7⟩
    obtain ⟨A, hA⟩ : ∃ A, areaF N q = A := ⟨_, rfl⟩
    rw [hA] at H7
    have hlA := H7.out.1.1
    rw [bv_length] at hlA
    have hbr : BlkRow w7 v (q + 32) A := BlkRow.of H7.out.1 (by rw [hlA, Nat.mul_comm]) (Nat.lt_of_lt_of_le (by decide : 0 < 32) (Nat.le_add_left _ _))
    obtain ⟨ga, gk, rfl, hga, hra⟩ := hbr
    have HAA := Lib.hid hA
    have HRA := Lib.hid (And.intro hga hra)
    have HAL := Lib.hid hlA
    have HK7 : Hid (Kept [] w5 w7) := H7.out.2
    clear H7 hA hga hra hlA k0 c0 c1 c2 c3 c4 c5 c6 c7
    obtain ⟨B, hB⟩ : ∃ B, q + 32 = B := ⟨_, rfl⟩
    have HB := Lib.hid hB
    rw [hB] at HRA HAL ⊢
    clear hB
    have hB40 : B ≤ 40 := by rw [← HB.out]; have := HF.out.2.q; omega
    go_wp2_with fail
    go_loopw [31] (fun i wr => ∃ j : Nat, j ≤ B ∧ i = .int .i64 j ∧ Hid (Kept [] w7 wr)) (fun i _ => B - (intOf i).toNat)
    case atStart => exact ⟨0, by omega, rfl, Kept.refl _ _⟩
    case round =>
      obtain ⟨j, hj, rfl, HR⟩ := hrel
      by_cases hlt : j < B
      · obtain ⟨L, hL⟩ : ∃ L, blkAt A j = L := ⟨_, rfl⟩
        have hrg : wr.rangeAt ga (j * 64) (bv L) := by rw [← hL]; exact HR.out.range HRA.out.1 (by simp) (HRA.out.2 j hlt)
        have hLl : L.length = 64 := by rw [← hL]; exact blkAt_len (by unfold blkN; rw [HAL.out]; omega)
        have hszL : (Tryz.prog.info? 77).map (·.size) = some (bv L).length := by rw [bv_length, hLl]; exact sizeB
        have hszL2 : (Tryz.prog.info? 77).map (·.size) = some L.length := by rw [hLl]; exact sizeB
        have hra : (wr.alloc (.cells (bvA (zeroL)) 77)).heap[wr.heap.size]? = some (.cells (bvA (zeroL)) 77) := heap_alloc_last _ _
        have hl64 : L.length = zeroL.length := by rw [hLl]; rfl
        obtain ⟨w8, hw8⟩ : ∃ w8, (wr.alloc (.cells (bvA (zeroL)) 77)).setRow wr.heap.size (bvA L) = w8 := ⟨_, rfl⟩
        have hk8 : Kept [] wr w8 := by rw [← hw8]; exact (Kept.alloc _ _ _).into (setRow_kept _ _ _) (by simp)
        have hr8 : w8.heap[wr.heap.size]? = some (.cells (bvA L) 77) := by rw [← hw8]; exact setRow_heap _ _ _ _ _ _ hra
        obtain ⟨s, hs⟩ : ∃ s, wr.heap.size = s := ⟨_, rfl⟩
        rw [hs] at hr8
        have HSZ := Lib.hid hs
        have HW8 := Lib.hid hw8
        have hk58 : Kept [] w1 w8 := (HX5.out.1.trans HK7.out).trans (HR.out.trans hk8)
        have HK8 := Lib.hid (And.intro hk8 (And.intro hr8 hk58))
        have hP8 := hk58.heap (by simp) H1.out.2.1
        have hz : ∀ w, (zeroValue 77).run Tryz.prog w = .ok (.agg (bvA zeroL)) w := fun _ => by kernel_rfl
        have q4 : ∀ w', Imp (Kept [] w8) w8.drew w' → w'.cell? ⟨P, 4, none⟩ = some (.int .i64 201) := fun w' hk => cell_of_row _ _ 4 _ _ _ ((hk (Kept.drew _ _)).heap (by simp) hP8)
        have KA : Hid (∀ w', Imp (Kept [] w8) w8.drew w' → w'.rangeAt s 0 (bv L)) := fun w' hk => range_row ((hk (Kept.drew _ _)).heap (by simp) HK8.out.2.1)
        have hblk : S.blk ((201 + j : Nat) : Int) = L := by rw [HF.out.1.area j (by rw [HB.out]; exact hlt), HAA.out, hL]
        obtain ⟨X, hX⟩ : ∃ X : Int, ((201 + j : Nat) : Int) = X := ⟨_, rfl⟩
        have x1 : (201 : Int) + (j : Int) = X := by omega
        have x2 : IntKind.i64.wrap X = X := by rw [IntKind.wrap_i64]; omega
        have x3 : IntKind.i64.wrap (201 + (j : Int)) = X := by rw [x1]; exact x2
        have HRD := Lib.hid (fun w' (hk : Kept [] w1 w') => bread_any d S X w' (H1.out.2.2.kept hk (by simp) (by simp)) (by omega) (by rw [HF.out.1.size]; have := HF.out.2.lo; have := HF.out.2.q; have := HB.out; omega))
        rw [hX] at hblk
        rw [hblk] at HRD
        have HE : Hid (∀ w', (Op.equalIn 10000 77 (.agg (bvA L)) (.agg (bvA L))).run Tryz.prog w' = .ok true w') := fun w' => by rw [equal_blk w' L L hLl hLl]; simp
        have hjB : (j : Int) < (B : Int) := by omega
        clear hL hw8 hs hr8 hk8 hk58 hP8 hX hblk hLl
        go_wp2_with first
          | (refine wpList_load_mid rfl 77 _ rfl _ _ rfl (bv L) _ (by first | exact hrg | (simpa using hrg)) Tryz.underlying77 rfl hszL ?_)
          | (refine wpList_store_row rfl 77 _ _ rfl wr.heap.size 77 zeroL L rfl rfl hra hl64 hszL2 ?_)
        rw [HW8.out, HSZ.out]
        clear hrg hra
        refine wp_region_ordR (R := Imp (Kept [] w8)) [(true, 0), (true, 1), (true, 2), (true, 3), (true, 4), (true, 6), (false, 5), (true, 7)] (fun _ => Imp.refl _ _) (fun _ _ _ h k => Imp.trans h k) (by kernel_rfl) (fun _ _ d _ _ h => by cases d <;> exact h) (by kernel_rfl) rfl (by kernel_rfl) (by kernel_rfl) ?_
        simp only [named, List.getD_cons_zero, List.getD_cons_succ]
        repeat (first | (apply wpR_take; (case hw => rfl); (case hv => intro w' hk; go_simp; with_reducible rfl); simp only [Act.put, List.setIfInBounds_toArray, List.set_cons_zero, List.set_cons_succ]) | (refine wpR_pass (by rfl) ?_; simp only [Act.put, List.setIfInBounds_toArray, List.set_cons_zero, List.set_cons_succ]))
        refine wpR_take (.agg (bvA L)) (by rfl) (fun w' hk => exec_load_row 77 _ rfl s 0 rfl L _ (KA.out w' hk) Tryz.underlying77 rfl hszL) ?_
        simp only [Act.put, List.setIfInBounds_toArray, List.set_cons_zero, List.set_cons_succ]
        clear q4
        refine wpR_force (by rfl) (fun K hK => ?_)
        go_simp
        refine (HRD.out w8.drew (HK8.out.2.2.trans (Kept.drew _ _))).mono ?_
        rintro e w9 ⟨rfl, hk9⟩
        refine hK _ _ (fun hh => hh.trans hk9) ?_
        clear hK K
        refine wpR_take (.bool false) (by rfl) (fun w' hk => ?_) ?_
        · have he := HE.out w'
          go_simp
        simp only [Act.put, List.setIfInBounds_toArray, List.set_cons_zero, List.set_cons_succ]
        refine wpR_nil ?_
        have HN : Hid (Kept [] w7 w9) := (HR.out.trans HK8.out.1).trans ((Kept.drew _ _).trans hk9)
        clear hk9
        go_wp2_with fail
        go_roundw
        case rel => exact ⟨j + 1, by omega, by go_num, HN.out⟩
        case measure => simp [intOf]; omega
      · obtain rfl : j = B := by omega
        have hjB : ¬ (j : Int) < (j : Int) := by omega
        go_wp2_with fail
        go_ret
        have hk : Kept [] w5 wr := HK7.out.trans HR.out
        refine ⟨a, rfl, ao, cap, ?_, (H1.out.1.trans HX5.out.1).trans hk⟩
        have hm := H5.out.1.frame hk (by simp)
        exact ⟨hm.ok, hm.own.low (by have := H1.out.1.size; have := HC.out.1.size; omega), hm.nodup⟩
end Go.Proofs.YtiedoocgbajjjaaGreatDoor

namespace Go.Proofs.YtiedoocgbajjjaaGreatDoor
open Go.RowKit Go.Maps
set_option maxRecDepth 100000

/-- What is panicked with where no tree is. -/
def impP : List PanicEntry := [{ v := .iface 109 (.agg #[]), recovered := false }]

/-- What find answers. -/
def FindOut (d N q : Nat) (S : DiskS) (w : World) (e : Ending) (w' : World) : Prop := Kept [] w w' ∧
  ((S.blk 0 ≠ superL N ∧ e = .panicked impP) ∨ ∃ f j a ao cap, e = .returned (.pointer (some ⟨f, 0, none⟩)) ∧ Hid (FsIs w' f d j N q 0 w.heap.size S (rootT a ao cap) ∧ w.heap.size ≤ f ∧ w.heap.size ≤ j))
theorem FindOut.no {d N q : Nat} {S : DiskS} {w w' : World} (h : S.blk 0 ≠ superL N) (hk : Kept [] w w') : FindOut d N q S w (.panicked impP) w' := ⟨hk, .inl ⟨h, rfl⟩⟩

set_option maxRecDepth 100000 in
set_option maxHeartbeats 8000000 in
theorem find_any (d N q : Nat) (S : DiskS) (w : World) (hl : Live w d S) (hs : S.size = N) (hok : SizeOk N q) (hw : S.writes ≤ 1000000) (hF : S.blk 0 ≠ superL N ∨ Formatted N q S) :
    Calls Tryz.prog 35 #[.pointer (some ⟨d, 0, none⟩), .agg (layW N 0 1 2 201 ((201 + q : Nat) : Int) ((233 + q : Nat) : Int) 64)] w (FindOut d N q S w) := by
  have HLD := Lib.hid (fun w' (hk : Kept [] w w') (hf : Formatted N q S) => bload_root d N q S w' (hl.kept hk (by simp) (by simp)) hf hok)
  unfold layW at HLD ⊢
  obtain ⟨D, hD⟩ : ∃ D : Int, ((233 + q : Nat) : Int) = D := ⟨_, rfl⟩
  obtain ⟨E, hE⟩ : ∃ E : Int, ((201 + q : Nat) : Int) = E := ⟨_, rfl⟩
  have HDE := Lib.hid (And.intro hD hE)
  rw [hD, hE] at HLD ⊢
  obtain ⟨P, hP⟩ : ∃ P, w.heap.size = P := ⟨_, rfl⟩
  obtain ⟨w1, hw1⟩ : ∃ w1, w.alloc (.cells #[.int .i64 N, .int .i64 0, .int .i64 1, .int .i64 2, .int .i64 201, .int .i64 E, .int .i64 D, .int .i64 64] 60) = w1 := ⟨_, rfl⟩
  have hk1 : Kept [] w w1 := by rw [← hw1]; exact Kept.alloc _ _ _
  have hx1 : w1.heap[P]? = some (.cells #[.int .i64 N, .int .i64 0, .int .i64 1, .int .i64 2, .int .i64 201, .int .i64 E, .int .i64 D, .int .i64 64] 60) := by rw [← hw1, ← hP]; exact heap_alloc_last _ _
  have H1 := Lib.hid (And.intro hk1 (And.intro hx1 (hl.kept hk1 (by simp) (by simp))))
  have HF := Lib.hid (And.intro hs (And.intro hok (And.intro hw hF)))
  have HP := Lib.hid hP
  have HW1 := Lib.hid hw1
  have hl64 : (S.blk 0).length = 64 := hl.disk.blk64 0
  have HL64 := Lib.hid hl64
  have hzl : ∀ w', Imp (Kept [] w1) w1.drew w' → ∀ j v, #[Value.int .i64 N, .int .i64 0, .int .i64 1, .int .i64 2, .int .i64 201, .int .i64 E, .int .i64 D, .int .i64 64][j]? = some v → w'.cell? ⟨P, j, none⟩ = some v := fun w' hk j v hv => by
    rw [cell_of_row _ _ j _ _ _ ((hk (Kept.drew _ _)).heap (by simp) H1.out.2.1)]; exact hv
  have q0 : ∀ w', Imp (Kept [] w1) w1.drew w' → w'.cell? ⟨P, 0, none⟩ = some (.int .i64 N) := fun w' hk => hzl w' hk 0 _ rfl
  have q1 : ∀ w', Imp (Kept [] w1) w1.drew w' → w'.cell? ⟨P, 1, none⟩ = some (.int .i64 0) := fun w' hk => hzl w' hk 1 _ rfl
  have q2 : ∀ w', Imp (Kept [] w1) w1.drew w' → w'.cell? ⟨P, 2, none⟩ = some (.int .i64 1) := fun w' hk => hzl w' hk 2 _ rfl
  have q3 : ∀ w', Imp (Kept [] w1) w1.drew w' → w'.cell? ⟨P, 3, none⟩ = some (.int .i64 2) := fun w' hk => hzl w' hk 3 _ rfl
  have q4 : ∀ w', Imp (Kept [] w1) w1.drew w' → w'.cell? ⟨P, 4, none⟩ = some (.int .i64 201) := fun w' hk => hzl w' hk 4 _ rfl
  have q5 : ∀ w', Imp (Kept [] w1) w1.drew w' → w'.cell? ⟨P, 5, none⟩ = some (.int .i64 E) := fun w' hk => hzl w' hk 5 _ rfl
  have q6 : ∀ w', Imp (Kept [] w1) w1.drew w' → w'.cell? ⟨P, 6, none⟩ = some (.int .i64 D) := fun w' hk => hzl w' hk 6 _ rfl
  have q7 : ∀ w', Imp (Kept [] w1) w1.drew w' → w'.cell? ⟨P, 7, none⟩ = some (.int .i64 64) := fun w' hk => hzl w' hk 7 _ rfl
  clear hk1 hx1 hl hs hF hok hD hE hw1 hP hw hl64
  go_enter Tryz.func35, Tryz.ntmps35
  go_wp2_with fail
  rw [HW1.out, HP.out]
  refine wp_region_ordR (R := Imp (Kept [] w1)) [(true, 0), (true, 1), (true, 2), (true, 4), (false, 3), (false, 5), (true, 6)] (fun _ => Imp.refl _ _) (fun _ _ _ h k => Imp.trans h k) (by kernel_rfl) (fun _ _ d _ _ h => by cases d <;> exact h) (by kernel_rfl) rfl (by kernel_rfl) (by kernel_rfl) ?_
  simp only [named, List.getD_cons_zero, List.getD_cons_succ]
  repeat (first | (apply wpR_take; (case hw => rfl); (case hv => intro w' hk; go_simp; with_reducible rfl); simp only [Act.put, List.setIfInBounds_toArray, List.set_cons_zero, List.set_cons_succ]) | (refine wpR_pass (by rfl) ?_; simp only [Act.put, List.setIfInBounds_toArray, List.set_cons_zero, List.set_cons_succ]))
  clear q0 q1 q2 q3 q4 q5 q6 q7 hzl
  refine wpR_force (by rfl) (fun K hK => ?_)
  go_simp
  refine (bread_any d S 0 w1.drew (H1.out.2.2.kept (Kept.drew [] _) (by simp) (by simp)) (by omega) (by rw [HF.out.1]; have := HF.out.2.1.lo; omega)).mono ?_
  rintro e w2 ⟨rfl, hk2⟩
  refine hK _ _ (fun hh => hh.trans hk2) ?_
  clear hK K
  have HK2 : Hid (Kept [] w1 w2) := (Kept.drew _ _).trans hk2
  refine wpR_force (by rfl) (fun K hK => ?_)
  go_simp
  have hsb := superBlock_any N 0 1 2 201 E D 64 w2 HF.out.2.1.hi
  unfold layW at hsb
  refine hsb.mono ?_
  rintro e w3 ⟨rfl, hk3⟩
  refine hK _ _ (fun hh => hh.trans hk3) ?_
  clear hK K hsb
  have HK3 : Hid (Kept [] w1 w3) := HK2.out.trans hk3
  obtain ⟨L, hL⟩ : ∃ L, S.blk 0 = L := ⟨_, rfl⟩
  obtain ⟨M, hM⟩ : ∃ M, superL N = M := ⟨_, rfl⟩
  obtain ⟨ok, hok⟩ : ∃ ok, decide (L = M) = ok := ⟨_, rfl⟩
  rw [hL, hM]
  have HLM := Lib.hid (And.intro hL (And.intro hM hok))
  have HE : Hid (∀ w', (Op.equalIn 10000 77 (.agg (bvA L)) (.agg (bvA M))).run Tryz.prog w' = .ok ok w') := fun w' => by rw [equal_blk w' L M (by rw [← hL]; exact HL64.out) (by rw [← hM]; exact superL_length N), hok]
  clear hL hM hok hk2 hk3
  refine wpR_take (.bool (!ok)) (by rfl) (fun w' hk => ?_) ?_
  · have he := HE.out w'
    go_simp
  simp only [Act.put, List.setIfInBounds_toArray, List.set_cons_zero, List.set_cons_succ]
  refine wpR_nil ?_
  cases ok
  case false =>
    have HNE : Hid (S.blk 0 ≠ superL N) := by
      obtain ⟨h1, h2, h3⟩ := HLM.out
      rw [h1, h2]
      exact of_decide_eq_false h3
    go_wp2_with fail
    exact ⟨rfl, FindOut.no HNE.out (H1.out.1.trans HK3.out)⟩
  case true =>
    have HFM : Hid (Formatted N q S) := by
      obtain ⟨h1, h2, h3⟩ := HLM.out
      rcases HF.out.2.2.2 with h4 | h4
      · exact absurd (by rw [h1, h2]; exact of_decide_eq_true h3) h4
      · exact h4
    have hl3 := H1.out.2.2.kept HK3.out (by simp) (by simp)
    have HJO := Lib.hid (open_ready d S 2 2 0 w3 hl3.disk rfl (by rw [HF.out.1]; have := HF.out.2.1.lo; omega) hl3.off HFM.out.jour (by omega))
    have hP3 := HK3.out.heap (by simp) H1.out.2.1
    have c3 : w3.cell? ⟨P, 3, none⟩ = some (.int .i64 2) := cell_of_row _ _ 3 _ _ _ hP3
    clear hl3 hP3
    go_wp2_with fail
    refine HJO.out.mono ?_
    rintro e w4 ⟨j, rfl, hj, hjl, hk4⟩
    have HK4 : Hid (Kept [] w1 w4) := HK3.out.trans hk4
    have HJ := Lib.hid (And.intro hj (And.intro (show w.heap.size ≤ j by have := H1.out.1.size; have := HK3.out.size; omega) hk4))
    clear c3 hj hjl hk4 HJO
    go_wp2_with fail
    have hzl : ∀ w', Imp (Kept [] w4) w4.drew w' → ∀ j v, #[Value.int .i64 N, .int .i64 0, .int .i64 1, .int .i64 2, .int .i64 201, .int .i64 E, .int .i64 D, .int .i64 64][j]? = some v → w'.cell? ⟨P, j, none⟩ = some v := fun w' hk j v hv => by
      rw [cell_of_row _ _ j _ _ _ ((hk (Kept.drew _ _)).heap (by simp) (HK4.out.heap (by simp) H1.out.2.1))]; exact hv
    have q0 : ∀ w', Imp (Kept [] w4) w4.drew w' → w'.cell? ⟨P, 0, none⟩ = some (.int .i64 N) := fun w' hk => hzl w' hk 0 _ rfl
    have q1 : ∀ w', Imp (Kept [] w4) w4.drew w' → w'.cell? ⟨P, 1, none⟩ = some (.int .i64 0) := fun w' hk => hzl w' hk 1 _ rfl
    have q2 : ∀ w', Imp (Kept [] w4) w4.drew w' → w'.cell? ⟨P, 2, none⟩ = some (.int .i64 1) := fun w' hk => hzl w' hk 2 _ rfl
    have q3 : ∀ w', Imp (Kept [] w4) w4.drew w' → w'.cell? ⟨P, 3, none⟩ = some (.int .i64 2) := fun w' hk => hzl w' hk 3 _ rfl
    have q4 : ∀ w', Imp (Kept [] w4) w4.drew w' → w'.cell? ⟨P, 4, none⟩ = some (.int .i64 201) := fun w' hk => hzl w' hk 4 _ rfl
    have q5 : ∀ w', Imp (Kept [] w4) w4.drew w' → w'.cell? ⟨P, 5, none⟩ = some (.int .i64 E) := fun w' hk => hzl w' hk 5 _ rfl
    have q6 : ∀ w', Imp (Kept [] w4) w4.drew w' → w'.cell? ⟨P, 6, none⟩ = some (.int .i64 D) := fun w' hk => hzl w' hk 6 _ rfl
    have q7 : ∀ w', Imp (Kept [] w4) w4.drew w' → w'.cell? ⟨P, 7, none⟩ = some (.int .i64 64) := fun w' hk => hzl w' hk 7 _ rfl
    refine wp_region_ordR (R := Imp (Kept [] w4)) [(true, 0), (true, 1), (true, 2), (true, 3), (true, 4), (false, 5), (true, 6), (false, 7), (true, 8)] (fun _ => Imp.refl _ _) (fun _ _ _ h k => Imp.trans h k) (by kernel_rfl) (fun _ _ d _ _ h => by cases d <;> exact h) (by kernel_rfl) rfl (by kernel_rfl) (by kernel_rfl) ?_
    simp only [named, List.getD_cons_zero, List.getD_cons_succ]
    repeat (first | (apply wpR_take; (case hw => rfl); (case hv => intro w' hk; go_simp; with_reducible rfl); simp only [Act.put, List.setIfInBounds_toArray, List.set_cons_zero, List.set_cons_succ]) | (refine wpR_pass (by rfl) ?_; simp only [Act.put, List.setIfInBounds_toArray, List.set_cons_zero, List.set_cons_succ]))
    clear q0 q1 q2 q3 q4 q5 q6 q7 hzl
    refine wpR_force (by rfl) (fun K hK => ?_)
    go_simp
    have hka : Kept [] w w4.drew := (H1.out.1.trans HK4.out).trans (Kept.drew _ _)
    refine (HLD.out w4.drew hka HFM.out).mono ?_
    rintro e w5 ⟨a, ao, cap, rfl, H5⟩
    refine hK _ _ (fun hh => hh.trans H5.out.2) ?_
    clear hK K
    repeat (first | (apply wpR_take; (case hw => rfl); (case hv => intro w' hk; go_simp; with_reducible rfl); simp only [Act.put, List.setIfInBounds_toArray, List.set_cons_zero, List.set_cons_succ]) | (refine wpR_pass (by rfl) ?_; simp only [Act.put, List.setIfInBounds_toArray, List.set_cons_zero, List.set_cons_succ]))
    refine wpR_force (by rfl) (fun K hK => ?_)
    go_simp
    refine hK _ _ (fun hh => hh.trans (Kept.alloc _ _ _)) ?_
    clear hK K
    repeat (first | (apply wpR_take; (case hw => rfl); (case hv => intro w' hk; go_simp; with_reducible rfl); simp only [Act.put, List.setIfInBounds_toArray, List.set_cons_zero, List.set_cons_succ]) | (refine wpR_pass (by rfl) ?_; simp only [Act.put, List.setIfInBounds_toArray, List.set_cons_zero, List.set_cons_succ]))
    refine wpR_nil ?_
    obtain ⟨fr, hfr⟩ : ∃ fr, fsRow d j a N q false = fr := ⟨_, rfl⟩
    have hfr2 := hfr
    unfold fsRow at hfr2
    rw [HDE.out.1, HDE.out.2] at hfr2
    rw [hfr2]
    obtain ⟨w6, hw6⟩ : ∃ w6, w5.alloc (.cells fr 87) = w6 := ⟨_, rfl⟩
    have hk56 : Kept [] w5 w6 := by rw [← hw6]; exact Kept.alloc _ _ _
    have hrow : w6.heap[w5.heap.size]? = some (.cells fr 87) := by rw [← hw6]; exact heap_alloc_last _ _
    obtain ⟨f, hf⟩ : ∃ f, w5.heap.size = f := ⟨_, rfl⟩
    rw [hf] at hrow ⊢
    rw [hw6]
    have HFIN : Hid (FindOut d N q S w (.returned (.pointer (some ⟨f, 0, none⟩))) w6) := by
      have hs4 := (H1.out.1.trans HK4.out).size
      have hs5 := H5.out.2.size
      have hs54 : w4.heap.size ≤ w5.heap.size := hs5
      have hk6 : Kept [] w w6 := (hka.trans H5.out.2).trans hk56
      have hk46 : Kept [] w4 w6 := ((Kept.drew [] w4).trans H5.out.2).trans hk56
      refine ⟨hk6, .inr ⟨f, j, a, ao, cap, rfl, ⟨?_, ⟨(H1.out.2.2.kept HK4.out (by simp) (by simp)).kept hk46 (by simp) (by simp), HJ.out.1.kept hk46 (by simp), HFM.out.jour, ?_⟩, HF.out.1, HF.out.2.1, ?_, rootT_stands HF.out.2.1 a ao cap, ⟨by omega, HF.out.2.2.1⟩⟩, by omega, HJ.out.2.1⟩⟩
      · rw [hrow, ← hfr]; rfl
      · rw [HF.out.1]; have := HF.out.2.1.lo; omega
      · have hm := H5.out.1.frame hk56 (by simp)
        exact ⟨hm.ok, hm.own.low (show w.heap.size ≤ w4.drew.heap.size from hs4), hm.nodup⟩
    go_wp2_with fail
    go_ret
    exact HFIN.out
end Go.Proofs.YtiedoocgbajjjaaGreatDoor

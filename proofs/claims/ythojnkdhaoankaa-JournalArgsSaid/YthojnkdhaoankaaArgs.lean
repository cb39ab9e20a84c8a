/-
  The walk through JournalArgs: a journal is formatted, and opened, just where there is room for it.
  Conditions: none.
-/
import Derived.Test.YthojnkdhaoankaaShown2
namespace Go.Proofs.Ythojnkdhaoankaa
open Go.RowKit Go.Maps

theorem size_of_new (n : Int) (m : Nat) : (DiskS.new n m).size = n := rfl

set_option maxHeartbeats 4000000 in
set_option maxRecDepth 100000 in
theorem args_walk (blocks at' : Int) (w : World) (h1 : -9223372036854775808 ≤ blocks) (h2 : blocks ≤ 9223372036854775807) (h3 : -9223372036854775808 ≤ at') (h4 : at' ≤ 9223372036854775807) :
    Calls Try.prog 4 #[.int .i64 blocks, .int .i64 at'] w fun e w' => e = .returned (.bool true) ∧ Kept [] w w' := by
  go_enter Try.func4, Try.ntmps4
  go_wp2_with fail
  refine (shown_true w).mono ?_
  rintro e w1 ⟨rfl, hk1⟩
  have HK1 := Lib.hid hk1
  clear hk1
  by_cases hb : 1 ≤ blocks ∧ blocks ≤ 4096
  · obtain ⟨hb1, hb2⟩ := hb
    go_wp2_with fail
    refine (new_ok blocks _ hb1 hb2).mono ?_
    rintro e w2 ⟨rfl, hd2, hk2⟩
    obtain ⟨a, ha⟩ : ∃ a, a = w1.heap.size + 1 := ⟨_, rfl⟩
    obtain ⟨m, hm⟩ : ∃ m, m = w1.heap.size := ⟨_, rfl⟩
    rw [← ha, ← hm] at hd2
    rw [← ha]
    have HA : Hid (w.heap.size ≤ a) := by show _ ≤ _; have := HK1.out.size; omega
    have HM : Hid (w.heap.size ≤ m) := by show _ ≤ _; have := HK1.out.size; omega
    have HD2 := Lib.hid hd2
    have HK2 := Lib.hid (HK1.out.trans hk2)
    clear hd2 hk2 ha hm
    by_cases hf : 0 ≤ at' ∧ at' ≤ blocks - 199
    · obtain ⟨hf1, hf2⟩ := hf
      obtain ⟨at_, rfl⟩ : ∃ n : Nat, at' = n := ⟨at'.toNat, by omega⟩
      go_wp2_with fail
      refine (open_zero a (DiskS.new blocks m) at_ _ _ HD2.out rfl (by rw [size_of_new]; omega) rfl rfl).mono ?_
      rintro e w3 ⟨rfl, hk3⟩
      have HK3 := Lib.hid (HK2.out.trans hk3)
      have HD3 := Lib.hid (HD2.out.kept hk3 (by simp) (by simp))
      clear hk3
      go_wp2_with fail
      obtain ⟨S4, hS4⟩ : ∃ S : DiskS, S = ⟨blocks, m, false, false, 0, 1, updL (fun _ => zeroL) at_ (encL at_ 0 0 false)⟩ := ⟨_, rfl⟩
      refine (format_yes a (DiskS.new blocks m) S4 at_ _ 0 _ HD3.out rfl (by rw [size_of_new]; omega) (by show (0 : Int) < _; omega) ?_).mono ?_
      · have hr : (DiskS.new blocks m).reach at_ = 0 := reach_in (by omega) (by rw [size_of_new]; omega) rfl
        unfold DiskS.wr
        rw [if_pos hr, if_pos (encL_length _ _ _ _), hS4]
        rfl
      rintro e w4 ⟨rfl, hd4, hk4⟩
      have HD4 := Lib.hid hd4
      have HK4 : Hid (Kept [] w w4) := HK3.out.into hk4 (by have := HA.out; have := HM.out; simp [DiskS.new]; omega)
      have hs4 : S4.size = blocks := by rw [hS4]
      have ho4 : S4.off = false := by rw [hS4]
      have HB4 : Hid (∀ i : Int, i ≠ at_ → S4.blk i = zeroL) := fun i hi => by rw [hS4]; simp [updL, hi]
      have hr4 : S4.blk at_ = encL at_ 0 0 false := by rw [hS4]; simp [updL]
      have HS4 := Lib.hid hs4
      have HO4 := Lib.hid ho4
      have HR4 := Lib.hid hr4
      clear hd4 hk4 hs4 ho4 hr4 hS4
      go_wp2_with fail
      refine (open_ready a S4 at_ _ 0 _ HD4.out rfl (by rw [HS4.out]; omega) HO4.out HR4.out (by omega)).mono ?_
      rintro e w5 ⟨j, rfl, hj5, hjl5, hk5⟩
      have HJ5 := Lib.hid hj5
      have HK5 := Lib.hid (HK4.out.trans hk5)
      have HD5 := Lib.hid (HD4.out.kept hk5 (by simp) (by simp))
      clear hj5 hjl5 hk5
      go_wp2_with fail
      refine (groups_any j _ w5 HJ5.out).mono ?_
      rintro e w6 ⟨rfl, rfl⟩
      go_wp2_with fail
      obtain ⟨N, rfl⟩ : ∃ n : Nat, blocks = n := ⟨blocks.toNat, by omega⟩
      go_loopw [14] (fun i wr => ∃ (k : Nat), k ≤ N ∧ i = .int .i64 k ∧ Hid (IsDisk wr a S4 ∧ Kept [] w wr)) (fun i _ => N - (intOf i).toNat)
      case atStart => exact ⟨0, by omega, rfl, HD5.out, HK5.out⟩
      case round =>
        obtain ⟨k, hkN, rfl, HR⟩ := hrel
        by_cases hlt : k < N
        · go_wp2_with fail
          refine (read_ok a S4 k _ HR.out.1 (reach_in (by omega) (by rw [HS4.out]; omega) HO4.out)).mono ?_
          rintro e w7 ⟨rfl, hw7⟩
          have hk7 : Kept [] wr w7 := by rw [hw7]; exact Kept.alloc _ _ _
          have HD7 := Lib.hid (HR.out.1.kept hk7 (by simp) (by simp))
          have HK7 := Lib.hid (HR.out.2.trans hk7)
          have cv : (∀ w', Kept [] w7.drew w' → (convert 48 9 (.slice (some ⟨wr.heap.size, 0, none⟩) 64 64)).run Try.prog w' = .ok (.string (strL (S4.blk k))) w') := fun w' hk =>
            conv_range w' wr.heap.size 0 64 (S4.blk k) 64 (HD7.out.blk64 _) (((Kept.drew [] w7).trans hk).range (by rw [hw7]; simp) (by simp) (by rw [hw7]; exact range_row (heap_alloc_last _ _)))
          clear hw7 hk7
          go_wp2_with fail
          have e1 : IntKind.i64.wrap ((at_ : Int) + 199) = (at_ : Int) + 199 := by rw [IntKind.wrap_i64]; omega
          by_cases t1 : (k : Int) < at_
          · rw [HB4.out k (by omega)] at cv
            have hmk := run_make_bytes (P := Try.prog) w7.drew 48 5 Try.underlying48 infoByte 64 (by omega) (by omega)
            refine wp_region_grow (List.replicate 15 true ++ [false] ++ List.replicate 4 true) [] (by kernel_rfl) (fun _ _ d _ _ h => by cases d <;> exact h) (by kernel_rfl) rfl (by kernel_rfl) ?_
            simp only [List.replicate_succ, List.replicate_zero, List.cons_append, List.nil_append, List.zip_cons_cons, List.zip_nil_left]
            repeat (first | (apply wpGrow_take; (case hw => rfl); (case hv => intro w' hk; go_simp; with_reducible rfl); simp only [Act.put, List.setIfInBounds_toArray, List.set_cons_zero, List.set_cons_succ]) | (refine wpGrow_pass (by rfl) ?_; simp only [Act.put, List.setIfInBounds_toArray, List.set_cons_zero, List.set_cons_succ]))
            refine wpGrow_force (by rfl) (fun K hK => ?_)
            go_simp
            first | generalize hw8 : World.drew (World.alloc w7 _) = w8 | generalize hw8 : World.alloc (World.drew w7) _ = w8
            have hk8 : Kept [] w7.drew w8 := by rw [← hw8]; exact Kept.alloc _ _ _
            have hh8 : w8.heap[w7.heap.size]? = some (.cells (bvA (zerosL 64)) 5) := by rw [← hw8]; exact heap_alloc_last w7 _
            refine hK _ _ hk8 ?_
            clear hK K hmk cv hw8
            have cv : ∀ w', Kept [] w8 w' → (convert 48 9 (.slice (some ⟨w7.heap.size, 0, none⟩) 64 64)).run Try.prog w' = .ok (.string (strL zeroL)) w' := fun w' hk =>
              conv_range w' w7.heap.size 0 64 zeroL 64 rfl (hk.range (Array.getElem?_eq_some_iff.1 hh8).1 (by simp) (range_row hh8))
            have HN : Hid (IsDisk w8 a S4 ∧ Kept [] w w8) := ⟨HD7.out.kept ((Kept.drew [] _).trans hk8) (by simp) (by simp), HK7.out.trans ((Kept.drew _ _).trans hk8)⟩
            clear hk8 hh8
            repeat (first | (apply wpGrow_take; (case hw => rfl); (case hv => intro w' hk; go_simp; with_reducible rfl); simp only [Act.put, List.setIfInBounds_toArray, List.set_cons_zero, List.set_cons_succ]) | (refine wpGrow_pass (by rfl) ?_; simp only [Act.put, List.setIfInBounds_toArray, List.set_cons_zero, List.set_cons_succ]))
            refine wpGrow_nil ?_
            clear cv
            go_wp2_with fail
            go_roundw
            case rel => exact ⟨k + 1, by omega, by go_num, HN⟩
            case measure => simp [intOf]; omega
          · by_cases t2 : (at_ : Int) + 199 ≤ k
            · rw [HB4.out k (by omega)] at cv
              have hmk := run_make_bytes (P := Try.prog) w7.drew 48 5 Try.underlying48 infoByte 64 (by omega) (by omega)
              refine wp_region_grow (List.replicate 15 true ++ [false] ++ List.replicate 4 true) [] (by kernel_rfl) (fun _ _ d _ _ h => by cases d <;> exact h) (by kernel_rfl) rfl (by kernel_rfl) ?_
              simp only [List.replicate_succ, List.replicate_zero, List.cons_append, List.nil_append, List.zip_cons_cons, List.zip_nil_left]
              repeat (first | (apply wpGrow_take; (case hw => rfl); (case hv => intro w' hk; go_simp; with_reducible rfl); simp only [Act.put, List.setIfInBounds_toArray, List.set_cons_zero, List.set_cons_succ]) | (refine wpGrow_pass (by rfl) ?_; simp only [Act.put, List.setIfInBounds_toArray, List.set_cons_zero, List.set_cons_succ]))
              refine wpGrow_force (by rfl) (fun K hK => ?_)
              go_simp
              first | generalize hw8 : World.drew (World.alloc w7 _) = w8 | generalize hw8 : World.alloc (World.drew w7) _ = w8
              have hk8 : Kept [] w7.drew w8 := by rw [← hw8]; exact Kept.alloc _ _ _
              have hh8 : w8.heap[w7.heap.size]? = some (.cells (bvA (zerosL 64)) 5) := by rw [← hw8]; exact heap_alloc_last w7 _
              refine hK _ _ hk8 ?_
              clear hK K hmk cv hw8
              have cv : ∀ w', Kept [] w8 w' → (convert 48 9 (.slice (some ⟨w7.heap.size, 0, none⟩) 64 64)).run Try.prog w' = .ok (.string (strL zeroL)) w' := fun w' hk =>
                conv_range w' w7.heap.size 0 64 zeroL 64 rfl (hk.range (Array.getElem?_eq_some_iff.1 hh8).1 (by simp) (range_row hh8))
              have HN : Hid (IsDisk w8 a S4 ∧ Kept [] w w8) := ⟨HD7.out.kept ((Kept.drew [] _).trans hk8) (by simp) (by simp), HK7.out.trans ((Kept.drew _ _).trans hk8)⟩
              clear hk8 hh8
              repeat (first | (apply wpGrow_take; (case hw => rfl); (case hv => intro w' hk; go_simp; with_reducible rfl); simp only [Act.put, List.setIfInBounds_toArray, List.set_cons_zero, List.set_cons_succ]) | (refine wpGrow_pass (by rfl) ?_; simp only [Act.put, List.setIfInBounds_toArray, List.set_cons_zero, List.set_cons_succ]))
              refine wpGrow_nil ?_
              clear cv
              go_wp2_with fail
              go_roundw
              case rel => exact ⟨k + 1, by omega, by go_num, HN⟩
              case measure => simp [intOf]; omega
            · have t2' : ¬ ((at_ : Int) + 199 ≤ k) := t2
              have HN : Hid (IsDisk w7.drew a S4 ∧ Kept [] w w7.drew) := ⟨HD7.out.kept (Kept.drew [] _) (by simp) (by simp), HK7.out.trans (Kept.drew _ _)⟩
              refine wp_region_grow (List.replicate 15 true ++ [false] ++ List.replicate 4 true) [] (by kernel_rfl) (fun _ _ d _ _ h => by cases d <;> exact h) (by kernel_rfl) rfl (by kernel_rfl) ?_
              simp only [List.replicate_succ, List.replicate_zero, List.cons_append, List.nil_append, List.zip_cons_cons, List.zip_nil_left]
              repeat (first | (apply wpGrow_take; (case hw => rfl); (case hv => intro w' hk; go_simp; with_reducible rfl); simp only [Act.put, List.setIfInBounds_toArray, List.set_cons_zero, List.set_cons_succ]) | (refine wpGrow_pass (by rfl) ?_; simp only [Act.put, List.setIfInBounds_toArray, List.set_cons_zero, List.set_cons_succ]))
              refine wpGrow_nil ?_
              clear cv
              go_wp2_with fail
              go_roundw
              case rel => exact ⟨k + 1, by omega, by go_num, HN⟩
              case measure => simp [intOf]; omega
        · obtain rfl : k = N := by omega
          go_wp2_with fail
          go_ret
          exact ⟨rfl, HR.out.2⟩
    · have hff : ¬ (0 ≤ at' ∧ at' ≤ (DiskS.new blocks m).size - 199) := hf
      have HF := Lib.hid hff
      clear hff
      by_cases h0 : 0 ≤ at'
      · have h5 : ¬ (at' ≤ blocks - 199) := fun h => hf ⟨h0, h⟩
        clear hf
        go_wp2_with fail
        refine (open_no a (DiskS.new blocks m) at' _ HD2.out HF.out).mono ?_
        rintro e w3 ⟨rfl, rfl⟩
        go_wp2_with fail
        refine (format_no a (DiskS.new blocks m) at' _ HD2.out HF.out).mono ?_
        rintro e w3 ⟨rfl, rfl⟩
        go_wp2_with fail
        refine (open_no a (DiskS.new blocks m) at' _ HD2.out HF.out).mono ?_
        rintro e w3 ⟨rfl, rfl⟩
        go_wp2_with fail
        all_goals first | (go_ret; exact ⟨rfl, HK2.out⟩) | (exfalso; have hno := ‹(!decide (at' ≤ blocks - 199)) = false›; rw [decide_eq_false (by omega)] at hno; cases hno)
      · clear hf
        go_wp2_with fail
        refine (open_no a (DiskS.new blocks m) at' _ HD2.out HF.out).mono ?_
        rintro e w3 ⟨rfl, rfl⟩
        go_wp2_with fail
        refine (format_no a (DiskS.new blocks m) at' _ HD2.out HF.out).mono ?_
        rintro e w3 ⟨rfl, rfl⟩
        go_wp2_with fail
        refine (open_no a (DiskS.new blocks m) at' _ HD2.out HF.out).mono ?_
        rintro e w3 ⟨rfl, rfl⟩
        go_wp2_with fail
        all_goals first | (go_ret; exact ⟨rfl, HK2.out⟩) | (exfalso; have hno := ‹(!decide (at' ≤ blocks - 199)) = false›; rw [decide_eq_false (by omega)] at hno; cases hno)
  · go_wp2_with fail
    refine (new_bad blocks _ (by omega)).mono ?_
    rintro e w2 ⟨rfl, rfl⟩
    go_wp2_with fail
    go_ret
    exact ⟨rfl, HK1.out⟩
end Go.Proofs.Ythojnkdhaoankaa

/-
  Layer 3: TakeNode: 32 bytes are taken as a node, or refused.
  Conditions: those that each theorem states.
-/
import Derived.Test.YtbggmeilkfpbgaaDoorLRead
namespace Go.Proofs.YtbggmeilkfpbgaaDoor
open Go.RowKit Go.Maps

theorem eqItems_bytes {P : Program} (w : World) (d : Nat) (e : TypeId) (he : P.plainKey e = true) (hue : P.underlying e = some (.int .u8)) (A B : List UInt8) : ∀ is : List Nat, (∀ i ∈ is, i < A.length ∧ i < B.length) →
    (Op.eqItems (d + 1) e 1 (bvA A) (bvA B) is).run P w = .ok (is.all fun i => A.getD i 0 == B.getD i 0) w
  | [], _ => by simp [Op.eqItems]
  | i :: is, h => by
    obtain ⟨ha, hb⟩ := h i (by simp)
    have p1 : (part e (bvA A) (i * 1)).run P w = .ok (.int .u8 ((A.getD i 0).toNat : Int)) w := run_part_plain w he (by simp [bvA, bv, ha])
    have p2 : (part e (bvA B) (i * 1)).run P w = .ok (.int .u8 ((B.getD i 0).toNat : Int)) w := run_part_plain w he (by simp [bvA, bv, hb])
    have ih := eqItems_bytes w d e he hue A B is (fun j hj => h j (by simp [hj]))
    simp only [Op.eqItems, Sem.run_bind, p1, p2, Result.andThen_ok, run_equalIn_int w d e .u8 .u8 _ _ hue, List.all_cons]
    have hx : (((A.getD i 0).toNat : Int) == ((B.getD i 0).toNat : Int)) = (A.getD i 0 == B.getD i 0) := by
      by_cases q : A.getD i 0 = B.getD i 0
      · rw [q, beq_self_eq_true, beq_self_eq_true]
      · have : ¬ (A.getD i 0).toNat = (B.getD i 0).toNat := fun e => q (UInt8.toNat_inj.1 e)
        have h2 : ¬ ((A.getD i 0).toNat : Int) = ((B.getD i 0).toNat : Int) := by omega
        rw [beq_eq_false_iff_ne.2 h2, beq_eq_false_iff_ne.2 q]
    rw [hx]
    cases A.getD i 0 == B.getD i 0
    · simp
    · simpa using ih
theorem infoByte3 : ∃ i, Tryd.prog.info? 5 = some i := by
  have : (Tryd.prog.info? 5).isSome = true := by kernel_rfl
  exact Option.isSome_iff_exists.1 this
theorem equal_bytesN (n : Nat) (t : TypeId) (ht : Tryd.prog.underlying t = some (.array n 5)) (w : World) (A B : List UInt8) (ha : A.length = n) (hb : B.length = n) : (Op.equalIn 10000 t (.agg (bvA A)) (.agg (bvA B))).run Tryd.prog w = .ok (decide (A = B)) w := by
  obtain ⟨i, hi⟩ := infoByte3
  rw [run_equalIn_array w 9999 (bvA A) (bvA B) ht hi, show Tryd.prog.cellsOf 5 = 1 by kernel_rfl]
  rw [eqItems_bytes w 9998 5 (by kernel_rfl) Tryd.underlying5 A B (List.range n) (fun i hi => by simp at hi; omega)]
  congr 1
  rw [Bool.eq_iff_iff]
  simp only [List.all_eq_true, List.mem_range, decide_eq_true_eq, beq_iff_eq]
  refine ⟨fun h => List.ext_getElem (by omega) fun i h1 h2 => ?_, fun h i _ => by rw [h]⟩
  have := h i (by omega)
  simpa [h1, h2] using this

/-- A whole row of bytes is read. -/
theorem exec_load_row {P : Program} {o : Oper} {a : Act} {w' : World} (ty : TypeId) (x : Operand) (ho : o.op = .load ty x) (b off : Nat) (hx : a.eval x = .pointer (some ⟨b, off, none⟩)) (L : List UInt8) (d : TypeDesc) (hc : w'.rangeAt b off (bv L))
    (hu : P.underlying ty = some d) (hd : d.isRow = true) (hi : (P.info? ty).map (·.size) = some (bv L).length) : (execOp a.eval o).run P w' = .ok (.value (.agg (bvA L))) w' := by
  unfold execOp
  simp only [ho, hx, Instr.loadAt, Instr.sureAddr, Sem.run_bind, Sem.run_pure, Result.andThen_ok, run_loadVar_mid w' b off ty (bv L) d hc hu hd hi]
  rfl

/-- Which bytes are a node's. -/
def takeB (R : List UInt8) : Bool := decide (R.length = 32) && (decide (0 ≤ dataI (kindN R) (numAt R 3)) && (headB (numAt R 1) (dataI (kindN R) (numAt R 3)) (numAt R 5) && ((natI (dirL R)).all sndB && decide (recL (kindN R) (fieldsL (numAt R 1) (numAt R 3) (numAt R 5) (dirL R)) = R))))
/-- What TakeNode leaves. -/
def TakeOut (R : List UInt8) (w : World) (e : Ending) (w' : World) : Prop :=
  Kept [] w w' ∧ ((takeB R = false ∧ e = .returned (.tuple #[nodeV 0 0 0 none 0 0 0, .int .i64 0, .int .i64 4])) ∨
    ∃ ao cap, takeB R = true ∧ e = .returned (.tuple #[nodeV (kindN R) (numAt R 1) (numAt R 3) ao (dirL R).length cap (numAt R 5), .int .i64 (dataI (kindN R) (numAt R 3) - (dirL R).length), .int .i64 0]) ∧ IntsIs w' ao (dirL R).length (natI (dirL R)) ∧ (dirL R).length ≤ cap ∧ w'.ownsRow w.heap.size 3 1 (.slice ao (dirL R).length cap) (dirL R).length (iv (natI (dirL R))))

set_option maxRecDepth 100000 in
set_option maxHeartbeats 4000000 in
theorem takeNode_32 (b o cap : Nat) (R : List UInt8) (w : World) (hR : R.length = 32) (hb : b < w.heap.size) (hr : w.rangeAt b o (bv R)) :
    Calls Tryd.prog 6 #[.slice (some ⟨b, o, none⟩) 32 cap] w (TakeOut R w) := by
  have hsz : (Tryd.prog.info? 55).map (·.size) = some (bv R).length := by rw [bv_length, hR]; exact size64
  have hsz2 : (Tryd.prog.info? 55).map (·.size) = some R.length := by rw [hR]; exact size64
  have har := run_arrayAt (P := Tryd.prog) 55 5 32 Tryd.underlying55 (some ⟨b, o, none⟩) 32 cap (Nat.le_refl _)
  obtain ⟨w0, hw0⟩ : ∃ w0, w.alloc (.cells #[.int .i64 0, .int .i64 0, .int .i64 0, .slice none 0 0, .int .i64 0] 26) = w0 := ⟨_, rfl⟩
  have hk0 : Kept [] w w0 := by rw [← hw0]; exact Kept.alloc _ _ _
  have hx0 : w0.heap[w.heap.size]? = some (.cells #[.int .i64 0, .int .i64 0, .int .i64 0, .slice none 0 0, .int .i64 0] 26) := by rw [← hw0]; exact heap_alloc_last _ _
  have hs0 : w0.heap.size = w.heap.size + 1 := by rw [← hw0, size_alloc]
  have hr0 : w0.rangeAt b o (bv R) := hk0.range hb (by simp) hr
  have z32 := zero32 w0
  have hRz : (bvA R).size = 32 := by rw [bvA_size]; exact hR
  have hst := run_storeCells_new (P := Tryd.prog) w0 55 (bvA (zerosL 32)) (bvA R) (by rw [hRz]; exact size64) (by rw [hRz]; rfl) (bvA_one _)
  rw [bvA_toList] at hst
  have hRl : (bv R).length = 32 := by rw [bv_length]; exact hR
  have hr1 : (w0.alloc (.cells (bvA R) 55)).rangeAt w0.heap.size 0 (bv R) := range_row (heap_alloc_last _ _)
  have HR := Lib.hid hR
  have HK0 := Lib.hid hk0
  have HX0 := Lib.hid hx0
  have HS0 := Lib.hid hs0
  clear hk0 hx0 hs0 hr hR
  go_enter Tryd.func6, Tryd.ntmps6
  go_wp2_with first
    | (refine wpList_load_mid rfl 55 _ rfl b o rfl (bv R) _ hr0 Tryd.underlying55 rfl hsz ?_)
    | (refine wpList_load_mid rfl 55 _ rfl w0.heap.size 0 rfl (bv R) _ hr1 Tryd.underlying55 rfl hsz ?_)
  rw [show (bv R).toArray = bvA R from rfl]
  generalize hw3 : World.alloc w0 _ = w3
  have H3 : Hid (w3.heap[w.heap.size]? = some (.cells #[.int .i64 0, .int .i64 0, .int .i64 0, .slice none 0 0, .int .i64 0] 26) ∧ w3.heap[w.heap.size + 1]? = some (.cells (bvA R) 55) ∧ Kept [] w w3) := by
    rw [← hw3]
    refine ⟨(Kept.alloc [] _ _).heap (by simp) HX0.out, ?_, HK0.out.trans (Kept.alloc _ _ _)⟩
    rw [← HS0.out]
    exact heap_alloc_last _ _
  rw [HS0.out]
  clear hw3 hr1 hst z32 hr0 har hRz hRl hw0 HX0 HK0 HS0 hb
  clear w0
  refine (readNode_any R w3 HR.out).mono ?_
  simp only [nodeV]
  rintro e w4 ⟨ao, cp, rfl, H4⟩
  obtain ⟨k, hk⟩ : ∃ k, kindN R = k := ⟨_, rfl⟩
  obtain ⟨m, hm⟩ : ∃ m, numAt R 1 = m := ⟨_, rfl⟩
  obtain ⟨s, hs⟩ : ∃ s, numAt R 3 = s := ⟨_, rfl⟩
  obtain ⟨more, hmore⟩ : ∃ more, numAt R 5 = more := ⟨_, rfl⟩
  obtain ⟨D, hD⟩ : ∃ D, dirL R = D := ⟨_, rfl⟩
  obtain ⟨n, hn⟩ : ∃ n, dataI k s = n := ⟨_, rfl⟩
  have hnb := dataI_bd k s
  have hkr : k < 256 := by rw [← hk]; exact UInt8.toNat_lt _
  have hD6 : D.length ≤ 6 := by rw [← hD]; unfold dirL dirN; rw [List.length_take]; omega
  have hTB : takeB R = (decide (0 ≤ n) && (headB m n more && ((natI D).all sndB && decide (recL k (fieldsL m s more D) = R)))) := by
    unfold takeB
    rw [hk, hm, hs, hmore, hD, hn, decide_eq_true HR.out, Bool.true_and]
  have hTO : ∀ e w', Kept [] w w' → ((takeB R = false ∧ e = .returned (.tuple #[.agg #[.int .i64 0, .int .i64 0, .int .i64 0, .slice none 0 0, .int .i64 0], .int .i64 0, .int .i64 4])) ∨
      (takeB R = true ∧ e = .returned (.tuple #[.agg #[.int .i64 k, .int .i64 m, .int .i64 s, .slice ao D.length cp, .int .i64 more], .int .i64 (n - D.length), .int .i64 0]) ∧ IntsIs w' ao D.length (natI D) ∧ D.length ≤ cp ∧ w'.ownsRow w.heap.size 3 1 (.slice ao D.length cp) D.length (iv (natI D)))) → TakeOut R w e w' := fun e w' hk' h => by
    refine ⟨hk', ?_⟩
    rw [hk, hm, hs, hmore, hD, hn]
    rcases h with h | h
    · exact .inl h
    · exact .inr ⟨ao, cp, h.1, h.2.1, h.2.2⟩
  rw [hk, hm, hs, hmore, hD, show contI k s = max 0 n by unfold contI; rw [hn], show contB k s = decide (0 ≤ n) by unfold contB; rw [hn]]
  rw [hD] at H4
  rw [hn] at hnb
  have HTB := Lib.hid hTB
  have HTO := Lib.hid hTO
  have x0 : w4.cell? ⟨w.heap.size, 0, none⟩ = some (.int .i64 0) := cell_of_row _ _ 0 _ _ _ (H4.out.2.1.heap (by simp) H3.out.1)
  have x1 : w4.cell? ⟨w.heap.size, 1, none⟩ = some (.int .i64 0) := cell_of_row _ _ 1 _ _ _ (H4.out.2.1.heap (by simp) H3.out.1)
  have x2 : w4.cell? ⟨w.heap.size, 2, none⟩ = some (.int .i64 0) := cell_of_row _ _ 2 _ _ _ (H4.out.2.1.heap (by simp) H3.out.1)
  have x3 : w4.cell? ⟨w.heap.size, 3, none⟩ = some (.slice none 0 0) := cell_of_row _ _ 3 _ _ _ (H4.out.2.1.heap (by simp) H3.out.1)
  have x4 : w4.cell? ⟨w.heap.size, 4, none⟩ = some (.int .i64 0) := cell_of_row _ _ 4 _ _ _ (H4.out.2.1.heap (by simp) H3.out.1)
  have fx : ∀ q, w4.frozen? ⟨w.heap.size, q, none⟩ = false := fun q => frozen_of_row _ _ q _ _ (H4.out.2.1.heap (by simp) H3.out.1)
  clear hk hm hs hmore hD hn hTB hTO
  obtain ⟨cb, hcb⟩ : ∃ cb, decide (0 ≤ n) = cb := ⟨_, rfl⟩
  obtain ⟨cn, hcn⟩ : ∃ cn, max 0 n = cn := ⟨_, rfl⟩
  rw [hcb, hcn]
  rw [hcb] at HTB
  have HCB := Lib.hid hcb
  have HCN := Lib.hid hcn
  clear hcb hcn
  go_wp2_with fail
  generalize hw5 : World.setCell (World.setCell (World.setCell (World.setCell (World.setCell w4 _ _) _ _) _ _) _ _) _ _ = w5
  have H5 : Hid (w5.heap[w.heap.size]? = some (.cells #[.int .i64 k, .int .i64 m, .int .i64 s, .slice ao D.length cp, .int .i64 more] 26) ∧ w5.heap[w.heap.size + 1]? = some (.cells (bvA R) 55) ∧ Kept [] w w5 ∧ IntsIs w5 ao D.length (natI D) ∧ D.length ≤ cp ∧ (∀ b o, ao = some ⟨b, o, none⟩ → b ∉ [w.heap.size]) ∧ w5.ownsRow (w.heap.size + 1) 3 1 (.slice ao D.length cp) D.length (iv (natI D))) := by
    have kp : ∀ (u : World) q v, Kept [w.heap.size] u (u.setCell ⟨w.heap.size, q, none⟩ v) := fun u q v => Kept.setCell _ _ _ _ (by simp)
    have hblk : ∀ b o, ao = some ⟨b, o, none⟩ → b ∉ [w.heap.size] := fun b o hbo => by
      have h1 := H4.out.2.2.2.1 b o hbo
      have h2 := (Array.getElem?_eq_some_iff.1 H3.out.2.1).1
      simp
      omega
    have hkk : Kept [w.heap.size] w4 w5 := by rw [← hw5]; exact ((((kp _ _ _).trans (kp _ _ _)).trans (kp _ _ _)).trans (kp _ _ _)).trans (kp _ _ _)
    refine ⟨?_, hkk.heap (by simp) (H4.out.2.1.heap (by simp) H3.out.2.1), (H3.out.2.2.trans H4.out.2.1).into hkk (by simp), H4.out.1.keptEx hkk hblk, H4.out.2.2.1, hblk, ?_⟩
    · rw [← hw5]
      exact heap_setCell_same _ _ _ _ _ _ (heap_setCell_same _ _ _ _ _ _ (heap_setCell_same _ _ _ _ _ _ (heap_setCell_same _ _ _ _ _ _ (heap_setCell_same _ _ _ _ _ _ (H4.out.2.1.heap (by simp) H3.out.1)))))
    · have h2 := (Array.getElem?_eq_some_iff.1 H3.out.2.1).1
      have how := H4.out.2.2.2.2
      have how2 := owns_kept how hkk (fun q hq => by have := (World.ownsRow.lt how q hq).1; simp; omega)
      obtain ⟨o1, o2 | ⟨g, cap, cur, e1, e2, e3⟩⟩ := how2
      · exact ⟨o1, .inl o2⟩
      · exact ⟨o1, .inr ⟨g, cap, cur, e1, by omega, e3⟩⟩
  clear hw5 x0 x1 x2 x3 x4 fx H4 H3
  clear w3 w4
  have HB5 : Hid (∀ w', Kept [] w5.drew w' → w'.heap[w.heap.size]? = some (.cells #[.int .i64 k, .int .i64 m, .int .i64 s, .slice ao D.length cp, .int .i64 more] 26)) := fun w' hk' => ((Kept.drew [] w5).trans hk').heap (by simp) H5.out.1
  have y0 : ∀ w', Kept [] w5.drew w' → w'.cell? ⟨w.heap.size, 0, none⟩ = some (.int .i64 k) := fun w' hk' => cell_of_row _ _ 0 _ _ _ (HB5.out w' hk')
  have y1 : ∀ w', Kept [] w5.drew w' → w'.cell? ⟨w.heap.size, 1, none⟩ = some (.int .i64 m) := fun w' hk' => cell_of_row _ _ 1 _ _ _ (HB5.out w' hk')
  have y2 : ∀ w', Kept [] w5.drew w' → w'.cell? ⟨w.heap.size, 2, none⟩ = some (.int .i64 s) := fun w' hk' => cell_of_row _ _ 2 _ _ _ (HB5.out w' hk')
  have y3 : ∀ w', Kept [] w5.drew w' → w'.cell? ⟨w.heap.size, 3, none⟩ = some (.slice ao D.length cp) := fun w' hk' => cell_of_row _ _ 3 _ _ _ (HB5.out w' hk')
  have y4 : ∀ w', Kept [] w5.drew w' → w'.cell? ⟨w.heap.size, 4, none⟩ = some (.int .i64 more) := fun w' hk' => cell_of_row _ _ 4 _ _ _ (HB5.out w' hk')
  have KR : Hid (∀ w', Kept [] w5.drew w' → w'.rangeAt (w.heap.size + 1) 0 (bv R)) := fun w' hk' => range_row (((Kept.drew [] w5).trans hk').heap (by simp) H5.out.2.1)
  cases cb
  · -- there is no such node
    refine wp_region_ord [(true, 0), (true, 1), (true, 2), (true, 3), (true, 4), (false, 5), (true, 6), (true, 7), (true, 8), (true, 9), (true, 10), (false, 11), (true, 12), (true, 13), (true, 14), (true, 15), (true, 17), (false, 16), (true, 18), (true, 19)] [] (by kernel_rfl) (fun _ _ d _ _ h => by cases d <;> exact h) (by kernel_rfl) rfl (by kernel_rfl) (by kernel_rfl) ?_
    simp only [named, List.getD_cons_zero, List.getD_cons_succ]
    repeat (first | (apply wpGrow_take; (case hw => rfl); (case hv => intro w' hk; go_simp; with_reducible rfl); simp only [Act.put, List.setIfInBounds_toArray, List.set_cons_zero, List.set_cons_succ]) | (refine wpGrow_pass (by rfl) ?_; simp only [Act.put, List.setIfInBounds_toArray, List.set_cons_zero, List.set_cons_succ]) | (refine wpGrow_skip (by rfl) ?_; simp only [Act.put, List.setIfInBounds_toArray, List.set_cons_zero, List.set_cons_succ]))
    refine wpGrow_nil ?_
    have hku : Kept [] w5 w5 := Kept.refl _ _
    have hbu := hku.heap (by simp) H5.out.1
    have z0 : w5.cell? ⟨w.heap.size, 0, none⟩ = some (.int .i64 k) := cell_of_row _ _ 0 _ _ _ hbu
    have z1 : w5.cell? ⟨w.heap.size, 1, none⟩ = some (.int .i64 m) := cell_of_row _ _ 1 _ _ _ hbu
    have z2 : w5.cell? ⟨w.heap.size, 2, none⟩ = some (.int .i64 s) := cell_of_row _ _ 2 _ _ _ hbu
    have z3 : w5.cell? ⟨w.heap.size, 3, none⟩ = some (.slice ao D.length cp) := cell_of_row _ _ 3 _ _ _ hbu
    have z4 : w5.cell? ⟨w.heap.size, 4, none⟩ = some (.int .i64 more) := cell_of_row _ _ 4 _ _ _ hbu
    have fz : ∀ q, w5.frozen? ⟨w.heap.size, q, none⟩ = false := fun q => frozen_of_row _ _ q _ _ hbu
    have HKU := Lib.hid (H5.out.2.2.1.trans hku)
    clear hku hbu y0 y1 y2 y3 y4
    go_wp2_with fail
    refine bodyPost_ret (v := .tuple #[.agg #[.int .i64 0, .int .i64 0, .int .i64 0, .slice none 0 0, .int .i64 0], .int .i64 0, .int .i64 4]) (by simp [results, Tryd.results6, go_sem, z0, z1, z2, z3, z4]) rfl ?_
    refine HTO.out _ _ ?_ (.inl ⟨by rw [HTB.out]; rfl, rfl⟩)
    have hk := HKU.out
    repeat (first | (with_reducible refine Kept.setNew ?_ _ _ (by simp)) | (with_reducible refine Kept.drewNew ?_))
    with_reducible exact hk
  · have hcn0 : cn = n := by
      have h1 := HCB.out
      have h2 := HCN.out
      simp at h1
      omega
    subst hcn0
    cases hhd : headB m cn more
    · have HHD := Lib.hid hhd
      clear hhd
      refine wp_region_ord [(true, 0), (true, 1), (true, 2), (true, 3), (true, 4), (false, 5), (true, 6), (true, 7), (true, 8), (true, 9), (true, 10), (false, 11), (true, 12), (true, 13), (true, 14), (true, 15), (true, 17), (false, 16), (true, 18), (true, 19)] [] (by kernel_rfl) (fun _ _ d _ _ h => by cases d <;> exact h) (by kernel_rfl) rfl (by kernel_rfl) (by kernel_rfl) ?_
      simp only [named, List.getD_cons_zero, List.getD_cons_succ]
      repeat (first | (apply wpGrow_take; (case hw => rfl); (case hv => intro w' hk; go_simp; with_reducible rfl); simp only [Act.put, List.setIfInBounds_toArray, List.set_cons_zero, List.set_cons_succ]) | (refine wpGrow_pass (by rfl) ?_; simp only [Act.put, List.setIfInBounds_toArray, List.set_cons_zero, List.set_cons_succ]) | (refine wpGrow_skip (by rfl) ?_; simp only [Act.put, List.setIfInBounds_toArray, List.set_cons_zero, List.set_cons_succ]))
      refine wpGrow_force (by rfl) (fun K hK => ?_)
      go_simp
      refine (soundHead_any k m s ao D.length cp more cn _).mono ?_
      rw [HHD.out]
      rintro e w6 ⟨rfl, hk6⟩
      refine hK _ _ hk6 ?_
      clear hK K
      have HK6 := Lib.hid hk6
      have u0 : ∀ w', Kept [] w6 w' → w'.cell? ⟨w.heap.size, 0, none⟩ = some (.int .i64 k) := fun w' hk' => y0 w' (hk6.trans hk')
      have u1 : ∀ w', Kept [] w6 w' → w'.cell? ⟨w.heap.size, 1, none⟩ = some (.int .i64 m) := fun w' hk' => y1 w' (hk6.trans hk')
      have u2 : ∀ w', Kept [] w6 w' → w'.cell? ⟨w.heap.size, 2, none⟩ = some (.int .i64 s) := fun w' hk' => y2 w' (hk6.trans hk')
      have u3 : ∀ w', Kept [] w6 w' → w'.cell? ⟨w.heap.size, 3, none⟩ = some (.slice ao D.length cp) := fun w' hk' => y3 w' (hk6.trans hk')
      have u4 : ∀ w', Kept [] w6 w' → w'.cell? ⟨w.heap.size, 4, none⟩ = some (.int .i64 more) := fun w' hk' => y4 w' (hk6.trans hk')
      clear hk6 y0 y1 y2 y3 y4
      repeat (first | (apply wpGrow_take; (case hw => rfl); (case hv => intro w' hk; go_simp; with_reducible rfl); simp only [Act.put, List.setIfInBounds_toArray, List.set_cons_zero, List.set_cons_succ]) | (refine wpGrow_pass (by rfl) ?_; simp only [Act.put, List.setIfInBounds_toArray, List.set_cons_zero, List.set_cons_succ]) | (refine wpGrow_skip (by rfl) ?_; simp only [Act.put, List.setIfInBounds_toArray, List.set_cons_zero, List.set_cons_succ]))
      refine wpGrow_nil ?_
      have hku : Kept [] w5 w6 := (Kept.drew _ _).trans HK6.out
      have hbu := hku.heap (by simp) H5.out.1
      have z0 : w6.cell? ⟨w.heap.size, 0, none⟩ = some (.int .i64 k) := cell_of_row _ _ 0 _ _ _ hbu
      have z1 : w6.cell? ⟨w.heap.size, 1, none⟩ = some (.int .i64 m) := cell_of_row _ _ 1 _ _ _ hbu
      have z2 : w6.cell? ⟨w.heap.size, 2, none⟩ = some (.int .i64 s) := cell_of_row _ _ 2 _ _ _ hbu
      have z3 : w6.cell? ⟨w.heap.size, 3, none⟩ = some (.slice ao D.length cp) := cell_of_row _ _ 3 _ _ _ hbu
      have z4 : w6.cell? ⟨w.heap.size, 4, none⟩ = some (.int .i64 more) := cell_of_row _ _ 4 _ _ _ hbu
      have fz : ∀ q, w6.frozen? ⟨w.heap.size, q, none⟩ = false := fun q => frozen_of_row _ _ q _ _ hbu
      have HKU := Lib.hid (H5.out.2.2.1.trans hku)
      clear hku hbu u0 u1 u2 u3 u4
      go_wp2_with fail
      refine bodyPost_ret (v := .tuple #[.agg #[.int .i64 0, .int .i64 0, .int .i64 0, .slice none 0 0, .int .i64 0], .int .i64 0, .int .i64 4]) (by simp [results, Tryd.results6, go_sem, z0, z1, z2, z3, z4]) rfl ?_
      refine HTO.out _ _ ?_ (.inl ⟨by rw [HTB.out]; rw [HHD.out]; rfl, rfl⟩)
      have hk := HKU.out
      repeat (first | (with_reducible refine Kept.setNew ?_ _ _ (by simp)) | (with_reducible refine Kept.drewNew ?_))
      with_reducible exact hk
    · have HHD := Lib.hid hhd
      clear hhd
      cases hsn : (natI D).all sndB
      · have HSN := Lib.hid hsn
        clear hsn
        refine wp_region_ord [(true, 0), (true, 1), (true, 2), (true, 3), (true, 4), (false, 5), (true, 6), (true, 7), (true, 8), (true, 9), (true, 10), (false, 11), (true, 12), (true, 13), (true, 14), (true, 15), (true, 17), (false, 16), (true, 18), (true, 19)] [] (by kernel_rfl) (fun _ _ d _ _ h => by cases d <;> exact h) (by kernel_rfl) rfl (by kernel_rfl) (by kernel_rfl) ?_
        simp only [named, List.getD_cons_zero, List.getD_cons_succ]
        repeat (first | (apply wpGrow_take; (case hw => rfl); (case hv => intro w' hk; go_simp; with_reducible rfl); simp only [Act.put, List.setIfInBounds_toArray, List.set_cons_zero, List.set_cons_succ]) | (refine wpGrow_pass (by rfl) ?_; simp only [Act.put, List.setIfInBounds_toArray, List.set_cons_zero, List.set_cons_succ]) | (refine wpGrow_skip (by rfl) ?_; simp only [Act.put, List.setIfInBounds_toArray, List.set_cons_zero, List.set_cons_succ]))
        refine wpGrow_force (by rfl) (fun K hK => ?_)
        go_simp
        refine (soundHead_any k m s ao D.length cp more cn _).mono ?_
        rw [HHD.out]
        rintro e w6 ⟨rfl, hk6⟩
        refine hK _ _ hk6 ?_
        clear hK K
        have HK6 := Lib.hid hk6
        have u0 : ∀ w', Kept [] w6 w' → w'.cell? ⟨w.heap.size, 0, none⟩ = some (.int .i64 k) := fun w' hk' => y0 w' (hk6.trans hk')
        have u1 : ∀ w', Kept [] w6 w' → w'.cell? ⟨w.heap.size, 1, none⟩ = some (.int .i64 m) := fun w' hk' => y1 w' (hk6.trans hk')
        have u2 : ∀ w', Kept [] w6 w' → w'.cell? ⟨w.heap.size, 2, none⟩ = some (.int .i64 s) := fun w' hk' => y2 w' (hk6.trans hk')
        have u3 : ∀ w', Kept [] w6 w' → w'.cell? ⟨w.heap.size, 3, none⟩ = some (.slice ao D.length cp) := fun w' hk' => y3 w' (hk6.trans hk')
        have u4 : ∀ w', Kept [] w6 w' → w'.cell? ⟨w.heap.size, 4, none⟩ = some (.int .i64 more) := fun w' hk' => y4 w' (hk6.trans hk')
        clear hk6 y0 y1 y2 y3 y4
        repeat (first | (apply wpGrow_take; (case hw => rfl); (case hv => intro w' hk; go_simp; with_reducible rfl); simp only [Act.put, List.setIfInBounds_toArray, List.set_cons_zero, List.set_cons_succ]) | (refine wpGrow_pass (by rfl) ?_; simp only [Act.put, List.setIfInBounds_toArray, List.set_cons_zero, List.set_cons_succ]) | (refine wpGrow_skip (by rfl) ?_; simp only [Act.put, List.setIfInBounds_toArray, List.set_cons_zero, List.set_cons_succ]))
        refine wpGrow_force (by rfl) (fun K hK => ?_)
        go_simp
        refine (soundBlocks_any ao D.length cp (natI D) _ (H5.out.2.2.2.1.kept ((Kept.drew [] w5).trans HK6.out))).mono ?_
        rw [HSN.out]
        rintro e w7 ⟨rfl, rfl⟩
        refine hK _ _ (Kept.refl _ _) ?_
        clear hK K
        repeat (first | (apply wpGrow_take; (case hw => rfl); (case hv => intro w' hk; go_simp; with_reducible rfl); simp only [Act.put, List.setIfInBounds_toArray, List.set_cons_zero, List.set_cons_succ]) | (refine wpGrow_pass (by rfl) ?_; simp only [Act.put, List.setIfInBounds_toArray, List.set_cons_zero, List.set_cons_succ]) | (refine wpGrow_skip (by rfl) ?_; simp only [Act.put, List.setIfInBounds_toArray, List.set_cons_zero, List.set_cons_succ]))
        refine wpGrow_nil ?_
        have hku : Kept [] w5 w6 := (Kept.drew _ _).trans HK6.out
        have hbu := hku.heap (by simp) H5.out.1
        have z0 : w6.cell? ⟨w.heap.size, 0, none⟩ = some (.int .i64 k) := cell_of_row _ _ 0 _ _ _ hbu
        have z1 : w6.cell? ⟨w.heap.size, 1, none⟩ = some (.int .i64 m) := cell_of_row _ _ 1 _ _ _ hbu
        have z2 : w6.cell? ⟨w.heap.size, 2, none⟩ = some (.int .i64 s) := cell_of_row _ _ 2 _ _ _ hbu
        have z3 : w6.cell? ⟨w.heap.size, 3, none⟩ = some (.slice ao D.length cp) := cell_of_row _ _ 3 _ _ _ hbu
        have z4 : w6.cell? ⟨w.heap.size, 4, none⟩ = some (.int .i64 more) := cell_of_row _ _ 4 _ _ _ hbu
        have fz : ∀ q, w6.frozen? ⟨w.heap.size, q, none⟩ = false := fun q => frozen_of_row _ _ q _ _ hbu
        have HKU := Lib.hid (H5.out.2.2.1.trans hku)
        clear hku hbu u0 u1 u2 u3 u4
        go_wp2_with fail
        refine bodyPost_ret (v := .tuple #[.agg #[.int .i64 0, .int .i64 0, .int .i64 0, .slice none 0 0, .int .i64 0], .int .i64 0, .int .i64 4]) (by simp [results, Tryd.results6, go_sem, z0, z1, z2, z3, z4]) rfl ?_
        refine HTO.out _ _ ?_ (.inl ⟨by rw [HTB.out]; rw [HHD.out, HSN.out]; rfl, rfl⟩)
        have hk := HKU.out
        repeat (first | (with_reducible refine Kept.setNew ?_ _ _ (by simp)) | (with_reducible refine Kept.drewNew ?_))
        with_reducible exact hk
      · have HSN := Lib.hid hsn
        clear hsn
        refine wp_region_ord [(true, 0), (true, 1), (true, 2), (true, 3), (true, 4), (false, 5), (true, 6), (true, 7), (true, 8), (true, 9), (true, 10), (false, 11), (true, 12), (true, 13), (true, 14), (true, 15), (true, 17), (false, 16), (true, 18), (true, 19)] [] (by kernel_rfl) (fun _ _ d _ _ h => by cases d <;> exact h) (by kernel_rfl) rfl (by kernel_rfl) (by kernel_rfl) ?_
        simp only [named, List.getD_cons_zero, List.getD_cons_succ]
        repeat (first | (apply wpGrow_take; (case hw => rfl); (case hv => intro w' hk; go_simp; with_reducible rfl); simp only [Act.put, List.setIfInBounds_toArray, List.set_cons_zero, List.set_cons_succ]) | (refine wpGrow_pass (by rfl) ?_; simp only [Act.put, List.setIfInBounds_toArray, List.set_cons_zero, List.set_cons_succ]) | (refine wpGrow_skip (by rfl) ?_; simp only [Act.put, List.setIfInBounds_toArray, List.set_cons_zero, List.set_cons_succ]))
        refine wpGrow_force (by rfl) (fun K hK => ?_)
        go_simp
        refine (soundHead_any k m s ao D.length cp more cn _).mono ?_
        rw [HHD.out]
        rintro e w6 ⟨rfl, hk6⟩
        refine hK _ _ hk6 ?_
        clear hK K
        have HK6 := Lib.hid hk6
        have u0 : ∀ w', Kept [] w6 w' → w'.cell? ⟨w.heap.size, 0, none⟩ = some (.int .i64 k) := fun w' hk' => y0 w' (hk6.trans hk')
        have u1 : ∀ w', Kept [] w6 w' → w'.cell? ⟨w.heap.size, 1, none⟩ = some (.int .i64 m) := fun w' hk' => y1 w' (hk6.trans hk')
        have u2 : ∀ w', Kept [] w6 w' → w'.cell? ⟨w.heap.size, 2, none⟩ = some (.int .i64 s) := fun w' hk' => y2 w' (hk6.trans hk')
        have u3 : ∀ w', Kept [] w6 w' → w'.cell? ⟨w.heap.size, 3, none⟩ = some (.slice ao D.length cp) := fun w' hk' => y3 w' (hk6.trans hk')
        have u4 : ∀ w', Kept [] w6 w' → w'.cell? ⟨w.heap.size, 4, none⟩ = some (.int .i64 more) := fun w' hk' => y4 w' (hk6.trans hk')
        clear hk6 y0 y1 y2 y3 y4
        repeat (first | (apply wpGrow_take; (case hw => rfl); (case hv => intro w' hk; go_simp; with_reducible rfl); simp only [Act.put, List.setIfInBounds_toArray, List.set_cons_zero, List.set_cons_succ]) | (refine wpGrow_pass (by rfl) ?_; simp only [Act.put, List.setIfInBounds_toArray, List.set_cons_zero, List.set_cons_succ]) | (refine wpGrow_skip (by rfl) ?_; simp only [Act.put, List.setIfInBounds_toArray, List.set_cons_zero, List.set_cons_succ]))
        refine wpGrow_force (by rfl) (fun K hK => ?_)
        go_simp
        refine (soundBlocks_any ao D.length cp (natI D) _ (H5.out.2.2.2.1.kept ((Kept.drew [] w5).trans HK6.out))).mono ?_
        rw [HSN.out]
        rintro e w7 ⟨rfl, rfl⟩
        refine hK _ _ (Kept.refl _ _) ?_
        clear hK K
        repeat (first | (apply wpGrow_take; (case hw => rfl); (case hv => intro w' hk; go_simp; with_reducible rfl); simp only [Act.put, List.setIfInBounds_toArray, List.set_cons_zero, List.set_cons_succ]) | (refine wpGrow_pass (by rfl) ?_; simp only [Act.put, List.setIfInBounds_toArray, List.set_cons_zero, List.set_cons_succ]) | (refine wpGrow_skip (by rfl) ?_; simp only [Act.put, List.setIfInBounds_toArray, List.set_cons_zero, List.set_cons_succ]))
        refine wpGrow_take (.agg (bvA R)) (by rfl) (fun w' hk' => exec_load_row 55 _ rfl (w.heap.size + 1) 0 rfl R _ (KR.out w' (HK6.out.trans hk')) Tryd.underlying55 rfl hsz) ?_
        simp only [Act.put, List.setIfInBounds_toArray, List.set_cons_zero, List.set_cons_succ]
        refine wpGrow_force (by rfl) (fun K hK => ?_)
        go_simp
        refine (nodeRecord_any k m s more ao D.length cp D _ (H5.out.2.2.2.1.kept ((Kept.drew [] w5).trans HK6.out)) hkr).mono ?_
        rintro e w8 ⟨rfl, hk8⟩
        refine hK _ _ hk8 ?_
        clear hK K
        have HK8 := Lib.hid (((Kept.drew [] w5).trans HK6.out).trans hk8)
        clear hk8 u0 u1 u2 u3 u4
        obtain ⟨qb, hqb⟩ : ∃ qb, decide (recL k (fieldsL m s more D) = R) = qb := ⟨_, rfl⟩
        have HQB := Lib.hid hqb
        have HE : Hid (∀ w', (Op.equalIn 10000 55 (.agg (bvA (recL k (fieldsL m s more D)))) (.agg (bvA R))).run Tryd.prog w' = .ok qb w') := fun w' => by
          rw [equal_bytesN 32 55 Tryd.underlying55 w' _ R (recL_length (fieldsL_length _ _ _ _)) HR.out, hqb]
        clear hqb
        refine wpGrow_take (.bool (!qb)) (by rfl) (fun w' hk' => ?_) ?_
        · have he := HE.out w'
          go_simp
        simp only [Act.put, List.setIfInBounds_toArray, List.set_cons_zero, List.set_cons_succ]
        repeat (first | (apply wpGrow_take; (case hw => rfl); (case hv => intro w' hk; go_simp; with_reducible rfl); simp only [Act.put, List.setIfInBounds_toArray, List.set_cons_zero, List.set_cons_succ]) | (refine wpGrow_pass (by rfl) ?_; simp only [Act.put, List.setIfInBounds_toArray, List.set_cons_zero, List.set_cons_succ]) | (refine wpGrow_skip (by rfl) ?_; simp only [Act.put, List.setIfInBounds_toArray, List.set_cons_zero, List.set_cons_succ]))
        refine wpGrow_nil ?_
        have hku : Kept [] w5 w8 := HK8.out
        have hbu := hku.heap (by simp) H5.out.1
        have z0 : w8.cell? ⟨w.heap.size, 0, none⟩ = some (.int .i64 k) := cell_of_row _ _ 0 _ _ _ hbu
        have z1 : w8.cell? ⟨w.heap.size, 1, none⟩ = some (.int .i64 m) := cell_of_row _ _ 1 _ _ _ hbu
        have z2 : w8.cell? ⟨w.heap.size, 2, none⟩ = some (.int .i64 s) := cell_of_row _ _ 2 _ _ _ hbu
        have z3 : w8.cell? ⟨w.heap.size, 3, none⟩ = some (.slice ao D.length cp) := cell_of_row _ _ 3 _ _ _ hbu
        have z4 : w8.cell? ⟨w.heap.size, 4, none⟩ = some (.int .i64 more) := cell_of_row _ _ 4 _ _ _ hbu
        have fz : ∀ q, w8.frozen? ⟨w.heap.size, q, none⟩ = false := fun q => frozen_of_row _ _ q _ _ hbu
        have HKU := Lib.hid (H5.out.2.2.1.trans hku)
        clear hku hbu
        cases qb
        · go_wp2_with fail
          refine bodyPost_ret (v := .tuple #[.agg #[.int .i64 0, .int .i64 0, .int .i64 0, .slice none 0 0, .int .i64 0], .int .i64 0, .int .i64 4]) (by simp [results, Tryd.results6, go_sem, z0, z1, z2, z3, z4]) rfl ?_
          refine HTO.out _ _ ?_ (.inl ⟨by rw [HTB.out, HHD.out, HSN.out, HQB.out]; rfl, rfl⟩)
          have hk := HKU.out
          repeat (first | (with_reducible refine Kept.setNew ?_ _ _ (by simp)) | (with_reducible refine Kept.drewNew ?_))
          with_reducible exact hk
        · go_wp2_with fail
          refine bodyPost_ret (v := .tuple #[.agg #[.int .i64 k, .int .i64 m, .int .i64 s, .slice ao D.length cp, .int .i64 more], .int .i64 (cn - D.length), .int .i64 0]) (by simp [results, Tryd.results6, go_sem, z0, z1, z2, z3, z4]) rfl ?_
          have hkx := Kept.refl [w.heap.size] w8
          have hkk : Kept [w.heap.size] w8 (((((w8.setCell ⟨w.heap.size, 0, none⟩ (.int .i64 k)).setCell ⟨w.heap.size, 1, none⟩ (.int .i64 m)).setCell ⟨w.heap.size, 2, none⟩ (.int .i64 s)).setCell ⟨w.heap.size, 3, none⟩ (.slice ao D.length cp)).setCell ⟨w.heap.size, 4, none⟩ (.int .i64 more)) :=
            ((((hkx.setIn _ _ (by simp)).setIn _ _ (by simp)).setIn _ _ (by simp)).setIn _ _ (by simp)).setIn _ _ (by simp)
          refine HTO.out _ _ (HKU.out.into hkk (by simp)) (.inr ⟨by rw [HTB.out, HHD.out, HSN.out, HQB.out]; rfl, rfl, (H5.out.2.2.2.1.kept HK8.out).keptEx hkk H5.out.2.2.2.2.2.1, H5.out.2.2.2.2.1, ?_⟩)
          have how := H5.out.2.2.2.2.2.2
          have how2 := owns_kept (owns_kept how HK8.out (by simp)) hkk (fun q hq => by have := (World.ownsRow.lt how q hq).1; simp; omega)
          obtain ⟨o1, o2 | ⟨g, cap, cur, e1, e2, e3⟩⟩ := how2
          · exact ⟨o1, .inl o2⟩
          · exact ⟨o1, .inr ⟨g, cap, cur, e1, by omega, e3⟩⟩

theorem takeNode_no (ao : Option Addr) (len cap : Nat) (R : List UInt8) (w : World) (hR : R.length = len) (h : len ≠ 32) :
    Calls Tryd.prog 6 #[.slice ao len cap] w (TakeOut R w) := by
  have hne : ((len : Int) != 32) = true := by simp; omega
  have HT : Hid (takeB R = false) := by show _ = _; unfold takeB; rw [decide_eq_false (by omega), Bool.false_and]
  go_enter Tryd.func6, Tryd.ntmps6
  go_wp2_with fail
  exact bodyPost_ret (v := .tuple #[nodeV 0 0 0 none 0 0 0, .int .i64 0, .int .i64 4]) (by simp [results, Tryd.results6, go_sem, nodeV]) rfl ⟨Kept.alloc _ _ _, .inl ⟨HT.out, rfl⟩⟩

end Go.Proofs.YtbggmeilkfpbgaaDoor

/-
  Layer 3: the document's TakeNode.
  Conditions: those that each theorem states.
-/
import Derived.Test.YtbggmeilkfpbgaaDoorLRAt
import Derived.Test.YtbggmeilkfpbgaaDoorZReg
import Derived.Test.YtbggmeilkfpbgaaDoorPReg
import Derived.Test.YtbggmeilkfpbgaaDoorLREnt
import Derived.Deep.DeepCutAuto
namespace Go.Proofs.YtbggmeilkfpbgaaDoor
open Go.RowKit Go.Maps

def zeroI : Obj := .cells #[.int .i64 0, .int .i64 0, .int .i64 0, .slice none 0 0, .int .i64 0] 26
/-- The state of the first loop. -/
structure RnSt (w : World) (k m s more : Nat) (v : Value) (D : List Nat) (wr : World) : Prop where
  x0 : wr.heap[w.heap.size]? = some (.cells #[.int .i64 0, .int .i64 0, .int .i64 0, .slice none 0 0, .int .i64 0] 26)
  x1 : wr.heap[w.heap.size + 1]? = some (.cells #[.int .i64 k, .int .i64 m, .int .i64 s, v, .int .i64 more] 26)
  own : wr.ownsRow (w.heap.size + 2) 3 1 v D.length (iv (natI D))
  kept : Kept [] w wr
/-- The state of the second loop. -/
structure RySt (w : World) (Y : Nat) (k m s more : Nat) (ao : Option Addr) (cp : Nat) (D : List Nat) (vy : Value) (L : List Nat) (wr : World) : Prop where
  x0 : wr.heap[w.heap.size]? = some (.cells #[.int .i64 0, .int .i64 0, .int .i64 0, .slice none 0 0, .int .i64 0] 26)
  x1 : wr.heap[w.heap.size + 1]? = some (.cells #[.int .i64 k, .int .i64 m, .int .i64 s, .slice ao D.length cp, .int .i64 more] 26)
  xi : IntsIs wr ao D.length (natI D)
  y : wr.heap[Y]? = some (.cells #[.int .i64 k, .int .i64 m, .int .i64 s, vy, .int .i64 more] 26)
  own : wr.ownsRow (Y + 1) 3 1 vy L.length (iv (natI L))
  ylt : w.heap.size + 2 ≤ Y
  xlt : ∀ b o, ao = some ⟨b, o, none⟩ → b < Y
  x2 : ∀ b o, ao = some ⟨b, o, none⟩ → w.heap.size + 2 ≤ b
  kept : Kept [] w wr
/-- The state within the first statement: the result's block is there, and (n = 2) the node's. -/
structure RaSt (w : World) (n : Nat) (W : World) : Prop where
  x0 : W.heap[w.heap.size]? = some (.cells #[.int .i64 0, .int .i64 0, .int .i64 0, .slice none 0 0, .int .i64 0] 26)
  kept : Kept [] w W
  size : W.heap.size = w.heap.size + n
  x1 : n = 2 → W.heap[w.heap.size + 1]? = some (.cells #[.int .i64 0, .int .i64 0, .int .i64 0, .slice none 0 0, .int .i64 0] 26)
theorem RaSt.draw {w : World} {n : Nat} {W W' : World} (h : RaSt w n W) (hd : Drawn W W') : RaSt w n W' :=
  ⟨hd.kept.heap (by simp) h.x0, h.kept.trans hd.kept, hd.size.trans h.size, fun e => hd.kept.heap (by simp) (h.x1 e)⟩
theorem RaSt.alloc {w : World} {W : World} (h : RaSt w 1 W) : RaSt w 2 (W.alloc (.cells #[.int .i64 0, .int .i64 0, .int .i64 0, .slice none 0 0, .int .i64 0] 26)) :=
  ⟨(Kept.alloc [] _ _).heap (by simp) h.x0, h.kept.trans (Kept.alloc _ _ _), by rw [size_alloc, h.size], fun _ => by rw [← h.size]; exact heap_alloc_last _ _⟩
theorem RaSt.range {w : World} {n : Nat} {W : World} (h : RaSt w n W) {b o : Nat} {L : List UInt8} (hb : b < w.heap.size) (hr : w.rangeAt b o (bv L)) : W.rangeAt b o (bv L) := h.kept.range hb (by simp) hr

/-- Both sides' TakeNode in one form. -/
def TakeNU (R : List UInt8) (w : World) (e : Ending) (w' : World) : Prop :=
  ∃ (k m s more left c : Int) (D : List Nat) (ao : Option Addr) (cap : Nat), e = .returned (.tuple #[.agg #[.int .i64 k, .int .i64 m, .int .i64 s, .slice ao D.length cap, .int .i64 more], .int .i64 left, .int .i64 c]) ∧
    Hid (Kept [] w w' ∧ IntsIs w' ao D.length (natI D) ∧ (k, m, s, more, left, c, D) = if takeB R then ((kindN R : Int), (numAt R 1 : Int), (numAt R 3 : Int), (numAt R 5 : Int), dataI (kindN R) (numAt R 3) - ((dirL R).length : Int), (0 : Int), dirL R) else (0, 0, 0, 0, 0, 4, []))
theorem takeNU_no {R : List UInt8} {w w' : World} (h : takeB R = false) (hk : Kept [] w w') : TakeNU R w (.returned (.tuple #[.agg #[.int .i64 0, .int .i64 0, .int .i64 0, .slice none 0 0, .int .i64 0], .int .i64 0, .int .i64 4])) w' :=
  ⟨0, 0, 0, 0, 0, 4, [], none, 0, rfl, hk, ⟨rfl, by simp, .inl rfl⟩, by rw [h]; rfl⟩

/-- 'append([]int{}, x...)', and whose the new row is. -/
theorem copy_intsO (ao : Option Addr) (len cap : Nat) (l : List Int) (w : World) (hl : IntsIs w ao len l) (hb : len ≤ 100) (hnil : ao = none → cap = 0) :
    ∃ ao' cap' w7, (Builtin.append_ #[24, 24] 24 #[.slice (some ⟨w.heap.size, 0, none⟩) 0 0, .slice ao len cap]).run Tryd.prog (w.alloc (.cells #[] 3)) = .ok (.slice ao' len cap') w7 ∧ w7.ownsRow w.heap.size 3 1 (.slice ao' len cap') len (iv l) ∧ Kept [] w w7 := by
  have how : (w.alloc (.cells #[] 3)).ownsRow w.heap.size 3 1 (.slice (some ⟨w.heap.size, 0, none⟩) 0 0) 0 [] :=
    ⟨by simp, .inr ⟨w.heap.size, 0, #[], rfl, Nat.le_refl _, heap_alloc_last _ _, Nat.le_refl _, by unfold maxLen; omega, rfl, rfl⟩⟩
  have hs0 : w.heap.size ≤ (w.alloc (.cells #[] 3)).heap.size := by rw [size_alloc]; omega
  have hk0 : Kept [] w (w.alloc (.cells #[] 3)) := Kept.alloc _ _ _
  have hll := hl.1
  have go : ∀ ad, (∀ j u, (iv l)[j]? = some u → (w.alloc (.cells #[] 3)).cell? (Addr.add ad j) = some u) → ao = some ad → ∃ ao' cap' w7, (Builtin.append_ #[24, 24] 24 #[.slice (some ⟨w.heap.size, 0, none⟩) 0 0, .slice ao len cap]).run Tryd.prog (w.alloc (.cells #[] 3)) = .ok (.slice ao' len cap') w7 ∧ w7.ownsRow w.heap.size 3 1 (.slice ao' len cap') len (iv l) ∧ Kept [] w w7 := by
    rintro ad hsrc rfl
    obtain ⟨v7, w7, hrun, hown, hk7, _⟩ := own_app elemInt 24 (w.alloc (.cells #[] 3)) w.heap.size _ 0 [] how ad len cap (iv l) (by rw [iv_length]; omega) hsrc (iv_one _) (by unfold maxLen; omega) (by omega) hs0
    rw [Nat.zero_add, List.nil_append] at hown
    obtain ⟨ao', cap', rfl, _⟩ := own_ints hown (by omega)
    exact ⟨ao', cap', w7, hrun, hown, hk0.own how (Nat.le_refl _) hk7⟩
  rcases hl.2.2 with h0 | ⟨b, o, rfl, hbl, hr⟩
  · subst h0
    obtain rfl : l = [] := List.eq_nil_of_length_eq_zero hll
    cases ao with
    | some ad => exact go ad (fun j u hu => by simp [iv] at hu) rfl
    | none =>
      obtain ⟨i, hi, _⟩ := info_parts elemInt.info
      have hrun := run_append_owned_none (P := Tryd.prog) (w := w.alloc (.cells #[] 3)) w.heap.size 24 24 3 i 1 Tryd.underlying24 hi _ 0 [] how
      rw [hnil rfl]
      exact ⟨_, _, _, hrun, how, hk0⟩
  · exact go ⟨b, o, none⟩ (fun j u hu => by rw [Addr.add_mid]; exact hk0.range hbl (by simp) hr j u hu) rfl
theorem RySt.go {w : World} {Y k m s more : Nat} {ao : Option Addr} {cp : Nat} {D : List Nat} {vy : Value} {L : List Nat} {wr w' : World} (h : RySt w Y k m s more ao cp D vy L wr) (hk : Kept [] wr w') : RySt w Y k m s more ao cp D vy L w' :=
  ⟨hk.heap (by simp) h.x0, hk.heap (by simp) h.x1, h.xi.kept hk, hk.heap (by simp) h.y, owns_kept h.own hk (by simp), h.ylt, h.xlt, h.x2, h.kept.trans hk⟩
/-- A further number for y, laid. -/
theorem RySt.next {w : World} {Y k m s more : Nat} {ao : Option Addr} {cp : Nat} {D : List Nat} {vy : Value} {L : List Nat} {wr : World} (h : RySt w Y k m s more ao cp D vy L wr) (hL : L.length ≤ 100) :
    ∃ ao' cap' w7, (Builtin.append_ #[24, 24] 24 #[vy, .slice (some ⟨wr.heap.size, 0, none⟩) 1 1]).run Tryd.prog (wr.alloc (.cells #[.int .i64 1] 3)) = .ok (.slice ao' (L.length + 1) cap') w7 ∧
      w7.heap[Y]? = some (.cells #[.int .i64 k, .int .i64 m, .int .i64 s, vy, .int .i64 more] 26) ∧ RySt w Y k m s more ao cp D (.slice ao' (L.length + 1) cap') (L ++ [1]) (w7.setCell ⟨Y, 3, none⟩ (.slice ao' (L.length + 1) cap')) := by
  have hylt : Y < wr.heap.size := (Array.getElem?_eq_some_iff.1 h.y).1
  obtain ⟨v', w7, hrun, hown, hk7, _⟩ := own_app elemInt 24 (wr.alloc (.cells #[.int .i64 1] 3)) (Y + 1) vy _ _ (World.ownsRow.alloc h.own _) ⟨wr.heap.size, 0, none⟩ 1 1 (iv (natI [1])) rfl
    (fun j u hu => by
      rw [Addr.add_mid, Nat.zero_add, cell_of_row _ _ j _ _ _ (heap_alloc_last wr _)]
      simpa [iv, natI] using hu) (iv_one _) (by unfold maxLen; omega) (by omega) (by rw [size_alloc]; omega)
  have e : iv (natI L) ++ iv (natI [1]) = iv (natI (L ++ [1])) := by simp [iv, natI]
  rw [e] at hown
  obtain ⟨ao', cap', rfl, _⟩ := own_ints hown (by omega)
  have hex : ∀ q ∈ vy.ownBlock.toList, Y + 1 ≤ q := fun q hq => (World.ownsRow.lt h.own q (by simpa using hq)).1
  have hka := Kept.alloc [] wr (.cells #[.int .i64 1] 3)
  have hylt2 := h.ylt
  have hy7 := hk7.heap (b := Y) (fun hq => by have := hex _ hq; omega) (hka.heap (by simp) h.y)
  have hks : Kept [Y] w7 (w7.setCell ⟨Y, 3, none⟩ (.slice ao' (L.length + 1) cap')) := Kept.setCell _ _ _ _ (by simp)
  refine ⟨ao', cap', w7, hrun, hy7, hks.heap (by simp; omega) (hk7.heap (fun hq => by have := hex _ hq; omega) (hka.heap (by simp) h.x0)), hks.heap (by simp; omega) (hk7.heap (fun hq => by have := hex _ hq; omega) (hka.heap (by simp) h.x1)),
    ((h.xi.kept hka).keptEx hk7 (fun b o e hq => by have := hex _ hq; have := h.xlt b o e; omega)).keptEx hks (fun b o e => by have := h.xlt b o e; simp; omega), heap_setCell_same _ _ _ _ _ _ hy7, ?_, h.ylt, h.xlt, h.x2, ?_⟩
  · rw [List.length_append]
    exact owns_kept hown hks (fun q hq => by have := (World.ownsRow.lt hown q hq).1; simp; omega)
  · exact ((h.kept.trans hka).into hk7 (fun q hq => by have := hex q hq; omega)).into hks (by simp; omega)
theorem takeNU_yes {R : List UInt8} {w w' : World} {k m s more nN : Nat} {D : List Nat} {ao : Option Addr} {cap : Nat} (hE : kindN R = k ∧ numAt R 1 = m ∧ numAt R 3 = s ∧ numAt R 5 = more) (hn : dataI k s = nN) (hD : dirL R = D ∧ D.length = min 6 nN) (h : takeB R = true) (hk : Kept [] w w') (hi : IntsIs w' ao D.length (natI D)) {x : Int} (hx : x = ((nN - 6 : Nat) : Int)) :
    TakeNU R w (.returned (.tuple #[.agg #[.int .i64 k, .int .i64 m, .int .i64 s, .slice ao D.length cap, .int .i64 more], .int .i64 x, .int .i64 0])) w' := by
  refine ⟨k, m, s, more, x, 0, D, ao, cap, rfl, hk, hi, ?_⟩
  rw [h, hE.1, hE.2.1, hE.2.2.1, hE.2.2.2, hn, hD.1, hD.2, hx]
  simp only [if_true, Prod.mk.injEq, true_and, and_true]
  omega
/-- What the document's own test comes to. -/
theorem takeB_doc {R : List UInt8} {k m s more nN : Nat} {D : List Nat} (hR : R.length = 32) (hE : kindN R = k ∧ numAt R 1 = m ∧ numAt R 3 = s ∧ numAt R 5 = more) (hn : dataI k s = nN) (hD : dirL R = D ∧ D.length = min 6 nN) :
    takeB R = (validB k m s more (natI (D ++ List.replicate (nN - 6) 1)) && decide (recL k (fieldsL m s more (D ++ List.replicate (nN - 6) 1)) = R)) := by
  have hf : fieldsL m s more (D ++ List.replicate (nN - 6) 1) = fieldsL m s more D := by
    unfold fieldsL
    have e1 : (D ++ List.replicate (nN - 6) 1).take 6 = D.take 6 := by
      rw [List.take_append, List.take_replicate]
      by_cases h6 : 6 ≤ nN
      · rw [show min (6 - D.length) (nN - 6) = 0 by omega]; simp
      · rw [show min (6 - D.length) (nN - 6) = 0 by omega]; simp
    rw [e1, List.length_append, List.length_replicate, show 6 - (D.length + (nN - 6)) = 6 - D.length by omega]
  have ha : (natI (D ++ List.replicate (nN - 6) 1)).all sndB = (natI D).all sndB := by
    rw [show natI (D ++ List.replicate (nN - 6) 1) = natI D ++ natI (List.replicate (nN - 6) 1) by simp [natI], List.all_append]
    have : (natI (List.replicate (nN - 6) 1)).all sndB = true := by
      rw [List.all_eq_true]
      intro x hx
      simp only [natI, List.mem_map, List.mem_replicate] at hx
      obtain ⟨y, ⟨_, rfl⟩, rfl⟩ := hx
      rfl
    rw [this, Bool.and_true]
  have hl : ((natI (D ++ List.replicate (nN - 6) 1)).length : Int) = (nN : Int) := by rw [natI_length, List.length_append, List.length_replicate, hD.2]; omega
  unfold takeB validB
  rw [hE.1, hE.2.1, hE.2.2.1, hE.2.2.2, hn, hD.1, hf, ha, hl, decide_eq_true hR, decide_eq_true (by omega : (0 : Int) ≤ nN), decide_eq_true rfl]
  simp only [Bool.true_and, Bool.and_assoc]

theorem rtakeNode_no (ao : Option Addr) (len cap : Nat) (R : List UInt8) (w : World) (hR : R.length = len) (h : len ≠ 32) :
    Calls Tryd.prog 7 #[.slice ao len cap] w (TakeNU R w) := by
  have hne : ((len : Int) != 32) = true := by simp; omega
  have HT : Hid (takeB R = false) := by show _ = _; unfold takeB; rw [decide_eq_false (by omega), Bool.false_and]
  go_enter Tryd.func7, Tryd.ntmps7
  go_wp2_with fail
  exact bodyPost_ret (v := .tuple #[nodeV 0 0 0 none 0 0 0, .int .i64 0, .int .i64 4]) (by simp [results, Tryd.results7, go_sem, nodeV]) rfl (takeNU_no HT.out (Kept.alloc _ _ _))

set_option maxRecDepth 100000 in
set_option maxHeartbeats 8000000 in
theorem rtakeNode_32 (b o cap : Nat) (R : List UInt8) (w : World) (hR : R.length = 32) (hb : b < w.heap.size) (hr : w.rangeAt b o (bv R)) :
    Calls Tryd.prog 7 #[.slice (some ⟨b, o, none⟩) 32 cap] w (TakeNU R w) := by
  have HR := Lib.hid hR
  have HRG := Lib.hid hr
  obtain ⟨k, hk⟩ : ∃ k, kindN R = k := ⟨_, rfl⟩
  obtain ⟨m, hm⟩ : ∃ m, numAt R 1 = m := ⟨_, rfl⟩
  obtain ⟨s, hs⟩ : ∃ s, numAt R 3 = s := ⟨_, rfl⟩
  obtain ⟨more, hmore⟩ : ∃ more, numAt R 5 = more := ⟨_, rfl⟩
  have hk8 : k < 256 := by rw [← hk]; exact UInt8.toNat_lt _
  have cw : w.cell? ⟨b, o, none⟩ = some (.int .u8 (k : Int)) := by
    have := hr 0 (.int .u8 (k : Int)) (by
      have := byteN_get (R := R) (i := 0) (by omega)
      rw [this, ← hk]
      rfl)
    simpa using this
  have HCW := Lib.hid cw
  have HE := Lib.hid (And.intro hk (And.intro hm (And.intro hs hmore)))
  clear hR hr hk cw hm hs hmore
  go_enter Tryd.func7, Tryd.ntmps7
  go_upto_region 3 with (fail)
  generalize hw1 : World.alloc w _ = w1
  have H1 : Hid (RaSt w 1 w1) := by
    rw [← hw1]
    exact ⟨heap_alloc_last _ _, Kept.alloc _ _ _, size_alloc _ _, fun h => by omega⟩
  clear hw1
  go_cut [5] (fun s5 wx => s5 = .pointer (some ⟨w.heap.size + 1, 0, none⟩) ∧ Hid (RnSt w k m s more (.slice none 0 0) [] wx))
  case first =>
    have hb1 : b < w1.heap.size := by rw [H1.out.size]; omega
    have q0 : ∀ w', Below w1.heap.size w1.drew w' → w'.cell? ⟨b, o, none⟩ = some (.int .u8 (k : Int)) := fun w' h => below_cell h hb1 (below_cell ((H1.out.kept.trans (Kept.drew _ _)).below (Nat.le_refl _) (by simp)) hb HCW.out)
    have wk : IntKind.i64.wrap (k : Int) = k := by rw [IntKind.wrap_i64]; omega
    have HW0 := Lib.hid (H1.out.draw ⟨1, rfl⟩ : RaSt w 1 w1.drew)
    have HSZ := Lib.hid H1.out.size
    clear H1
    refine wp_region_plan (R := (Below w1.heap.size)) (.take 0 (.take 1 (.take 2 (.take 3 (.take 4 (.take 6 (.take 8 (.two 5 (.two 7 (.two 9 (.take 10 (.one 11 (.one 12 .fin))) 11 (.one 9 (.take 10 (.one 12 .fin)))) 11 (.one 7 (.one 9 (.take 10 (.one 12 .fin))))) 11 (.one 5 (.one 7 (.one 9 (.take 10 (.one 12 .fin))))))))))))) (fun _ => Below.refl _ _) (fun _ _ _ h k => h.trans k) (by kernel_rfl) (fun _ _ d _ _ h => by cases d <;> exact h) (by kernel_rfl) rfl (by kernel_rfl) ?_
    repeat (first | (apply wpP_take; (case hw => rfl); (case hv => intro w' hk; simp only [List.getD_cons_zero, List.getD_cons_succ]; go_simp; with_reducible rfl); simp only [List.getD_cons_zero, List.getD_cons_succ, Act.put, List.setIfInBounds_toArray, List.set_cons_zero, List.set_cons_succ]) | (refine wpP_pass (by rfl) ?_; simp only [List.getD_cons_zero, List.getD_cons_succ, Act.put, List.setIfInBounds_toArray, List.set_cons_zero, List.set_cons_succ]))
    clear q0 wk
    refine wpP_two ?_ ?_
    · refine wpP_one (by rfl) (fun K hK => ?_); simp only [List.getD_cons_zero, List.getD_cons_succ]
      go_simp
      refine (rat_any b o 32 cap 1 R _ (HW0.out.range hb HRG.out) HR.out (by omega) (by omega)).mono ?_
      rw [HE.out.2.1]
      rintro e w11 ⟨rfl, hd⟩
      refine hK _ _ (hd.kept.below (by have := HW0.out.size; have := HSZ.out; omega) (by simp)) ?_
      have HW1 := Lib.hid (HW0.out.draw hd)
      clear hK K hd
      refine wpP_two ?_ ?_
      · refine wpP_one (by rfl) (fun K hK => ?_); simp only [List.getD_cons_zero, List.getD_cons_succ]
        go_simp
        refine (rat_any b o 32 cap 3 R _ (HW1.out.range hb HRG.out) HR.out (by omega) (by omega)).mono ?_
        rw [HE.out.2.2.1]
        rintro e w12 ⟨rfl, hd⟩
        refine hK _ _ (hd.kept.below (by have := HW1.out.size; have := HSZ.out; omega) (by simp)) ?_
        have HW2 := Lib.hid (HW1.out.draw hd)
        clear hK K hd
        refine wpP_two ?_ ?_
        · refine wpP_one (by rfl) (fun K hK => ?_); simp only [List.getD_cons_zero, List.getD_cons_succ]
          go_simp
          refine (rat_any b o 32 cap 5 R _ (HW2.out.range hb HRG.out) HR.out (by omega) (by omega)).mono ?_
          rw [HE.out.2.2.2]
          rintro e w13 ⟨rfl, hd⟩
          refine hK _ _ (hd.kept.below (by have := HW2.out.size; have := HSZ.out; omega) (by simp)) ?_
          have HW3 := Lib.hid (HW2.out.draw hd)
          clear hK K hd
          repeat (first | (apply wpP_take; (case hw => rfl); (case hv => intro w' hk; simp only [List.getD_cons_zero, List.getD_cons_succ]; go_simp; with_reducible rfl); simp only [List.getD_cons_zero, List.getD_cons_succ, Act.put, List.setIfInBounds_toArray, List.set_cons_zero, List.set_cons_succ]) | (refine wpP_pass (by rfl) ?_; simp only [List.getD_cons_zero, List.getD_cons_succ, Act.put, List.setIfInBounds_toArray, List.set_cons_zero, List.set_cons_succ]))
          refine wpP_one (by rfl) (fun K hK => ?_); simp only [List.getD_cons_zero, List.getD_cons_succ]
          go_simp
          refine hK _ _ ((Kept.alloc [] w13 _).below (by have := HW3.out.size; have := HSZ.out; omega) (by simp)) ?_
          clear hK K
          rw [show w13.heap.size = w.heap.size + 1 from HW3.out.size]
          have HW4 := Lib.hid HW3.out.alloc
          generalize w13.alloc _ = w14 at HW4 ⊢
          refine wpP_one (by rfl) (fun K hK => ?_); simp only [List.getD_cons_zero, List.getD_cons_succ]
          have y0 : w14.cell? ⟨w.heap.size + 1, 0, none⟩ = some (.int .i64 0) := cell_of_row _ _ 0 _ _ _ (HW4.out.x1 rfl)
          have y1 : w14.cell? ⟨w.heap.size + 1, 1, none⟩ = some (.int .i64 0) := cell_of_row _ _ 1 _ _ _ (HW4.out.x1 rfl)
          have y2 : w14.cell? ⟨w.heap.size + 1, 2, none⟩ = some (.int .i64 0) := cell_of_row _ _ 2 _ _ _ (HW4.out.x1 rfl)
          have y3 : w14.cell? ⟨w.heap.size + 1, 3, none⟩ = some (.slice none 0 0) := cell_of_row _ _ 3 _ _ _ (HW4.out.x1 rfl)
          have y4 : w14.cell? ⟨w.heap.size + 1, 4, none⟩ = some (.int .i64 0) := cell_of_row _ _ 4 _ _ _ (HW4.out.x1 rfl)
          have fy : ∀ q, w14.frozen? ⟨w.heap.size + 1, q, none⟩ = false := fun q => frozen_of_row _ _ q _ _ (HW4.out.x1 rfl)
          go_simp
          have hkx := Kept.refl [w.heap.size + 1] w14
          have hkk : Kept [w.heap.size + 1] w14 (((((w14.setCell ⟨w.heap.size + 1, 0, none⟩ (.int .i64 k)).setCell ⟨w.heap.size + 1, 1, none⟩ (.int .i64 m)).setCell ⟨w.heap.size + 1, 2, none⟩ (.int .i64 s)).setCell ⟨w.heap.size + 1, 3, none⟩ (.slice none 0 0)).setCell ⟨w.heap.size + 1, 4, none⟩ (.int .i64 more)) :=
            ((((hkx.setIn _ _ (by simp)).setIn _ _ (by simp)).setIn _ _ (by simp)).setIn _ _ (by simp)).setIn _ _ (by simp)
          have hx : (((((w14.setCell ⟨w.heap.size + 1, 0, none⟩ (.int .i64 k)).setCell ⟨w.heap.size + 1, 1, none⟩ (.int .i64 m)).setCell ⟨w.heap.size + 1, 2, none⟩ (.int .i64 s)).setCell ⟨w.heap.size + 1, 3, none⟩ (.slice none 0 0)).setCell ⟨w.heap.size + 1, 4, none⟩ (.int .i64 more)).heap[w.heap.size + 1]? = some (.cells #[.int .i64 k, .int .i64 m, .int .i64 s, .slice none 0 0, .int .i64 more] 26) :=
            heap_setCell_same _ _ _ _ _ _ (heap_setCell_same _ _ _ _ _ _ (heap_setCell_same _ _ _ _ _ _ (heap_setCell_same _ _ _ _ _ _ (heap_setCell_same _ _ _ _ _ _ (HW4.out.x1 rfl)))))
          refine hK _ _ (hkk.below (by have := HW4.out.size; have := HSZ.out; omega) (by have := HSZ.out; simp <;> omega)) ?_
          clear hK K y0 y1 y2 y3 y4 fy hkx
          have HF : Hid (RnSt w k m s more (.slice none 0 0) [] (((((w14.setCell ⟨w.heap.size + 1, 0, none⟩ (.int .i64 k)).setCell ⟨w.heap.size + 1, 1, none⟩ (.int .i64 m)).setCell ⟨w.heap.size + 1, 2, none⟩ (.int .i64 s)).setCell ⟨w.heap.size + 1, 3, none⟩ (.slice none 0 0)).setCell ⟨w.heap.size + 1, 4, none⟩ (.int .i64 more))) :=
            ⟨hkk.heap (by simp) HW4.out.x0, hx, World.ownsRow_nil _ _ _ _, HW4.out.kept.into hkk (by simp)⟩
          clear hkk hx
          refine wpP_fin ?_
          go_wp2_with fail
          go_meet
          exact ⟨rfl, HF⟩
        · refine wpP_one (by rfl) (fun K hK => ?_); simp only [List.getD_cons_zero, List.getD_cons_succ]
          go_simp
          refine hK _ _ ((Kept.alloc [] w12 _).below (by have := HW2.out.size; have := HSZ.out; omega) (by simp)) ?_
          clear hK K
          rw [show w12.heap.size = w.heap.size + 1 from HW2.out.size]
          have HW5 := Lib.hid HW2.out.alloc
          generalize w12.alloc _ = w15 at HW5 ⊢
          refine wpP_one (by rfl) (fun K hK => ?_); simp only [List.getD_cons_zero, List.getD_cons_succ]
          go_simp
          refine (rat_any b o 32 cap 5 R _ (HW5.out.range hb HRG.out) HR.out (by omega) (by omega)).mono ?_
          rw [HE.out.2.2.2]
          rintro e w16 ⟨rfl, hd⟩
          refine hK _ _ (hd.kept.below (by have := HW5.out.size; have := HSZ.out; omega) (by simp)) ?_
          have HW6 := Lib.hid (HW5.out.draw hd)
          clear hK K hd
          repeat (first | (apply wpP_take; (case hw => rfl); (case hv => intro w' hk; simp only [List.getD_cons_zero, List.getD_cons_succ]; go_simp; with_reducible rfl); simp only [List.getD_cons_zero, List.getD_cons_succ, Act.put, List.setIfInBounds_toArray, List.set_cons_zero, List.set_cons_succ]) | (refine wpP_pass (by rfl) ?_; simp only [List.getD_cons_zero, List.getD_cons_succ, Act.put, List.setIfInBounds_toArray, List.set_cons_zero, List.set_cons_succ]))
          refine wpP_one (by rfl) (fun K hK => ?_); simp only [List.getD_cons_zero, List.getD_cons_succ]
          have y0 : w16.cell? ⟨w.heap.size + 1, 0, none⟩ = some (.int .i64 0) := cell_of_row _ _ 0 _ _ _ (HW6.out.x1 rfl)
          have y1 : w16.cell? ⟨w.heap.size + 1, 1, none⟩ = some (.int .i64 0) := cell_of_row _ _ 1 _ _ _ (HW6.out.x1 rfl)
          have y2 : w16.cell? ⟨w.heap.size + 1, 2, none⟩ = some (.int .i64 0) := cell_of_row _ _ 2 _ _ _ (HW6.out.x1 rfl)
          have y3 : w16.cell? ⟨w.heap.size + 1, 3, none⟩ = some (.slice none 0 0) := cell_of_row _ _ 3 _ _ _ (HW6.out.x1 rfl)
          have y4 : w16.cell? ⟨w.heap.size + 1, 4, none⟩ = some (.int .i64 0) := cell_of_row _ _ 4 _ _ _ (HW6.out.x1 rfl)
          have fy : ∀ q, w16.frozen? ⟨w.heap.size + 1, q, none⟩ = false := fun q => frozen_of_row _ _ q _ _ (HW6.out.x1 rfl)
          go_simp
          have hkx := Kept.refl [w.heap.size + 1] w16
          have hkk : Kept [w.heap.size + 1] w16 (((((w16.setCell ⟨w.heap.size + 1, 0, none⟩ (.int .i64 k)).setCell ⟨w.heap.size + 1, 1, none⟩ (.int .i64 m)).setCell ⟨w.heap.size + 1, 2, none⟩ (.int .i64 s)).setCell ⟨w.heap.size + 1, 3, none⟩ (.slice none 0 0)).setCell ⟨w.heap.size + 1, 4, none⟩ (.int .i64 more)) :=
            ((((hkx.setIn _ _ (by simp)).setIn _ _ (by simp)).setIn _ _ (by simp)).setIn _ _ (by simp)).setIn _ _ (by simp)
          have hx : (((((w16.setCell ⟨w.heap.size + 1, 0, none⟩ (.int .i64 k)).setCell ⟨w.heap.size + 1, 1, none⟩ (.int .i64 m)).setCell ⟨w.heap.size + 1, 2, none⟩ (.int .i64 s)).setCell ⟨w.heap.size + 1, 3, none⟩ (.slice none 0 0)).setCell ⟨w.heap.size + 1, 4, none⟩ (.int .i64 more)).heap[w.heap.size + 1]? = some (.cells #[.int .i64 k, .int .i64 m, .int .i64 s, .slice none 0 0, .int .i64 more] 26) :=
            heap_setCell_same _ _ _ _ _ _ (heap_setCell_same _ _ _ _ _ _ (heap_setCell_same _ _ _ _ _ _ (heap_setCell_same _ _ _ _ _ _ (heap_setCell_same _ _ _ _ _ _ (HW6.out.x1 rfl)))))
          refine hK _ _ (hkk.below (by have := HW6.out.size; have := HSZ.out; omega) (by have := HSZ.out; simp <;> omega)) ?_
          clear hK K y0 y1 y2 y3 y4 fy hkx
          have HF : Hid (RnSt w k m s more (.slice none 0 0) [] (((((w16.setCell ⟨w.heap.size + 1, 0, none⟩ (.int .i64 k)).setCell ⟨w.heap.size + 1, 1, none⟩ (.int .i64 m)).setCell ⟨w.heap.size + 1, 2, none⟩ (.int .i64 s)).setCell ⟨w.heap.size + 1, 3, none⟩ (.slice none 0 0)).setCell ⟨w.heap.size + 1, 4, none⟩ (.int .i64 more))) :=
            ⟨hkk.heap (by simp) HW6.out.x0, hx, World.ownsRow_nil _ _ _ _, HW6.out.kept.into hkk (by simp)⟩
          clear hkk hx
          refine wpP_fin ?_
          go_wp2_with fail
          go_meet
          exact ⟨rfl, HF⟩
      · refine wpP_one (by rfl) (fun K hK => ?_); simp only [List.getD_cons_zero, List.getD_cons_succ]
        go_simp
        refine hK _ _ ((Kept.alloc [] w11 _).below (by have := HW1.out.size; have := HSZ.out; omega) (by simp)) ?_
        clear hK K
        rw [show w11.heap.size = w.heap.size + 1 from HW1.out.size]
        have HW7 := Lib.hid HW1.out.alloc
        generalize w11.alloc _ = w17 at HW7 ⊢
        refine wpP_one (by rfl) (fun K hK => ?_); simp only [List.getD_cons_zero, List.getD_cons_succ]
        go_simp
        refine (rat_any b o 32 cap 3 R _ (HW7.out.range hb HRG.out) HR.out (by omega) (by omega)).mono ?_
        rw [HE.out.2.2.1]
        rintro e w18 ⟨rfl, hd⟩
        refine hK _ _ (hd.kept.below (by have := HW7.out.size; have := HSZ.out; omega) (by simp)) ?_
        have HW8 := Lib.hid (HW7.out.draw hd)
        clear hK K hd
        refine wpP_one (by rfl) (fun K hK => ?_); simp only [List.getD_cons_zero, List.getD_cons_succ]
        go_simp
        refine (rat_any b o 32 cap 5 R _ (HW8.out.range hb HRG.out) HR.out (by omega) (by omega)).mono ?_
        rw [HE.out.2.2.2]
        rintro e w19 ⟨rfl, hd⟩
        refine hK _ _ (hd.kept.below (by have := HW8.out.size; have := HSZ.out; omega) (by simp)) ?_
        have HW9 := Lib.hid (HW8.out.draw hd)
        clear hK K hd
        repeat (first | (apply wpP_take; (case hw => rfl); (case hv => intro w' hk; simp only [List.getD_cons_zero, List.getD_cons_succ]; go_simp; with_reducible rfl); simp only [List.getD_cons_zero, List.getD_cons_succ, Act.put, List.setIfInBounds_toArray, List.set_cons_zero, List.set_cons_succ]) | (refine wpP_pass (by rfl) ?_; simp only [List.getD_cons_zero, List.getD_cons_succ, Act.put, List.setIfInBounds_toArray, List.set_cons_zero, List.set_cons_succ]))
        refine wpP_one (by rfl) (fun K hK => ?_); simp only [List.getD_cons_zero, List.getD_cons_succ]
        have y0 : w19.cell? ⟨w.heap.size + 1, 0, none⟩ = some (.int .i64 0) := cell_of_row _ _ 0 _ _ _ (HW9.out.x1 rfl)
        have y1 : w19.cell? ⟨w.heap.size + 1, 1, none⟩ = some (.int .i64 0) := cell_of_row _ _ 1 _ _ _ (HW9.out.x1 rfl)
        have y2 : w19.cell? ⟨w.heap.size + 1, 2, none⟩ = some (.int .i64 0) := cell_of_row _ _ 2 _ _ _ (HW9.out.x1 rfl)
        have y3 : w19.cell? ⟨w.heap.size + 1, 3, none⟩ = some (.slice none 0 0) := cell_of_row _ _ 3 _ _ _ (HW9.out.x1 rfl)
        have y4 : w19.cell? ⟨w.heap.size + 1, 4, none⟩ = some (.int .i64 0) := cell_of_row _ _ 4 _ _ _ (HW9.out.x1 rfl)
        have fy : ∀ q, w19.frozen? ⟨w.heap.size + 1, q, none⟩ = false := fun q => frozen_of_row _ _ q _ _ (HW9.out.x1 rfl)
        go_simp
        have hkx := Kept.refl [w.heap.size + 1] w19
        have hkk : Kept [w.heap.size + 1] w19 (((((w19.setCell ⟨w.heap.size + 1, 0, none⟩ (.int .i64 k)).setCell ⟨w.heap.size + 1, 1, none⟩ (.int .i64 m)).setCell ⟨w.heap.size + 1, 2, none⟩ (.int .i64 s)).setCell ⟨w.heap.size + 1, 3, none⟩ (.slice none 0 0)).setCell ⟨w.heap.size + 1, 4, none⟩ (.int .i64 more)) :=
          ((((hkx.setIn _ _ (by simp)).setIn _ _ (by simp)).setIn _ _ (by simp)).setIn _ _ (by simp)).setIn _ _ (by simp)
        have hx : (((((w19.setCell ⟨w.heap.size + 1, 0, none⟩ (.int .i64 k)).setCell ⟨w.heap.size + 1, 1, none⟩ (.int .i64 m)).setCell ⟨w.heap.size + 1, 2, none⟩ (.int .i64 s)).setCell ⟨w.heap.size + 1, 3, none⟩ (.slice none 0 0)).setCell ⟨w.heap.size + 1, 4, none⟩ (.int .i64 more)).heap[w.heap.size + 1]? = some (.cells #[.int .i64 k, .int .i64 m, .int .i64 s, .slice none 0 0, .int .i64 more] 26) :=
          heap_setCell_same _ _ _ _ _ _ (heap_setCell_same _ _ _ _ _ _ (heap_setCell_same _ _ _ _ _ _ (heap_setCell_same _ _ _ _ _ _ (heap_setCell_same _ _ _ _ _ _ (HW9.out.x1 rfl)))))
        refine hK _ _ (hkk.below (by have := HW9.out.size; have := HSZ.out; omega) (by have := HSZ.out; simp <;> omega)) ?_
        clear hK K y0 y1 y2 y3 y4 fy hkx
        have HF : Hid (RnSt w k m s more (.slice none 0 0) [] (((((w19.setCell ⟨w.heap.size + 1, 0, none⟩ (.int .i64 k)).setCell ⟨w.heap.size + 1, 1, none⟩ (.int .i64 m)).setCell ⟨w.heap.size + 1, 2, none⟩ (.int .i64 s)).setCell ⟨w.heap.size + 1, 3, none⟩ (.slice none 0 0)).setCell ⟨w.heap.size + 1, 4, none⟩ (.int .i64 more))) :=
          ⟨hkk.heap (by simp) HW9.out.x0, hx, World.ownsRow_nil _ _ _ _, HW9.out.kept.into hkk (by simp)⟩
        clear hkk hx
        refine wpP_fin ?_
        go_wp2_with fail
        go_meet
        exact ⟨rfl, HF⟩
    · refine wpP_one (by rfl) (fun K hK => ?_); simp only [List.getD_cons_zero, List.getD_cons_succ]
      go_simp
      refine hK _ _ ((Kept.alloc [] w1.drew _).below (by have := HW0.out.size; have := HSZ.out; omega) (by simp)) ?_
      clear hK K
      rw [show w1.heap.size = w.heap.size + 1 from HSZ.out]
      have HW10 : Hid (RaSt w 2 (w1.alloc (.cells #[.int .i64 0, .int .i64 0, .int .i64 0, .slice none 0 0, .int .i64 0] 26)).drew) := HW0.out.alloc
      generalize (World.alloc w1 _).drew = w20 at HW10 ⊢
      refine wpP_one (by rfl) (fun K hK => ?_); simp only [List.getD_cons_zero, List.getD_cons_succ]
      go_simp
      refine (rat_any b o 32 cap 1 R _ (HW10.out.range hb HRG.out) HR.out (by omega) (by omega)).mono ?_
      rw [HE.out.2.1]
      rintro e w21 ⟨rfl, hd⟩
      refine hK _ _ (hd.kept.below (by have := HW10.out.size; have := HSZ.out; omega) (by simp)) ?_
      have HW11 := Lib.hid (HW10.out.draw hd)
      clear hK K hd
      refine wpP_one (by rfl) (fun K hK => ?_); simp only [List.getD_cons_zero, List.getD_cons_succ]
      go_simp
      refine (rat_any b o 32 cap 3 R _ (HW11.out.range hb HRG.out) HR.out (by omega) (by omega)).mono ?_
      rw [HE.out.2.2.1]
      rintro e w22 ⟨rfl, hd⟩
      refine hK _ _ (hd.kept.below (by have := HW11.out.size; have := HSZ.out; omega) (by simp)) ?_
      have HW12 := Lib.hid (HW11.out.draw hd)
      clear hK K hd
      refine wpP_one (by rfl) (fun K hK => ?_); simp only [List.getD_cons_zero, List.getD_cons_succ]
      go_simp
      refine (rat_any b o 32 cap 5 R _ (HW12.out.range hb HRG.out) HR.out (by omega) (by omega)).mono ?_
      rw [HE.out.2.2.2]
      rintro e w23 ⟨rfl, hd⟩
      refine hK _ _ (hd.kept.below (by have := HW12.out.size; have := HSZ.out; omega) (by simp)) ?_
      have HW13 := Lib.hid (HW12.out.draw hd)
      clear hK K hd
      repeat (first | (apply wpP_take; (case hw => rfl); (case hv => intro w' hk; simp only [List.getD_cons_zero, List.getD_cons_succ]; go_simp; with_reducible rfl); simp only [List.getD_cons_zero, List.getD_cons_succ, Act.put, List.setIfInBounds_toArray, List.set_cons_zero, List.set_cons_succ]) | (refine wpP_pass (by rfl) ?_; simp only [List.getD_cons_zero, List.getD_cons_succ, Act.put, List.setIfInBounds_toArray, List.set_cons_zero, List.set_cons_succ]))
      refine wpP_one (by rfl) (fun K hK => ?_); simp only [List.getD_cons_zero, List.getD_cons_succ]
      have y0 : w23.cell? ⟨w.heap.size + 1, 0, none⟩ = some (.int .i64 0) := cell_of_row _ _ 0 _ _ _ (HW13.out.x1 rfl)
      have y1 : w23.cell? ⟨w.heap.size + 1, 1, none⟩ = some (.int .i64 0) := cell_of_row _ _ 1 _ _ _ (HW13.out.x1 rfl)
      have y2 : w23.cell? ⟨w.heap.size + 1, 2, none⟩ = some (.int .i64 0) := cell_of_row _ _ 2 _ _ _ (HW13.out.x1 rfl)
      have y3 : w23.cell? ⟨w.heap.size + 1, 3, none⟩ = some (.slice none 0 0) := cell_of_row _ _ 3 _ _ _ (HW13.out.x1 rfl)
      have y4 : w23.cell? ⟨w.heap.size + 1, 4, none⟩ = some (.int .i64 0) := cell_of_row _ _ 4 _ _ _ (HW13.out.x1 rfl)
      have fy : ∀ q, w23.frozen? ⟨w.heap.size + 1, q, none⟩ = false := fun q => frozen_of_row _ _ q _ _ (HW13.out.x1 rfl)
      go_simp
      have hkx := Kept.refl [w.heap.size + 1] w23
      have hkk : Kept [w.heap.size + 1] w23 (((((w23.setCell ⟨w.heap.size + 1, 0, none⟩ (.int .i64 k)).setCell ⟨w.heap.size + 1, 1, none⟩ (.int .i64 m)).setCell ⟨w.heap.size + 1, 2, none⟩ (.int .i64 s)).setCell ⟨w.heap.size + 1, 3, none⟩ (.slice none 0 0)).setCell ⟨w.heap.size + 1, 4, none⟩ (.int .i64 more)) :=
        ((((hkx.setIn _ _ (by simp)).setIn _ _ (by simp)).setIn _ _ (by simp)).setIn _ _ (by simp)).setIn _ _ (by simp)
      have hx : (((((w23.setCell ⟨w.heap.size + 1, 0, none⟩ (.int .i64 k)).setCell ⟨w.heap.size + 1, 1, none⟩ (.int .i64 m)).setCell ⟨w.heap.size + 1, 2, none⟩ (.int .i64 s)).setCell ⟨w.heap.size + 1, 3, none⟩ (.slice none 0 0)).setCell ⟨w.heap.size + 1, 4, none⟩ (.int .i64 more)).heap[w.heap.size + 1]? = some (.cells #[.int .i64 k, .int .i64 m, .int .i64 s, .slice none 0 0, .int .i64 more] 26) :=
        heap_setCell_same _ _ _ _ _ _ (heap_setCell_same _ _ _ _ _ _ (heap_setCell_same _ _ _ _ _ _ (heap_setCell_same _ _ _ _ _ _ (heap_setCell_same _ _ _ _ _ _ (HW13.out.x1 rfl)))))
      refine hK _ _ (hkk.below (by have := HW13.out.size; have := HSZ.out; omega) (by have := HSZ.out; simp <;> omega)) ?_
      clear hK K y0 y1 y2 y3 y4 fy hkx
      have HF : Hid (RnSt w k m s more (.slice none 0 0) [] (((((w23.setCell ⟨w.heap.size + 1, 0, none⟩ (.int .i64 k)).setCell ⟨w.heap.size + 1, 1, none⟩ (.int .i64 m)).setCell ⟨w.heap.size + 1, 2, none⟩ (.int .i64 s)).setCell ⟨w.heap.size + 1, 3, none⟩ (.slice none 0 0)).setCell ⟨w.heap.size + 1, 4, none⟩ (.int .i64 more))) :=
        ⟨hkk.heap (by simp) HW13.out.x0, hx, World.ownsRow_nil _ _ _ _, HW13.out.kept.into hkk (by simp)⟩
      clear hkk hx
      refine wpP_fin ?_
      go_wp2_with fail
      go_meet
      exact ⟨rfl, HF⟩
  case rest =>
    obtain ⟨rfl, H2⟩ := hcut
    clear H1 HCW
    have c0 : wc.cell? ⟨w.heap.size + 1, 0, none⟩ = some (.int .i64 k) := cell_of_row _ _ 0 _ _ _ H2.out.x1
    have c2 : wc.cell? ⟨w.heap.size + 1, 2, none⟩ = some (.int .i64 s) := cell_of_row _ _ 2 _ _ _ H2.out.x1
    obtain ⟨n, hn⟩ : ∃ n, dataI k s = n := ⟨_, rfl⟩
    have hnb := dataI_bd k s
    rw [hn] at hnb
    go_wp2_with fail
    refine (rdata_any k s _).mono ?_
    rw [hn]
    rintro e w2 ⟨rfl, rfl⟩
    have HN := Lib.hid hn
    clear c0 c2 hn
    by_cases hn0 : n < 0
    · have HT : Hid (takeB R = false) := by
        show _ = _
        unfold takeB
        rw [HE.out.1, HE.out.2.2.1, HN.out, decide_eq_false (by omega : ¬ 0 ≤ n), Bool.false_and, Bool.and_false]
      have z0 : wc.cell? ⟨w.heap.size, 0, none⟩ = some (.int .i64 0) := cell_of_row _ _ 0 _ _ _ H2.out.x0
      have z1 : wc.cell? ⟨w.heap.size, 1, none⟩ = some (.int .i64 0) := cell_of_row _ _ 1 _ _ _ H2.out.x0
      have z2 : wc.cell? ⟨w.heap.size, 2, none⟩ = some (.int .i64 0) := cell_of_row _ _ 2 _ _ _ H2.out.x0
      have z3 : wc.cell? ⟨w.heap.size, 3, none⟩ = some (.slice none 0 0) := cell_of_row _ _ 3 _ _ _ H2.out.x0
      have z4 : wc.cell? ⟨w.heap.size, 4, none⟩ = some (.int .i64 0) := cell_of_row _ _ 4 _ _ _ H2.out.x0
      have fz : ∀ q, wc.frozen? ⟨w.heap.size, q, none⟩ = false := fun q => frozen_of_row _ _ q _ _ H2.out.x0
      go_wp2_with fail
      refine bodyPost_ret (v := .tuple #[.agg #[.int .i64 0, .int .i64 0, .int .i64 0, .slice none 0 0, .int .i64 0], .int .i64 0, .int .i64 4]) (by simp [results, Tryd.results7, go_sem, z0, z1, z2, z3, z4]) rfl ?_
      refine takeNU_no HT.out ?_
      have hk := H2.out.kept
      repeat (first | (with_reducible refine Kept.setNew ?_ _ _ (by simp)) | (with_reducible refine Kept.drewNew ?_))
      with_reducible exact hk
    · obtain ⟨nN, hnN⟩ : ∃ nN : Nat, n = nN := ⟨n.toNat, by omega⟩
      subst hnN
      have hn38 : nN ≤ 38 := by omega
      obtain ⟨D, hD⟩ : ∃ D, dirL R = D := ⟨_, rfl⟩
      have hDl : D.length = min 6 nN := by
        rw [← hD]
        unfold dirL dirN
        rw [HE.out.1, HE.out.2.2.1, HN.out, List.length_take, List.length_drop, numsL_length]
        omega
      have hDi : ∀ i (hi : i < D.length), D[i] = numAt R (7 + 2 * i) := fun i hi => by
        have e : D[i]? = some (numAt R (7 + 2 * i)) := by
          rw [← hD]
          unfold dirL
          rw [List.getElem?_take_of_lt (by unfold dirN; rw [HE.out.1, HE.out.2.2.1, HN.out]; omega), List.getElem?_drop, List.getElem?_eq_getElem (by rw [numsL_length]; omega), numsL_get]
          congr 2
          omega
        rw [List.getElem?_eq_getElem hi] at e
        exact Option.some.inj e
      have HD := Lib.hid (And.intro hD (And.intro hDl hDi))
      clear hD hDl hDi hn0 hnb
      go_wp2_with fail
      go_loopw [7] (fun i wr => ∃ j : Nat, j ≤ min 6 nN ∧ i = .int .i64 j ∧ Hid (∃ v, RnSt w k m s more v (D.take j) wr)) (fun i _ => 6 - (intOf i).toNat)
      case atStart => exact ⟨0, by omega, rfl, _, H2.out⟩
      case round =>
        clear H2
        obtain ⟨j, hj, rfl, HS0⟩ := hrel
        obtain ⟨v, hS⟩ := HS0.out
        have HS := Lib.hid hS
        clear HS0 hS
        by_cases hlt : j < min 6 nN
        · have h6 : j < 6 := by omega
          have hjn : j < nN := by omega
          have hjnI : (j : Int) < (nN : Int) := by omega
          have q3 : ∀ w', Below (w.heap.size + 2) wr.drew w' → w'.cell? ⟨w.heap.size + 1, 3, none⟩ = some v := fun w' h => below_cell h (by omega) (cell_of_row _ _ 3 _ _ _ (show wr.drew.heap[w.heap.size + 1]? = _ from HS.out.x1))
          have hsz2 : w.heap.size + 2 ≤ wr.heap.size := by have := (Array.getElem?_eq_some_iff.1 HS.out.x1).1; omega
          have w1' : IntKind.i64.wrap (2 * (j : Int)) = 2 * (j : Int) := by rw [IntKind.wrap_i64]; omega
          have w2' : IntKind.i64.wrap (7 + 2 * (j : Int)) = ((7 + 2 * j : Nat) : Int) := by rw [IntKind.wrap_i64]; omega
          go_wp2_with fail
          refine wp_region_ordZ (R := (Below (w.heap.size + 2))) 10 [(true, 0), (true, 1), (true, 2), (true, 3), (true, 4), (true, 5), (false, 6), (false, 7), (false, 8), (true, 9)] (fun _ => Below.refl _ _) (fun _ _ _ h k => h.trans k) (by kernel_rfl) (fun _ _ d _ _ h => by cases d <;> exact h) (by kernel_rfl) rfl (by decide) (by kernel_rfl) (by kernel_rfl) ?_
          simp only [named, List.getD_cons_zero, List.getD_cons_succ]
          repeat (first | (apply wpR_take; (case hw => rfl); (case hv => intro w' hk; go_simp; with_reducible rfl); simp only [Act.put, List.setIfInBounds_toArray, List.set_cons_zero, List.set_cons_succ]) | (refine wpR_pass (by rfl) ?_; simp only [Act.put, List.setIfInBounds_toArray, List.set_cons_zero, List.set_cons_succ]))
          clear q3 w1' w2'
          refine wpR_force (by rfl) (fun K hK => ?_)
          go_simp
          refine (rat_any b o 32 cap (7 + 2 * j) R _ ((HS.out.kept.trans (Kept.drew _ _)).range hb (by simp) HRG.out) HR.out (by omega) (by omega)).mono ?_
          obtain ⟨x, hx⟩ : ∃ x, numAt R (7 + 2 * j) = x := ⟨_, rfl⟩
          rw [hx]
          rintro e w3 ⟨rfl, hd⟩
          refine hK _ _ (hd.kept.below hsz2 (by simp)) ?_
          have HS3 : Hid (RnSt w k m s more v (D.take j) w3) := by
            have hk3 := (Kept.drew [] wr).trans hd.kept
            exact ⟨hk3.heap (by simp) HS.out.x0, hk3.heap (by simp) HS.out.x1, owns_kept HS.out.own hk3 (by simp), HS.out.kept.trans hk3⟩
          clear hK K hd
          obtain ⟨v', w7, hrun, hown, hk7, _⟩ := own_app elemInt 24 (w3.alloc (.cells #[.int .i64 (x : Int)] 3)) (w.heap.size + 2) v _ _ (World.ownsRow.alloc HS3.out.own _) ⟨w3.heap.size, 0, none⟩ 1 1 (iv (natI [x])) rfl
            (fun j u hu => by
              rw [Addr.add_mid, Nat.zero_add, cell_of_row _ _ j _ _ _ (heap_alloc_last w3 _)]
              simpa [iv, natI] using hu) (iv_one _) (by unfold maxLen; rw [List.length_take]; omega) (by rw [List.length_take]; omega) (by have := (Array.getElem?_eq_some_iff.1 HS3.out.x1).1; rw [size_alloc]; omega)
          have hjD : j < D.length := by rw [HD.out.2.1]; exact hlt
          have eD : D.take (j + 1) = D.take j ++ [x] := by rw [List.take_succ_eq_append_getElem hjD, HD.out.2.2 j hjD, hx]
          have hown' : w7.ownsRow (w.heap.size + 2) 3 1 v' (D.take (j + 1)).length (iv (natI (D.take (j + 1)))) := by
            rw [eD, List.length_append, show iv (natI (D.take j ++ [x])) = iv (natI (D.take j)) ++ iv (natI [x]) by simp [iv, natI]]
            exact hown
          obtain ⟨ao7, cp7, rfl, _⟩ := own_ints hown' (by rw [List.length_take]; omega)
          have HO7 := Lib.hid hown'
          clear hown'
          have hex : ∀ q ∈ v.ownBlock.toList, w.heap.size + 2 ≤ q := fun q hq => (World.ownsRow.lt HS3.out.own q (by simpa using hq)).1
          have hs3 : w.heap.size + 2 ≤ w3.heap.size := by have := (Array.getElem?_eq_some_iff.1 HS3.out.x1).1; omega
          have HX7 : Hid (w7.heap[w.heap.size]? = some (.cells #[.int .i64 0, .int .i64 0, .int .i64 0, .slice none 0 0, .int .i64 0] 26) ∧ w7.heap[w.heap.size + 1]? = some (.cells #[.int .i64 k, .int .i64 m, .int .i64 s, v, .int .i64 more] 26) ∧ Kept [] w w7) :=
            ⟨hk7.heap (fun hq => by have := hex _ hq; omega) ((Kept.alloc [] _ _).heap (by simp) HS3.out.x0), hk7.heap (fun hq => by have := hex _ hq; omega) ((Kept.alloc [] _ _).heap (by simp) HS3.out.x1), (HS3.out.kept.trans (Kept.alloc _ _ _)).into hk7 (fun q hq => by have := hex q hq; omega)⟩
          have HB7 : Hid (Below (w.heap.size + 2) (w3.alloc (.cells #[.int .i64 (x : Int)] 3)) w7) := hk7.below (by rw [size_alloc]; omega) hex
          have HRUN := Lib.hid hrun
          clear hrun hown hk7 hex hx eD
          obtain ⟨n7, hn7⟩ : ∃ n7, (D.take (j + 1)).length = n7 := ⟨_, rfl⟩
          rw [hn7] at HO7 HRUN
          have HN7 := Lib.hid hn7
          clear hn7
          refine wpR_force (by rfl) (fun K hK => ?_)
          go_simp
          refine hK _ _ ((Kept.alloc [] w3 _).below hs3 (by simp)) ?_
          clear hK K
          refine wpR_force (by rfl) (fun K hK => ?_)
          refine wp_append_run _ _ _ rfl _ _ _ rfl rfl HRUN.out ?_
          refine hK _ _ HB7.out ?_
          clear hK K
          repeat (first | (apply wpR_take; (case hw => rfl); (case hv => intro w' hk; go_simp; with_reducible rfl); simp only [Act.put, List.setIfInBounds_toArray, List.set_cons_zero, List.set_cons_succ]) | (refine wpR_pass (by rfl) ?_; simp only [Act.put, List.setIfInBounds_toArray, List.set_cons_zero, List.set_cons_succ]))
          refine wpR_nil ?_; refine lastQ_go rfl ?_
          have y3 : w7.cell? ⟨w.heap.size + 1, 3, none⟩ = some v := cell_of_row _ _ 3 _ _ _ HX7.out.2.1
          have fy : ∀ q, w7.frozen? ⟨w.heap.size + 1, q, none⟩ = false := fun q => frozen_of_row _ _ q _ _ HX7.out.2.1
          go_simp
          clear y3 fy
          generalize hw8 : w7.setCell _ _ = w8
          have H8 : Hid (∃ v, RnSt w k m s more v (D.take (j + 1)) w8) := by
            have hk8 : Kept [w.heap.size + 1] w7 w8 := by rw [← hw8]; exact Kept.setCell _ _ _ _ (by simp)
            refine ⟨.slice ao7 n7 cp7, hk8.heap (by simp) HX7.out.1, ?_, by rw [HN7.out]; exact owns_kept HO7.out hk8 (fun q hq => by have := (World.ownsRow.lt HO7.out q hq).1; simp; omega), HX7.out.2.2.into hk8 (by simp)⟩
            rw [← hw8]
            exact heap_setCell_same _ _ _ _ _ _ HX7.out.2.1
          clear hw8
          go_wp2_with fail
          go_roundw
          case rel => exact ⟨j + 1, by omega, by go_num, H8⟩
          case measure => simp [intOf]; omega
        · obtain ⟨ao, cp, rfl, hcp, _, hi⟩ := own_ints HS.out.own (by rw [List.length_take]; omega)
          have hDj : D.take j = D := List.take_of_length_le (by rw [HD.out.2.1]; omega)
          rw [hDj] at hi
          have hSD := HS.out
          rw [hDj] at hSD
          have HSD := Lib.hid hSD
          have HI := Lib.hid hi
          clear HS hi hSD hDj
          have hnil : ao = none → cp = 0 := by
            intro hz
            subst hz
            rcases HSD.out.own.2 with ⟨e, _⟩ | ⟨g, cap', cur, e, _⟩
            · injection e
            · injection e with e1; cases e1
          have hDl6 : D.length ≤ 6 := by rw [HD.out.2.1]; omega
          have hlt3 : ∀ b o, ao = some ⟨b, o, none⟩ → b < wr.heap.size := fun b' o' e => (World.ownsRow.lt HSD.out.own b' (by rw [e]; rfl)).2
          have hlt4 : ∀ b o, ao = some ⟨b, o, none⟩ → w.heap.size + 2 ≤ b := fun b' o' e => (World.ownsRow.lt HSD.out.own b' (by rw [e]; rfl)).1
          have c0 : wr.cell? ⟨w.heap.size + 1, 0, none⟩ = some (.int .i64 k) := cell_of_row _ _ 0 _ _ _ HSD.out.x1
          have c1 : wr.cell? ⟨w.heap.size + 1, 1, none⟩ = some (.int .i64 m) := cell_of_row _ _ 1 _ _ _ HSD.out.x1
          have c2 : wr.cell? ⟨w.heap.size + 1, 2, none⟩ = some (.int .i64 s) := cell_of_row _ _ 2 _ _ _ HSD.out.x1
          have c3 : wr.cell? ⟨w.heap.size + 1, 3, none⟩ = some (.slice ao D.length cp) := cell_of_row _ _ 3 _ _ _ HSD.out.x1
          have c4 : wr.cell? ⟨w.heap.size + 1, 4, none⟩ = some (.int .i64 more) := cell_of_row _ _ 4 _ _ _ HSD.out.x1
          obtain ⟨w9, hw9⟩ : ∃ w9, wr.alloc (.cells #[.int .i64 k, .int .i64 m, .int .i64 s, .slice ao D.length cp, .int .i64 more] 26) = w9 := ⟨_, rfl⟩
          have hk9 : Kept [] wr w9 := by rw [← hw9]; exact Kept.alloc _ _ _
          have hy9 : w9.heap[wr.heap.size]? = some (.cells #[.int .i64 k, .int .i64 m, .int .i64 s, .slice ao D.length cp, .int .i64 more] 26) := by rw [← hw9]; exact heap_alloc_last _ _
          have hs9 : w9.heap.size = wr.heap.size + 1 := by rw [← hw9, size_alloc]
          obtain ⟨ao10, cp10, w10, hrun, hown10, hk10⟩ := copy_intsO ao D.length cp (natI D) w9 (HI.out.kept hk9) (by omega) hnil
          have hy10 := hk10.heap (by simp) hy9
          have d3 : w10.cell? ⟨wr.heap.size, 3, none⟩ = some (.slice ao D.length cp) := cell_of_row _ _ 3 _ _ _ hy10
          have fd : ∀ q, w10.frozen? ⟨wr.heap.size, q, none⟩ = false := fun q => frozen_of_row _ _ q _ _ hy10
          have e3 : (w9.alloc (.cells #[] 3)).cell? ⟨w.heap.size + 1, 3, none⟩ = some (.slice ao D.length cp) := cell_of_row _ _ 3 _ _ _ ((Kept.alloc [] _ _).heap (by simp) (hk9.heap (by simp) HSD.out.x1))
          have HRUN := Lib.hid hrun
          have HRS : Hid (RySt w wr.heap.size k m s more ao cp D (.slice ao10 D.length cp10) D (w10.setCell ⟨wr.heap.size, 3, none⟩ (.slice ao10 D.length cp10))) := by
            have hxl := (Array.getElem?_eq_some_iff.1 HSD.out.x1).1
            have hks : Kept [wr.heap.size] w10 (w10.setCell ⟨wr.heap.size, 3, none⟩ (.slice ao10 D.length cp10)) := Kept.setCell _ _ _ _ (by simp)
            have hk := hk9.trans hk10
            refine ⟨hks.heap (by simp; omega) (hk.heap (by simp) HSD.out.x0), hks.heap (by simp; omega) (hk.heap (by simp) HSD.out.x1), (HI.out.kept hk).keptEx hks (fun b o e => by have := hlt3 b o e; simp; omega), heap_setCell_same _ _ _ _ _ _ hy10, ?_, by omega, hlt3, hlt4, (HSD.out.kept.trans hk).into hks (by simp; omega)⟩
            rw [← hs9]
            exact owns_kept hown10 hks (fun q hq => by have := (World.ownsRow.lt hown10 q hq).1; simp; omega)
          clear hrun hown10 hk10 hy10 hk9 hy9 hs9 hnil hlt3 hlt4
          by_cases hjn : ¬ j < nN
          · have hjnI : ¬ (j : Int) < (nN : Int) := by omega
            go_wp2_with (at_builtin; refine wpList_append_run rfl _ _ 24 rfl _ _ _ rfl rfl HRUN.out ?_)
            generalize hw11 : World.setCell w10 _ _ = w11
            have H11 : Hid (RySt w wr.heap.size k m s more ao cp D (.slice ao10 D.length cp10) D w11) := by rw [← hw11]; exact HRS.out
            clear hw11 hw9 c0 c1 c2 c3 c4 e3 d3 fd HRUN HRS
            obtain ⟨Y, hY⟩ : ∃ Y, wr.heap.size = Y := ⟨_, rfl⟩
            rw [hY] at H11 ⊢
            clear hY HSD HI
            go_loopw [9] (fun i wz => ∃ t : Nat, t ≤ nN - 6 ∧ i = .int .i64 ((6 + t : Nat) : Int) ∧ Hid (∃ vy, RySt w Y k m s more ao cp D vy (D ++ List.replicate t 1) wz)) (fun i _ => 50 - (intOf i).toNat)
            case atStart => exact ⟨0, by omega, rfl, _, by have := H11.out; simpa using this⟩
            case round =>
              clear H11
              obtain ⟨t, ht, rfl, HT0⟩ := hrel
              obtain ⟨vy, hR⟩ := HT0.out
              by_cases hlt2 : 6 + t < nN
              · exact absurd hlt2 (by omega)
              · have htn : t = nN - 6 := by omega
                have hltI : ¬ ((6 + t : Nat) : Int) < (nN : Int) := by omega
                have hltN : ¬ 6 + t < nN := hlt2
                rw [htn] at hR
                obtain ⟨L, hL⟩ : ∃ L, D ++ List.replicate (nN - 6) 1 = L := ⟨_, rfl⟩
                rw [hL] at hR
                obtain ⟨ao2, cp2, rfl, _, _, hi2⟩ := own_ints hR.own (by rw [← hL]; simp; omega)
                have HTB : Hid (takeB R = (validB k m s more (natI L) && decide (recL k (fieldsL m s more L) = R))) := by
                  show _ = _
                  rw [← hL]
                  exact takeB_doc HR.out HE.out HN.out ⟨HD.out.1, HD.out.2.1⟩
                have HRY := Lib.hid hR
                have HI2 := Lib.hid hi2
                have y0 : wr.cell? ⟨Y, 0, none⟩ = some (.int .i64 k) := cell_of_row _ _ 0 _ _ _ hR.y
                have y1 : wr.cell? ⟨Y, 1, none⟩ = some (.int .i64 m) := cell_of_row _ _ 1 _ _ _ hR.y
                have y2 : wr.cell? ⟨Y, 2, none⟩ = some (.int .i64 s) := cell_of_row _ _ 2 _ _ _ hR.y
                have y3 : wr.cell? ⟨Y, 3, none⟩ = some (.slice ao2 L.length cp2) := cell_of_row _ _ 3 _ _ _ hR.y
                have y4 : wr.cell? ⟨Y, 4, none⟩ = some (.int .i64 more) := cell_of_row _ _ 4 _ _ _ hR.y
                obtain ⟨it, hit⟩ : ∃ it : Nat, it = 6 + t := ⟨_, rfl⟩
                rw [← hit] at hltI hltN ⊢
                clear hR hi2 hL htn HT0 hit hlt2
                have cells : ∀ w', Kept [] wr w' → (w'.heap[w.heap.size]? = some (.cells #[.int .i64 0, .int .i64 0, .int .i64 0, .slice none 0 0, .int .i64 0] 26) ∧ w'.heap[w.heap.size + 1]? = some (.cells #[.int .i64 k, .int .i64 m, .int .i64 s, .slice ao D.length cp, .int .i64 more] 26)) := fun w' h => ⟨h.heap (by simp) HRY.out.x0, h.heap (by simp) HRY.out.x1⟩
                have HCE := Lib.hid cells
                clear cells
                cases hv : validB k m s more (natI L)
                · have HV := Lib.hid hv
                  have HT : Hid (takeB R = false) := by show _ = _; rw [HTB.out, hv, Bool.false_and]
                  clear hv
                  go_wp2_with fail
                  refine (rputNode_no k m s more ao2 L.length cp2 (natI L) _ HI2.out HV.out).mono ?_
                  rintro e w12 ⟨rfl, hk12⟩
                  obtain ⟨hx0, _⟩ := HCE.out w12 hk12
                  have HK := Lib.hid (HRY.out.kept.trans hk12)
                  have z0 : w12.cell? ⟨w.heap.size, 0, none⟩ = some (.int .i64 0) := cell_of_row _ _ 0 _ _ _ hx0
                  have z1 : w12.cell? ⟨w.heap.size, 1, none⟩ = some (.int .i64 0) := cell_of_row _ _ 1 _ _ _ hx0
                  have z2 : w12.cell? ⟨w.heap.size, 2, none⟩ = some (.int .i64 0) := cell_of_row _ _ 2 _ _ _ hx0
                  have z3 : w12.cell? ⟨w.heap.size, 3, none⟩ = some (.slice none 0 0) := cell_of_row _ _ 3 _ _ _ hx0
                  have z4 : w12.cell? ⟨w.heap.size, 4, none⟩ = some (.int .i64 0) := cell_of_row _ _ 4 _ _ _ hx0
                  have fz : ∀ q, w12.frozen? ⟨w.heap.size, q, none⟩ = false := fun q => frozen_of_row _ _ q _ _ hx0
                  clear hx0 y0 y1 y2 y3 y4 hk12
                  go_wp2_with fail
                  refine bodyPost_ret (v := .tuple #[.agg #[.int .i64 0, .int .i64 0, .int .i64 0, .slice none 0 0, .int .i64 0], .int .i64 0, .int .i64 4]) (by simp [results, Tryd.results7, go_sem, z0, z1, z2, z3, z4]) rfl ?_
                  refine takeNU_no HT.out ?_
                  have hk := HK.out
                  repeat (first | (with_reducible refine Kept.setNew ?_ _ _ (by simp)) | (with_reducible refine Kept.drewNew ?_))
                  with_reducible exact hk
                · have HV := Lib.hid hv
                  have HT : Hid (takeB R = decide (recL k (fieldsL m s more L) = R)) := by show _ = _; rw [HTB.out, hv, Bool.true_and]
                  clear hv
                  go_wp2_with fail
                  refine (rputNode_yes k m s more ao2 L.length cp2 L _ HI2.out HV.out).mono ?_
                  rintro e w12 ⟨va, vm, rfl, hva, _, hk12⟩
                  obtain ⟨hx0, hx1⟩ := HCE.out w12 hk12
                  have HK := Lib.hid (HRY.out.kept.trans hk12)
                  have hcv1 : (convert 22 9 va).run Tryd.prog w12 = .ok (.string (strL (recL k (fieldsL m s more L)))) w12 := convL hva
                  have hcv2 : (convert 22 9 (.slice (some ⟨b, o, none⟩) 32 cap)).run Tryd.prog w12 = .ok (.string (strL R)) w12 := conv_of_range _ _ _ _ Tryd.underlying22 Tryd.underlying5 Tryd.underlying9 b o cap R 32 HR.out (HK.out.range hb (by simp) HRG.out)
                  have hq : ((strL (recL k (fieldsL m s more L))).toList == (strL R).toList) = decide (recL k (fieldsL m s more L) = R) := by rw [strL_bytes, strL_bytes, Bool.eq_iff_iff]; simp
                  generalize recL k (fieldsL m s more L) = Q at hcv1 hq HT
                  clear hva
                  cases hqb : decide (Q = R)
                  · have HT2 : Hid (takeB R = false) := by show _ = _; rw [HT.out, hqb]
                    rw [hqb] at hq
                    clear HT hqb
                    have HT := HT2
                    have z0 : w12.cell? ⟨w.heap.size, 0, none⟩ = some (.int .i64 0) := cell_of_row _ _ 0 _ _ _ hx0
                    have z1 : w12.cell? ⟨w.heap.size, 1, none⟩ = some (.int .i64 0) := cell_of_row _ _ 1 _ _ _ hx0
                    have z2 : w12.cell? ⟨w.heap.size, 2, none⟩ = some (.int .i64 0) := cell_of_row _ _ 2 _ _ _ hx0
                    have z3 : w12.cell? ⟨w.heap.size, 3, none⟩ = some (.slice none 0 0) := cell_of_row _ _ 3 _ _ _ hx0
                    have z4 : w12.cell? ⟨w.heap.size, 4, none⟩ = some (.int .i64 0) := cell_of_row _ _ 4 _ _ _ hx0
                    have fz : ∀ q, w12.frozen? ⟨w.heap.size, q, none⟩ = false := fun q => frozen_of_row _ _ q _ _ hx0
                    clear hx0 y0 y1 y2 y3 y4 hk12
                    go_wp2_with fail
                    refine bodyPost_ret (v := .tuple #[.agg #[.int .i64 0, .int .i64 0, .int .i64 0, .slice none 0 0, .int .i64 0], .int .i64 0, .int .i64 4]) (by simp [results, Tryd.results7, go_sem, z0, z1, z2, z3, z4]) rfl ?_
                    refine takeNU_no HT.out ?_
                    have hk := HK.out
                    repeat (first | (with_reducible refine Kept.setNew ?_ _ _ (by simp)) | (with_reducible refine Kept.drewNew ?_))
                    with_reducible exact hk
                  · have HT2 : Hid (takeB R = true) := by show _ = _; rw [HT.out, hqb]
                    have HXI := Lib.hid (HRY.out.xi.kept hk12)
                    rw [hqb] at hq
                    clear HT hqb
                    have z0 : w12.cell? ⟨w.heap.size, 0, none⟩ = some (.int .i64 0) := cell_of_row _ _ 0 _ _ _ hx0
                    have z1 : w12.cell? ⟨w.heap.size, 1, none⟩ = some (.int .i64 0) := cell_of_row _ _ 1 _ _ _ hx0
                    have z2 : w12.cell? ⟨w.heap.size, 2, none⟩ = some (.int .i64 0) := cell_of_row _ _ 2 _ _ _ hx0
                    have z3 : w12.cell? ⟨w.heap.size, 3, none⟩ = some (.slice none 0 0) := cell_of_row _ _ 3 _ _ _ hx0
                    have z4 : w12.cell? ⟨w.heap.size, 4, none⟩ = some (.int .i64 0) := cell_of_row _ _ 4 _ _ _ hx0
                    have fz : ∀ q, w12.frozen? ⟨w.heap.size, q, none⟩ = false := fun q => frozen_of_row _ _ q _ _ hx0
                    have c0 : w12.cell? ⟨w.heap.size + 1, 0, none⟩ = some (.int .i64 k) := cell_of_row _ _ 0 _ _ _ hx1
                    have c1 : w12.cell? ⟨w.heap.size + 1, 1, none⟩ = some (.int .i64 m) := cell_of_row _ _ 1 _ _ _ hx1
                    have c2 : w12.cell? ⟨w.heap.size + 1, 2, none⟩ = some (.int .i64 s) := cell_of_row _ _ 2 _ _ _ hx1
                    have c3 : w12.cell? ⟨w.heap.size + 1, 3, none⟩ = some (.slice ao D.length cp) := cell_of_row _ _ 3 _ _ _ hx1
                    have c4 : w12.cell? ⟨w.heap.size + 1, 4, none⟩ = some (.int .i64 more) := cell_of_row _ _ 4 _ _ _ hx1
                    have hmx : max (0 : Int) ((nN : Int) - 6) = ((nN - 6 : Nat) : Int) := by omega
                    obtain ⟨ln, hln⟩ : ∃ ln : Int, ((nN - 6 : Nat) : Int) = ln := ⟨_, rfl⟩
                    rw [hln] at hmx
                    have HLN := Lib.hid hln
                    have hlx : ∀ b o, ao = some ⟨b, o, none⟩ → b ≠ w.heap.size := fun b' o' e h => absurd h (by have := HRY.out.x2 b' o' e; omega)
                    have HLX := Lib.hid hlx
                    clear hln hx0 hx1 y0 y1 y2 y3 y4 hk12 hlx
                    go_wp2_with fail
                    refine bodyPost_ret (v := .tuple #[.agg #[.int .i64 k, .int .i64 m, .int .i64 s, .slice ao D.length cp, .int .i64 more], .int .i64 ln, .int .i64 0]) (by simp [results, Tryd.results7, go_sem, z0, z1, z2, z3, z4]) rfl ?_
                    have hkx := Kept.refl [w.heap.size] w12
                    have hkk : Kept [w.heap.size] w12 (((((w12.setCell ⟨w.heap.size, 0, none⟩ (.int .i64 k)).setCell ⟨w.heap.size, 1, none⟩ (.int .i64 m)).setCell ⟨w.heap.size, 2, none⟩ (.int .i64 s)).setCell ⟨w.heap.size, 3, none⟩ (.slice ao D.length cp)).setCell ⟨w.heap.size, 4, none⟩ (.int .i64 more)) :=
                      ((((hkx.setIn _ _ (by simp)).setIn _ _ (by simp)).setIn _ _ (by simp)).setIn _ _ (by simp)).setIn _ _ (by simp)
                    exact takeNU_yes HE.out HN.out ⟨HD.out.1, HD.out.2.1⟩ HT2.out (HK.out.into hkk (by simp)) (HXI.out.keptEx hkk (fun b o e => by have := HLX.out b o e; simpa using this)) HLN.out.symm
          · have hjn2 : j < nN := by omega
            have hjnI : (j : Int) < (nN : Int) := by omega
            have h6I : ¬ (j : Int) < 6 := by omega
            clear hjn
            go_wp2_with (at_builtin; refine wpList_append_run rfl _ _ 24 rfl _ _ _ rfl rfl HRUN.out ?_)
            generalize hw11 : World.setCell w10 _ _ = w11
            have H11 : Hid (RySt w wr.heap.size k m s more ao cp D (.slice ao10 D.length cp10) D w11) := by rw [← hw11]; exact HRS.out
            clear hw11 hw9 c0 c1 c2 c3 c4 e3 d3 fd HRUN HRS
            obtain ⟨Y, hY⟩ : ∃ Y, wr.heap.size = Y := ⟨_, rfl⟩
            rw [hY] at H11 ⊢
            clear hY HSD HI
            go_loopw [9] (fun i wz => ∃ t : Nat, t ≤ nN - 6 ∧ i = .int .i64 ((6 + t : Nat) : Int) ∧ Hid (∃ vy, RySt w Y k m s more ao cp D vy (D ++ List.replicate t 1) wz)) (fun i _ => 50 - (intOf i).toNat)
            case atStart => exact ⟨0, by omega, rfl, _, by have := H11.out; simpa using this⟩
            case round =>
              clear H11
              obtain ⟨t, ht, rfl, HT0⟩ := hrel
              obtain ⟨vy, hR⟩ := HT0.out
              by_cases hlt2 : 6 + t < nN
              · have hltI : ((6 + t : Nat) : Int) < (nN : Int) := by omega
                obtain ⟨ao', cap', w7, hrun, hy7, hst⟩ := hR.next (by simp; omega)
                have y3 : wr.cell? ⟨Y, 3, none⟩ = some vy := cell_of_row _ _ 3 _ _ _ hR.y
                have d3 : w7.cell? ⟨Y, 3, none⟩ = some vy := cell_of_row _ _ 3 _ _ _ hy7
                have fd : ∀ q, w7.frozen? ⟨Y, q, none⟩ = false := fun q => frozen_of_row _ _ q _ _ hy7
                have HRUN := Lib.hid hrun
                have HST : Hid (∃ vy, RySt w Y k m s more ao cp D vy (D ++ List.replicate (t + 1) 1) (w7.setCell ⟨Y, 3, none⟩ (.slice ao' ((D ++ List.replicate t 1).length + 1) cap'))) := by
                  refine ⟨.slice ao' ((D ++ List.replicate t 1).length + 1) cap', ?_⟩
                  rw [List.replicate_succ', ← List.append_assoc]
                  exact hst
                have w6 : IntKind.i64.wrap (((6 + t : Nat) : Int) + 1) = ((6 + (t + 1) : Nat) : Int) := by rw [IntKind.wrap_i64]; omega
                obtain ⟨it, hit⟩ : ∃ it : Nat, it = 6 + t := ⟨_, rfl⟩
                obtain ⟨n9, hn9⟩ : ∃ n9, (D ++ List.replicate t 1).length + 1 = n9 := ⟨_, rfl⟩
                rw [hn9] at HRUN HST
                rw [← hit] at hltI w6 ⊢
                have HIT := Lib.hid hit
                clear hrun hst hy7 hR HT0 hn9 hit
                have hl9 : it < nN := by have := HIT.out; omega
                go_wp2_with (at_builtin; refine wpList_append_run rfl _ _ 24 rfl _ _ _ rfl rfl HRUN.out ?_)
                go_roundw
                case rel => exact ⟨t + 1, by omega, by have := HIT.out; simp only [Value.int.injEq, true_and]; omega, HST⟩
                case measure => have := HIT.out; simp [intOf]; omega
              · have htn : t = nN - 6 := by omega
                have hltI : ¬ ((6 + t : Nat) : Int) < (nN : Int) := by omega
                have hltN : ¬ 6 + t < nN := hlt2
                rw [htn] at hR
                obtain ⟨L, hL⟩ : ∃ L, D ++ List.replicate (nN - 6) 1 = L := ⟨_, rfl⟩
                rw [hL] at hR
                obtain ⟨ao2, cp2, rfl, _, _, hi2⟩ := own_ints hR.own (by rw [← hL]; simp; omega)
                have HTB : Hid (takeB R = (validB k m s more (natI L) && decide (recL k (fieldsL m s more L) = R))) := by
                  show _ = _
                  rw [← hL]
                  exact takeB_doc HR.out HE.out HN.out ⟨HD.out.1, HD.out.2.1⟩
                have HRY := Lib.hid hR
                have HI2 := Lib.hid hi2
                have y0 : wr.cell? ⟨Y, 0, none⟩ = some (.int .i64 k) := cell_of_row _ _ 0 _ _ _ hR.y
                have y1 : wr.cell? ⟨Y, 1, none⟩ = some (.int .i64 m) := cell_of_row _ _ 1 _ _ _ hR.y
                have y2 : wr.cell? ⟨Y, 2, none⟩ = some (.int .i64 s) := cell_of_row _ _ 2 _ _ _ hR.y
                have y3 : wr.cell? ⟨Y, 3, none⟩ = some (.slice ao2 L.length cp2) := cell_of_row _ _ 3 _ _ _ hR.y
                have y4 : wr.cell? ⟨Y, 4, none⟩ = some (.int .i64 more) := cell_of_row _ _ 4 _ _ _ hR.y
                obtain ⟨it, hit⟩ : ∃ it : Nat, it = 6 + t := ⟨_, rfl⟩
                rw [← hit] at hltI hltN ⊢
                clear hR hi2 hL htn HT0 hit hlt2
                have cells : ∀ w', Kept [] wr w' → (w'.heap[w.heap.size]? = some (.cells #[.int .i64 0, .int .i64 0, .int .i64 0, .slice none 0 0, .int .i64 0] 26) ∧ w'.heap[w.heap.size + 1]? = some (.cells #[.int .i64 k, .int .i64 m, .int .i64 s, .slice ao D.length cp, .int .i64 more] 26)) := fun w' h => ⟨h.heap (by simp) HRY.out.x0, h.heap (by simp) HRY.out.x1⟩
                have HCE := Lib.hid cells
                clear cells
                cases hv : validB k m s more (natI L)
                · have HV := Lib.hid hv
                  have HT : Hid (takeB R = false) := by show _ = _; rw [HTB.out, hv, Bool.false_and]
                  clear hv
                  go_wp2_with fail
                  refine (rputNode_no k m s more ao2 L.length cp2 (natI L) _ HI2.out HV.out).mono ?_
                  rintro e w12 ⟨rfl, hk12⟩
                  obtain ⟨hx0, _⟩ := HCE.out w12 hk12
                  have HK := Lib.hid (HRY.out.kept.trans hk12)
                  have z0 : w12.cell? ⟨w.heap.size, 0, none⟩ = some (.int .i64 0) := cell_of_row _ _ 0 _ _ _ hx0
                  have z1 : w12.cell? ⟨w.heap.size, 1, none⟩ = some (.int .i64 0) := cell_of_row _ _ 1 _ _ _ hx0
                  have z2 : w12.cell? ⟨w.heap.size, 2, none⟩ = some (.int .i64 0) := cell_of_row _ _ 2 _ _ _ hx0
                  have z3 : w12.cell? ⟨w.heap.size, 3, none⟩ = some (.slice none 0 0) := cell_of_row _ _ 3 _ _ _ hx0
                  have z4 : w12.cell? ⟨w.heap.size, 4, none⟩ = some (.int .i64 0) := cell_of_row _ _ 4 _ _ _ hx0
                  have fz : ∀ q, w12.frozen? ⟨w.heap.size, q, none⟩ = false := fun q => frozen_of_row _ _ q _ _ hx0
                  clear hx0 y0 y1 y2 y3 y4 hk12
                  go_wp2_with fail
                  refine bodyPost_ret (v := .tuple #[.agg #[.int .i64 0, .int .i64 0, .int .i64 0, .slice none 0 0, .int .i64 0], .int .i64 0, .int .i64 4]) (by simp [results, Tryd.results7, go_sem, z0, z1, z2, z3, z4]) rfl ?_
                  refine takeNU_no HT.out ?_
                  have hk := HK.out
                  repeat (first | (with_reducible refine Kept.setNew ?_ _ _ (by simp)) | (with_reducible refine Kept.drewNew ?_))
                  with_reducible exact hk
                · have HV := Lib.hid hv
                  have HT : Hid (takeB R = decide (recL k (fieldsL m s more L) = R)) := by show _ = _; rw [HTB.out, hv, Bool.true_and]
                  clear hv
                  go_wp2_with fail
                  refine (rputNode_yes k m s more ao2 L.length cp2 L _ HI2.out HV.out).mono ?_
                  rintro e w12 ⟨va, vm, rfl, hva, _, hk12⟩
                  obtain ⟨hx0, hx1⟩ := HCE.out w12 hk12
                  have HK := Lib.hid (HRY.out.kept.trans hk12)
                  have hcv1 : (convert 22 9 va).run Tryd.prog w12 = .ok (.string (strL (recL k (fieldsL m s more L)))) w12 := convL hva
                  have hcv2 : (convert 22 9 (.slice (some ⟨b, o, none⟩) 32 cap)).run Tryd.prog w12 = .ok (.string (strL R)) w12 := conv_of_range _ _ _ _ Tryd.underlying22 Tryd.underlying5 Tryd.underlying9 b o cap R 32 HR.out (HK.out.range hb (by simp) HRG.out)
                  have hq : ((strL (recL k (fieldsL m s more L))).toList == (strL R).toList) = decide (recL k (fieldsL m s more L) = R) := by rw [strL_bytes, strL_bytes, Bool.eq_iff_iff]; simp
                  generalize recL k (fieldsL m s more L) = Q at hcv1 hq HT
                  clear hva
                  cases hqb : decide (Q = R)
                  · have HT2 : Hid (takeB R = false) := by show _ = _; rw [HT.out, hqb]
                    rw [hqb] at hq
                    clear HT hqb
                    have HT := HT2
                    have z0 : w12.cell? ⟨w.heap.size, 0, none⟩ = some (.int .i64 0) := cell_of_row _ _ 0 _ _ _ hx0
                    have z1 : w12.cell? ⟨w.heap.size, 1, none⟩ = some (.int .i64 0) := cell_of_row _ _ 1 _ _ _ hx0
                    have z2 : w12.cell? ⟨w.heap.size, 2, none⟩ = some (.int .i64 0) := cell_of_row _ _ 2 _ _ _ hx0
                    have z3 : w12.cell? ⟨w.heap.size, 3, none⟩ = some (.slice none 0 0) := cell_of_row _ _ 3 _ _ _ hx0
                    have z4 : w12.cell? ⟨w.heap.size, 4, none⟩ = some (.int .i64 0) := cell_of_row _ _ 4 _ _ _ hx0
                    have fz : ∀ q, w12.frozen? ⟨w.heap.size, q, none⟩ = false := fun q => frozen_of_row _ _ q _ _ hx0
                    clear hx0 y0 y1 y2 y3 y4 hk12
                    go_wp2_with fail
                    refine bodyPost_ret (v := .tuple #[.agg #[.int .i64 0, .int .i64 0, .int .i64 0, .slice none 0 0, .int .i64 0], .int .i64 0, .int .i64 4]) (by simp [results, Tryd.results7, go_sem, z0, z1, z2, z3, z4]) rfl ?_
                    refine takeNU_no HT.out ?_
                    have hk := HK.out
                    repeat (first | (with_reducible refine Kept.setNew ?_ _ _ (by simp)) | (with_reducible refine Kept.drewNew ?_))
                    with_reducible exact hk
                  · have HT2 : Hid (takeB R = true) := by show _ = _; rw [HT.out, hqb]
                    have HXI := Lib.hid (HRY.out.xi.kept hk12)
                    rw [hqb] at hq
                    clear HT hqb
                    have z0 : w12.cell? ⟨w.heap.size, 0, none⟩ = some (.int .i64 0) := cell_of_row _ _ 0 _ _ _ hx0
                    have z1 : w12.cell? ⟨w.heap.size, 1, none⟩ = some (.int .i64 0) := cell_of_row _ _ 1 _ _ _ hx0
                    have z2 : w12.cell? ⟨w.heap.size, 2, none⟩ = some (.int .i64 0) := cell_of_row _ _ 2 _ _ _ hx0
                    have z3 : w12.cell? ⟨w.heap.size, 3, none⟩ = some (.slice none 0 0) := cell_of_row _ _ 3 _ _ _ hx0
                    have z4 : w12.cell? ⟨w.heap.size, 4, none⟩ = some (.int .i64 0) := cell_of_row _ _ 4 _ _ _ hx0
                    have fz : ∀ q, w12.frozen? ⟨w.heap.size, q, none⟩ = false := fun q => frozen_of_row _ _ q _ _ hx0
                    have c0 : w12.cell? ⟨w.heap.size + 1, 0, none⟩ = some (.int .i64 k) := cell_of_row _ _ 0 _ _ _ hx1
                    have c1 : w12.cell? ⟨w.heap.size + 1, 1, none⟩ = some (.int .i64 m) := cell_of_row _ _ 1 _ _ _ hx1
                    have c2 : w12.cell? ⟨w.heap.size + 1, 2, none⟩ = some (.int .i64 s) := cell_of_row _ _ 2 _ _ _ hx1
                    have c3 : w12.cell? ⟨w.heap.size + 1, 3, none⟩ = some (.slice ao D.length cp) := cell_of_row _ _ 3 _ _ _ hx1
                    have c4 : w12.cell? ⟨w.heap.size + 1, 4, none⟩ = some (.int .i64 more) := cell_of_row _ _ 4 _ _ _ hx1
                    have hmx : max (0 : Int) ((nN : Int) - 6) = ((nN - 6 : Nat) : Int) := by omega
                    obtain ⟨ln, hln⟩ : ∃ ln : Int, ((nN - 6 : Nat) : Int) = ln := ⟨_, rfl⟩
                    rw [hln] at hmx
                    have HLN := Lib.hid hln
                    have hlx : ∀ b o, ao = some ⟨b, o, none⟩ → b ≠ w.heap.size := fun b' o' e h => absurd h (by have := HRY.out.x2 b' o' e; omega)
                    have HLX := Lib.hid hlx
                    clear hln hx0 hx1 y0 y1 y2 y3 y4 hk12 hlx
                    go_wp2_with fail
                    refine bodyPost_ret (v := .tuple #[.agg #[.int .i64 k, .int .i64 m, .int .i64 s, .slice ao D.length cp, .int .i64 more], .int .i64 ln, .int .i64 0]) (by simp [results, Tryd.results7, go_sem, z0, z1, z2, z3, z4]) rfl ?_
                    have hkx := Kept.refl [w.heap.size] w12
                    have hkk : Kept [w.heap.size] w12 (((((w12.setCell ⟨w.heap.size, 0, none⟩ (.int .i64 k)).setCell ⟨w.heap.size, 1, none⟩ (.int .i64 m)).setCell ⟨w.heap.size, 2, none⟩ (.int .i64 s)).setCell ⟨w.heap.size, 3, none⟩ (.slice ao D.length cp)).setCell ⟨w.heap.size, 4, none⟩ (.int .i64 more)) :=
                      ((((hkx.setIn _ _ (by simp)).setIn _ _ (by simp)).setIn _ _ (by simp)).setIn _ _ (by simp)).setIn _ _ (by simp)
                    exact takeNU_yes HE.out HN.out ⟨HD.out.1, HD.out.2.1⟩ HT2.out (HK.out.into hkk (by simp)) (HXI.out.keptEx hkk (fun b o e => by have := HLX.out b o e; simpa using this)) HLN.out.symm
end Go.Proofs.YtbggmeilkfpbgaaDoor

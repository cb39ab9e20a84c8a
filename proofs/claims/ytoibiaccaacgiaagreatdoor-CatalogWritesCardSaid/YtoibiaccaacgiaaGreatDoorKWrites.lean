/-
  Layer 7: the walk of CatalogWrites.
  Conditions: those that each theorem states.
-/
import Derived.Test.YtoibiaccaacgiaaGreatDoorKRefE
import Derived.Test.YtoibiaccaacgiaaGreatDoorKSame
import Derived.Test.YtoibiaccaacgiaaGreatDoorKShown
import Derived.Test.YtoibiaccaacgiaaGreatDoorKLent
import Derived.Test.YtoibiaccaacgiaaGreatDoorKCuts
namespace Go.Proofs.YtoibiaccaacgiaaGreatDoor
open Go.RowKit Go.Maps
set_option maxRecDepth 100000

set_option maxRecDepth 100000 in
set_option maxHeartbeats 8000000 in
theorem writes_walk (c : Cat) (v : Value) (w : World) (h : CatIs w v c) (ht : TysIs w) :
    Calls Tryz.prog 3 #[v] w fun e w' => e = .returned (.bool true) ∧ Kept [] w w' := by
  have HH := Lib.hid h
  obtain ⟨ra, rc, ea, ec, rfl, hbx⟩ := h.box
  obtain ⟨vv, hvv⟩ : ∃ vv, c.ver = vv := ⟨_, rfl⟩
  obtain ⟨nd, hnd⟩ : ∃ nd, strL c.node = nd := ⟨_, rfl⟩
  obtain ⟨rn, hrn⟩ : ∃ n, c.R.length = n := ⟨_, rfl⟩
  obtain ⟨en, hen⟩ : ∃ m, c.E.length = m := ⟨_, rfl⟩
  have hA := Kept.alloc [] w (.cells #[.int .i64 c.ver, .string (strL c.node), .slice ra c.R.length rc, .slice ea c.E.length ec] 25)
  obtain ⟨w1, hw1⟩ : ∃ w1, w.alloc (.cells #[.int .i64 c.ver, .string (strL c.node), .slice ra c.R.length rc, .slice ea c.E.length ec] 25) = w1 := ⟨_, rfl⟩
  rw [hw1] at hbx hA
  have HBX := Lib.hid hbx
  have HA := Lib.hid hA
  have HC : Hid (∀ w', Kept [] w1 w' → w'.cell? ⟨w.heap.size, 0, none⟩ = some (.int .i64 vv) ∧ w'.cell? ⟨w.heap.size, 1, none⟩ = some (.string nd) ∧ w'.cell? ⟨w.heap.size, 2, none⟩ = some (.slice ra rn rc) ∧ w'.cell? ⟨w.heap.size, 3, none⟩ = some (.slice ea en ec)) := fun w' hk => by
    rw [← hrn, ← hen, ← hvv, ← hnd]
    exact ⟨(HBX.out.kept hk).c0, (HBX.out.kept hk).c1, (HBX.out.kept hk).c2, (HBX.out.kept hk).c3⟩
  have HNB : Hid (c.node.length ≤ 140737488355328) := h.node
  have HVN := Lib.hid (And.intro hvv (And.intro hnd (And.intro hrn hen)))
  rw [hrn, hen, hvv, hnd] at hw1 HH
  rw [hrn, hen, hvv, hnd]
  have HTY : Hid (∀ w', Kept [] w w' → TysIs w') := fun w' hk => ht.kept hk
  obtain ⟨p, hp⟩ : ∃ p, checkO c = p := ⟨_, rfl⟩
  have HP := Lib.hid hp
  have HCI : Hid (∀ w', Kept [] w1 w' → CatIs w' (.agg #[.int .i64 vv, .string nd, .slice ra rn rc, .slice ea en ec]) c) := fun w' hk => HH.out.kept (HA.out.trans hk)
  have HLT : Hid (∀ w', Kept [] w1 w' → Calls Tryz.prog 6 #[.agg #[.int .i64 vv, .string nd, .slice ra rn rc, .slice ea en ec]] w' fun e w2 => ∃ ra' rc' ea' ec', e = .returned (.agg #[.int .i64 vv, .string nd, .slice ra' rn rc', .slice ea' en ec']) ∧ Hid (CatIs w2 (.agg #[.int .i64 vv, .string nd, .slice ra' rn rc', .slice ea' en ec']) c ∧ Kept [] w' w2)) := fun w' hk => by
    refine (lent7_any c _ w' (HCI.out w' hk)).mono ?_
    rintro e w2 ⟨ra', rc', ea', ec', rfl, H2⟩
    rw [hrn, hen] at H2
    rw [hrn, hen, hvv, hnd]
    exact ⟨ra', rc', ea', ec', rfl, ⟨⟨_, _, by rw [hvv]; unfold catV; rw [hnd], H2.out.1.rs, H2.out.2.1.es⟩, HNB.out⟩, H2.out.2.2.1⟩
  have HRE : Hid (∀ w', Kept [] w1 w' → Calls Tryz.prog 8 #[.agg #[.int .i64 vv, .string nd, .slice ra rn rc, .slice ea en ec]] w' fun e w2 => ∃ v, e = .returned (.tuple #[v, .int .i64 p]) ∧ Hid (OwnB w'.heap.size w2 v (encL c) ∧ Kept [] w' w2)) := fun w' hk => by rw [← hp]; exact rcEncode_any c _ w' (HCI.out w' hk)
  have HRC : Hid (∀ w', Kept [] w1 w' → Calls Tryz.prog 11 #[.agg #[.int .i64 vv, .string nd, .slice ra rn rc, .slice ea en ec]] w' fun e w2 => e = .returned (.int .i64 p) ∧ Kept [] w' w2) := fun w' hk => by rw [← hp]; exact rcCheck_any c _ w' (HCI.out w' hk)
  have HSH := Lib.hid (shown7_any w1 (HTY.out w1 HA.out))
  clear h hbx hA ht hvv hnd hrn hen hp
  go_enter Tryz.func3, Tryz.ntmps3
  go_wp2_with fail
  refine HSH.out.mono ?_
  rintro e w2 ⟨rfl, hk2⟩
  have HK2 := Lib.hid hk2
  clear hk2 hw1
  obtain ⟨c0, c1, c2, c3⟩ := HC.out w2 HK2.out
  go_wp2_with fail
  refine (HLT.out _ HK2.out).mono ?_
  rintro e w3 ⟨ra1, rc1, ea1, ec1, rfl, H3⟩
  obtain ⟨w4, hw4⟩ : ∃ w4, w3.alloc (.cells #[.int .i64 vv, .string nd, .slice ra1 rn rc1, .slice ea1 en ec1] 25) = w4 := ⟨_, rfl⟩
  have H4 : Hid (Kept [] w3 w4 ∧ w4.heap[w3.heap.size]? = some (.cells #[.int .i64 vv, .string nd, .slice ra1 rn rc1, .slice ea1 en ec1] 25)) := ⟨by rw [← hw4]; exact Kept.alloc _ _ _, by rw [← hw4]; exact heap_alloc_last _ _⟩
  have HK4 : Hid (Kept [] w1 w4) := (HK2.out.trans H3.out.2).trans H4.out.1
  obtain ⟨g, hg⟩ : ∃ g, w3.heap.size = g := ⟨_, rfl⟩
  rw [hg] at H4
  have HO : Hid (∀ w', Kept [] w4 w' → w'.cell? ⟨g, 0, none⟩ = some (.int .i64 vv) ∧ w'.cell? ⟨g, 1, none⟩ = some (.string nd) ∧ w'.cell? ⟨g, 2, none⟩ = some (.slice ra1 rn rc1) ∧ w'.cell? ⟨g, 3, none⟩ = some (.slice ea1 en ec1)) := fun w' hk => by
    have e0 := hk.heap (by simp) H4.out.2
    exact ⟨cell_of_row _ _ 0 _ _ _ e0, cell_of_row _ _ 1 _ _ _ e0, cell_of_row _ _ 2 _ _ _ e0, cell_of_row _ _ 3 _ _ _ e0⟩
  have HOI : Hid (∀ w', Kept [] w4 w' → CatIs w' (.agg #[.int .i64 vv, .string nd, .slice ra1 rn rc1, .slice ea1 en ec1]) c) := fun w' hk => H3.out.1.kept (H4.out.1.trans hk)
  have HEN : Hid (∀ w', Kept [] w4 w' → Calls Tryz.prog 7 #[.agg #[.int .i64 vv, .string nd, .slice ra1 rn rc1, .slice ea1 en ec1]] w' fun e w2 => ∃ v, e = .returned (.tuple #[v, .int .i64 p]) ∧ Hid (OwnB w'.heap.size w2 v (encL c) ∧ Kept [] w' w2)) := fun w' hk => by rw [← HP.out]; exact Encode_any c _ w' (HOI.out w' hk) (HTY.out w' (HA.out.trans (HK4.out.trans hk)))
  have HCK : Hid (∀ w', Kept [] w4 w' → Calls Tryz.prog 10 #[.agg #[.int .i64 vv, .string nd, .slice ra1 rn rc1, .slice ea1 en ec1]] w' fun e w2 => e = .returned (.int .i64 p) ∧ Kept [] w' w2) := fun w' hk => by rw [← HP.out]; exact Check_any c _ w' (HOI.out w' hk) (HTY.out w' (HA.out.trans (HK4.out.trans hk)))
  have HSM : Hid (∀ w', Kept [] w4 w' → Calls Tryz.prog 9 #[.agg #[.int .i64 vv, .string nd, .slice ra1 rn rc1, .slice ea1 en ec1], .agg #[.int .i64 vv, .string nd, .slice ra rn rc, .slice ea en ec]] w' fun e w2 => e = .returned (.bool true) ∧ Kept [] w' w2) := fun w' hk => by
    have := rcsame_any c c _ _ w' (HOI.out w' hk) (HCI.out w' (HK4.out.trans hk))
    rw [show sameC c c = true from decide_eq_true rfl] at this
    exact this
  obtain ⟨d0, d1, d2, d3⟩ := HO.out w4 (Kept.refl _ _)
  go_wp2_with fail
  clear c0 c1 c2 c3
  refine (HEN.out w4 (Kept.refl _ _)).mono ?_
  rintro e w5 ⟨v5, rfl, H5⟩
  clear hw4 hg d0 d1 d2 d3
  have HK5 : Hid (Kept [] w1 w5) := HK4.out.trans H5.out.2
  obtain ⟨c0, c1, c2, c3⟩ := HC.out w5 HK5.out
  go_wp2_with fail
  refine (HRE.out w5 HK5.out).mono ?_
  rintro e w6 ⟨v6, rfl, H6⟩
  have HK46 : Hid (Kept [] w4 w6) := H5.out.2.trans H6.out.2
  clear c0 c1 c2 c3
  obtain ⟨c0, c1, c2, c3⟩ := HC.out w6 (HK4.out.trans HK46.out)
  obtain ⟨d0, d1, d2, d3⟩ := HO.out w6 HK46.out
  go_wp2_with fail
  refine (HSM.out w6 HK46.out).mono ?_
  rintro e w7 ⟨rfl, hk7⟩
  have HK47 : Hid (Kept [] w4 w7) := HK46.out.trans hk7
  have HK67 := Lib.hid hk7
  clear hk7 c0 c1 c2 c3 d0 d1 d2 d3
  obtain ⟨k1, k2, k3, rfl⟩ : ∃ ga gn gk, v5 = .slice ga gn gk := by obtain ⟨x, y, e, _⟩ := H5.out.1.val; exact ⟨x, _, y, e⟩
  obtain ⟨l1, l2, l3, rfl⟩ : ∃ ga gn gk, v6 = .slice ga gn gk := by obtain ⟨x, y, e, _⟩ := H6.out.1.val; exact ⟨x, _, y, e⟩
  have z0 := fun w' hk => HC.out w' (HK4.out.trans (HK47.out.trans ((Kept.drew [] w7).trans hk)))
  have z1 := fun w' hk => HO.out w' (HK47.out.trans ((Kept.drew [] w7).trans hk))
  have z2 : ∀ w', Kept [] w7.drew w' → (convert 28 9 (.slice k1 k2 k3)).run Tryz.prog w' = .ok (.string (strL (encL c))) w' := fun w' hk => (H5.out.1.kept (H6.out.2.trans (HK67.out.trans ((Kept.drew [] w7).trans hk))) (by simp)).slIs.conv
  have z3 : ∀ w', Kept [] w7.drew w' → (convert 28 9 (.slice l1 l2 l3)).run Tryz.prog w' = .ok (.string (strL (encL c))) w' := fun w' hk => (H6.out.1.kept (HK67.out.trans ((Kept.drew [] w7).trans hk)) (by simp)).slIs.conv
  go_wp2_with fail
  refine wp_region_ord [(true, 0), (true, 1), (true, 2), (true, 3), (true, 4), (true, 5), (true, 6), (true, 7), (true, 8), (true, 9), (true, 10), (true, 11), (true, 12), (true, 13), (true, 14), (true, 15), (true, 16), (true, 17), (true, 18), (true, 19), (true, 21), (false, 20), (false, 22), (true, 23), (true, 24)] [] (by kernel_rfl) (fun _ _ d _ _ h => by cases d <;> exact h) (by kernel_rfl) rfl (by kernel_rfl) (by kernel_rfl) ?_
  simp only [named, List.getD_cons_zero, List.getD_cons_succ]
  repeat (first | (apply wpGrow_take; (case hw => rfl); (case hv => intro w' hk; go_simp; with_reducible rfl); simp only [Act.put, List.setIfInBounds_toArray, List.set_cons_zero, List.set_cons_succ]) | (refine wpGrow_pass (by rfl) ?_; simp only [Act.put, List.setIfInBounds_toArray, List.set_cons_zero, List.set_cons_succ]) | (refine wpGrow_skip (by rfl) ?_; simp only [Act.put, List.setIfInBounds_toArray, List.set_cons_zero, List.set_cons_succ]))
  clear z0 z1 z2 z3
  refine wpGrow_force (by rfl) (fun K hK => ?_)
  go_simp
  refine (HCK.out _ (HK47.out.trans (Kept.drew _ _))).mono ?_
  rintro e w8 ⟨rfl, hk8⟩
  refine hK _ _ hk8 ?_
  clear hK K
  have HK48 : Hid (Kept [] w4 w8) := HK47.out.trans ((Kept.drew [] _).trans hk8)
  have HK78 : Hid (Kept [] w7 w8) := (Kept.drew [] _).trans hk8
  clear hk8
  repeat (first | (apply wpGrow_take; (case hw => rfl); (case hv => intro w' hk; go_simp; with_reducible rfl); simp only [Act.put, List.setIfInBounds_toArray, List.set_cons_zero, List.set_cons_succ]) | (refine wpGrow_pass (by rfl) ?_; simp only [Act.put, List.setIfInBounds_toArray, List.set_cons_zero, List.set_cons_succ]) | (refine wpGrow_skip (by rfl) ?_; simp only [Act.put, List.setIfInBounds_toArray, List.set_cons_zero, List.set_cons_succ]))
  refine wpGrow_force (by rfl) (fun K hK => ?_)
  go_simp
  refine (HRC.out _ (HK4.out.trans HK48.out)).mono ?_
  rintro e w9 ⟨rfl, hk9⟩
  refine hK _ _ hk9 ?_
  clear hK K
  have HK49 : Hid (Kept [] w4 w9) := HK48.out.trans hk9
  have HK79 : Hid (Kept [] w7 w9) := HK78.out.trans hk9
  clear hk9
  repeat (first | (apply wpGrow_take; (case hw => rfl); (case hv => intro w' hk; go_simp; with_reducible rfl); simp only [Act.put, List.setIfInBounds_toArray, List.set_cons_zero, List.set_cons_succ]) | (refine wpGrow_pass (by rfl) ?_; simp only [Act.put, List.setIfInBounds_toArray, List.set_cons_zero, List.set_cons_succ]) | (refine wpGrow_skip (by rfl) ?_; simp only [Act.put, List.setIfInBounds_toArray, List.set_cons_zero, List.set_cons_succ]))
  refine wpGrow_nil ?_
  by_cases h0 : p = 0
  case neg =>
    have q0 : (p != 0) = true := by simpa using h0
    go_wp2_with fail
    go_ret
    exact ⟨rfl, HA.out.trans (HK4.out.trans HK49.out)⟩
  subst h0
  have hE : encL c = catB c := by unfold encL; rw [if_pos HP.out]
  have how := H5.out.1.kept (H6.out.2.trans (HK67.out.trans HK79.out)) (by simp)
  rw [hE] at how
  have hlb := (checkO_ok HP.out).2
  obtain ⟨ao, cap, hv, hag⟩ := how.arg (by omega)
  have hd : decE (catB c) = 0 ∧ decC (catB c) = c := by
    have := decO_back HP.out
    unfold decE decC
    rw [this]
    exact ⟨rfl, rfl⟩
  have HD := Decode_any (catB c) ao (catB c).length cap w9 hag (HTY.out w9 (HA.out.trans (HK4.out.trans HK49.out)))
  unfold DecodeOut at HD
  rw [hd.1, hd.2, ← hv] at HD
  have HDD := Lib.hid HD
  clear HD hd hag hv how hlb hE
  go_wp2_with fail
  refine HDD.out.mono ?_
  rintro e w10 ⟨v10, rfl, H10⟩
  have HI := H10.out.1.is
  obtain ⟨xa, xc, ya, yc, rfl, _⟩ := HI.box
  rw [HVN.out.1, HVN.out.2.1, HVN.out.2.2.1, HVN.out.2.2.2] at HI ⊢
  have HXI := Lib.hid HI
  clear HI
  obtain ⟨w11, hw11⟩ : ∃ w11, w10.alloc (.cells #[.int .i64 vv, .string nd, .slice xa rn xc, .slice ya en yc] 25) = w11 := ⟨_, rfl⟩
  have H11 : Hid (Kept [] w10 w11 ∧ w11.heap[w10.heap.size]? = some (.cells #[.int .i64 vv, .string nd, .slice xa rn xc, .slice ya en yc] 25)) := ⟨by rw [← hw11]; exact Kept.alloc _ _ _, by rw [← hw11]; exact heap_alloc_last _ _⟩
  have HK11 : Hid (Kept [] w1 w11) := ((HK4.out.trans HK49.out).trans H10.out.2).trans H11.out.1
  have HS2 : Hid (Calls Tryz.prog 9 #[.agg #[.int .i64 vv, .string nd, .slice xa rn xc, .slice ya en yc], .agg #[.int .i64 vv, .string nd, .slice ra rn rc, .slice ea en ec]] w11 fun e w2 => e = .returned (.bool true) ∧ Kept [] w11 w2) := by
    have := rcsame_any c c _ _ w11 (HXI.out.kept H11.out.1) (HCI.out w11 HK11.out)
    rw [show sameC c c = true from decide_eq_true rfl] at this
    exact this
  obtain ⟨c0, c1, c2, c3⟩ := HC.out w11 HK11.out
  have d0 : w11.cell? ⟨w10.heap.size, 0, none⟩ = some (.int .i64 vv) := cell_of_row _ _ 0 _ _ _ H11.out.2
  have d1 : w11.cell? ⟨w10.heap.size, 1, none⟩ = some (.string nd) := cell_of_row _ _ 1 _ _ _ H11.out.2
  have d2 : w11.cell? ⟨w10.heap.size, 2, none⟩ = some (.slice xa rn xc) := cell_of_row _ _ 2 _ _ _ H11.out.2
  have d3 : w11.cell? ⟨w10.heap.size, 3, none⟩ = some (.slice ya en yc) := cell_of_row _ _ 3 _ _ _ H11.out.2
  go_wp2_with fail
  refine HS2.out.mono ?_
  rintro e w12 ⟨rfl, hk12⟩
  have HK12 : Hid (Kept [] w1 w12) := HK11.out.trans hk12
  clear hk12 hw11 c0 c1 c2 c3 d0 d1 d2 d3
  go_wp2_with fail
  go_ret
  exact ⟨rfl, HA.out.trans HK12.out⟩
end Go.Proofs.YtoibiaccaacgiaaGreatDoor

/-
  Law 5: rows of their own (lent).
  Conditions: those that each theorem states.
-/
import Derived.Test.YtdaofgmdledcbaaDoorTRow
namespace Go.Proofs.YtdaofgmdledcbaaDoor
open Go.RowKit Go.Maps

structure LnSt (w : World) (l : List TRow) (k : Nat) (v : Value) (wr : World) : Prop where
  own : OwnRows none w.heap.size wr v (l.take k)
  kept : Kept [] w wr

set_option maxRecDepth 100000 in
set_option maxHeartbeats 4000000 in
theorem lent_any (ao : Option Addr) (len cap : Nat) (l : List TRow) (w : World) (hl : RowsIs w ao len l) :
    Calls Tryd.prog 9 #[.slice ao len cap] w fun e w' => ∃ v, e = .returned v ∧ Hid (OwnRows none w.heap.size w' v l ∧ Kept [] w w') := by
  have HL := Lib.hid hl
  have hlen : len * 40 ≤ 140737488355328 := hl.bytes
  have HLL := Lib.hid hl.hlen
  clear hl
  go_enter Tryd.func9, Tryd.ntmps9
  go_wp2_with fail
  go_loopw [3, 4] (fun v i wr => ∃ k : Nat, k ≤ len ∧ i = .int .i64 k ∧ Hid (LnSt w l k v wr)) (fun _ i _ => len - (intOf i).toNat)
  case atStart => exact ⟨0, by omega, rfl, ⟨OwnRows.made _ _, Kept.alloc _ _ _⟩⟩
  case round =>
    obtain ⟨k, hk, rfl, HS⟩ := hrel
    by_cases hlt : k < len
    · obtain ⟨b, o, rfl, hb, hc⟩ := HL.out.cell (by omega)
      have hll : k < l.length := by rw [HLL.out]; exact hlt
      obtain ⟨cv, c0, c1, hcv⟩ := hc k hll
      obtain ⟨p, hp⟩ : ∃ p, l[k].1 = p := ⟨_, rfl⟩
      obtain ⟨cs, hcs⟩ : ∃ cs, l[k].2 = cs := ⟨_, rfl⟩
      have HE : Hid (l.take (k + 1) = l.take k ++ [(p, cs)]) := by show _ = _; rw [List.take_succ_eq_append_getElem hll, ← hp, ← hcs]
      have HPL : Hid (p.length ≤ 140737488355328) := by show _ ≤ _; rw [← hp]; exact HL.out.keys _ (List.getElem_mem hll)
      rw [hp] at c0
      rw [hcs] at hcv
      have hkd : Kept [] w wr.drew := HS.out.kept.trans (Kept.drew _ _)
      have hsz0 := HS.out.kept.size
      have q0 : ∀ w', Below w.heap.size wr.drew w' → w'.cell? ⟨b, o + k * 2, none⟩ = some (.string (strL p)) := fun w' h => below_cell h hb (by rw [hkd.cell hb (by simp)]; exact c0)
      have q1 : ∀ w', Below w.heap.size wr.drew w' → w'.cell? ⟨b, o + k * 2 + 1, none⟩ = some cv := fun w' h => below_cell h hb (by rw [hkd.cell hb (by simp)]; exact c1)
      have hcd : CellsIs wr.drew cv cs := hcv.kept hkd
      obtain ⟨v1, w1, hrun1, hc1, hk1, hfr1, hkb1⟩ := copy_strs hcd
      have hvs : ∃ u m c, v1 = .slice u m c := by obtain ⟨u, c, rfl, _⟩ := hc1.val; exact ⟨u, _, c, rfl⟩
      obtain ⟨vu, vm, vc, rfl⟩ := hvs
      have ho1 : OwnRows none w.heap.size w1 u3 (l.take k) := (HS.out.own.kept (Kept.drew _ _)).kept hk1
      obtain ⟨v2, w2, hrun2, ho2, hap2, hkb2⟩ := ho1.app (by have := hk1.size; have h0 : wr.drew.heap.size = wr.heap.size := rfl; omega) (p, cs) _ hc1.D (fun b' o' n' c' e hn hm => by
        have h1 := hfr1 b' o' n' c' e
        have h2 := (HS.out.own.blk b' (by simpa using hm)).2
        have h0 : wr.drew.heap.size = wr.heap.size := rfl
        omega) (by rw [List.length_take]; omega) HPL.out
      have B1 : Below w.heap.size wr.drew (wr.drew.alloc (.cells #[] 9)) := (Kept.alloc [] _ _).below hsz0 (by simp)
      have B2 : Below w.heap.size (wr.drew.alloc (.cells #[] 9)) w1 := hkb1.below (by rw [size_alloc]; have h0 : wr.drew.heap.size = wr.heap.size := rfl; omega) (by simp; have h0 : wr.drew.heap.size = wr.heap.size := rfl; omega)
      have B3 : Below w.heap.size w1 (w1.alloc (.cells #[.string (strL p), .slice vu vm vc] 34)) := (Kept.alloc [] _ _).below (by have := hk1.size; have h0 : wr.drew.heap.size = wr.heap.size := rfl; omega) (by simp)
      have B4 : Below w.heap.size (w1.alloc (.cells #[.string (strL p), .slice vu vm vc] 34)) w2 := hkb2.below (by rw [size_alloc]; have := hk1.size; have h0 : wr.drew.heap.size = wr.heap.size := rfl; omega) (fun q hq => (HS.out.own.blk q (by simpa using hq)).1)
      have HS2 : Hid (LnSt w l (k + 1) v2 w2) := ⟨by rw [HE.out]; exact ho2, AppB.intoR (hkd.trans hk1) hap2 ho1 (Nat.le_refl _)⟩
      have HR1 := Lib.hid hrun1
      have HR2 := Lib.hid hrun2
      have HB1 := Lib.hid B1
      have HB2 := Lib.hid B2
      have HB3 := Lib.hid B3
      have HB4 := Lib.hid B4
      clear hrun1 hrun2 hc1 hk1 hfr1 hkb1 ho1 ho2 hap2 hkb2 B1 B2 B3 B4 hcd hcv hkd hc hp hcs c0 c1
      go_wp2_with fail
      refine wp_region_ordR (R := (Below w.heap.size)) [(true, 0), (true, 1), (true, 2), (true, 3), (true, 4), (true, 5), (true, 7), (true, 8), (true, 9), (true, 10), (true, 11), (false, 6), (false, 12), (true, 13), (false, 14), (false, 15), (true, 16)] (fun _ => Below.refl _ _) (fun _ _ _ h k => h.trans k) (by kernel_rfl) (fun _ _ d _ _ h => by cases d <;> exact h) (by kernel_rfl) rfl (by kernel_rfl) (by kernel_rfl) ?_
      simp only [named, List.getD_cons_zero, List.getD_cons_succ]
      repeat (first | (apply wpR_take; (case hw => rfl); (case hv => intro w' hk; go_simp; with_reducible rfl); simp only [Act.put, List.setIfInBounds_toArray, List.set_cons_zero, List.set_cons_succ]) | (refine wpR_pass (by rfl) ?_; simp only [Act.put, List.setIfInBounds_toArray, List.set_cons_zero, List.set_cons_succ]))
      refine wpR_force (by rfl) (fun K hK => ?_)
      go_simp
      refine hK _ _ HB1.out ?_
      clear hK K
      refine wpR_force (by rfl) (fun K hK => ?_)
      refine wp_append_run _ _ _ rfl _ _ _ rfl rfl HR1.out ?_
      refine hK _ _ HB2.out ?_
      clear hK K
      repeat (first | (apply wpR_take; (case hw => rfl); (case hv => intro w' hk; go_simp; with_reducible rfl); simp only [Act.put, List.setIfInBounds_toArray, List.set_cons_zero, List.set_cons_succ]) | (refine wpR_pass (by rfl) ?_; simp only [Act.put, List.setIfInBounds_toArray, List.set_cons_zero, List.set_cons_succ]))
      refine wpR_force (by rfl) (fun K hK => ?_)
      go_simp
      refine hK _ _ HB3.out ?_
      clear hK K
      refine wpR_force (by rfl) (fun K hK => ?_)
      refine wp_append_run _ _ _ rfl _ _ _ rfl rfl HR2.out ?_
      refine hK _ _ HB4.out ?_
      clear hK K
      repeat (first | (apply wpR_take; (case hw => rfl); (case hv => intro w' hk; go_simp; with_reducible rfl); simp only [Act.put, List.setIfInBounds_toArray, List.set_cons_zero, List.set_cons_succ]) | (refine wpR_pass (by rfl) ?_; simp only [Act.put, List.setIfInBounds_toArray, List.set_cons_zero, List.set_cons_succ]))
      refine wpR_nil ?_
      clear q0 q1 HR1 HR2 HB1 HB2 HB3 HB4
      go_wp2_with fail
      go_roundw
      case rel => exact ⟨k + 1, by omega, by go_num, HS2⟩
      case measure => simp [intOf]; omega
    · have HF : Hid (OwnRows none w.heap.size wr u3 l ∧ Kept [] w wr) := by
        have := HS.out.own
        rw [List.take_of_length_le (by rw [HLL.out]; omega)] at this
        exact ⟨this, HS.out.kept⟩
      go_wp2_with fail
      go_ret
      exact ⟨_, rfl, HF⟩
end Go.Proofs.YtdaofgmdledcbaaDoor

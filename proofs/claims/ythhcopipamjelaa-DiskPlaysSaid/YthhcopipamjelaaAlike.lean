/-
  A disk and the document's own one that are alike are told alike, whatever block is asked for.
  Conditions: the two descriptions agree ('Sim').
-/
import Derived.Test.YthhcopipamjelaaRef
import Derived.Test.YthhcopipamjelaaClone
namespace Go.Proofs.Ythhcopipamjelaa
open Go.RowKit Go.Maps

structure Sim (S : DiskS) (R : RefS) : Prop where
  size : S.size = R.n
  off : S.off = R.off
  fused : S.fused = R.burns
  left : S.fused = true → S.left = R.left
  writes : S.writes = R.cnt
  blk : ∀ j : Nat, j < R.n → S.blk j = R.blk j

theorem Sim.reach {S : DiskS} {R : RefS} (h : Sim S R) (i : Int) : S.reach i = R.reach i := by
  unfold DiskS.reach RefS.reach
  rw [h.off, h.size]

theorem convL {w : World} {v : Value} {l : List UInt8} (h : SlIs w v l) : (convert 36 9 v).run Try.prog w = .ok (.string (strL l)) w := by
  rcases h with ⟨b, o, cap, rfl, _, hc⟩ | ⟨rfl, rfl⟩
  · exact conv_range w b o cap l _ rfl hc
  · rw [run_convert_bytes_string w _ _ _ none 0 0 Try.underlying36 Try.underlying5 Try.underlying9]
    rfl

theorem SlIs.grow {w w' : World} {v : Value} {l : List UInt8} (h : SlIs w v l) (hk : Kept [] w w') : SlIs w' v l := by
  rcases h with ⟨b, o, cap, rfl, hb, hc⟩ | h
  · exact .inl ⟨b, o, cap, rfl, Nat.lt_of_lt_of_le hb hk.size, hk.range hb (by simp) hc⟩
  · exact .inr h

set_option maxHeartbeats 400000 in
theorem len_any (a : Nat) (S : DiskS) (w : World) (h : IsDisk w a S) :
    Calls Try.prog 30 #[.pointer (some ⟨a, 0, none⟩)] w fun e w' => e = .returned (.int .i64 S.size) ∧ w = w' := by
  have c2 : w.cell? ⟨a, 0, none⟩ = some (.int .i64 S.size) := h.cell 0
  clear h
  go_enter Try.func30, Try.ntmps30
  go_wp2
  go_ret
  exact ⟨rfl, rfl⟩

/-- What the document's Read hands out, whatever is asked. -/
theorem rread_any (a : Nat) (R : RefS) (i : Int) (w : World) (h : IsRef w a R) (hz : ∀ j : Nat, j < R.n → (R.blk j).length = 64) :
    Calls Try.prog 29 #[.pointer (some ⟨a, 0, none⟩), .int .i64 i] w fun e w' => (∃ v, e = .returned (.tuple #[v, .int .i64 (R.reach i)]) ∧ SlIs w' v (if R.reach i = 0 then R.blk i else [])) ∧ Kept [] w w' := by
  by_cases hr : R.reach i = 0
  · obtain ⟨h0, h1, _⟩ := rreach_zero hr
    obtain ⟨n, rfl⟩ := Int.eq_ofNat_of_zero_le h0
    refine (rread_ok a R n w h hr).mono fun e w' ⟨he, hw⟩ => ?_
    rw [if_pos hr, hr]
    subst hw
    exact ⟨⟨_, he, slIs_new w _ _ _ (hz n (by omega))⟩, Kept.alloc _ _ _⟩
  · refine (rread_away a R i w h hr).mono fun e w' ⟨he, hw⟩ => ?_
    rw [if_neg hr]
    subst hw
    exact ⟨⟨_, he, .inr ⟨rfl, rfl⟩⟩, Kept.refl _ _⟩

set_option maxHeartbeats 4000000 in
set_option maxRecDepth 100000 in
theorem alike_true (ax ay : Nat) (S : DiskS) (R : RefS) (i : Int) (w : World) (hS : IsDisk w ax S) (hR : IsRef w ay R) (hs : Sim S R) :
    Calls Try.prog 22 #[.pointer (some ⟨ax, 0, none⟩), .pointer (some ⟨ay, 0, none⟩), .int .i64 i] w fun e w' => e = .returned (.bool true) ∧ Kept [] w w' := by
  have hz : ∀ j : Nat, j < R.n → (R.blk j).length = 64 := fun j hj => by rw [← hs.blk j hj]; exact hS.blk64 j
  have hrl : S.rdL i = if R.reach i = 0 then R.blk i else [] := by
    unfold DiskS.rdL
    rw [hs.reach i]
    by_cases hr : R.reach i = 0
    · rw [if_pos hr, if_pos hr]
      obtain ⟨h0, h1, _⟩ := rreach_zero hr
      obtain ⟨n, rfl⟩ := Int.eq_ofNat_of_zero_le h0
      exact hs.blk n (by omega)
    · rw [if_neg hr, if_neg hr]
  have HS := Lib.hid hS
  have HR := Lib.hid hR
  have HM := Lib.hid hs
  have HZ := Lib.hid hz
  have HRL := Lib.hid hrl
  clear hS hR hs hz hrl
  go_enter Try.func22, Try.ntmps22
  go_wp2_with fail
  refine (read_any ax S i _ HS.out).mono ?_
  obtain ⟨vx, hvx⟩ : ∃ v, S.rdV i w.heap.size = v := ⟨_, rfl⟩
  obtain ⟨f, hf⟩ : ∃ f, S.reach i = f := ⟨_, rfl⟩
  rw [hvx, hf]
  rintro e w1 ⟨rfl, hw1⟩
  have hk1 : Kept [] w w1 := by rw [hw1]; exact S.rdW_kept _ _ _
  have hsx : SlIs w1 vx (S.rdL i) := by rw [hw1, ← hvx]; exact S.rd_slIs HS.out i
  have HK1 := Lib.hid hk1
  have HSX := Lib.hid hsx
  have HFE := Lib.hid hf
  have H1 := Lib.hid (HR.out.kept hk1 (by simp) (by simp) (by simp))
  clear hvx hf hw1 hk1 hsx
  go_wp2_with fail
  refine (rread_any ay R i _ H1.out HZ.out).mono ?_
  rw [← HRL.out, ← HM.out.reach i, HFE.out]
  rintro e w2 ⟨⟨vy, rfl, hsy⟩, hk2⟩
  obtain ⟨sx, hsxl⟩ : ∃ sx, S.rdL i = sx := ⟨_, rfl⟩
  rw [hsxl] at hsy HSX
  have hS2 := HS.out.kept (HK1.out.trans hk2) (by simp) (by simp)
  have hR2 := HR.out.kept (HK1.out.trans hk2) (by simp) (by simp) (by simp)
  have cvX : ∀ w', Kept [] w2.drew w' → (convert 36 9 vx).run Try.prog w' = .ok (.string (strL sx)) w' := fun w' hk => convL (HSX.out.grow (hk2.trans ((Kept.drew [] w2).trans hk)))
  have cvY : ∀ w', Kept [] w2.drew w' → (convert 36 9 vy).run Try.prog w' = .ok (.string (strL sx)) w' := fun w' hk => convL (hsy.grow ((Kept.drew [] w2).trans hk))
  have k0 : ∀ w', Kept [] w2.drew w' → w'.cell? ⟨ay, 0, none⟩ = some (.slice (some ⟨R.rb, 0, none⟩) R.n R.rcap) := fun w' hk => (hR2.kept ((Kept.drew [] w2).trans hk) (by simp) (by simp) (by simp)).cell 0
  have k1 : ∀ w', Kept [] w2.drew w' → w'.cell? ⟨ay, 1, none⟩ = some (.bool S.off) := fun w' hk => by rw [HM.out.off]; exact (hR2.kept ((Kept.drew [] w2).trans hk) (by simp) (by simp) (by simp)).cell 1
  have k4 : ∀ w', Kept [] w2.drew w' → w'.cell? ⟨ay, 4, none⟩ = some (.int .i64 S.writes) := fun w' hk => by rw [HM.out.writes]; exact (hR2.kept ((Kept.drew [] w2).trans hk) (by simp) (by simp) (by simp)).cell 4
  have HS2 := Lib.hid (hS2.kept (Kept.drew [] w2) (by simp) (by simp))
  have HK2 := Lib.hid (HK1.out.trans hk2)
  have HSZ : Hid (S.size = R.n) := HM.out.size
  clear hsxl hsy hk2 hS2 hR2
  go_wp2_with fail
  refine wp_region_ord ((List.range 12).map (fun k => (true, k)) ++ [(true, 13), (true, 14), (true, 15), (true, 16), (true, 17), (false, 12), (true, 18), (true, 19), (true, 20), (true, 21), (true, 23), (true, 24), (true, 25), (true, 26), (false, 22), (true, 27), (true, 28), (true, 29), (true, 30), (true, 32), (true, 33), (true, 34), (true, 35), (true, 36), (false, 31), (true, 37), (true, 38), (true, 39)]) [] (by kernel_rfl) (fun _ _ d _ _ h => by cases d <;> exact h) (by kernel_rfl) rfl (by kernel_rfl) (by kernel_rfl) ?_
  simp only [List.range, List.range.loop, List.map_cons, List.map_nil, List.cons_append, List.nil_append, named, List.getD_cons_zero, List.getD_cons_succ]
  repeat (apply wpGrow_take; (case hw => rfl); (case hv => intro w' hk; go_simp; with_reducible rfl); simp only [Act.put, List.setIfInBounds_toArray, List.set_cons_zero, List.set_cons_succ])
  refine wpGrow_force (by rfl) (fun K hK => ?_)
  go_simp
  refine (on_any ax S _ HS2.out).mono ?_
  rintro e w3 ⟨rfl, rfl⟩
  refine hK _ _ (Kept.refl _ _) ?_
  clear hK K
  repeat (apply wpGrow_take; (case hw => rfl); (case hv => intro w' hk; go_simp; with_reducible rfl); simp only [Act.put, List.setIfInBounds_toArray, List.set_cons_zero, List.set_cons_succ])
  refine wpGrow_force (by rfl) (fun K hK => ?_)
  go_simp
  refine (writes_any ax S _ HS2.out).mono ?_
  rintro e w3 ⟨rfl, rfl⟩
  refine hK _ _ (Kept.refl _ _) ?_
  clear hK K
  repeat (apply wpGrow_take; (case hw => rfl); (case hv => intro w' hk; go_simp; with_reducible rfl); simp only [Act.put, List.setIfInBounds_toArray, List.set_cons_zero, List.set_cons_succ])
  refine wpGrow_force (by rfl) (fun K hK => ?_)
  go_simp
  refine (len_any ax S _ HS2.out).mono ?_
  rw [HSZ.out]
  rintro e w3 ⟨rfl, rfl⟩
  refine hK _ _ (Kept.refl _ _) ?_
  clear hK K
  repeat (apply wpGrow_take; (case hw => rfl); (case hv => intro w' hk; go_simp; with_reducible rfl); simp only [Act.put, List.setIfInBounds_toArray, List.set_cons_zero, List.set_cons_succ])
  refine wpGrow_nil ?_
  go_wp2_with fail
  go_ret
  exact ⟨rfl, HK2.out.trans (Kept.drew _ _)⟩

end Go.Proofs.Ythhcopipamjelaa

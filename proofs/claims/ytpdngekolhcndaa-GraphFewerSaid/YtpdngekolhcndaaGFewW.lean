/-
  Layer 8: the walk of GraphFewer.
  Conditions: those that each theorem states.
-/
import Derived.Test.YtpdngekolhcndaaGFewP
import Derived.Test.YtpdngekolhcndaaPReg
import Derived.Deep.DeepCutAuto
namespace Go.Proofs.Ytpdngekolhcndaa
open Go.RowKit Go.Maps

set_option maxRecDepth 100000 in
set_option maxHeartbeats 8000000 in
theorem few_walk (n : Int) (L : List Edg) (s : Int) (v : Value) (w : World) (h : EsIs w v L) (hb : -9223372036854775808 ≤ s ∧ s ≤ 9223372036854775807) :
    Calls Try.prog 7 #[.int .i64 n, v, .int .i64 s] w fun e w' => e = .returned (.bool true) ∧ Kept [] w w' := by
  have HE := Lib.hid h
  obtain ⟨ao, cap, rfl, hcap, hc63, hnil, hat⟩ := h.open
  have hlen := h.len
  obtain ⟨m, hm⟩ : ∃ m, L.length = m := ⟨_, rfl⟩
  have HM := Lib.hid hm
  rw [hm] at hlen HE hcap
  rw [hm]
  have HAT : Hid (0 < m → ∃ b o, ao = some ⟨b, o, none⟩) := fun h0 => by
    obtain ⟨b, o, e, _⟩ := hat (by omega)
    exact ⟨b, o, e⟩
  obtain ⟨I, hI, hI63⟩ := normI8 s hb
  have HI := Lib.hid hI
  have HB := Lib.hid hb
  clear h hm hI hb hat hnil
  go_enter Try.func7, Try.ntmps7
  go_wp2_with fail
  refine (shown8_any w).mono ?_
  rintro e w1 ⟨rfl, hk1⟩
  have HK1 := Lib.hid hk1
  clear hk1
  go_wp2_with fail
  refine (order_any n L _ w1 (HE.out.kept HK1.out)).mono ?_
  rintro e w2 ⟨va, vc, c, rfl, H2⟩
  have HK2 : Hid (Kept [] w w2) := HK1.out.trans H2.out.2.2.2.2
  obtain ⟨eo, heo⟩ : ∃ eo, ordE n L = eo := ⟨_, rfl⟩
  have HEO := Lib.hid heo
  rw [heo]
  by_cases h1 : eo = 1
  · subst h1
    go_wp2_with fail
    go_ret
    exact ⟨rfl, HK2.out⟩
  have q1 : (eo == 1) = false := by simpa using h1
  by_cases hm0 : m = 0
  · subst hm0
    clear h1
    go_wp2_with fail
    go_ret
    exact ⟨rfl, HK2.out⟩
  have q2 : ((m : Int) == 0) = false := by rw [beq_eq_false_iff_ne]; omega
  have H1 := Lib.hid h1
  obtain ⟨b, o, rfl⟩ := HAT.out (by omega)
  clear heo h1 HAT
  go_upto_if 41 with (fail)
  go_cut [2] (fun s1 wx => s1 = .int .i64 (I : Int) ∧ Hid (Kept [] w2 wx))
  case first =>
    have hb := HB.out
    obtain ⟨hb1, hb2⟩ := hb
    by_cases hneg : s < 0
    · have e1 : -(s + 1) = (I : Int) := by have := HI.out; rw [if_pos hneg] at this; exact this
      have e2 : IntKind.i64.wrap (s + 1) = s + 1 := by rw [IntKind.wrap_i64]; omega
      have e3 : IntKind.i64.wrap (-(s + 1)) = (I : Int) := by rw [IntKind.wrap_i64]; omega
      go_wp2_with fail
      go_meet
      exact ⟨by first | rfl | (rw [← e1]; first | rfl | (congr 1; omega)), by show Kept [] w2 w2; exact Kept.refl _ _⟩
    · have e1 : s = (I : Int) := by have := HI.out; rw [if_neg hneg] at this; exact this
      subst e1
      go_wp2_with fail
      go_meet
      exact ⟨rfl, by show Kept [] w2 w2; exact Kept.refl _ _⟩
  case rest =>
  obtain ⟨rfl, hk4⟩ := hcut
  obtain ⟨w3, rfl⟩ : ∃ w3, w3 = wc := ⟨_, rfl⟩
  have HK3 : Hid (Kept [] w w3 ∧ NsIs w3 vc c) := ⟨HK2.out.trans hk4.out, H2.out.2.1.kept hk4.out⟩
  have HCY : Hid ((eo ≠ 80 → c = []) ∧ (eo = 80 → Cyc (adjL L) c ∧ ∀ i ∈ c, i < n.toNat)) := by rw [← HEO.out]; exact ⟨H2.out.2.2.1, H2.out.2.2.2.1⟩
  clear hk4 HI HB H2
  obtain ⟨i, hi⟩ : ∃ i, I % m = i := ⟨_, rfl⟩
  have him : i < m := by rw [← hi]; exact Nat.mod_lt _ (by omega)
  have m1 : (I : Int) % (m : Int) = (i : Int) := by rw [← hi]; rfl
  have m2 : Int.tmod (I : Int) (m : Int) = (i : Int) := by rw [Int.tmod_eq_emod_of_nonneg (by omega)]; exact m1
  clear hi
  obtain ⟨j, hj⟩ : ∃ j, i + 1 = j := ⟨_, rfl⟩
  have hjm : j ≤ m := by omega
  have hjc : j ≤ cap := by omega
  have hic : i ≤ cap := by omega
  have hwj : IntKind.i64.wrap ((i : Int) + 1) = (j : Int) := by rw [IntKind.wrap_i64]; omega
  have HIJ := Lib.hid hj
  obtain ⟨sz, hsz⟩ : ∃ sz, w3.heap.size = sz := ⟨_, rfl⟩
  have key : ∀ s2 : Value, (∀ w', Kept [] w3 w' → EsIs w' s2 (L.drop j)) → ∃ v5 w5 v6 w6, (Builtin.append_ #[22, 22] 22 #[.slice (some ⟨sz, 0, none⟩) 0 0, .slice (some ⟨b, o, none⟩) i cap]).run Try.prog (w3.drew.alloc (.cells #[] 32)) = .ok v5 w5 ∧ Kept [sz, sz + 1] (w3.drew.alloc (.cells #[] 32)) w5 ∧
      (Builtin.append_ #[22, 22] 22 #[v5, s2]).run Try.prog w5 = .ok v6 w6 ∧ Kept [sz, sz + 1] w5 w6 ∧ Hid (EsIs w6 v6 (L.take i ++ L.drop j) ∧ Kept [] w3 w6) := by
    intro s2 hs2
    have ho0 := OwnE.empty w3.drew sz (by rw [← hsz]; exact Nat.le_refl _)
    have hsd : w3.drew.heap.size = sz := hsz
    rw [hsd] at ho0
    obtain ⟨wa, hwa⟩ : ∃ wa, w3.drew.alloc (.cells #[] 32) = wa := ⟨_, rfl⟩
    have hka : Kept [] w3 wa := by rw [← hwa]; exact (Kept.drew [] w3).trans (Kept.alloc _ _ _)
    have hsa : wa.heap.size = sz + 1 := by rw [← hwa, size_alloc, hsd]
    rw [hwa] at ho0 ⊢
    have hL := HM.out
    have hE3 := HE.out.kept HK3.out.1
    have htl : (L.take i).length = i := by rw [List.length_take]; omega
    have hdl : (L.drop j).length = m - j := by rw [List.length_drop]; omega
    obtain ⟨v5, w5, r5, o5, k5, b5⟩ := ho0.appS (by omega) ((hE3.take hL i (by omega)).kept hka) (by rw [htl]; simp; omega)
    have hk5 : Kept [sz] wa w5 := k5
    have hw5 : Kept [] w3 w5 := hka.into hk5 (by simp; omega)
    have hs5 : sz + 1 ≤ w5.heap.size := by rw [← hsa]; exact k5.size
    obtain ⟨v6, w6, r6, o6, k6, _⟩ := o5.appS (by omega) (hs2 w5 hw5) (by simp only [List.length_append, List.length_nil, htl, hdl]; omega)
    have hb5 : ∀ q ∈ v5.ownBlock.toList, q = sz ∨ q = sz + 1 := fun q hq => by
      have hq : v5.ownBlock = some q := by simpa using hq
      rcases b5 with e | e
      · rw [hq] at e; injection e with e; exact .inl e
      · rw [hq, hsa] at e; injection e with e; exact .inr e
    refine ⟨v5, w5, v6, w6, r5, hk5.mono (by simp), r6, k6.mono (fun q hq _ => by rcases hb5 q hq with e | e <;> simp [e]), ?_, ?_⟩
    · have := o6.es; simpa using this
    · exact hw5.into k6 (fun q hq => by have := (o5.blk q (by simpa using hq)).1; omega)
  have KEY := Lib.hid key
  have HE3 := Lib.hid (HE.out.kept HK3.out.1)
  clear key hj m1
  go_upto_region 8 with (fail)
  clear m2
  go_cut [11] (fun s11 wx => Hid (EsIs wx s11 (L.take i ++ L.drop j) ∧ Kept [] w3 wx))
  case first =>
    by_cases hcj : cap = j
    · have hdr : L.drop j = [] := List.drop_of_length_le (by rw [HM.out]; omega)
      have hmj : m = j := by omega
      subst hcj
      subst hmj
      obtain ⟨v5, w5, v6, w6, r5, k5, r6, k6, H6⟩ := KEY.out (.slice (some ⟨b, o, none⟩) 0 0) (fun w' hk => by rw [hdr]; exact EsIs.none0 _ _ _ (fun e => by cases e) (by omega))
      have HR5 := Lib.hid r5
      have HR6 := Lib.hid r6
      have HK5 := Lib.hid k5
      have HK6 := Lib.hid k6
      clear r5 r6 k5 k6 KEY hdr
      refine wp_region_ord [(true, 1), (true, 2), (true, 3), (true, 5), (true, 6), (true, 7), (true, 8), (false, 0), (false, 4), (false, 9), (true, 10)] [sz, sz + 1] (by kernel_rfl) (fun _ _ d _ _ h => by cases d <;> exact h) (by kernel_rfl) rfl (by kernel_rfl) (by kernel_rfl) ?_
      simp only [named, List.getD_cons_zero, List.getD_cons_succ]
      repeat (first | (apply wpGrow_take; (case hw => rfl); (case hv => intro w' hk; go_simp; with_reducible rfl); simp only [Act.put, List.setIfInBounds_toArray, List.set_cons_zero, List.set_cons_succ]) | (refine wpGrow_pass (by rfl) ?_; simp only [Act.put, List.setIfInBounds_toArray, List.set_cons_zero, List.set_cons_succ]) | (refine wpGrow_skip (by rfl) ?_; simp only [Act.put, List.setIfInBounds_toArray, List.set_cons_zero, List.set_cons_succ]))
      refine wpGrow_force (by rfl) (fun K hK => ?_)
      go_simp
      refine hK _ _ (Kept.alloc _ _ _) ?_
      clear hK K
      refine wpGrow_force (by rfl) (fun K hK => ?_)
      refine wp_append_run _ _ _ rfl _ _ _ rfl rfl HR5.out ?_
      refine hK _ _ HK5.out ?_
      clear hK K
      repeat (first | (apply wpGrow_take; (case hw => rfl); (case hv => intro w' hk; go_simp; with_reducible rfl); simp only [Act.put, List.setIfInBounds_toArray, List.set_cons_zero, List.set_cons_succ]) | (refine wpGrow_pass (by rfl) ?_; simp only [Act.put, List.setIfInBounds_toArray, List.set_cons_zero, List.set_cons_succ]) | (refine wpGrow_skip (by rfl) ?_; simp only [Act.put, List.setIfInBounds_toArray, List.set_cons_zero, List.set_cons_succ]))
      refine wpGrow_force (by rfl) (fun K hK => ?_)
      refine wp_append_run _ _ _ rfl _ _ _ rfl rfl HR6.out ?_
      refine hK _ _ HK6.out ?_
      clear hK K
      repeat (first | (apply wpGrow_take; (case hw => rfl); (case hv => intro w' hk; go_simp; with_reducible rfl); simp only [Act.put, List.setIfInBounds_toArray, List.set_cons_zero, List.set_cons_succ]) | (refine wpGrow_pass (by rfl) ?_; simp only [Act.put, List.setIfInBounds_toArray, List.set_cons_zero, List.set_cons_succ]) | (refine wpGrow_skip (by rfl) ?_; simp only [Act.put, List.setIfInBounds_toArray, List.set_cons_zero, List.set_cons_succ]))
      refine wpGrow_nil ?_
      go_wp2_with fail
      go_meet
      exact H6
    · obtain ⟨v5, w5, v6, w6, r5, k5, r6, k6, H6⟩ := KEY.out (.slice (some ⟨b, o + j * 3, none⟩) (m - j) (cap - j)) (fun w' hk => (HE3.out.kept hk).drop HM.out j hjm)
      have HR5 := Lib.hid r5
      have HR6 := Lib.hid r6
      have HK5 := Lib.hid k5
      have HK6 := Lib.hid k6
      clear r5 r6 k5 k6 KEY
      refine wp_region_ord [(true, 1), (true, 2), (true, 3), (true, 5), (true, 6), (true, 7), (true, 8), (false, 0), (false, 4), (false, 9), (true, 10)] [sz, sz + 1] (by kernel_rfl) (fun _ _ d _ _ h => by cases d <;> exact h) (by kernel_rfl) rfl (by kernel_rfl) (by kernel_rfl) ?_
      simp only [named, List.getD_cons_zero, List.getD_cons_succ]
      repeat (first | (apply wpGrow_take; (case hw => rfl); (case hv => intro w' hk; go_simp; with_reducible rfl); simp only [Act.put, List.setIfInBounds_toArray, List.set_cons_zero, List.set_cons_succ]) | (refine wpGrow_pass (by rfl) ?_; simp only [Act.put, List.setIfInBounds_toArray, List.set_cons_zero, List.set_cons_succ]) | (refine wpGrow_skip (by rfl) ?_; simp only [Act.put, List.setIfInBounds_toArray, List.set_cons_zero, List.set_cons_succ]))
      refine wpGrow_force (by rfl) (fun K hK => ?_)
      go_simp
      refine hK _ _ (Kept.alloc _ _ _) ?_
      clear hK K
      refine wpGrow_force (by rfl) (fun K hK => ?_)
      refine wp_append_run _ _ _ rfl _ _ _ rfl rfl HR5.out ?_
      refine hK _ _ HK5.out ?_
      clear hK K
      repeat (first | (apply wpGrow_take; (case hw => rfl); (case hv => intro w' hk; go_simp; with_reducible rfl); simp only [Act.put, List.setIfInBounds_toArray, List.set_cons_zero, List.set_cons_succ]) | (refine wpGrow_pass (by rfl) ?_; simp only [Act.put, List.setIfInBounds_toArray, List.set_cons_zero, List.set_cons_succ]) | (refine wpGrow_skip (by rfl) ?_; simp only [Act.put, List.setIfInBounds_toArray, List.set_cons_zero, List.set_cons_succ]))
      refine wpGrow_force (by rfl) (fun K hK => ?_)
      refine wp_append_run _ _ _ rfl _ _ _ rfl rfl HR6.out ?_
      refine hK _ _ HK6.out ?_
      clear hK K
      repeat (first | (apply wpGrow_take; (case hw => rfl); (case hv => intro w' hk; go_simp; with_reducible rfl); simp only [Act.put, List.setIfInBounds_toArray, List.set_cons_zero, List.set_cons_succ]) | (refine wpGrow_pass (by rfl) ?_; simp only [Act.put, List.setIfInBounds_toArray, List.set_cons_zero, List.set_cons_succ]) | (refine wpGrow_skip (by rfl) ?_; simp only [Act.put, List.setIfInBounds_toArray, List.set_cons_zero, List.set_cons_succ]))
      refine wpGrow_nil ?_
      go_wp2_with fail
      go_meet
      exact H6
  case rest =>
  obtain ⟨w4, rfl⟩ : ∃ w4, w4 = wc := ⟨_, rfl⟩
  obtain ⟨B, hB⟩ : ∃ B, L.take i ++ L.drop j = B := ⟨_, rfl⟩
  rw [hB] at hcut
  have HBL : Hid (∀ x ∈ B, x ∈ L) := fun x hx => by
    rw [← hB] at hx
    rcases List.mem_append.1 hx with h | h
    · exact List.mem_of_mem_take h
    · exact List.mem_of_mem_drop h
  have HK4 : Hid (Kept [] w w4 ∧ NsIs w4 vc c) := ⟨HK3.out.1.trans hcut.out.2, HK3.out.2.kept hcut.out.2⟩
  have HE4 : Hid (EsIs w4 u11 B) := hcut.out.1
  clear KEY hB hcut HE3 hsz hwj hjm hjc hic him hcap
  go_wp2_with fail
  refine (order_any n B _ w4 HE4.out).mono ?_
  rintro e w5 ⟨vp, vq, c2, rfl, H5⟩
  have HK5 : Hid (Kept [] w w5 ∧ NsIs w5 vc c) := ⟨HK4.out.1.trans H5.out.2.2.2.2, HK4.out.2.kept H5.out.2.2.2.2⟩
  obtain ⟨eb, heb⟩ : ∃ eb, ordE n B = eb := ⟨_, rfl⟩
  have HEB := Lib.hid heb
  rw [heb]
  clear heb H5
  by_cases h0 : eo = 0
  · have heb : eb = 0 := by rw [← HEB.out]; exact sub_yes (by rw [HEO.out, h0]) HBL.out
    subst heb
    subst h0
    go_wp2_with fail
    go_ret
    exact ⟨rfl, HK5.out.1⟩
  have h80 : eo = 80 := by
    have := ordE_vals n L
    rw [HEO.out] at this
    have := H1.out
    omega
  subst h80
  have hcy := HCY.out.2 rfl
  have HGO : Hid (GOk n L) := by
    refine Classical.byContradiction fun hh => ?_
    have := ordE_bad.2 hh
    rw [HEO.out] at this
    cases this
  have HNO : Hid (ordE n (cycE c) = 80) := cyc_no HGO.out hcy.1 hcy.2
  have HYC := Lib.hid hcy.1
  have hcl := HK5.out.2.len
  have hc0 := hcy.1.ne
  obtain ⟨ca, cc, rfl, _, _, hcc⟩ := HK5.out.2.open
  have HCC := Lib.hid hcc
  obtain ⟨z, hz⟩ : ∃ z, c.length = z := ⟨_, rfl⟩
  have HZ := Lib.hid hz
  rw [hz] at hcl hc0
  rw [hz]
  clear hcc hz hcy h0 HCY
  have hz0 : ¬ z = 0 := by omega
  obtain ⟨w6, hw6⟩ : ∃ w6, w5.alloc (.cells #[] 32) = w6 := ⟨_, rfl⟩
  have HO6 : Hid (OwnE w5.heap.size w6 (.slice (some ⟨w5.heap.size, 0, none⟩) 0 0) []) := by rw [← hw6]; exact OwnE.empty w5 _ (Nat.le_refl _)
  have HK6 : Hid (Kept [] w5 w6 ∧ w5.heap.size ≤ w6.heap.size) := by rw [← hw6]; exact ⟨Kept.alloc _ _ _, by rw [size_alloc]; omega⟩
  go_wp2_with fail
  clear hw6
  go_loopw [15, 16] (fun v i wr => ∃ (k : Nat), k ≤ z ∧ i = .int .i64 k ∧ (∃ g, v.ownBlock = some g) ∧ Hid (OwnE w5.heap.size wr v ((cycE c).take k) ∧ Kept [] w5 wr)) (fun _ i _ => z - (intOf i).toNat)
  case atStart => exact ⟨0, by omega, rfl, ⟨_, rfl⟩, HO6.out, HK6.out.1⟩
  case round =>
    clear HO6 HK6
    obtain ⟨k, hk, rfl, ⟨g, hg⟩, HS⟩ := hrel
    by_cases hlt : k < z
    · have hkc : k < c.length := by rw [HZ.out]; exact hlt
      obtain ⟨q, hq⟩ : ∃ q, (k + 1) % z = q := ⟨_, rfl⟩
      have hqz : q < z := by rw [← hq]; exact Nat.mod_lt _ (by omega)
      have hqc : q < c.length := by rw [HZ.out]; exact hqz
      obtain ⟨cb, co, rfl, hcb, hcv⟩ := HCC.out (by omega)
      have hgs := HS.out.1.blk g hg
      obtain ⟨sz, hsz⟩ : ∃ sz, wr.heap.size = sz := ⟨_, rfl⟩
      have hws := HS.out.2.size
      obtain ⟨x, hx⟩ : ∃ x, c[k] = x := ⟨_, rfl⟩
      obtain ⟨y, hy⟩ : ∃ y, c[q] = y := ⟨_, rfl⟩
      have z0 : ∀ w', Kept [g, sz] wr.drew w' → w'.cell? ⟨cb, co + k, none⟩ = some (.int .i64 x) := fun w' hk2 => by
        have h1 := (HS.out.2.trans (Kept.drew _ _)).cell (p := ⟨cb, co + k, none⟩) hcb (by simp)
        have h2 := hk2.cell (p := ⟨cb, co + k, none⟩) (by show cb < wr.heap.size; omega) (by simp; omega)
        rw [h2, h1, hcv k hkc, hx]
      have z1 : ∀ w', Kept [g, sz] wr.drew w' → w'.cell? ⟨cb, co + q, none⟩ = some (.int .i64 y) := fun w' hk2 => by
        have h1 := (HS.out.2.trans (Kept.drew _ _)).cell (p := ⟨cb, co + q, none⟩) hcb (by simp)
        have h2 := hk2.cell (p := ⟨cb, co + q, none⟩) (by show cb < wr.heap.size; omega) (by simp; omega)
        rw [h2, h1, hcv q hqc, hy]
      have m1 : ((k : Int) + 1) % (z : Int) = (q : Int) := by rw [← hq]; rfl
      have m2 : (IntKind.i64.wrap ((k : Int) + 1)).tmod (z : Int) = (q : Int) := by rw [show IntKind.i64.wrap ((k : Int) + 1) = (k : Int) + 1 by rw [IntKind.wrap_i64]; omega, Int.tmod_eq_emod_of_nonneg (by omega)]; exact m1
      have hlk : ((cycE c).take k).length = k := by rw [List.length_take, cycE_length, HZ.out]; omega
      obtain ⟨v4, w8, hrun, hown, hap, hk8⟩ := (HS.out.1.kept (Kept.drew [] wr)).app (by show w5.heap.size ≤ wr.heap.size; omega) ⟨(x : Int), (y : Int), false⟩ (by rw [hlk]; omega)
      have hsd : wr.drew.heap.size = sz := hsz
      rw [hsd] at hrun
      have HRUN := Lib.hid hrun
      have HNX : Hid ((cycE c).take (k + 1) = (cycE c).take k ++ [⟨(x : Int), (y : Int), false⟩]) := by
        show _ = _
        have hk3 : k < (cycE c).length := by rw [cycE_length]; exact hkc
        rw [List.take_succ_eq_append_getElem hk3, cycE_get, HZ.out, hq, List.getD_eq_getElem?_getD, List.getD_eq_getElem?_getD, List.getElem?_eq_getElem hkc, List.getElem?_eq_getElem hqc, hx, hy]
        rfl
      have hg4 : ∃ g', v4.ownBlock = some g' := by
        rcases hap.own with e | ⟨g', e, _⟩
        · exact ⟨g, by rw [e, hg]⟩
        · exact ⟨g', e⟩
      have HN : Hid (OwnE w5.heap.size w8 v4 ((cycE c).take (k + 1)) ∧ Kept [] w5 w8) := by
        rw [HNX.out]
        refine ⟨hown, (HS.out.2.trans (Kept.drew [] wr)).into hap.kept (fun b hb => ?_)⟩
        have := (HS.out.1.blk b (by simpa using hb)).1
        exact this
      have HK8 : Hid (Kept [g, sz] (wr.drew.alloc (.cells #[.int .i64 (x : Int), .int .i64 (y : Int), .bool false] 32)) w8) := hk8.mono (fun b hb _ => by rw [hg] at hb; simp at hb; simp [hb])
      have hso : ∃ oa oc, u15 = .slice oa k oc := by
        obtain ⟨oa, oc, e⟩ := HS.out.1.slice
        rw [hlk] at e
        exact ⟨oa, oc, e⟩
      clear hrun hown hap hk8 hx hy hcv hcb hgs hws hq m1 hlk hsd
      go_wp2_with fail
      refine wp_region_ord [(true, 0), (true, 1), (true, 2), (true, 3), (true, 4), (true, 5), (true, 6), (true, 7), (true, 8), (true, 9), (true, 10), (true, 11), (true, 12), (true, 13), (false, 14), (false, 15), (true, 16)] [g, sz] (by kernel_rfl) (fun _ _ d _ _ h => by cases d <;> exact h) (by kernel_rfl) rfl (by kernel_rfl) (by kernel_rfl) ?_
      simp only [named, List.getD_cons_zero, List.getD_cons_succ]
      repeat (first | (apply wpGrow_take; (case hw => rfl); (case hv => intro w' hk; go_simp; with_reducible rfl); simp only [Act.put, List.setIfInBounds_toArray, List.set_cons_zero, List.set_cons_succ]) | (refine wpGrow_pass (by rfl) ?_; simp only [Act.put, List.setIfInBounds_toArray, List.set_cons_zero, List.set_cons_succ]) | (refine wpGrow_skip (by rfl) ?_; simp only [Act.put, List.setIfInBounds_toArray, List.set_cons_zero, List.set_cons_succ]))
      refine wpGrow_force (by rfl) (fun K hK => ?_)
      go_simp
      refine hK _ _ (Kept.alloc _ _ _) ?_
      clear hK K
      refine wpGrow_force (by rfl) (fun K hK => ?_)
      refine wp_append_run _ _ _ rfl _ _ _ rfl rfl HRUN.out ?_
      refine hK _ _ HK8.out ?_
      clear hK K
      repeat (first | (apply wpGrow_take; (case hw => rfl); (case hv => intro w' hk; go_simp; with_reducible rfl); simp only [Act.put, List.setIfInBounds_toArray, List.set_cons_zero, List.set_cons_succ]) | (refine wpGrow_pass (by rfl) ?_; simp only [Act.put, List.setIfInBounds_toArray, List.set_cons_zero, List.set_cons_succ]) | (refine wpGrow_skip (by rfl) ?_; simp only [Act.put, List.setIfInBounds_toArray, List.set_cons_zero, List.set_cons_succ]))
      refine wpGrow_nil ?_
      clear z0 z1 m2
      go_wp2_with fail
      go_roundw
      case rel => exact ⟨k + 1, by omega, by go_num, hg4, HN⟩
      case measure => simp [intOf]; omega
    · have HF : Hid (EsIs wr u15 (cycE c) ∧ Kept [] w wr) := by
        have h1 := HS.out.1.es
        rw [List.take_of_length_le (by rw [cycE_length, HZ.out]; omega)] at h1
        exact ⟨h1, HK5.out.1.trans HS.out.2⟩
      go_wp2_with fail
      refine (order_any n (cycE c) _ wr HF.out.1).mono ?_
      rintro e w9 ⟨v1, v2, c9, rfl, H9⟩
      rw [HNO.out]
      have HK9 : Hid (Kept [] w w9) := HF.out.2.trans H9.out.2.2.2.2
      go_wp2_with fail
      go_ret
      exact ⟨rfl, HK9.out⟩
end Go.Proofs.Ytpdngekolhcndaa

/-
  Layer 7: the walks of CatalogFinds and CatalogUnlike.
  Conditions: those that each theorem states.
-/
import Derived.Test.YteanhjfdpjekbaaDoorKShown
import Derived.Test.YteanhjfdpjekbaaDoorKSame
namespace Go.Proofs.YteanhjfdpjekbaaDoor
open Go.RowKit Go.Maps
set_option maxRecDepth 100000

set_option maxRecDepth 100000 in
set_option maxHeartbeats 8000000 in
theorem finds_walk (c : Cat) (t ti : List UInt8) (v : Value) (w : World) (h : CatIs w v c) (ht : TysIs w) :
    Calls Tryd.prog 3 #[v, .string (strL t), .string (strL ti)] w fun e w' => e = .returned (.bool true) ∧ Kept [] w w' := by
  have HH := Lib.hid h
  obtain ⟨ra, rc, ea, ec, rfl, hb⟩ := h.box
  have hl := hb.rs.len
  obtain ⟨n, hn⟩ : ∃ n, c.R.length = n := ⟨_, rfl⟩
  obtain ⟨m, hm⟩ : ∃ m, c.E.length = m := ⟨_, rfl⟩
  obtain ⟨vv, hvv⟩ : ∃ vv, c.ver = vv := ⟨_, rfl⟩
  obtain ⟨nd, hnd⟩ : ∃ nd, strL c.node = nd := ⟨_, rfl⟩
  have hA := Kept.alloc [] w (.cells #[.int .i64 c.ver, .string (strL c.node), .slice ra c.R.length rc, .slice ea c.E.length ec] 25)
  obtain ⟨w1, hw1⟩ : ∃ w1, w.alloc (.cells #[.int .i64 c.ver, .string (strL c.node), .slice ra c.R.length rc, .slice ea c.E.length ec] 25) = w1 := ⟨_, rfl⟩
  rw [hw1] at hb hA
  have HB := Lib.hid hb
  have HA := Lib.hid hA
  have HRS : Hid (RsIs w1 (.slice ra n rc) c.R) := by show RsIs _ _ _; rw [← hn]; exact hb.rs
  have HC : Hid (∀ w', Kept [] w1 w' → w'.cell? ⟨w.heap.size, 0, none⟩ = some (.int .i64 vv) ∧ w'.cell? ⟨w.heap.size, 1, none⟩ = some (.string nd) ∧ w'.cell? ⟨w.heap.size, 2, none⟩ = some (.slice ra n rc) ∧ w'.cell? ⟨w.heap.size, 3, none⟩ = some (.slice ea m ec)) := fun w' hk => by
    rw [← hn, ← hm, ← hvv, ← hnd]
    exact ⟨(HB.out.kept hk).c0, (HB.out.kept hk).c1, (HB.out.kept hk).c2, (HB.out.kept hk).c3⟩
  rw [hn, hm, hvv, hnd] at hw1 HH
  rw [hn] at hl
  rw [hn, hm, hvv, hnd]
  have HN := Lib.hid hn
  have HTY : Hid (∀ w', Kept [] w w' → TysIs w') := fun w' hk => ht.kept hk
  have HCI : Hid (∀ w', Kept [] w1 w' → CatIs w' (.agg #[.int .i64 vv, .string nd, .slice ra n rc, .slice ea m ec]) c) := fun w' hk => HH.out.kept (HA.out.trans hk)
  obtain ⟨f, hf⟩ : ∃ f, findO c.R t ti = f := ⟨_, rfl⟩
  have HF1 : Hid (∀ w', Kept [] w1 w' → Calls Tryd.prog 8 #[.agg #[.int .i64 vv, .string nd, .slice ra n rc, .slice ea m ec], .string (strL t), .string (strL ti)] w' fun e w2 => e = .returned (.int .i64 f) ∧ Kept [] w' w2) := fun w' hk => by rw [← hf]; exact Find_any c t ti _ w' (HCI.out w' hk)
  have HF2 : Hid (∀ w', Kept [] w1 w' → Calls Tryd.prog 9 #[.agg #[.int .i64 vv, .string nd, .slice ra n rc, .slice ea m ec], .string (strL t), .string (strL ti)] w' fun e w2 => e = .returned (.int .i64 f) ∧ Kept [] w' w2) := fun w' hk => by rw [← hf]; exact rcFind_any c t ti _ w' (HCI.out w' hk)
  obtain ⟨p, hp⟩ : ∃ p, checkO c = p := ⟨_, rfl⟩
  have HCK : Hid (∀ w', Kept [] w1 w' → Calls Tryd.prog 10 #[.agg #[.int .i64 vv, .string nd, .slice ra n rc, .slice ea m ec]] w' fun e w2 => e = .returned (.int .i64 p) ∧ Kept [] w' w2) := fun w' hk => by rw [← hp]; exact Check_any c _ w' (HCI.out w' hk) (HTY.out w' (HA.out.trans hk))
  have HP := Lib.hid hp
  have HSH := Lib.hid (shown7_any w1 (HTY.out w1 HA.out))
  clear h ht hb hA hn hm hvv hnd hf hp
  go_enter Tryd.func3, Tryd.ntmps3
  go_wp2_with fail
  refine HSH.out.mono ?_
  rintro e w2 ⟨rfl, hk2⟩
  have HK2 := Lib.hid hk2
  clear hk2 hw1
  have z0 : ∀ w', Kept [] w2.drew w' → w'.cell? ⟨w.heap.size, 0, none⟩ = some (.int .i64 vv) := fun w' hk => (HC.out w' (HK2.out.trans ((Kept.drew [] _).trans hk))).1
  have z1 : ∀ w', Kept [] w2.drew w' → w'.cell? ⟨w.heap.size, 1, none⟩ = some (.string nd) := fun w' hk => (HC.out w' (HK2.out.trans ((Kept.drew [] _).trans hk))).2.1
  have z2 : ∀ w', Kept [] w2.drew w' → w'.cell? ⟨w.heap.size, 2, none⟩ = some (.slice ra n rc) := fun w' hk => (HC.out w' (HK2.out.trans ((Kept.drew [] _).trans hk))).2.2.1
  have z3 : ∀ w', Kept [] w2.drew w' → w'.cell? ⟨w.heap.size, 3, none⟩ = some (.slice ea m ec) := fun w' hk => (HC.out w' (HK2.out.trans ((Kept.drew [] _).trans hk))).2.2.2
  go_wp2_with fail
  refine wp_region_ord [(true, 0), (true, 1), (true, 2), (true, 3), (true, 4), (true, 5), (true, 7), (true, 8), (true, 9), (false, 6), (false, 10), (true, 11), (true, 12)] [] (by kernel_rfl) (fun _ _ d _ _ h => by cases d <;> exact h) (by kernel_rfl) rfl (by kernel_rfl) (by kernel_rfl) ?_
  simp only [named, List.getD_cons_zero, List.getD_cons_succ]
  repeat (first | (apply wpGrow_take; (case hw => rfl); (case hv => intro w' hk; go_simp; with_reducible rfl); simp only [Act.put, List.setIfInBounds_toArray, List.set_cons_zero, List.set_cons_succ]) | (refine wpGrow_pass (by rfl) ?_; simp only [Act.put, List.setIfInBounds_toArray, List.set_cons_zero, List.set_cons_succ]) | (refine wpGrow_skip (by rfl) ?_; simp only [Act.put, List.setIfInBounds_toArray, List.set_cons_zero, List.set_cons_succ]))
  clear z0 z1 z2 z3
  refine wpGrow_force (by rfl) (fun K hK => ?_)
  go_simp
  refine (HF1.out _ (HK2.out.trans (Kept.drew [] _))).mono ?_
  rintro e w3 ⟨rfl, hk3⟩
  have HK3 : Hid (Kept [] w1 w3) := HK2.out.trans ((Kept.drew [] _).trans hk3)
  refine hK _ _ hk3 ?_
  clear hK K hk3
  repeat (first | (apply wpGrow_take; (case hw => rfl); (case hv => intro w' hk; go_simp; with_reducible rfl); simp only [Act.put, List.setIfInBounds_toArray, List.set_cons_zero, List.set_cons_succ]) | (refine wpGrow_pass (by rfl) ?_; simp only [Act.put, List.setIfInBounds_toArray, List.set_cons_zero, List.set_cons_succ]) | (refine wpGrow_skip (by rfl) ?_; simp only [Act.put, List.setIfInBounds_toArray, List.set_cons_zero, List.set_cons_succ]))
  refine wpGrow_force (by rfl) (fun K hK => ?_)
  go_simp
  refine (HF2.out _ HK3.out).mono ?_
  rintro e w4 ⟨rfl, hk4⟩
  have HK4 : Hid (Kept [] w1 w4) := HK3.out.trans hk4
  refine hK _ _ hk4 ?_
  clear hK K hk4
  repeat (first | (apply wpGrow_take; (case hw => rfl); (case hv => intro w' hk; go_simp; with_reducible rfl); simp only [Act.put, List.setIfInBounds_toArray, List.set_cons_zero, List.set_cons_succ]) | (refine wpGrow_pass (by rfl) ?_; simp only [Act.put, List.setIfInBounds_toArray, List.set_cons_zero, List.set_cons_succ]) | (refine wpGrow_skip (by rfl) ?_; simp only [Act.put, List.setIfInBounds_toArray, List.set_cons_zero, List.set_cons_succ]))
  refine wpGrow_nil ?_
  obtain ⟨c0, c1, c2, c3⟩ := HC.out w4 HK4.out
  go_wp2_with fail
  refine (HCK.out _ HK4.out).mono ?_
  rintro e w5 ⟨rfl, hk5⟩
  have HK5 : Hid (Kept [] w1 w5) := HK4.out.trans hk5
  clear hk5 c0 c1 c2 c3
  by_cases h0 : p = 0
  case neg =>
    have q0 : (p != 0) = true := by simpa using h0
    go_wp2_with fail
    go_ret
    exact ⟨rfl, HA.out.trans HK5.out⟩
  subst h0
  go_wp2_with fail
  go_loopw [8] (fun i wr => ∃ k : Nat, k ≤ n ∧ i = .int .i64 k ∧ Hid (Kept [] w1 wr)) (fun i _ => n - (intOf i).toNat)
  case atStart => exact ⟨0, by omega, rfl, HK5⟩
  case round =>
    clear HK5 HK4 HK3 HK2
    obtain ⟨k, hk, rfl, HW⟩ := hrel
    obtain ⟨c0, c1, c2, c3⟩ := HC.out wr HW.out
    by_cases hlt : k < n
    case neg =>
      go_wp2_with fail
      go_ret
      exact ⟨rfl, HA.out.trans HW.out⟩
    have hkr : k < c.R.length := by rw [HN.out]; exact hlt
    obtain ⟨r, hr⟩ : ∃ r, c.R[k] = r := ⟨_, rfl⟩
    have hfk : findO c.R r.t r.ti = k := by rw [← hr]; exact findO_at HP.out k hkr
    have HFK : Hid (∀ w', Kept [] w1 w' → Calls Tryd.prog 8 #[.agg #[.int .i64 vv, .string nd, .slice ra n rc, .slice ea m ec], .string (strL r.t), .string (strL r.ti)] w' fun e w2 => e = .returned (.int .i64 k) ∧ Kept [] w' w2) := fun w' hk => by rw [← hfk]; exact Find_any c r.t r.ti _ w' (HCI.out w' hk)
    obtain ⟨b, o, u, rfl, hb, hu, f0, f1, _⟩ := HRS.out.pick k hkr r hr
    have z0 : ∀ w', Kept [] wr.drew w' → w'.cell? ⟨w.heap.size, 0, none⟩ = some (.int .i64 vv) := fun w' hk => (HC.out w' (HW.out.trans ((Kept.drew [] _).trans hk))).1
    have z1 : ∀ w', Kept [] wr.drew w' → w'.cell? ⟨w.heap.size, 1, none⟩ = some (.string nd) := fun w' hk => (HC.out w' (HW.out.trans ((Kept.drew [] _).trans hk))).2.1
    have z2 : ∀ w', Kept [] wr.drew w' → w'.cell? ⟨w.heap.size, 2, none⟩ = some (.slice (some ⟨b, o, none⟩) n rc) := fun w' hk => (HC.out w' (HW.out.trans ((Kept.drew [] _).trans hk))).2.2.1
    have z3 : ∀ w', Kept [] wr.drew w' → w'.cell? ⟨w.heap.size, 3, none⟩ = some (.slice ea m ec) := fun w' hk => (HC.out w' (HW.out.trans ((Kept.drew [] _).trans hk))).2.2.2
    have z4 : ∀ w', Kept [] wr.drew w' → w'.cell? ⟨b, o + k * 3, none⟩ = some (.string (strL r.t)) := fun w' hk => ((HW.out.trans ((Kept.drew [] _).trans hk)).cell (p := ⟨b, o + k * 3, none⟩) hb (by simp)).trans f0
    have z5 : ∀ w', Kept [] wr.drew w' → w'.cell? ⟨b, o + k * 3 + 1, none⟩ = some (.string (strL r.ti)) := fun w' hk => ((HW.out.trans ((Kept.drew [] _).trans hk)).cell (p := ⟨b, o + k * 3 + 1, none⟩) hb (by simp)).trans f1
    clear hr hfk hu f0 f1
    go_wp2_with fail
    clear c0 c1 c2 c3
    refine wp_region_ord [(true, 0), (true, 1), (true, 2), (true, 3), (true, 4), (true, 5), (true, 6), (true, 7), (true, 8), (true, 9), (true, 10), (true, 11), (true, 12), (true, 14), (false, 13), (true, 15)] [] (by kernel_rfl) (fun _ _ d _ _ h => by cases d <;> exact h) (by kernel_rfl) rfl (by kernel_rfl) (by kernel_rfl) ?_
    simp only [named, List.getD_cons_zero, List.getD_cons_succ]
    repeat (first | (apply wpGrow_take; (case hw => rfl); (case hv => intro w' hk; go_simp; with_reducible rfl); simp only [Act.put, List.setIfInBounds_toArray, List.set_cons_zero, List.set_cons_succ]) | (refine wpGrow_pass (by rfl) ?_; simp only [Act.put, List.setIfInBounds_toArray, List.set_cons_zero, List.set_cons_succ]) | (refine wpGrow_skip (by rfl) ?_; simp only [Act.put, List.setIfInBounds_toArray, List.set_cons_zero, List.set_cons_succ]))
    clear z0 z1 z2 z3 z4 z5
    refine wpGrow_force (by rfl) (fun K hK => ?_)
    go_simp
    refine (HFK.out _ (HW.out.trans (Kept.drew [] _))).mono ?_
    rintro e w6 ⟨rfl, hk6⟩
    have HK6 : Hid (Kept [] w1 w6) := HW.out.trans ((Kept.drew [] _).trans hk6)
    refine hK _ _ hk6 ?_
    clear hK K hk6
    repeat (first | (apply wpGrow_take; (case hw => rfl); (case hv => intro w' hk; go_simp; with_reducible rfl); simp only [Act.put, List.setIfInBounds_toArray, List.set_cons_zero, List.set_cons_succ]) | (refine wpGrow_pass (by rfl) ?_; simp only [Act.put, List.setIfInBounds_toArray, List.set_cons_zero, List.set_cons_succ]) | (refine wpGrow_skip (by rfl) ?_; simp only [Act.put, List.setIfInBounds_toArray, List.set_cons_zero, List.set_cons_succ]))
    refine wpGrow_nil ?_
    go_wp2_with fail
    go_roundw
    case rel => exact ⟨k + 1, by omega, by go_num, HK6⟩
    case measure => simp [intOf]; omega

set_option maxRecDepth 100000 in
set_option maxHeartbeats 8000000 in
theorem unlike_walk (a b : Cat) (va vb : Value) (w : World) (ha : CatIs w va a) (hb : CatIs w vb b) (ht : TysIs w) :
    Calls Tryd.prog 4 #[va, vb] w fun e w' => e = .returned (.bool true) ∧ Kept [] w w' := by
  have HHA := Lib.hid ha
  have HHB := Lib.hid hb
  obtain ⟨ra, rc, ea, ec, rfl, hba⟩ := ha.box
  have hb2 := hb.kept (Kept.alloc [] w (.cells #[.int .i64 a.ver, .string (strL a.node), .slice ra a.R.length rc, .slice ea a.E.length ec] 25))
  obtain ⟨sa, sc, fa, fc, rfl, hbb⟩ := hb2.box
  rw [size_alloc] at hbb
  have hA := Kept.alloc [] w (.cells #[.int .i64 a.ver, .string (strL a.node), .slice ra a.R.length rc, .slice ea a.E.length ec] 25)
  have hB := Kept.alloc [] (w.alloc (.cells #[.int .i64 a.ver, .string (strL a.node), .slice ra a.R.length rc, .slice ea a.E.length ec] 25)) (.cells #[.int .i64 b.ver, .string (strL b.node), .slice sa b.R.length sc, .slice fa b.E.length fc] 25)
  obtain ⟨w2, hw2⟩ : ∃ w2, (w.alloc (.cells #[.int .i64 a.ver, .string (strL a.node), .slice ra a.R.length rc, .slice ea a.E.length ec] 25)).alloc (.cells #[.int .i64 b.ver, .string (strL b.node), .slice sa b.R.length sc, .slice fa b.E.length fc] 25) = w2 := ⟨_, rfl⟩
  have HA := Lib.hid (hba.kept hB)
  rw [hw2] at hbb hB HA
  have HB := Lib.hid hbb
  have HK := Lib.hid (hA.trans hB)
  obtain ⟨n, hn⟩ : ∃ n, a.R.length = n := ⟨_, rfl⟩
  obtain ⟨m, hm⟩ : ∃ m, a.E.length = m := ⟨_, rfl⟩
  obtain ⟨n', hn'⟩ : ∃ n', b.R.length = n' := ⟨_, rfl⟩
  obtain ⟨m', hm'⟩ : ∃ m', b.E.length = m' := ⟨_, rfl⟩
  obtain ⟨va, hva⟩ : ∃ x, a.ver = x := ⟨_, rfl⟩
  obtain ⟨vb, hvb⟩ : ∃ x, b.ver = x := ⟨_, rfl⟩
  obtain ⟨na, hna⟩ : ∃ x, strL a.node = x := ⟨_, rfl⟩
  obtain ⟨nb, hnb⟩ : ∃ x, strL b.node = x := ⟨_, rfl⟩
  have HC : Hid (∀ w', Kept [] w2 w' → w'.cell? ⟨w.heap.size, 0, none⟩ = some (.int .i64 va) ∧ w'.cell? ⟨w.heap.size, 1, none⟩ = some (.string na) ∧ w'.cell? ⟨w.heap.size, 2, none⟩ = some (.slice ra n rc) ∧ w'.cell? ⟨w.heap.size, 3, none⟩ = some (.slice ea m ec) ∧
      w'.cell? ⟨w.heap.size + 1, 0, none⟩ = some (.int .i64 vb) ∧ w'.cell? ⟨w.heap.size + 1, 1, none⟩ = some (.string nb) ∧ w'.cell? ⟨w.heap.size + 1, 2, none⟩ = some (.slice sa n' sc) ∧ w'.cell? ⟨w.heap.size + 1, 3, none⟩ = some (.slice fa m' fc)) := fun w' hk => by
    rw [← hn, ← hm, ← hva, ← hn', ← hm', ← hvb, ← hna, ← hnb]
    exact ⟨(HA.out.kept hk).c0, (HA.out.kept hk).c1, (HA.out.kept hk).c2, (HA.out.kept hk).c3, (HB.out.kept hk).c0, (HB.out.kept hk).c1, (HB.out.kept hk).c2, (HB.out.kept hk).c3⟩
  rw [hn, hm, hva, hna] at HHA
  rw [hn', hm', hvb, hnb] at HHB
  rw [hn, hm, hva, hna, hn', hm', hvb, hnb] at hw2 ⊢
  have HTY : Hid (∀ w', Kept [] w w' → TysIs w') := fun w' hk => ht.kept hk
  have HSH := Lib.hid (shown7_any w2 (HTY.out w2 HK.out))
  obtain ⟨pa, hpa⟩ : ∃ p, checkO a = p := ⟨_, rfl⟩
  obtain ⟨pb, hpb⟩ : ∃ p, checkO b = p := ⟨_, rfl⟩
  have HE1 : Hid (∀ w', Kept [] w2 w' → Calls Tryd.prog 11 #[.agg #[.int .i64 va, .string na, .slice ra n rc, .slice ea m ec]] w' fun e w3 => ∃ v, e = .returned (.tuple #[v, .int .i64 pa]) ∧ Hid (OwnB w'.heap.size w3 v (encL a) ∧ Kept [] w' w3)) := fun w' hk => by rw [← hpa]; exact Encode_any a _ w' (HHA.out.kept (HK.out.trans hk)) (HTY.out w' (HK.out.trans hk))
  have HE2 : Hid (∀ w', Kept [] w2 w' → Calls Tryd.prog 11 #[.agg #[.int .i64 vb, .string nb, .slice sa n' sc, .slice fa m' fc]] w' fun e w3 => ∃ v, e = .returned (.tuple #[v, .int .i64 pb]) ∧ Hid (OwnB w'.heap.size w3 v (encL b) ∧ Kept [] w' w3)) := fun w' hk => by rw [← hpb]; exact Encode_any b _ w' (HHB.out.kept (HK.out.trans hk)) (HTY.out w' (HK.out.trans hk))
  obtain ⟨sb, hsb⟩ : ∃ s, sameC a b = s := ⟨_, rfl⟩
  have HSM : Hid (∀ w', Kept [] w2 w' → Calls Tryd.prog 12 #[.agg #[.int .i64 va, .string na, .slice ra n rc, .slice ea m ec], .agg #[.int .i64 vb, .string nb, .slice sa n' sc, .slice fa m' fc]] w' fun e w3 => e = .returned (.bool sb) ∧ Kept [] w' w3) := fun w' hk => by rw [← hsb]; exact rcsame_any a b _ _ w' (HHA.out.kept (HK.out.trans hk)) (HHB.out.kept (HK.out.trans hk))
  have HEQ : Hid (pa = 0 → pb = 0 → decide (encL a = encL b) = sb) := fun h1 h2 => by
    rw [← hsb]
    unfold sameC encL
    rw [if_pos (hpa.trans h1), if_pos (hpb.trans h2), Bool.eq_iff_iff, decide_eq_true_eq, decide_eq_true_eq]
    exact ⟨fun h => catB_inj (hpa.trans h1) (hpb.trans h2) h, fun h => by rw [h]⟩
  clear ha hb hb2 hba hbb hA hB hn hm hn' hm' hva hvb hna hnb ht hpa hpb hsb
  go_enter Tryd.func4, Tryd.ntmps4
  go_wp2_with fail
  refine HSH.out.mono ?_
  rintro e w3 ⟨rfl, hk3⟩
  have HK3 : Hid (Kept [] w2 w3) := hk3
  clear hk3 hw2
  obtain ⟨c0, c1, c2, c3, d0, d1, d2, d3⟩ := HC.out w3 HK3.out
  go_wp2_with fail
  refine (HE1.out _ HK3.out).mono ?_
  rintro e w4 ⟨v4, rfl, H4⟩
  have HK4 : Hid (Kept [] w2 w4) := HK3.out.trans H4.out.2
  obtain ⟨g1, g2, g3, rfl⟩ : ∃ ga gn gk, v4 = .slice ga gn gk := by obtain ⟨x, y, e, _⟩ := H4.out.1.val; exact ⟨x, _, y, e⟩
  clear c0 c1 c2 c3 d0 d1 d2 d3
  obtain ⟨c0, c1, c2, c3, d0, d1, d2, d3⟩ := HC.out w4 HK4.out
  go_wp2_with fail
  refine (HE2.out _ HK4.out).mono ?_
  rintro e w5 ⟨v5, rfl, H5⟩
  have HK5 : Hid (Kept [] w2 w5) := HK4.out.trans H5.out.2
  obtain ⟨k1, k2, k3, rfl⟩ : ∃ ga gn gk, v5 = .slice ga gn gk := by obtain ⟨x, y, e, _⟩ := H5.out.1.val; exact ⟨x, _, y, e⟩
  clear c0 c1 c2 c3 d0 d1 d2 d3
  obtain ⟨c0, c1, c2, c3, d0, d1, d2, d3⟩ := HC.out w5 HK5.out
  go_wp2_with fail
  refine (HSM.out _ HK5.out).mono ?_
  rintro e w6 ⟨rfl, hk6⟩
  have HK6 : Hid (Kept [] w2 w6) := HK5.out.trans hk6
  have cv1 : (convert 34 9 (.slice g1 g2 g3)).run Tryd.prog w6 = .ok (.string (strL (encL a))) w6 := (H4.out.1.kept (H5.out.2.trans hk6) (by simp)).slIs.conv
  have cv2 : (convert 34 9 (.slice k1 k2 k3)).run Tryd.prog w6 = .ok (.string (strL (encL b))) w6 := (H5.out.1.kept hk6 (by simp)).slIs.conv
  clear c0 c1 c2 c3 d0 d1 d2 d3 hk6
  by_cases h1 : pa = 0
  case neg =>
    have q1 : (pa != 0) = true := by simpa using h1
    go_wp2_with fail
    go_ret
    exact ⟨rfl, HK.out.trans HK6.out⟩
  subst h1
  by_cases h2 : pb = 0
  case neg =>
    have q2 : (pb != 0) = true := by simpa using h2
    go_wp2_with fail
    go_ret
    exact ⟨rfl, HK.out.trans HK6.out⟩
  subst h2
  have q3 : ((strL (encL a)).toList == (strL (encL b)).toList) = sb := by rw [str_beqP]; exact HEQ.out rfl rfl
  cases sb
  all_goals
    go_wp2_with fail
    go_ret
    exact ⟨rfl, HK.out.trans HK6.out⟩
end Go.Proofs.YteanhjfdpjekbaaDoor

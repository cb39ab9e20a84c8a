/-
  Layer 8: the walk of GraphMore.
  Conditions: those that each theorem states.
-/
import Derived.Test.YtpdngekolhcndaaGMoreP
import Derived.Test.YtpdngekolhcndaaPReg
import Derived.Deep.DeepCutAuto
namespace Go.Proofs.Ytpdngekolhcndaa
open Go.RowKit Go.Maps

set_option maxRecDepth 100000 in
set_option maxHeartbeats 16000000 in
theorem more_walk (n : Int) (L : List Edg) (x y : Int) (v : Value) (w : World) (h : EsIs w v L) (hl8 : (L.length + 1) * 24 ≤ 140737488355328) (hbx : -9223372036854775808 ≤ x ∧ x ≤ 9223372036854775807) (hby : -9223372036854775808 ≤ y ∧ y ≤ 9223372036854775807) :
    Calls Try.prog 6 #[.int .i64 n, v, .agg #[.int .i64 x, .int .i64 y]] w fun e w' => e = .returned (.bool true) ∧ Kept [] w w' := by
  have HE := Lib.hid h
  have HL8 := Lib.hid hl8
  obtain ⟨I, hI, hI63⟩ := normI8 x hbx
  obtain ⟨J, hJ, hJ63⟩ := normI8 y hby
  have HI := Lib.hid hI
  have HJ := Lib.hid hJ
  have HBX := Lib.hid hbx
  have HBY := Lib.hid hby
  clear h hl8 hI hJ hbx hby
  go_enter Try.func6, Try.ntmps6
  go_wp2_with fail
  generalize hw0 : World.alloc w _ = w0
  have HK0 : Hid (Kept [] w w0) := by rw [← hw0]; exact Kept.alloc _ _ _
  have HC0 : Hid (w0.heap[w.heap.size]? = some (.cells #[.int .i64 x, .int .i64 y] 37)) := by show _ = _; rw [← hw0]; exact heap_alloc_last _ _
  clear hw0
  refine (shown8_any w0).mono ?_
  rintro e w1 ⟨rfl, hk1⟩
  have HK1 : Hid (Kept [] w0 w1) := hk1
  clear hk1
  go_wp2_with fail
  refine (order_any n L _ w1 (HE.out.kept (HK0.out.trans HK1.out))).mono ?_
  rintro e w2 ⟨va, vc, c, rfl, H2⟩
  have HK2 : Hid (Kept [] w0 w2) := HK1.out.trans H2.out.2.2.2.2
  have HA2 : Hid (NsIs w2 va (ordL n L)) := H2.out.1
  obtain ⟨eo, heo⟩ : ∃ eo, ordE n L = eo := ⟨_, rfl⟩
  rw [heo]
  clear H2
  by_cases h0 : eo = 0
  case neg =>
    have q0 : (eo != 0) = true := by simpa using h0
    clear h0 heo
    go_wp2_with fail
    go_ret
    exact ⟨rfl, HK0.out.trans HK2.out⟩
  subst h0
  obtain ⟨hg, a, ha⟩ := ordE_zero heo
  obtain ⟨q, rfl⟩ : ∃ q : Nat, n = q := ⟨n.toNat, by have := hg.1; omega⟩
  rw [Int.toNat_natCast] at ha
  have hq32 : q ≤ 32 := by have := hg.1; omega
  have hla : ordL q L = a := by unfold ordL; rw [if_pos hg, Int.toNat_natCast, ha]; rfl
  rw [hla] at HA2
  have HG := Lib.hid hg
  have HO := Lib.hid ha
  have hz : a.length = q := (ordO_some ha).2.2.1
  have HZ := Lib.hid hz
  obtain ⟨aa, ac, rfl, _, _, hcc⟩ := HA2.out.open
  have HAC := Lib.hid hcc
  rw [hz]
  clear heo hg ha hla hz hcc
  by_cases hq2 : q < 2
  · have hq2' : decide (q < 2) = true := decide_eq_true hq2
    go_wp2_with fail
    go_ret
    exact ⟨rfl, HK0.out.trans HK2.out⟩
  have hq2' : decide (q < 2) = false := decide_eq_false hq2
  obtain ⟨ab, ao, rfl, hab, hav⟩ := HAC.out (by rw [HZ.out]; omega)
  have HAV : Hid (ab < w2.heap.size ∧ ∀ (k : Nat) (hk : k < a.length), w2.cell? ⟨ab, ao + k, none⟩ = some (.int .i64 (a[k] : Int))) := ⟨hab, hav⟩
  clear hab hav HAC
  have e0 := HK2.out.heap (by simp) HC0.out
  have c0 : w2.cell? ⟨w.heap.size, 0, none⟩ = some (.int .i64 x) := cell_of_row _ _ 0 _ _ _ e0
  have c1 : w2.cell? ⟨w.heap.size, 1, none⟩ = some (.int .i64 y) := cell_of_row _ _ 1 _ _ _ e0
  clear e0
  go_wp2_with fail
  go_quiet (fail)
  generalize hwq : World.drewN w2 _ = w3
  have HK3 : Hid (Kept [] w2 w3) := by rw [← hwq]; exact Kept.drewN _ _ _
  clear hwq c0 c1
  go_upto_if 47 with (fail)
  go_cut [11] (fun s1 wx => s1 = .int .i64 (I : Int) ∧ Hid (Kept [] w2 wx))
  case first =>
    have hb := HBX.out
    obtain ⟨hb1, hb2⟩ := hb
    by_cases hneg : x < 0
    · have e1 : -(x + 1) = (I : Int) := by have := HI.out; rw [if_pos hneg] at this; exact this
      have e2 : IntKind.i64.wrap (x + 1) = x + 1 := by rw [IntKind.wrap_i64]; omega
      have e3 : IntKind.i64.wrap (-(x + 1)) = (I : Int) := by rw [IntKind.wrap_i64]; omega
      go_wp2_with fail
      go_meet
      exact ⟨by first | rfl | (rw [← e1]; first | rfl | (congr 1; omega)), HK3⟩
    · have e1 : x = (I : Int) := by have := HI.out; rw [if_neg hneg] at this; exact this
      subst e1
      go_wp2_with fail
      go_meet
      exact ⟨rfl, HK3⟩
  case rest =>
  obtain ⟨rfl, HK4⟩ := hcut
  obtain ⟨w4, rfl⟩ : ∃ w4, w4 = wc := ⟨_, rfl⟩
  clear HI HBX HK3
  go_upto_if 52 with (fail)
  go_cut [12] (fun s1 wx => s1 = .int .i64 (J : Int) ∧ Hid (Kept [] w2 wx))
  case first =>
    have hb := HBY.out
    obtain ⟨hb1, hb2⟩ := hb
    by_cases hneg : y < 0
    · have e1 : -(y + 1) = (J : Int) := by have := HJ.out; rw [if_pos hneg] at this; exact this
      have e2 : IntKind.i64.wrap (y + 1) = y + 1 := by rw [IntKind.wrap_i64]; omega
      have e3 : IntKind.i64.wrap (-(y + 1)) = (J : Int) := by rw [IntKind.wrap_i64]; omega
      go_wp2_with fail
      go_meet
      exact ⟨by first | rfl | (rw [← e1]; first | rfl | (congr 1; omega)), HK4⟩
    · have e1 : y = (J : Int) := by have := HJ.out; rw [if_neg hneg] at this; exact this
      subst e1
      go_wp2_with fail
      go_meet
      exact ⟨rfl, HK4⟩
  case rest =>
  obtain ⟨rfl, HK5⟩ := hcut
  obtain ⟨w5, rfl⟩ : ∃ w5, w5 = wc := ⟨_, rfl⟩
  clear HJ HBY HK4
  obtain ⟨p, hp⟩ : ∃ p, I % q = p := ⟨_, rfl⟩
  obtain ⟨r, hr⟩ : ∃ r, J % q = r := ⟨_, rfl⟩
  have hpq : p < q := by rw [← hp]; exact Nat.mod_lt _ (by omega)
  have hrq : r < q := by rw [← hr]; exact Nat.mod_lt _ (by omega)
  have hqn : ¬ q = 0 := by omega
  have m1 : (I : Int) % (q : Int) = (p : Int) := by rw [← hp]; rfl
  have m2 : Int.tmod (I : Int) (q : Int) = (p : Int) := by rw [Int.tmod_eq_emod_of_nonneg (by omega)]; exact m1
  have m3 : (J : Int) % (q : Int) = (r : Int) := by rw [← hr]; rfl
  have m4 : Int.tmod (J : Int) (q : Int) = (r : Int) := by rw [Int.tmod_eq_emod_of_nonneg (by omega)]; exact m3
  clear hp hr
  obtain ⟨i, hi⟩ : ∃ i, min p r = i := ⟨_, rfl⟩
  obtain ⟨k, hk⟩ : ∃ k, max p r = k := ⟨_, rfl⟩
  go_upto_if 66 with (fail)
  clear m1 m2 m3 m4
  go_cut [11, 12] (fun s1 s2 wx => s1 = .int .i64 (i : Int) ∧ s2 = .int .i64 (k : Int) ∧ Hid (Kept [] w2 wx))
  case first =>
    by_cases hpr : (r : Int) < (p : Int)
    · obtain rfl : r = i := by omega
      obtain rfl : p = k := by omega
      clear hi hk
      go_wp2_with fail
      go_meet
      exact ⟨rfl, rfl, HK5⟩
    · obtain rfl : p = i := by omega
      obtain rfl : r = k := by omega
      clear hi hk
      go_wp2_with fail
      go_meet
      exact ⟨rfl, rfl, HK5⟩
  case rest =>
  obtain ⟨rfl, rfl, HK6⟩ := hcut
  obtain ⟨w6, rfl⟩ : ∃ w6, w6 = wc := ⟨_, rfl⟩
  have hik : i ≤ k := by omega
  have hkq : k < q := by omega
  clear hi hk hpq hrq HK5
  by_cases heq : i = k
  · have q1 : ((i : Int) == (k : Int)) = true := by rw [heq]; simp
    clear heq
    go_wp2_with fail
    go_ret
    exact ⟨rfl, (HK0.out.trans HK2.out).trans HK6.out⟩
  have q1 : ((i : Int) == (k : Int)) = false := by simp; omega
  have hilt : i < k := by omega
  have hia : i < a.length := by rw [HZ.out]; omega
  have hka : k < a.length := by rw [HZ.out]; omega
  obtain ⟨M1, M2⟩ := more_is HG.out HO.out hia hka hilt
  obtain ⟨ai, hai⟩ : ∃ ai, a[i] = ai := ⟨_, rfl⟩
  obtain ⟨ak, hak⟩ : ∃ ak, a[k] = ak := ⟨_, rfl⟩
  rw [hai, hak] at M1 M2
  obtain ⟨e2, he2⟩ : ∃ e2 : Int, (if ak ∈ behL q L ai then 80 else 0) = e2 := ⟨_, rfl⟩
  rw [he2] at M2
  have HM1 := Lib.hid M1
  have HM2 := Lib.hid M2
  have HE2 := Lib.hid he2
  have HW : Hid (∀ w', Kept [] w2 w' → w'.cell? ⟨ab, ao + i, none⟩ = some (.int .i64 (ai : Int)) ∧ w'.cell? ⟨ab, ao + k, none⟩ = some (.int .i64 (ak : Int))) := fun w' hk2 =>
    ⟨((hk2.cell (p := ⟨ab, ao + i, none⟩) HAV.out.1 (by simp)).trans (HAV.out.2 i hia)).trans (by rw [hai]), ((hk2.cell (p := ⟨ab, ao + k, none⟩) HAV.out.1 (by simp)).trans (HAV.out.2 k hka)).trans (by rw [hak])⟩
  have HAB : Hid (ab < w2.heap.size) := HAV.out.1
  have hiq : i < q := by omega
  have hiqI : (i : Int) < (q : Int) := by omega
  have hkqI : (k : Int) < (q : Int) := by omega
  clear M1 M2 he2 hai hak hik heq HAV hia hka
  go_upto_region 16 with (fail)
  go_cut [15] (fun s1 wx => s1 = .int .i64 0 ∧ Hid (Kept [] w2 wx))
  case first =>
    obtain ⟨wd, hwd⟩ : ∃ wd, w6.drew = wd := ⟨_, rfl⟩
    have HD : Hid (Kept [] w2 wd) := by show Kept _ _ _; rw [← hwd]; exact HK6.out.trans (Kept.drew _ _)
    obtain ⟨sz, hsz⟩ : ∃ sz, wd.heap.size = sz := ⟨_, rfl⟩
    have hab : ab < sz := by have := HAB.out; have := HD.out.size; omega
    have z0 : ∀ w', Kept [sz, sz + 1, sz + 2] wd w' → w'.cell? ⟨ab, ao + i, none⟩ = some (.int .i64 (ai : Int)) := fun w' hk2 =>
      (hk2.cell (p := ⟨ab, ao + i, none⟩) (by show ab < wd.heap.size; omega) (by simp; omega)).trans (HW.out wd HD.out).1
    have z1 : ∀ w', Kept [sz, sz + 1, sz + 2] wd w' → w'.cell? ⟨ab, ao + k, none⟩ = some (.int .i64 (ak : Int)) := fun w' hk2 =>
      (hk2.cell (p := ⟨ab, ao + k, none⟩) (by show ab < wd.heap.size; omega) (by simp; omega)).trans (HW.out wd HD.out).2
    have hEd : EsIs wd v L := HE.out.kept ((HK0.out.trans HK2.out).trans HD.out)
    obtain ⟨a3, ab3, a4, ae, ar3, ak3, ar4, ak4, AH⟩ := way_a1 wd sz hsz L v ⟨(ai : Int), (ak : Int), false⟩ hEd HL8.out
    obtain ⟨b3, bb3, b4, be, br3, bk3, br4, bk4, BH⟩ := way_a2 wd ((wd.alloc (.cells #[] 32)).alloc (.cells #[.int .i64 (ai : Int), .int .i64 (ak : Int), .bool false] 32)) sz sz (sz + 1) hsz (by rw [size_alloc, size_alloc, hsz]) L v ⟨(ai : Int), (ak : Int), false⟩ (hEd.kept ((Kept.alloc _ _ _).trans (Kept.alloc _ _ _))) HL8.out ((Kept.alloc _ _ _).trans (Kept.alloc _ _ _)) (.inl rfl) (by omega)
      (by have := (OwnE.empty wd sz (by omega)).kept (Kept.alloc [] _ (.cells #[.int .i64 (ai : Int), .int .i64 (ak : Int), .bool false] 32)); rw [hsz] at this; exact this) (by have := EsIs.made (wd.alloc (.cells #[] 32)) [⟨(ai : Int), (ak : Int), false⟩] (by simp) 1 rfl; rw [size_alloc, hsz] at this; exact this)
    obtain ⟨c3, cb3, c4, ce, cr3, ck3, cr4, ck4, CH⟩ := way_a2 wd ((wd.alloc (.cells #[.int .i64 (ai : Int), .int .i64 (ak : Int), .bool false] 32)).alloc (.cells #[] 32)) sz (sz + 1) sz hsz (by rw [size_alloc, size_alloc, hsz]) L v ⟨(ai : Int), (ak : Int), false⟩ (hEd.kept ((Kept.alloc _ _ _).trans (Kept.alloc _ _ _))) HL8.out ((Kept.alloc _ _ _).trans (Kept.alloc _ _ _)) (.inr rfl) (by omega)
      (by have := OwnE.empty (wd.alloc (.cells #[.int .i64 (ai : Int), .int .i64 (ak : Int), .bool false] 32)) sz (by rw [size_alloc]; omega); rw [size_alloc, hsz] at this; exact this) (by have := (EsIs.made wd [⟨(ai : Int), (ak : Int), false⟩] (by simp) 1 rfl).kept (Kept.alloc [] _ (.cells #[] 32)); rw [hsz] at this; exact this)
    have AR3 := Lib.hid ar3
    have AK3 := Lib.hid ak3
    have AR4 := Lib.hid ar4
    have AK4 := Lib.hid ak4
    have BR3 := Lib.hid br3
    have BK3 := Lib.hid bk3
    have BR4 := Lib.hid br4
    have BK4 := Lib.hid bk4
    have CR3 := Lib.hid cr3
    have CK3 := Lib.hid ck3
    have CR4 := Lib.hid cr4
    have CK4 := Lib.hid ck4
    clear ar3 ak3 ar4 ak4 br3 bk3 br4 bk4 cr3 ck3 cr4 ck4 hEd
    rw [← hwd] at z0 z1
    have HWD := Lib.hid hwd
    clear hwd
    refine wp_region_plan (R := (Kept [sz, sz + 1, sz + 2])) (.take 0 (.take 2 (.take 4 (.take 5 (.take 6 (.take 7 (.take 8 (.take 9 (.take 10 (.take 11 (.take 12 (.two 1 (.two 3 (.one 13 (.one 14 (.one 15 (.take 16 (.take 17 (.take 18 (.take 19 (.take 20 (.take 21 (.take 22 .fin)))))))))) 13 (.one 3 (.one 14 (.one 15 (.take 16 (.take 17 (.take 18 (.take 19 (.take 20 (.take 21 (.take 22 .fin))))))))))) 13 (.one 1 (.one 3 (.one 14 (.one 15 (.take 16 (.take 17 (.take 18 (.take 19 (.take 20 (.take 21 (.take 22 .fin))))))))))))))))))))))) (fun _ => Kept.refl _ _) (fun _ _ _ h k => h.trans k) (by kernel_rfl) (fun _ _ d _ _ h => by cases d <;> exact h) (by kernel_rfl) rfl (by kernel_rfl) ?_
    repeat (first | (apply wpP_take; (case hw => rfl); (case hv => intro w' hk; simp only [List.getD_cons_zero, List.getD_cons_succ]; go_simp; with_reducible rfl); simp only [List.getD_cons_zero, List.getD_cons_succ, Act.put, List.setIfInBounds_toArray, List.set_cons_zero, List.set_cons_succ]) | (refine wpP_pass (by rfl) ?_; simp only [List.getD_cons_zero, List.getD_cons_succ, Act.put, List.setIfInBounds_toArray, List.set_cons_zero, List.set_cons_succ]))
    rw [HWD.out]
    clear z0 z1
    refine wpP_two ?_ ?_
    · refine wpP_one (by rfl) (fun K hK => ?_); simp only [List.getD_cons_zero, List.getD_cons_succ]
      go_simp
      refine hK _ _ (Kept.alloc _ _ _) ?_
      clear hK K
      refine wpP_two ?_ ?_
      · refine wpP_one (by rfl) (fun K hK => ?_); simp only [List.getD_cons_zero, List.getD_cons_succ]
        refine wp_append_run _ _ _ rfl _ _ _ rfl rfl AR3.out ?_
        refine hK _ _ AK3.out ?_
        clear hK K
        refine wpP_one (by rfl) (fun K hK => ?_); simp only [List.getD_cons_zero, List.getD_cons_succ]
        go_simp
        refine hK _ _ (Kept.alloc _ _ _) ?_
        clear hK K
        refine wpP_one (by rfl) (fun K hK => ?_); simp only [List.getD_cons_zero, List.getD_cons_succ]
        refine wp_append_run _ _ _ rfl _ _ _ rfl rfl AR4.out ?_
        refine hK _ _ AK4.out ?_
        clear hK K
        refine wpP_one (by rfl) (fun K hK => ?_); simp only [List.getD_cons_zero, List.getD_cons_succ]
        go_simp
        refine (order_any q (L ++ [⟨(ai : Int), (ak : Int), false⟩]) _ _ AH.out.1).mono ?_
        rintro e w9 ⟨z1, z2, z3, rfl, H9⟩
        rw [HM1.out]
        refine hK _ _ (H9.out.2.2.2.2.mono (by simp)) ?_
        clear hK K
        repeat (first | (apply wpP_take; (case hw => rfl); (case hv => intro w' hk; simp only [List.getD_cons_zero, List.getD_cons_succ]; go_simp; with_reducible rfl); simp only [List.getD_cons_zero, List.getD_cons_succ, Act.put, List.setIfInBounds_toArray, List.set_cons_zero, List.set_cons_succ]) | (refine wpP_pass (by rfl) ?_; simp only [List.getD_cons_zero, List.getD_cons_succ, Act.put, List.setIfInBounds_toArray, List.set_cons_zero, List.set_cons_succ]))
        refine wpP_fin ?_
        go_wp2_with fail
        go_meet
        exact ⟨rfl, (HD.out.trans AH.out.2).trans H9.out.2.2.2.2⟩
      · refine wpP_one (by rfl) (fun K hK => ?_); simp only [List.getD_cons_zero, List.getD_cons_succ]
        go_simp
        refine hK _ _ (Kept.alloc _ _ _) ?_
        clear hK K
        refine wpP_one (by rfl) (fun K hK => ?_); simp only [List.getD_cons_zero, List.getD_cons_succ]
        refine wp_append_run _ _ _ rfl _ _ _ rfl rfl BR3.out ?_
        refine hK _ _ BK3.out ?_
        clear hK K
        refine wpP_one (by rfl) (fun K hK => ?_); simp only [List.getD_cons_zero, List.getD_cons_succ]
        refine wp_append_run _ _ _ rfl _ _ _ rfl rfl BR4.out ?_
        refine hK _ _ BK4.out ?_
        clear hK K
        refine wpP_one (by rfl) (fun K hK => ?_); simp only [List.getD_cons_zero, List.getD_cons_succ]
        go_simp
        refine (order_any q (L ++ [⟨(ai : Int), (ak : Int), false⟩]) _ _ BH.out.1).mono ?_
        rintro e w9 ⟨z1, z2, z3, rfl, H9⟩
        rw [HM1.out]
        refine hK _ _ (H9.out.2.2.2.2.mono (by simp)) ?_
        clear hK K
        repeat (first | (apply wpP_take; (case hw => rfl); (case hv => intro w' hk; simp only [List.getD_cons_zero, List.getD_cons_succ]; go_simp; with_reducible rfl); simp only [List.getD_cons_zero, List.getD_cons_succ, Act.put, List.setIfInBounds_toArray, List.set_cons_zero, List.set_cons_succ]) | (refine wpP_pass (by rfl) ?_; simp only [List.getD_cons_zero, List.getD_cons_succ, Act.put, List.setIfInBounds_toArray, List.set_cons_zero, List.set_cons_succ]))
        refine wpP_fin ?_
        go_wp2_with fail
        go_meet
        exact ⟨rfl, (HD.out.trans BH.out.2).trans H9.out.2.2.2.2⟩
    · refine wpP_one (by rfl) (fun K hK => ?_); simp only [List.getD_cons_zero, List.getD_cons_succ]
      go_simp
      refine hK _ _ (Kept.alloc _ _ _) ?_
      clear hK K
      refine wpP_one (by rfl) (fun K hK => ?_); simp only [List.getD_cons_zero, List.getD_cons_succ]
      go_simp
      refine hK _ _ (Kept.alloc _ _ _) ?_
      clear hK K
      refine wpP_one (by rfl) (fun K hK => ?_); simp only [List.getD_cons_zero, List.getD_cons_succ]
      refine wp_append_run _ _ _ rfl _ _ _ rfl rfl CR3.out ?_
      refine hK _ _ CK3.out ?_
      clear hK K
      refine wpP_one (by rfl) (fun K hK => ?_); simp only [List.getD_cons_zero, List.getD_cons_succ]
      refine wp_append_run _ _ _ rfl _ _ _ rfl rfl CR4.out ?_
      refine hK _ _ CK4.out ?_
      clear hK K
      refine wpP_one (by rfl) (fun K hK => ?_); simp only [List.getD_cons_zero, List.getD_cons_succ]
      go_simp
      refine (order_any q (L ++ [⟨(ai : Int), (ak : Int), false⟩]) _ _ CH.out.1).mono ?_
      rintro e w9 ⟨z1, z2, z3, rfl, H9⟩
      rw [HM1.out]
      refine hK _ _ (H9.out.2.2.2.2.mono (by simp)) ?_
      clear hK K
      repeat (first | (apply wpP_take; (case hw => rfl); (case hv => intro w' hk; simp only [List.getD_cons_zero, List.getD_cons_succ]; go_simp; with_reducible rfl); simp only [List.getD_cons_zero, List.getD_cons_succ, Act.put, List.setIfInBounds_toArray, List.set_cons_zero, List.set_cons_succ]) | (refine wpP_pass (by rfl) ?_; simp only [List.getD_cons_zero, List.getD_cons_succ, Act.put, List.setIfInBounds_toArray, List.set_cons_zero, List.set_cons_succ]))
      refine wpP_fin ?_
      go_wp2_with fail
      go_meet
      exact ⟨rfl, (HD.out.trans CH.out.2).trans H9.out.2.2.2.2⟩
  case rest =>
  obtain ⟨rfl, HK7⟩ := hcut
  obtain ⟨w7, rfl⟩ : ∃ x, x = wc := ⟨_, rfl⟩
  go_upto_region 17 with (fail)
  go_cut [18] (fun s1 wx => s1 = .int .i64 e2 ∧ Hid (Kept [] w2 wx))
  case first =>
    obtain ⟨wd, hwd⟩ : ∃ wd, w7.drew = wd := ⟨_, rfl⟩
    have HD : Hid (Kept [] w2 wd) := by show Kept _ _ _; rw [← hwd]; exact HK7.out.trans (Kept.drew _ _)
    obtain ⟨sz, hsz⟩ : ∃ sz, wd.heap.size = sz := ⟨_, rfl⟩
    have hab : ab < sz := by have := HAB.out; have := HD.out.size; omega
    have z0 : ∀ w', Kept [sz, sz + 1, sz + 2] wd w' → w'.cell? ⟨ab, ao + k, none⟩ = some (.int .i64 (ak : Int)) := fun w' hk2 =>
      (hk2.cell (p := ⟨ab, ao + k, none⟩) (by show ab < wd.heap.size; omega) (by simp; omega)).trans (HW.out wd HD.out).2
    have z1 : ∀ w', Kept [sz, sz + 1, sz + 2] wd w' → w'.cell? ⟨ab, ao + i, none⟩ = some (.int .i64 (ai : Int)) := fun w' hk2 =>
      (hk2.cell (p := ⟨ab, ao + i, none⟩) (by show ab < wd.heap.size; omega) (by simp; omega)).trans (HW.out wd HD.out).1
    have hEd : EsIs wd v L := HE.out.kept ((HK0.out.trans HK2.out).trans HD.out)
    obtain ⟨a3, ab3, a4, ae, ar3, ak3, ar4, ak4, AH⟩ := way_a1 wd sz hsz L v ⟨(ak : Int), (ai : Int), false⟩ hEd HL8.out
    obtain ⟨b3, bb3, b4, be, br3, bk3, br4, bk4, BH⟩ := way_a2 wd ((wd.alloc (.cells #[] 32)).alloc (.cells #[.int .i64 (ak : Int), .int .i64 (ai : Int), .bool false] 32)) sz sz (sz + 1) hsz (by rw [size_alloc, size_alloc, hsz]) L v ⟨(ak : Int), (ai : Int), false⟩ (hEd.kept ((Kept.alloc _ _ _).trans (Kept.alloc _ _ _))) HL8.out ((Kept.alloc _ _ _).trans (Kept.alloc _ _ _)) (.inl rfl) (by omega)
      (by have := (OwnE.empty wd sz (by omega)).kept (Kept.alloc [] _ (.cells #[.int .i64 (ak : Int), .int .i64 (ai : Int), .bool false] 32)); rw [hsz] at this; exact this) (by have := EsIs.made (wd.alloc (.cells #[] 32)) [⟨(ak : Int), (ai : Int), false⟩] (by simp) 1 rfl; rw [size_alloc, hsz] at this; exact this)
    obtain ⟨c3, cb3, c4, ce, cr3, ck3, cr4, ck4, CH⟩ := way_a2 wd ((wd.alloc (.cells #[.int .i64 (ak : Int), .int .i64 (ai : Int), .bool false] 32)).alloc (.cells #[] 32)) sz (sz + 1) sz hsz (by rw [size_alloc, size_alloc, hsz]) L v ⟨(ak : Int), (ai : Int), false⟩ (hEd.kept ((Kept.alloc _ _ _).trans (Kept.alloc _ _ _))) HL8.out ((Kept.alloc _ _ _).trans (Kept.alloc _ _ _)) (.inr rfl) (by omega)
      (by have := OwnE.empty (wd.alloc (.cells #[.int .i64 (ak : Int), .int .i64 (ai : Int), .bool false] 32)) sz (by rw [size_alloc]; omega); rw [size_alloc, hsz] at this; exact this) (by have := (EsIs.made wd [⟨(ak : Int), (ai : Int), false⟩] (by simp) 1 rfl).kept (Kept.alloc [] _ (.cells #[] 32)); rw [hsz] at this; exact this)
    have AR3 := Lib.hid ar3
    have AK3 := Lib.hid ak3
    have AR4 := Lib.hid ar4
    have AK4 := Lib.hid ak4
    have BR3 := Lib.hid br3
    have BK3 := Lib.hid bk3
    have BR4 := Lib.hid br4
    have BK4 := Lib.hid bk4
    have CR3 := Lib.hid cr3
    have CK3 := Lib.hid ck3
    have CR4 := Lib.hid cr4
    have CK4 := Lib.hid ck4
    clear ar3 ak3 ar4 ak4 br3 bk3 br4 bk4 cr3 ck3 cr4 ck4 hEd
    rw [← hwd] at z0 z1
    have HWD := Lib.hid hwd
    clear hwd
    refine wp_region_plan (R := (Kept [sz, sz + 1, sz + 2])) (.take 0 (.take 2 (.take 4 (.take 5 (.take 6 (.take 7 (.take 8 (.take 9 (.take 10 (.take 11 (.take 12 (.two 1 (.two 3 (.one 13 (.one 14 (.one 15 (.take 16 (.take 17 (.take 18 (.take 19 (.take 20 (.take 21 (.take 22 .fin)))))))))) 13 (.one 3 (.one 14 (.one 15 (.take 16 (.take 17 (.take 18 (.take 19 (.take 20 (.take 21 (.take 22 .fin))))))))))) 13 (.one 1 (.one 3 (.one 14 (.one 15 (.take 16 (.take 17 (.take 18 (.take 19 (.take 20 (.take 21 (.take 22 .fin))))))))))))))))))))))) (fun _ => Kept.refl _ _) (fun _ _ _ h k => h.trans k) (by kernel_rfl) (fun _ _ d _ _ h => by cases d <;> exact h) (by kernel_rfl) rfl (by kernel_rfl) ?_
    repeat (first | (apply wpP_take; (case hw => rfl); (case hv => intro w' hk; simp only [List.getD_cons_zero, List.getD_cons_succ]; go_simp; with_reducible rfl); simp only [List.getD_cons_zero, List.getD_cons_succ, Act.put, List.setIfInBounds_toArray, List.set_cons_zero, List.set_cons_succ]) | (refine wpP_pass (by rfl) ?_; simp only [List.getD_cons_zero, List.getD_cons_succ, Act.put, List.setIfInBounds_toArray, List.set_cons_zero, List.set_cons_succ]))
    rw [HWD.out]
    clear z0 z1
    refine wpP_two ?_ ?_
    · refine wpP_one (by rfl) (fun K hK => ?_); simp only [List.getD_cons_zero, List.getD_cons_succ]
      go_simp
      refine hK _ _ (Kept.alloc _ _ _) ?_
      clear hK K
      refine wpP_two ?_ ?_
      · refine wpP_one (by rfl) (fun K hK => ?_); simp only [List.getD_cons_zero, List.getD_cons_succ]
        refine wp_append_run _ _ _ rfl _ _ _ rfl rfl AR3.out ?_
        refine hK _ _ AK3.out ?_
        clear hK K
        refine wpP_one (by rfl) (fun K hK => ?_); simp only [List.getD_cons_zero, List.getD_cons_succ]
        go_simp
        refine hK _ _ (Kept.alloc _ _ _) ?_
        clear hK K
        refine wpP_one (by rfl) (fun K hK => ?_); simp only [List.getD_cons_zero, List.getD_cons_succ]
        refine wp_append_run _ _ _ rfl _ _ _ rfl rfl AR4.out ?_
        refine hK _ _ AK4.out ?_
        clear hK K
        refine wpP_one (by rfl) (fun K hK => ?_); simp only [List.getD_cons_zero, List.getD_cons_succ]
        go_simp
        refine (order_any q (L ++ [⟨(ak : Int), (ai : Int), false⟩]) _ _ AH.out.1).mono ?_
        rintro e w9 ⟨z1, z2, z3, rfl, H9⟩
        rw [HM2.out]
        refine hK _ _ (H9.out.2.2.2.2.mono (by simp)) ?_
        clear hK K
        repeat (first | (apply wpP_take; (case hw => rfl); (case hv => intro w' hk; simp only [List.getD_cons_zero, List.getD_cons_succ]; go_simp; with_reducible rfl); simp only [List.getD_cons_zero, List.getD_cons_succ, Act.put, List.setIfInBounds_toArray, List.set_cons_zero, List.set_cons_succ]) | (refine wpP_pass (by rfl) ?_; simp only [List.getD_cons_zero, List.getD_cons_succ, Act.put, List.setIfInBounds_toArray, List.set_cons_zero, List.set_cons_succ]))
        refine wpP_fin ?_
        go_wp2_with fail
        go_meet
        exact ⟨rfl, (HD.out.trans AH.out.2).trans H9.out.2.2.2.2⟩
      · refine wpP_one (by rfl) (fun K hK => ?_); simp only [List.getD_cons_zero, List.getD_cons_succ]
        go_simp
        refine hK _ _ (Kept.alloc _ _ _) ?_
        clear hK K
        refine wpP_one (by rfl) (fun K hK => ?_); simp only [List.getD_cons_zero, List.getD_cons_succ]
        refine wp_append_run _ _ _ rfl _ _ _ rfl rfl BR3.out ?_
        refine hK _ _ BK3.out ?_
        clear hK K
        refine wpP_one (by rfl) (fun K hK => ?_); simp only [List.getD_cons_zero, List.getD_cons_succ]
        refine wp_append_run _ _ _ rfl _ _ _ rfl rfl BR4.out ?_
        refine hK _ _ BK4.out ?_
        clear hK K
        refine wpP_one (by rfl) (fun K hK => ?_); simp only [List.getD_cons_zero, List.getD_cons_succ]
        go_simp
        refine (order_any q (L ++ [⟨(ak : Int), (ai : Int), false⟩]) _ _ BH.out.1).mono ?_
        rintro e w9 ⟨z1, z2, z3, rfl, H9⟩
        rw [HM2.out]
        refine hK _ _ (H9.out.2.2.2.2.mono (by simp)) ?_
        clear hK K
        repeat (first | (apply wpP_take; (case hw => rfl); (case hv => intro w' hk; simp only [List.getD_cons_zero, List.getD_cons_succ]; go_simp; with_reducible rfl); simp only [List.getD_cons_zero, List.getD_cons_succ, Act.put, List.setIfInBounds_toArray, List.set_cons_zero, List.set_cons_succ]) | (refine wpP_pass (by rfl) ?_; simp only [List.getD_cons_zero, List.getD_cons_succ, Act.put, List.setIfInBounds_toArray, List.set_cons_zero, List.set_cons_succ]))
        refine wpP_fin ?_
        go_wp2_with fail
        go_meet
        exact ⟨rfl, (HD.out.trans BH.out.2).trans H9.out.2.2.2.2⟩
    · refine wpP_one (by rfl) (fun K hK => ?_); simp only [List.getD_cons_zero, List.getD_cons_succ]
      go_simp
      refine hK _ _ (Kept.alloc _ _ _) ?_
      clear hK K
      refine wpP_one (by rfl) (fun K hK => ?_); simp only [List.getD_cons_zero, List.getD_cons_succ]
      go_simp
      refine hK _ _ (Kept.alloc _ _ _) ?_
      clear hK K
      refine wpP_one (by rfl) (fun K hK => ?_); simp only [List.getD_cons_zero, List.getD_cons_succ]
      refine wp_append_run _ _ _ rfl _ _ _ rfl rfl CR3.out ?_
      refine hK _ _ CK3.out ?_
      clear hK K
      refine wpP_one (by rfl) (fun K hK => ?_); simp only [List.getD_cons_zero, List.getD_cons_succ]
      refine wp_append_run _ _ _ rfl _ _ _ rfl rfl CR4.out ?_
      refine hK _ _ CK4.out ?_
      clear hK K
      refine wpP_one (by rfl) (fun K hK => ?_); simp only [List.getD_cons_zero, List.getD_cons_succ]
      go_simp
      refine (order_any q (L ++ [⟨(ak : Int), (ai : Int), false⟩]) _ _ CH.out.1).mono ?_
      rintro e w9 ⟨z1, z2, z3, rfl, H9⟩
      rw [HM2.out]
      refine hK _ _ (H9.out.2.2.2.2.mono (by simp)) ?_
      clear hK K
      repeat (first | (apply wpP_take; (case hw => rfl); (case hv => intro w' hk; simp only [List.getD_cons_zero, List.getD_cons_succ]; go_simp; with_reducible rfl); simp only [List.getD_cons_zero, List.getD_cons_succ, Act.put, List.setIfInBounds_toArray, List.set_cons_zero, List.set_cons_succ]) | (refine wpP_pass (by rfl) ?_; simp only [List.getD_cons_zero, List.getD_cons_succ, Act.put, List.setIfInBounds_toArray, List.set_cons_zero, List.set_cons_succ]))
      refine wpP_fin ?_
      go_wp2_with fail
      go_meet
      exact ⟨rfl, (HD.out.trans CH.out.2).trans H9.out.2.2.2.2⟩
  case rest =>
  obtain ⟨rfl, HK8⟩ := hcut
  obtain ⟨w8, rfl⟩ : ∃ x, x = wc := ⟨_, rfl⟩
  have c1 := (HW.out w8 HK8.out).1
  have hb8 : Kept [] w w8 := (HK0.out.trans HK2.out).trans HK8.out
  have HB8 := Lib.hid hb8
  clear hb8
  go_wp2_with fail
  refine (behind_any q L ai v w8 (HE.out.kept HB8.out)).mono ?_
  rintro e w9 ⟨vb, rfl, H9⟩
  obtain ⟨B, hB⟩ : ∃ B, behL q L ai = B := ⟨_, rfl⟩
  rw [hB] at HE2 H9
  have HK9 : Hid (Kept [] w2 w9 ∧ Kept [] w w9) := ⟨HK8.out.trans H9.out.2, HB8.out.trans H9.out.2⟩
  have hbl := H9.out.1.len
  obtain ⟨bo2, bc2, rfl, _, _, hbc⟩ := H9.out.1.open
  have HBC := Lib.hid hbc
  obtain ⟨m, hm⟩ : ∃ m, B.length = m := ⟨_, rfl⟩
  have HMM := Lib.hid hm
  rw [hm] at hbl
  rw [hm]
  clear hB hbc hm H9 c1
  go_wp2_with fail
  go_loopw [19, 21] (fun r j wr => ∃ (j' : Nat) (b : Bool), j' ≤ m ∧ j = .int .i64 j' ∧ r = .bool b ∧ Hid ((b = true ↔ ak ∈ B.take j') ∧ Kept [] w9 wr)) (fun _ j _ => m - (intOf j).toNat)
  case atStart => exact ⟨0, false, by omega, rfl, rfl, by simp, Kept.refl _ _⟩
  case round =>
    obtain ⟨j, b, hj, rfl, rfl, HS⟩ := hrel
    by_cases hjm : j < m
    · have hjl : j < B.length := by rw [HMM.out]; exact hjm
      obtain ⟨bb, bo, rfl, hbb, hc⟩ := HBC.out (by omega)
      have c0 := (HS.out.2.cell (p := ⟨bb, bo + j, none⟩) hbb (by simp)).trans (hc j hjl)
      have c2 := (HW.out wr (HK9.out.1.trans HS.out.2)).2
      obtain ⟨x2, hx⟩ : ∃ x, B[j] = x := ⟨_, rfl⟩
      rw [hx] at c0
      have HT : Hid (∀ b2 : Bool, (b2 = true ↔ b = true ∨ x2 = ak) → (b2 = true ↔ ak ∈ B.take (j + 1))) := fun b2 hb2 => by
        rw [hb2, HS.out.1, List.take_succ_eq_append_getElem hjl, List.mem_append, hx, List.mem_singleton]
        constructor
        · rintro (h | h)
          · exact .inl h
          · exact .inr h.symm
        · rintro (h | h)
          · exact .inl h
          · exact .inr h.symm
      clear hc hx hbb
      cases b
      · by_cases e : x2 = ak
        · have q5 : ((x2 : Int) == (ak : Int)) = true := by rw [e]; simp
          have HN1 := Lib.hid (HT.out true (by simp [e]))
          clear e
          go_wp2_with fail
          go_quiet (fail)
          generalize hwq : World.drewN wr _ = wq
          have HN : Hid ((true = true ↔ ak ∈ B.take (j + 1)) ∧ Kept [] w9 wq) := ⟨⟨fun _ => HN1.out.1 trivial, fun _ => rfl⟩, by rw [← hwq]; exact HS.out.2.trans (Kept.drewN _ _ _)⟩
          clear hwq
          go_wp2_with fail
          go_roundw
          case rel => exact ⟨j + 1, true, by omega, by go_num, rfl, HN⟩
          case measure => simp [intOf]; omega
        · have q5 : ((x2 : Int) == (ak : Int)) = false := by simp; omega
          have HN1 := Lib.hid (HT.out false (by simp [e]))
          clear e
          go_wp2_with fail
          go_quiet (fail)
          generalize hwq : World.drewN wr _ = wq
          have HN : Hid ((false = true ↔ ak ∈ B.take (j + 1)) ∧ Kept [] w9 wq) := ⟨HN1.out, by rw [← hwq]; exact HS.out.2.trans (Kept.drewN _ _ _)⟩
          clear hwq
          go_wp2_with fail
          go_roundw
          case rel => exact ⟨j + 1, false, by omega, by go_num, rfl, HN⟩
          case measure => simp [intOf]; omega
      · have HN1 := Lib.hid (HT.out true (by simp))
        go_wp2_with fail
        go_quiet (fail)
        generalize hwq : World.drewN wr _ = wq
        have HN : Hid ((true = true ↔ ak ∈ B.take (j + 1)) ∧ Kept [] w9 wq) := ⟨⟨fun _ => HN1.out.1 trivial, fun _ => rfl⟩, by rw [← hwq]; exact HS.out.2.trans (Kept.drewN _ _ _)⟩
        clear hwq
        go_wp2_with fail
        go_roundw
        case rel => exact ⟨j + 1, true, by omega, by go_num, rfl, HN⟩
        case measure => simp [intOf]; omega
    · have hbm : b = true ↔ ak ∈ B := by
        have := HS.out.1
        rw [List.take_of_length_le (by rw [HMM.out]; omega)] at this
        exact this
      have HK : Hid (Kept [] w wr) := HK9.out.2.trans HS.out.2
      cases b
      · have he : e2 = 0 := by rw [← HE2.out, if_neg (fun h => by have := hbm.2 h; cases this)]
        subst he
        clear hbm
        go_wp2_with fail
        go_ret
        exact ⟨rfl, HK.out⟩
      · have he : e2 = 80 := by rw [← HE2.out, if_pos (hbm.1 rfl)]
        subst he
        clear hbm
        go_wp2_with fail
        go_ret
        exact ⟨rfl, HK.out⟩
end Go.Proofs.Ytpdngekolhcndaa

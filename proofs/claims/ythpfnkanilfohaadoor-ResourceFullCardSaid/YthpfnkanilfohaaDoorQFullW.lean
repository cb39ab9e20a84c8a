/-
  Layer 6: the walk of ResourceFull.
  Conditions: those that each theorem states.
-/
import Derived.Test.YthpfnkanilfohaaDoorQShown
import Derived.Test.YthpfnkanilfohaaDoorQSame
import Derived.Test.YthpfnkanilfohaaDoorQPure2
namespace Go.Proofs.YthpfnkanilfohaaDoor
open Go.RowKit Go.Maps

set_option maxRecDepth 100000 in
set_option maxHeartbeats 8000000 in
theorem full_walk (t ti : List UInt8) (ao : Option Addr) (len cap : Nat) (P : List Prm) (w : World) (hp : PsIs w (.slice ao len cap) P) (ht : t.length ≤ 140737488355328) (hti : ti.length ≤ 140737488355328) :
    Calls Tryd.prog 4 #[resV t ti (.slice ao len cap)] w fun e w' => e = .returned (.bool true) ∧ Kept [] w w' := by
  have HP := Lib.hid hp
  obtain ⟨ao', cap', he, _, _, _, hc⟩ := hp.open
  injection he with he1 he2 he3
  subst he1 he2 he3
  have HPC := Lib.hid hc
  have hplen := hp.len
  obtain ⟨n, hn⟩ : ∃ n, P.length = n := ⟨_, rfl⟩
  have HN := Lib.hid hn
  rw [hn] at HP hplen ⊢
  clear hp hc hn
  unfold resV
  obtain ⟨w1, hw1⟩ : ∃ w1, w.alloc (.cells #[.string (strL t), .string (strL ti), .slice ao n cap] 24) = w1 := ⟨_, rfl⟩
  have HA : Hid (Kept [] w w1 ∧ w1.heap[w.heap.size]? = some (.cells #[.string (strL t), .string (strL ti), .slice ao n cap] 24)) := ⟨by rw [← hw1]; exact Kept.alloc _ _ _, by rw [← hw1]; exact heap_alloc_last _ _⟩
  have FA : Hid (∀ w', Kept [] w1 w' → w'.cell? ⟨w.heap.size, 0, none⟩ = some (.string (strL t)) ∧ w'.cell? ⟨w.heap.size, 1, none⟩ = some (.string (strL ti)) ∧ w'.cell? ⟨w.heap.size, 2, none⟩ = some (.slice ao n cap)) := fun w' hk => by
    have e0 := hk.heap (by simp) HA.out.2
    exact ⟨cell_of_row _ _ 0 _ _ _ e0, cell_of_row _ _ 1 _ _ _ e0, cell_of_row _ _ 2 _ _ _ e0⟩
  obtain ⟨c, hc⟩ : ∃ c, codeO t ti P = c := ⟨_, rfl⟩
  have HC := Lib.hid hc
  obtain ⟨O, hO⟩ : ∃ O, outO t ti P = O := ⟨_, rfl⟩
  have HO := Lib.hid hO
  obtain ⟨g1, hg1⟩ : ∃ y, txO t ti P t = y := ⟨_, rfl⟩
  obtain ⟨g2, hg2⟩ : ∃ y, txO t ti P ti = y := ⟨_, rfl⟩
  have HG : Hid (c = 0 → g1 = t ∧ g2 = ti) := fun h0 => by
    rw [← hg1, ← hg2]
    unfold txO
    rw [hc, if_pos h0, if_pos h0]
    exact ⟨rfl, rfl⟩
  have HF1 : Hid (∀ w', Kept [] w w' → Calls Tryd.prog 9 #[.agg #[.string (strL t), .string (strL ti), .slice ao n cap]] w' fun e w2 => ∃ v, e = .returned (.tuple #[.agg #[.string (strL g1), .string (strL g2), v], .int .i64 c]) ∧ Hid (OwnP w'.heap.size w2 v O ∧ Kept [] w' w2)) := fun w' hk => by
    have := sfull_any t ti P _ w' (HP.out.kept hk) ht hti
    unfold FullOut resV at this
    rw [hc, hO, hg1, hg2] at this
    exact this
  have HCK : Hid (∀ w', Kept [] w w' → Calls Tryd.prog 12 #[.agg #[.string (strL t), .string (strL ti), .slice ao n cap]] w' fun e w2 => e = .returned (.int .i64 c) ∧ Kept [] w' w2) := fun w' hk => by
    have := scheck_any t ti P _ w' (HP.out.kept hk) ht hti
    rw [hc] at this
    exact this
  clear hc hO hg1 hg2
  go_enter Tryd.func4, Tryd.ntmps4
  go_wp2_with fail
  refine (shown6_any _).mono ?_
  rintro e w2 ⟨rfl, hk2⟩
  have HK2 := Lib.hid hk2
  clear hk2 hw1
  obtain ⟨a0, a1, a2⟩ := FA.out w2 HK2.out
  go_wp2_with fail
  refine (HF1.out _ (HA.out.1.trans HK2.out)).mono ?_
  clear a0 a1 a2
  rintro e w3 ⟨v3, rfl, H3⟩
  obtain ⟨oao, ocap, rfl, _, _, _, hoc⟩ := H3.out.1.ps.open
  have HOC := Lib.hid hoc
  obtain ⟨m, hm⟩ : ∃ m, O.length = m := ⟨_, rfl⟩
  have HM := Lib.hid hm
  have hm63 : m ≤ 140737488355328 := by have := H3.out.1.ps.len; omega
  rw [hm] at H3
  rw [hm]
  clear hoc hm
  obtain ⟨w4, hw4⟩ : ∃ w4, w3.alloc (.cells #[.string (strL g1), .string (strL g2), .slice oao m ocap] 24) = w4 := ⟨_, rfl⟩
  have HB : Hid (Kept [] w3 w4 ∧ w4.heap[w3.heap.size]? = some (.cells #[.string (strL g1), .string (strL g2), .slice oao m ocap] 24)) := ⟨by rw [← hw4]; exact Kept.alloc _ _ _, by rw [← hw4]; exact heap_alloc_last _ _⟩
  have HK4 : Hid (Kept [] w1 w4) := (HK2.out.trans H3.out.2).trans HB.out.1
  have FB : Hid (∀ w', Kept [] w4 w' → w'.cell? ⟨w3.heap.size, 0, none⟩ = some (.string (strL g1)) ∧ w'.cell? ⟨w3.heap.size, 1, none⟩ = some (.string (strL g2)) ∧ w'.cell? ⟨w3.heap.size, 2, none⟩ = some (.slice oao m ocap)) := fun w' hk => by
    have e0 := hk.heap (by simp) HB.out.2
    exact ⟨cell_of_row _ _ 0 _ _ _ e0, cell_of_row _ _ 1 _ _ _ e0, cell_of_row _ _ 2 _ _ _ e0⟩
  obtain ⟨a0, a1, a2⟩ := FA.out w4 HK4.out
  obtain ⟨b0, b1, b2⟩ := FB.out w4 (Kept.refl _ _)
  by_cases h0 : c = 0
  case neg =>
    have q0 : (c == 0) = false := by simpa using h0
    have q1 : (c != 0) = true := by simpa using h0
    clear h0
    go_wp2_with fail
    refine (HCK.out _ (HA.out.1.trans HK4.out)).mono ?_
    rintro e w5 ⟨rfl, hk5⟩
    have HK5 := Lib.hid hk5
    clear hk5 hw4 a0 a1 a2 b0 b1 b2
    go_wp2_with fail
    go_ret
    exact ⟨rfl, (HA.out.1.trans HK4.out).trans HK5.out⟩
  subst h0
  obtain ⟨rfl, rfl⟩ := HG.out rfl
  have HAG : Hid (codeO g1 g2 O = 0 ∧ outO g1 g2 O = O) := by
    have := full_again HC.out
    rw [HO.out] at this
    exact this
  have HKP : Hid (∀ p ∈ P, getP O p.1 = some p.2) := by
    have := full_keeps HC.out
    rw [HO.out] at this
    exact this
  have HRI : Hid (rise O) := by
    have := full_rise HC.out
    rw [HO.out] at this
    exact this
  have HPSO : Hid (PsIs w4 (.slice oao m ocap) O) := H3.out.1.ps.kept HB.out.1
  have HF2 : Hid (∀ w', Kept [] w4 w' → Calls Tryd.prog 9 #[.agg #[.string (strL g1), .string (strL g2), .slice oao m ocap]] w' fun e w2 => ∃ v, e = .returned (.tuple #[.agg #[.string (strL g1), .string (strL g2), v], .int .i64 0]) ∧ Hid (OwnP w'.heap.size w2 v O ∧ Kept [] w' w2)) := fun w' hk => by
    have := sfull_any g1 g2 O _ w' (HPSO.out.kept hk) ht hti
    unfold FullOut resV txO at this
    rw [HAG.out.1, HAG.out.2, if_pos rfl, if_pos rfl] at this
    exact this
  go_wp2_with fail
  refine (HF2.out _ (Kept.refl _ _)).mono ?_
  rintro e w5 ⟨v5, rfl, H5⟩
  obtain ⟨qao, qcap, rfl, _⟩ := H5.out.1.ps.open
  rw [HM.out] at H5
  rw [HM.out]
  obtain ⟨w6, hw6⟩ : ∃ w6, w5.alloc (.cells #[.string (strL g1), .string (strL g2), .slice qao m qcap] 24) = w6 := ⟨_, rfl⟩
  have HD : Hid (Kept [] w5 w6 ∧ w6.heap[w5.heap.size]? = some (.cells #[.string (strL g1), .string (strL g2), .slice qao m qcap] 24)) := ⟨by rw [← hw6]; exact Kept.alloc _ _ _, by rw [← hw6]; exact heap_alloc_last _ _⟩
  have HK6 : Hid (Kept [] w4 w6) := H5.out.2.trans HD.out.1
  clear hw4 a0 a1 a2 b0 b1 b2
  obtain ⟨a0, a1, a2⟩ := FA.out w6 (HK4.out.trans HK6.out)
  obtain ⟨b0, b1, b2⟩ := FB.out w6 HK6.out
  have d0 : w6.cell? ⟨w5.heap.size, 0, none⟩ = some (.string (strL g1)) := cell_of_row _ _ 0 _ _ _ HD.out.2
  have d1 : w6.cell? ⟨w5.heap.size, 1, none⟩ = some (.string (strL g2)) := cell_of_row _ _ 1 _ _ _ HD.out.2
  have d2 : w6.cell? ⟨w5.heap.size, 2, none⟩ = some (.slice qao m qcap) := cell_of_row _ _ 2 _ _ _ HD.out.2
  have HS1 : Hid (Calls Tryd.prog 11 #[.agg #[.string (strL g1), .string (strL g2), .slice oao m ocap], .agg #[.string (strL g1), .string (strL g2), .slice qao m qcap]] w6 fun e w' => e = .returned (.bool true) ∧ Kept [] w6 w') := by
    have := rssame_any g1 g1 g2 g2 O O _ _ w6 (HPSO.out.kept HK6.out) (H5.out.1.ps.kept HD.out.1)
    rw [show sameR g1 g1 g2 g2 O O = true from decide_eq_true ⟨rfl, rfl, rfl⟩] at this
    exact this
  go_wp2_with fail
  refine HS1.out.mono ?_
  rintro e w7 ⟨rfl, hk7⟩
  have HK7 : Hid (Kept [] w4 w7) := HK6.out.trans hk7
  clear hk7 hw6 a0 a1 a2 b0 b1 b2 d0 d1 d2
  obtain ⟨a0, a1, a2⟩ := FA.out w7 (HK4.out.trans HK7.out)
  obtain ⟨b0, b1, b2⟩ := FB.out w7 HK7.out
  go_wp2_with fail
  clear a0 a1 a2 b0 b1 b2
  go_loopw [9] (fun i wr => ∃ k : Nat, k ≤ n ∧ i = .int .i64 k ∧ Hid (Kept [] w4 wr)) (fun i _ => n - (intOf i).toNat)
  case atStart => exact ⟨0, by omega, rfl, HK7.out⟩
  case round =>
    obtain ⟨k, hk, rfl, HW⟩ := hrel
    obtain ⟨a0, a1, a2⟩ := FA.out wr (HK4.out.trans HW.out)
    by_cases hlt : k < n
    · have hkp : k < P.length := by rw [HN.out]; exact hlt
      obtain ⟨pb, po, rfl, hpb, hpc⟩ := HPC.out (by omega)
      obtain ⟨p0, p1⟩ := hpc k hkp
      obtain ⟨p, hpp⟩ : ∃ p, P[k] = p := ⟨_, rfl⟩
      rw [hpp] at p0 p1
      have HKW : Hid (Kept [] w wr) := (HA.out.1.trans HK4.out).trans HW.out
      have hgp : getP O p.1 = some p.2 := HKP.out p (by rw [← hpp]; exact List.getElem_mem hkp)
      have HGT : Hid (∀ w', Kept [] w4 w' → Calls Tryd.prog 14 #[.agg #[.string (strL g1), .string (strL g2), .slice oao m ocap], .string (strL p.1)] w' fun e w2 => e = .returned (.tuple #[.string (strL p.2), .bool true]) ∧ Kept [] w' w2) := fun w' hk => by
        have := sget_any g1 g2 p.1 O _ w' (HPSO.out.kept hk)
        unfold GetP getV getB at this
        rw [hgp] at this
        exact this
      have z0 : ∀ w', Kept [] wr.drew w' → w'.cell? ⟨w3.heap.size, 0, none⟩ = some (.string (strL g1)) := fun w' hk => (FB.out w' (HW.out.trans ((Kept.drew [] _).trans hk))).1
      have z1 : ∀ w', Kept [] wr.drew w' → w'.cell? ⟨w3.heap.size, 1, none⟩ = some (.string (strL g2)) := fun w' hk => (FB.out w' (HW.out.trans ((Kept.drew [] _).trans hk))).2.1
      have z2 : ∀ w', Kept [] wr.drew w' → w'.cell? ⟨w3.heap.size, 2, none⟩ = some (.slice oao m ocap) := fun w' hk => (FB.out w' (HW.out.trans ((Kept.drew [] _).trans hk))).2.2
      have z3 : ∀ w', Kept [] wr.drew w' → w'.cell? ⟨w.heap.size, 2, none⟩ = some (.slice (some ⟨pb, po, none⟩) n cap) := fun w' hk => (FA.out w' (HK4.out.trans (HW.out.trans ((Kept.drew [] _).trans hk)))).2.2
      have z4 : ∀ w', Kept [] wr.drew w' → w'.cell? ⟨pb, po + k * 2, none⟩ = some (.string (strL p.1)) := fun w' hk => ((HKW.out.trans ((Kept.drew [] _).trans hk)).cell (p := ⟨pb, po + k * 2, none⟩) hpb (by simp)).trans p0
      have HP1 : Hid (∀ w', Kept [] wr w' → w'.cell? ⟨pb, po + k * 2 + 1, none⟩ = some (.string (strL p.2))) := fun w' hk => ((HKW.out.trans hk).cell (p := ⟨pb, po + k * 2 + 1, none⟩) hpb (by simp)).trans p1
      clear hpc p0 p1 hpp hgp
      go_wp2_with fail
      refine wp_region_ord [(true, 0), (true, 1), (true, 2), (true, 3), (true, 4), (true, 5), (true, 6), (false, 7), (true, 8), (true, 9), (true, 10), (true, 11), (true, 12)] [] (by kernel_rfl) (fun _ _ d _ _ h => by cases d <;> exact h) (by kernel_rfl) rfl (by kernel_rfl) (by kernel_rfl) ?_
      simp only [named, List.getD_cons_zero, List.getD_cons_succ]
      repeat (first | (apply wpGrow_take; (case hw => rfl); (case hv => intro w' hk; go_simp; with_reducible rfl); simp only [Act.put, List.setIfInBounds_toArray, List.set_cons_zero, List.set_cons_succ]) | (refine wpGrow_pass (by rfl) ?_; simp only [Act.put, List.setIfInBounds_toArray, List.set_cons_zero, List.set_cons_succ]) | (refine wpGrow_skip (by rfl) ?_; simp only [Act.put, List.setIfInBounds_toArray, List.set_cons_zero, List.set_cons_succ]))
      clear z0 z1 z2 z3 z4 a0 a1 a2
      refine wpGrow_force (by rfl) (fun K hK => ?_)
      go_simp
      refine (HGT.out _ (HW.out.trans (Kept.drew [] _))).mono ?_
      rintro e w8 ⟨rfl, hk8⟩
      have HK8 : Hid (Kept [] wr w8) := (Kept.drew [] _).trans hk8
      refine hK _ _ hk8 ?_
      clear hK K hk8
      repeat (first | (apply wpGrow_take; (case hw => rfl); (case hv => intro w' hk; go_simp; with_reducible rfl); simp only [Act.put, List.setIfInBounds_toArray, List.set_cons_zero, List.set_cons_succ]) | (refine wpGrow_pass (by rfl) ?_; simp only [Act.put, List.setIfInBounds_toArray, List.set_cons_zero, List.set_cons_succ]) | (refine wpGrow_skip (by rfl) ?_; simp only [Act.put, List.setIfInBounds_toArray, List.set_cons_zero, List.set_cons_succ]))
      refine wpGrow_nil ?_
      obtain ⟨a0, a1, a2⟩ := FA.out w8 (HK4.out.trans (HW.out.trans HK8.out))
      have y1 := HP1.out w8 HK8.out
      have HW8 : Hid (Kept [] w4 w8) := HW.out.trans HK8.out
      go_wp2_with fail
      go_roundw
      case rel => exact ⟨k + 1, by omega, by go_num, HW8⟩
      case measure => simp [intOf]; omega
    · go_wp2_with fail
      clear a0 a1 a2
      obtain ⟨wo, rfl⟩ : ∃ wo, wo = wr := ⟨_, rfl⟩
      go_loopw [12] (fun i wr => ∃ k : Nat, 1 ≤ k ∧ k ≤ m + 1 ∧ i = .int .i64 k ∧ Hid (Kept [] w4 wr)) (fun i _ => m + 1 - (intOf i).toNat)
      case atStart => exact ⟨1, by omega, by omega, rfl, HW.out⟩
      case round =>
        obtain ⟨k, hk1, hk, rfl, HV⟩ := hrel
        obtain ⟨b0, b1, b2⟩ := FB.out wr HV.out
        by_cases hltk : k < m
        · have hkO : k < O.length := by rw [HM.out]; exact hltk
          obtain ⟨q, hkq⟩ : ∃ q, k = q + 1 := ⟨k - 1, by omega⟩
          have hqO : q < O.length := by omega
          have hqm : q < m := by omega
          obtain ⟨ob, oo, rfl, hob, hocc⟩ := HOC.out (by omega)
          obtain ⟨x0, _⟩ := hocc k hkO
          obtain ⟨y0, _⟩ := hocc q hqO
          obtain ⟨xk, hxk⟩ : ∃ xk, O[k].1 = xk := ⟨_, rfl⟩
          obtain ⟨xq, hxq⟩ : ∃ xq, O[q].1 = xq := ⟨_, rfl⟩
          rw [hxk] at x0
          rw [hxq] at y0
          have hls : lessB xq xk = true := by
            rw [← hxk, ← hxq]
            have := rise_get HRI.out q (by omega)
            simp only [hkq]
            exact this
          have hne : xk ≠ xq := fun e => by rw [e, less_irr] at hls; cases hls
          have s1 : Op.bytesLess (strL xk).toList (strL xq).toList = false := by rw [strL_bytes, strL_bytes]; exact less_asym hls
          have s2 : ((strL xk).toList == (strL xq).toList) = false := by rw [str_beqP, decide_eq_false hne]
          have HKV : Hid (Kept [] w3 wr) := HB.out.1.trans HV.out
          have c0 := (HKV.out.cell (p := ⟨ob, oo + k * 2, none⟩) hob (by simp)).trans x0
          have c1 := (HKV.out.cell (p := ⟨ob, oo + q * 2, none⟩) hob (by simp)).trans y0
          have wq : IntKind.i64.wrap ((k : Int) - 1) = (q : Int) := by rw [IntKind.wrap_i64]; omega
          clear hocc x0 y0 hxk hxq hls hne hkq
          go_wp2_with fail
          go_quiet (fail)
          generalize hwq : World.drewN wr _ = wz
          have HWZ : Hid (Kept [] w4 wz) := by rw [← hwq]; exact HV.out.trans (Kept.drewN _ _ _)
          clear hwq b0 b1 b2 c0 c1 wq
          go_wp2_with fail
          go_roundw
          case rel => exact ⟨k + 1, by omega, by omega, by go_num, HWZ⟩
          case measure => simp [intOf]; omega
        · go_wp2_with fail
          go_ret
          exact ⟨rfl, (HA.out.1.trans HK4.out).trans HV.out⟩
end Go.Proofs.YthpfnkanilfohaaDoor

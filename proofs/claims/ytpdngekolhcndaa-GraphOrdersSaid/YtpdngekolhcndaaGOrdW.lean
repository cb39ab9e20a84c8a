/-
  Layer 8: the walk of GraphOrders.
  Conditions: those that each theorem states.
-/
import Derived.Test.YtpdngekolhcndaaGApp
namespace Go.Proofs.Ytpdngekolhcndaa
open Go.RowKit Go.Maps

set_option maxRecDepth 100000 in
set_option maxHeartbeats 8000000 in
theorem ords_walk (n : Int) (L : List Edg) (v : Value) (w : World) (h : EsIs w v L) :
    Calls Try.prog 3 #[.int .i64 n, v] w fun e w' => e = .returned (.bool true) ∧ Kept [] w w' := by
  have HE := Lib.hid h
  obtain ⟨ao, cap, rfl, hcap, hc63, _, hcell⟩ := h.open
  have HC := Lib.hid hcell
  have hlen := h.len
  obtain ⟨m, hm⟩ : ∃ m, L.length = m := ⟨_, rfl⟩
  have HM := Lib.hid hm
  rw [hm] at hlen HE
  rw [hm]
  clear h hcell hm hcap
  go_enter Try.func3, Try.ntmps3
  go_wp2_with fail
  refine (shown8_any w).mono ?_
  rintro e w1 ⟨rfl, hk1⟩
  have HK1 := Lib.hid hk1
  clear hk1
  obtain ⟨w2, hw2⟩ : ∃ w2, w1.alloc (.cells #[] 32) = w2 := ⟨_, rfl⟩
  have HK2 : Hid (Kept [] w w2) := by rw [← hw2]; exact HK1.out.trans (Kept.alloc _ _ _)
  have how : OwnE w1.heap.size w2 (.slice (some ⟨w1.heap.size, 0, none⟩) 0 0) [] := by rw [← hw2]; exact OwnE.empty w1 _ (Nat.le_refl _)
  obtain ⟨v3, w3, hrun, hown, hk3, _⟩ := how.appS (by rw [← hw2, size_alloc]; omega) (HE.out.kept HK2.out) (by rw [HM.out]; simp; omega)
  have HRUN := Lib.hid hrun
  have HK3 : Hid (Kept [] w w3) := HK2.out.into hk3 (fun q hq => by
    have := (how.blk q (by simpa using hq)).1
    have := HK1.out.size
    omega)
  have HO3 : Hid (EsIs w3 v3 L) := by show EsIs _ _ _; have := hown.es; simpa using this
  clear how hrun hown hk3
  go_wp2_with (at_builtin; refine wpList_append_run rfl _ _ 22 rfl _ _ _ rfl rfl HRUN.out ?_)
  obtain ⟨oa, oc, rfl, _, _, hoc⟩ : ∃ oa oc, v3 = .slice oa m oc ∧ m ≤ oc ∧ oc ≤ 9223372036854775807 ∧ (0 < m → ∃ b o, oa = some ⟨b, o, none⟩ ∧ b < w3.heap.size ∧ ∀ k (hk : k < L.length), w3.cell? ⟨b, o + k * 3, none⟩ = some (.int .i64 L[k].fr) ∧ w3.cell? ⟨b, o + k * 3 + 1, none⟩ = some (.int .i64 L[k].tw) ∧ w3.cell? ⟨b, o + k * 3 + 2, none⟩ = some (.bool L[k].nt)) := by
    obtain ⟨oa, oc, h1, h2, h3, _, h4⟩ := HO3.out.open
    rw [HM.out] at h1 h2
    exact ⟨oa, oc, h1, h2, h3, fun h0 => h4 (by rw [HM.out]; exact h0)⟩
  have HOC := Lib.hid hoc
  clear hoc
  refine (order_any n L _ w3 HO3.out).mono ?_
  rintro e w4 ⟨va, vc, c, rfl, H4⟩
  have HK4 : Hid (Kept [] w w4) := HK3.out.trans H4.out.2.2.2.2
  go_wp2_with fail
  refine (rorder_any n L _ w4 (HE.out.kept HK4.out)).mono ?_
  rintro e w5 ⟨vb, rfl, H5⟩
  go_wp2_with fail
  refine (ints_any va vb _ _ w5 (H4.out.1.kept H5.out.2) H5.out.1).mono ?_
  rintro e w6 ⟨rfl, hk6⟩
  rw [decide_eq_true (rfl : ordL n L = ordL n L)]
  have HK36 : Hid (Kept [] w3 w6) := (H4.out.2.2.2.2.trans H5.out.2).trans hk6
  have HNC : Hid (NsIs w6 vc c) := (H4.out.2.1.kept H5.out.2).kept hk6
  obtain ⟨eo, heo⟩ : ∃ eo, ordE n L = eo := ⟨_, rfl⟩
  have HCY : Hid ((eo ≠ 80 → c = []) ∧ (eo = 80 → Cyc (adjL L) c)) := by rw [← heo]; exact ⟨H4.out.2.2.1, fun e => (H4.out.2.2.2.1 e).1⟩
  rw [heo]
  have q1 : (eo != eo) = false := by simp
  clear hk6 H4 H5 heo
  go_wp2_with fail
  clear q1
  go_loopw [13] (fun i wr => ∃ k : Nat, k ≤ m ∧ i = .int .i64 k ∧ Hid (Kept [] w6 wr)) (fun i _ => m - (intOf i).toNat)
  case atStart => exact ⟨0, by omega, rfl, Kept.refl _ _⟩
  case round =>
    obtain ⟨k, hk, rfl, HS⟩ := hrel
    by_cases hlt : k < m
    · have hkl : k < L.length := by rw [HM.out]; exact hlt
      obtain ⟨eb, eo2, rfl, heb, hcc⟩ := HC.out (by omega)
      obtain ⟨ob, oo, rfl, hob, hoo⟩ := HOC.out (by omega)
      obtain ⟨e0, e1, e2⟩ := hcc k hkl
      obtain ⟨o0, o1, o2⟩ := hoo k hkl
      obtain ⟨F, hF⟩ : ∃ F, L[k].fr = F := ⟨_, rfl⟩
      obtain ⟨T, hT⟩ : ∃ T, L[k].tw = T := ⟨_, rfl⟩
      obtain ⟨N, hN⟩ : ∃ N, L[k].nt = N := ⟨_, rfl⟩
      have hka := (HK3.out.trans HK36.out).trans HS.out
      have hkb := HK36.out.trans HS.out
      have c0 := (hka.cell (p := ⟨eb, eo2 + k * 3, none⟩) heb (by simp)).trans e0
      have c1 := (hka.cell (p := ⟨eb, eo2 + k * 3 + 1, none⟩) heb (by simp)).trans e1
      have c2 := (hka.cell (p := ⟨eb, eo2 + k * 3 + 2, none⟩) heb (by simp)).trans e2
      have d0 := (hkb.cell (p := ⟨ob, oo + k * 3, none⟩) hob (by simp)).trans o0
      have d1 := (hkb.cell (p := ⟨ob, oo + k * 3 + 1, none⟩) hob (by simp)).trans o1
      have d2 := (hkb.cell (p := ⟨ob, oo + k * 3 + 2, none⟩) hob (by simp)).trans o2
      rw [hF] at c0 d0
      rw [hT] at c1 d1
      rw [hN] at c2 d2
      clear e0 e1 e2 o0 o1 o2 hcc hoo heb hob hF hT hN hka hkb
      go_wp2_with fail
      go_quiet (fail)
      generalize hwq : World.drewN wr _ = wq
      have HN : Hid (Kept [] w6 wq) := by rw [← hwq]; exact HS.out.trans (Kept.drewN _ _ _)
      clear hwq
      go_wp2_with fail
      go_roundw
      case rel => exact ⟨k + 1, by omega, by go_num, HN⟩
      case measure => simp [intOf]; omega
    have HKR : Hid (Kept [] w wr ∧ NsIs wr vc c) := ⟨(HK3.out.trans HK36.out).trans HS.out, HNC.out.kept HS.out⟩
    clear HS
    by_cases h80 : eo = 80
    case neg =>
      have q80 : (eo != 80) = true := by simpa using h80
      have hcn := HCY.out.1 h80
      rw [hcn] at HKR
      obtain ⟨ca, cc, rfl, _⟩ := HKR.out.2.open
      simp only [List.length_nil]
      clear hcn h80
      go_wp2_with fail
      go_ret
      exact ⟨rfl, HKR.out.1⟩
    subst h80
    have hcyc := HCY.out.2 rfl
    have HYC := Lib.hid hcyc
    have hcl := HKR.out.2.len
    have hc0 := hcyc.ne
    obtain ⟨ca, cc, rfl, _, _, hcc⟩ := HKR.out.2.open
    have HCC := Lib.hid hcc
    obtain ⟨z, hz⟩ : ∃ z, c.length = z := ⟨_, rfl⟩
    have HZ := Lib.hid hz
    rw [hz] at hcl hc0
    rw [hz]
    have HKW := Lib.hid HKR.out.1
    obtain ⟨wc0, hwc0⟩ : ∃ wc0, wr = wc0 := ⟨_, rfl⟩
    rw [hwc0] at HCC HKW ⊢
    clear hcc hz hcyc HKR hwc0
    have hz0 : ¬ z = 0 := by omega
    go_wp2_with fail
    go_loopw [14] (fun i wr => ∃ k : Nat, k ≤ z ∧ i = .int .i64 k ∧ Hid (Kept [] wc0 wr)) (fun i _ => z - (intOf i).toNat)
    case atStart => exact ⟨0, by omega, rfl, Kept.refl _ _⟩
    case round =>
      obtain ⟨k, hk, rfl, HS⟩ := hrel
      by_cases hlt : k < z
      · have hkc : k < c.length := by rw [HZ.out]; exact hlt
        obtain ⟨j, hj⟩ : ∃ j, (k + 1) % z = j := ⟨_, rfl⟩
        have hjz : j < z := by rw [← hj]; exact Nat.mod_lt _ (by omega)
        have hjc : j < c.length := by rw [HZ.out]; exact hjz
        obtain ⟨cb, co, rfl, hcb, hcv⟩ := HCC.out (by omega)
        have c0 := (HS.out.cell (p := ⟨cb, co + k, none⟩) hcb (by simp)).trans (hcv k hkc)
        have c1 := (HS.out.cell (p := ⟨cb, co + j, none⟩) hcb (by simp)).trans (hcv j hjc)
        obtain ⟨x, hx⟩ : ∃ x, c[k] = x := ⟨_, rfl⟩
        obtain ⟨y, hy⟩ : ∃ y, c[j] = y := ⟨_, rfl⟩
        rw [hx] at c0
        rw [hy] at c1
        have hadj : adjL L x y = true := by
          have := HYC.out.next k hkc
          simp only [HZ.out, hj] at this
          rw [hx, hy] at this
          exact this
        have HEG : Hid (∀ n, Calls Try.prog 12 #[.slice ao m cap, .int .i64 x, .int .i64 y] (wr.drewN n) fun e w' => e = .returned (.bool true) ∧ w' = wr.drewN n) := fun n => by
          rw [← hadj]
          exact (edge_any L _ x y _ (HE.out.kept ((HKW.out.trans HS.out).trans (Kept.drewN _ _ _)))).mono fun e w' h => ⟨h.1, h.2.symm⟩
        have m1 : ((k : Int) + 1) % (z : Int) = (j : Int) := by rw [← hj]; rfl
        have m2 : (IntKind.i64.wrap ((k : Int) + 1)).tmod (z : Int) = (j : Int) := by rw [show IntKind.i64.wrap ((k : Int) + 1) = (k : Int) + 1 by rw [IntKind.wrap_i64]; omega, Int.tmod_eq_emod_of_nonneg (by omega)]; exact m1
        clear m1
        clear hx hy hj hadj hcv hcb
        go_wp2_with fail
        go_quiet ((go_at_call 12; exact Calls.quiet_of_same (HEG.out _)))
        generalize hwq : World.drewN wr _ = wq
        have HN : Hid (Kept [] wc0 wq) := by rw [← hwq]; exact HS.out.trans (Kept.drewN _ _ _)
        clear hwq HEG m2
        go_wp2_with fail
        clear c0 c1
        go_loopw [16] (fun i wr => ∃ q : Nat, q ≤ k ∧ i = .int .i64 q ∧ Hid (Kept [] wc0 wr)) (fun i _ => k - (intOf i).toNat)
        case atStart => exact ⟨0, by omega, rfl, HN⟩
        case round =>
          clear HN
          obtain ⟨q, hq, rfl, HQ⟩ := hrel
          by_cases hqk : q < k
          · have hqc : q < c.length := by rw [HZ.out]; omega
            obtain ⟨cb, co, he, hcb, hcv⟩ := HCC.out (by omega)
            injection he with he
            injection he with he1 he2
            subst he1 he2
            have c0 := (HQ.out.cell (p := ⟨_, _ + q, none⟩) hcb (by simp)).trans (hcv q hqc)
            have c1 := (HQ.out.cell (p := ⟨_, _ + k, none⟩) hcb (by simp)).trans (hcv k hkc)
            obtain ⟨x2, hx⟩ : ∃ x, c[q] = x := ⟨_, rfl⟩
            obtain ⟨y2, hy⟩ : ∃ y, c[k] = y := ⟨_, rfl⟩
            rw [hx] at c0
            rw [hy] at c1
            have hne : ((x2 : Int) == (y2 : Int)) = false := by
              rw [beq_eq_false_iff_ne]
              intro e
              have e2 : c[q] = c[k] := by rw [hx, hy]; omega
              exact (List.pairwise_iff_getElem.1 HYC.out.nodup q k hqc hkc hqk) e2
            clear hx hy hcv hcb
            go_wp2_with fail
            go_quiet (fail)
            generalize hwq : World.drewN wr _ = wq2
            have HN : Hid (Kept [] wc0 wq2) := by rw [← hwq]; exact HQ.out.trans (Kept.drewN _ _ _)
            clear hwq
            go_wp2_with fail
            go_roundw
            case rel => exact ⟨q + 1, by omega, by go_num, HN⟩
            case measure => simp [intOf]; omega
          · go_wp2_with fail
            go_roundw
            case rel => exact ⟨k + 1, by omega, by go_num, HQ⟩
            case measure => simp [intOf]; omega
      · have hzp : (0 : Int) < (z : Int) := by omega
        have hzd : decide (0 < z) = true := decide_eq_true (by omega)
        go_wp2_with fail
        go_ret
        exact ⟨by first | rfl | (rw [hzd]; rfl), HKW.out.trans HS.out⟩
end Go.Proofs.Ytpdngekolhcndaa

/-
  Layer 12: the walk of SyntaxJoins, over what Parse answers.
  Conditions: those that each theorem states.
-/
import Derived.Test.YtlbenaodpfhjeaaVTree
import Derived.Test.YtlbenaodpfhjeaaVApp
namespace Go.Proofs.Ytlbenaodpfhjeaa
open Go.RowKit Go.Maps

def incA : Tka := ⟨1, [105, 110, 99, 108, 117, 100, 101], 0⟩
def abA : Tka := ⟨1, [97, 58, 58, 98], 0⟩
theorem own_two (w : World) (base : Nat) (hb : base ≤ w.heap.size) : OwnTa base (w.alloc (.cells #[.int .i64 1, .string ⟨#[105, 110, 99, 108, 117, 100, 101]⟩, .int .i64 0, .int .i64 1, .string ⟨#[97, 58, 58, 98]⟩, .int .i64 0] 37)) (.slice (some ⟨w.heap.size, 0, none⟩) 2 2) [incA, abA] :=
  ⟨⟨rfl, .inr ⟨w.heap.size, 2, _, rfl, hb, heap_alloc_last _ _, Nat.le_refl _, by unfold maxLen; omega, rfl, rfl⟩⟩, by simp⟩

set_option maxRecDepth 100000 in
set_option maxHeartbeats 8000000 in
theorem joins12_walk (hsh : ShC) (hp : ParC) (S : ByteArray) (w : World) (hs : S.size ≤ 9223372036854775807) : Calls Try.prog 5 #[.string S] w fun e w' => e = .returned (.bool true) ∧ Kept [] w w' := by
  have HSH := Lib.hid hsh
  have HPC := Lib.hid hp
  clear hsh hp
  go_enter Try.func5, Try.ntmps5
  go_wp2_with fail
  refine (HSH.out w).mono ?_
  rintro e w1 ⟨rfl, hk1⟩
  have HK1 := Lib.hid hk1
  clear hk1
  go_wp2_with fail
  refine (words12_any S w1 hs).mono ?_
  rintro e w2 ⟨vw, rfl, hws, hk2⟩
  obtain ⟨X, hX⟩ : ∃ X, lxW (bl S) = X := ⟨_, rfl⟩
  rw [hX] at hws
  have H2 := Lib.hid (show WsIs w2 vw X ∧ Kept [] w w2 from ⟨hws, HK1.out.trans hk2⟩)
  obtain ⟨xo, xc, hvx, hxc, hxc2, _, _⟩ := hws.open
  obtain ⟨n, hn⟩ : ∃ n, X.length = n := ⟨_, rfl⟩
  have HN := Lib.hid hn
  rw [hn] at hvx hxc
  subst hvx
  clear hX hws hk2 hn
  by_cases hbig : (4094 : Int) < (n : Int)
  · go_wp2_with fail
    go_ret
    exact ⟨rfl, H2.out.2⟩
  have hn4 : n ≤ 4094 := by omega
  obtain ⟨T, hT⟩ : ∃ T, X.map tkW = T := ⟨_, rfl⟩
  have hTl : T.length = n := by rw [← hT, List.length_map, HN.out]
  have HT : Hid (X.map tkW = T ∧ T.length = n) := ⟨hT, hTl⟩
  have HJP := Lib.hid (join_par T (by omega))
  obtain ⟨ns, hns⟩ : ∃ n, (parO T).1 = n := ⟨_, rfl⟩
  obtain ⟨pa, hpa⟩ : ∃ n, (parO T).2.1 = n := ⟨_, rfl⟩
  obtain ⟨pe, hpe⟩ : ∃ n, (parO T).2.2 = n := ⟨_, rfl⟩
  obtain ⟨ms, hms⟩ : ∃ n, (parO (incT :: abT :: T)).1 = n := ⟨_, rfl⟩
  obtain ⟨qa, hqa⟩ : ∃ n, (parO (incT :: abT :: T)).2.1 = n := ⟨_, rfl⟩
  obtain ⟨qe, hqe⟩ : ∃ n, (parO (incT :: abT :: T)).2.2 = n := ⟨_, rfl⟩
  have HPA : Hid (∀ (v : Value) (wx : World), TkIs wx v T → Calls Try.prog 7 #[v] wx fun e w' => ∃ v, e = .returned (.tuple #[.agg #[v], .int .i64 (pa : Int), .int .i64 (pe : Int)]) ∧ NdIs w' v ns ∧ Kept [] wx w') := fun v wx h => by
    have := HPC.out v T wx h
    unfold ParOut at this
    rw [hns, hpa, hpe] at this
    exact this
  have HPB : Hid (∀ (v : Value) (wx : World), TkIs wx v (incT :: abT :: T) → Calls Try.prog 7 #[v] wx fun e w' => ∃ v, e = .returned (.tuple #[.agg #[v], .int .i64 (qa : Int), .int .i64 (qe : Int)]) ∧ NdIs w' v ms ∧ Kept [] wx w') := fun v wx h => by
    have := HPC.out v _ wx h
    unfold ParOut at this
    rw [hms, hqa, hqe] at this
    exact this
  rw [hpe, hpa, hqe, hqa, hns, hms] at HJP
  have HNO : Hid ((pe ≠ 0 → ns = []) ∧ (qe ≠ 0 → ms = []) ∧ (pe = 0 → ArOk ns) ∧ (qe = 0 → ArOk ms)) := by
    rw [← hns, ← hms, ← hpe, ← hqe]
    exact ⟨par_no, par_no, par_ok, par_ok⟩
  have HPL : Hid (pe = 120 → pa ≤ n) := by
    show _ → _
    rw [← hpe, ← hpa, ← hTl]
    exact fun h => (begin_par T [] h).1
  clear hT hTl hns hpa hpe hms hqa hqe
  have hbigi : ¬ (4094 : Int) < (n : Int) := hbig
  clear hbig
  go_wp2_with fail
  refine (HPA.out _ w2 (by rw [← HT.out.1]; exact H2.out.1.tk)).mono ?_
  rintro e w3 ⟨va, rfl, hnd1, hk3⟩
  have HD1 := Lib.hid hnd1
  obtain ⟨a1, c1, hva, _, _, _⟩ := hnd1
  obtain ⟨k, hk⟩ : ∃ k, ns.length = k := ⟨_, rfl⟩
  have HKL := Lib.hid hk
  rw [hk] at hva
  subst hva
  have H3 : Hid (Kept [] w2 w3) := hk3
  clear hk3 hk
  obtain ⟨w4, hw4⟩ : ∃ w4, w3.alloc (.cells #[.slice a1 k c1] 25) = w4 := ⟨_, rfl⟩
  obtain ⟨P1, hP1⟩ : ∃ P, w3.heap.size = P := ⟨_, rfl⟩
  have H4 : Hid (w4.heap[P1]? = some (.cells #[.slice a1 k c1] 25) ∧ Kept [] w3 w4) := by
    rw [← hw4, ← hP1]
    exact ⟨heap_alloc_last _ _, Kept.alloc _ _ _⟩
  obtain ⟨w5, hw5⟩ : ∃ w5, w4.alloc (.cells #[.int .i64 1, .string ⟨#[105, 110, 99, 108, 117, 100, 101]⟩, .int .i64 0, .int .i64 1, .string ⟨#[97, 58, 58, 98]⟩, .int .i64 0] 37) = w5 := ⟨_, rfl⟩
  have hown5 : OwnTa w4.heap.size w5 (.slice (some ⟨w4.heap.size, 0, none⟩) 2 2) [incA, abA] := by rw [← hw5]; exact own_two w4 _ (Nat.le_refl _)
  have H5 : Hid (Kept [] w4 w5) := by rw [← hw5]; exact Kept.alloc _ _ _
  have hx5 : TaIs w5 (.slice xo n xc) (X.map taW) := (H2.out.1.kept (H3.out.trans (H4.out.2.trans H5.out))).ta
  obtain ⟨v6, w6, hrun, hown6, hk6, _⟩ := hown5.appS (by rw [← hw5]; simp) hx5 (by rw [List.length_map, HN.out]; simp; omega)
  have HRUN := Lib.hid hrun
  have HTK : Hid (TkIs w6 v6 (incT :: abT :: T)) := by
    have := hown6.es.tk
    have e : ([incA, abA] ++ X.map taW).map tkA = incT :: abT :: T := by
      rw [← HT.out.1]
      simp [tkA, incA, abA, incT, abT, taW, tkW]
    rw [e] at this
    exact this
  have H6 : Hid (Kept [] w4 w6) := H5.out.into hk6 (fun q hq => (hown5.blk q (by simpa using hq)).1)
  have hbase : Hid (w4.heap.size = w4.heap.size) := rfl
  clear hown5 hx5 hrun hown6 hk6 hbase
  go_wp2_with (at_builtin; refine wpList_append_run rfl _ _ 29 rfl _ _ _ rfl rfl HRUN.out ?_)
  refine (HPB.out v6 w6 HTK.out).mono ?_
  rintro e w7 ⟨vb, rfl, hnd2, hk7⟩
  have HD2 := Lib.hid hnd2
  obtain ⟨a2, c2, hvb, _, _, _⟩ := hnd2
  obtain ⟨j, hj⟩ : ∃ k, ms.length = k := ⟨_, rfl⟩
  have HJL := Lib.hid hj
  rw [hj] at hvb
  subst hvb
  have H7 : Hid (Kept [] w4 w7) := H6.out.trans hk7
  clear hk7 hj hw4 hP1 hw5
  obtain ⟨w8, hw8⟩ : ∃ w8, w7.alloc (.cells #[.slice a2 j c2] 25) = w8 := ⟨_, rfl⟩
  obtain ⟨P2, hP2⟩ : ∃ P, w7.heap.size = P := ⟨_, rfl⟩
  have H8 : Hid (w8.heap[P2]? = some (.cells #[.slice a2 j c2] 25) ∧ Kept [] w7 w8) := by
    rw [← hw8, ← hP2]
    exact ⟨heap_alloc_last _ _, Kept.alloc _ _ _⟩
  have H28 : Hid (Kept [] w2 w8) := H3.out.trans (H4.out.2.trans (H7.out.trans H8.out.2))
  go_wp2_with fail
  refine (HPA.out _ w8 (by rw [← HT.out.1]; exact (H2.out.1.kept H28.out).tk)).mono ?_
  rintro e w9 ⟨vc, rfl, hnd3, hk9⟩
  obtain ⟨a3, c3, hvc, _, _, _⟩ := hnd3
  rw [HKL.out] at hvc
  subst hvc
  have H9 : Hid (Kept [] w8 w9) := hk9
  clear hk9 hw8 hP2
  obtain ⟨w10, hw10⟩ : ∃ w10, w9.alloc (.cells #[.slice a3 k c3] 25) = w10 := ⟨_, rfl⟩
  obtain ⟨P3, hP3⟩ : ∃ P, w9.heap.size = P := ⟨_, rfl⟩
  have H10 : Hid (w10.heap[P3]? = some (.cells #[.slice a3 k c3] 25) ∧ Kept [] w9 w10) := by
    rw [← hw10, ← hP3]
    exact ⟨heap_alloc_last _ _, Kept.alloc _ _ _⟩
  have HKA : Hid (Kept [] w4 w10 ∧ Kept [] w8 w10 ∧ Kept [] w w10) := ⟨H7.out.trans (H8.out.2.trans (H9.out.trans H10.out.2)), H9.out.trans H10.out.2, H2.out.2.trans (H28.out.trans (H9.out.trans H10.out.2))⟩
  have HAR : Hid (∀ w', Kept [] w10 w' → w'.cell? ⟨P1, 0, none⟩ = some (.slice a1 k c1) ∧ w'.cell? ⟨P2, 0, none⟩ = some (.slice a2 j c2) ∧ w'.cell? ⟨P3, 0, none⟩ = some (.slice a3 k c3)) := fun w' hk =>
    ⟨cell_of_row _ _ 0 _ _ _ ((HKA.out.1.trans hk).heap (by simp) H4.out.1), cell_of_row _ _ 0 _ _ _ ((HKA.out.2.1.trans hk).heap (by simp) H8.out.1), cell_of_row _ _ 0 _ _ _ (hk.heap (by simp) H10.out.1)⟩
  obtain ⟨p1, p2, p3⟩ := HAR.out w10 (Kept.refl _ _)
  rcases HJP.out with ⟨hp0, hq0, hat⟩ | ⟨hp0, hq0⟩ | ⟨hp0, hq0⟩ | ⟨hp0, hq0, ns1, l1, hn1, hm1⟩
  · subst hp0 hq0 hat
    have hpa : pa ≤ n := HPL.out rfl
    have e2 : IntKind.i64.wrap ((pa : Int) + 2) = (pa : Int) + 2 := by rw [IntKind.wrap_i64]; omega
    go_wp2_with fail
    go_ret
    exact ⟨rfl, HKA.out.2.2⟩
  · subst hp0 hq0
    go_wp2_with fail
    go_ret
    exact ⟨rfl, HKA.out.2.2⟩
  · subst hp0 hq0
    go_wp2_with fail
    go_ret
    exact ⟨rfl, HKA.out.2.2⟩
  · subst hp0 hq0
    subst hn1 hm1
    obtain ⟨m, hm⟩ : ∃ m, ns1.length = m := ⟨_, rfl⟩
    obtain ⟨z, hz⟩ : ∃ m, l1.length = m := ⟨_, rfl⟩
    have HM : Hid (ns1.length = m ∧ l1.length = z) := ⟨hm, hz⟩
    have ek : k = m + 1 := by rw [← HKL.out, List.length_append, hm]; rfl
    have ej : j = m + 2 := by rw [← HJL.out]; simp; omega
    have hm4 : m ≤ 1023 := by
      have := (HNO.out.2.2.1 rfl).few
      rw [List.length_append, hm] at this
      simp at this
      omega
    have HAO : Hid (ArOk (ns1 ++ [⟨1, [], l1⟩])) := HNO.out.2.2.1 rfl
    subst ek ej
    obtain ⟨a1', c1', hv1, hc1, hc1', hn1⟩ := HD1.out
    obtain ⟨a2', c2', hv2, hc2, hc2', hn2⟩ := HD2.out
    rw [HKL.out] at hv1 hc1
    rw [HJL.out] at hv2 hc2
    cases hv1
    cases hv2
    obtain ⟨b1, o1, rfl, hb1, hq1⟩ := hn1 (by rw [HKL.out]; omega)
    obtain ⟨b2, o2, rfl, hb2, hq2⟩ := hn2 (by rw [HJL.out]; omega)
    have k310 : Kept [] w3 w10 := H4.out.2.trans HKA.out.1
    have k710 : Kept [] w7 w10 := H8.out.2.trans HKA.out.2.1
    have HA : Hid (∀ i (h : i < m) w', Kept [] w10 w' → w'.cell? ⟨b1, o1 + i * 3, none⟩ = some (.int .i64 ((ns1[i]'(by omega)).kd : Int)) ∧ w'.cell? ⟨b1, o1 + i * 3 + 1, none⟩ = some (.string (strL (ns1[i]'(by omega)).tx)) ∧ ∃ lv, w'.cell? ⟨b1, o1 + i * 3 + 2, none⟩ = some lv ∧ KsIs w' lv (ns1[i]'(by omega)).ks) := fun i h w' hk => by
      have hl : i < (ns1 ++ [(⟨1, [], l1⟩ : Nod)]).length := by rw [HKL.out]; omega
      have e : (ns1 ++ [(⟨1, [], l1⟩ : Nod)])[i] = ns1[i]'(by omega) := List.getElem_append_left (by omega)
      obtain ⟨x0, x1, lv, x2, x3⟩ := hq1 i hl
      rw [e] at x0 x1 x3
      have kk := k310.trans hk
      exact ⟨(kk.cell (p := ⟨b1, o1 + i * 3, none⟩) hb1 (by simp)).trans x0, (kk.cell (p := ⟨b1, o1 + i * 3 + 1, none⟩) hb1 (by simp)).trans x1, lv, (kk.cell (p := ⟨b1, o1 + i * 3 + 2, none⟩) hb1 (by simp)).trans x2, x3.kept kk⟩
    have HB : Hid (∀ i (h : i < m) w', Kept [] w10 w' → w'.cell? ⟨b2, o2 + (i + 1) * 3, none⟩ = some (.int .i64 ((ns1[i]'(by omega)).kd : Int)) ∧ w'.cell? ⟨b2, o2 + (i + 1) * 3 + 1, none⟩ = some (.string (strL (ns1[i]'(by omega)).tx)) ∧ ∃ lv, w'.cell? ⟨b2, o2 + (i + 1) * 3 + 2, none⟩ = some lv ∧ KsIs w' lv (uL (ns1[i]'(by omega)).ks)) := fun i h w' hk => by
      have hl : i + 1 < ((incN :: ns1.map upN) ++ [(⟨1, [], 0 :: uL l1⟩ : Nod)]).length := by rw [HJL.out]; omega
      have e : ((incN :: ns1.map upN) ++ [(⟨1, [], 0 :: uL l1⟩ : Nod)])[i + 1] = upN (ns1[i]'(by omega)) := by
        rw [List.getElem_append_left (by simp; omega)]
        simp
      obtain ⟨x0, x1, lv, x2, x3⟩ := hq2 (i + 1) hl
      rw [e] at x0 x1 x3
      have kk := k710.trans hk
      exact ⟨(kk.cell (p := ⟨b2, o2 + (i + 1) * 3, none⟩) hb2 (by simp)).trans x0, (kk.cell (p := ⟨b2, o2 + (i + 1) * 3 + 1, none⟩) hb2 (by simp)).trans x1, lv, (kk.cell (p := ⟨b2, o2 + (i + 1) * 3 + 2, none⟩) hb2 (by simp)).trans x2, x3.kept kk⟩
    have hA0 : ∃ u c, w10.cell? ⟨b1, o1 + m * 3 + 2, none⟩ = some (.slice u z c) := by
      have hl : m < (ns1 ++ [(⟨1, [], l1⟩ : Nod)]).length := by rw [HKL.out]; omega
      have e : (ns1 ++ [(⟨1, [], l1⟩ : Nod)])[m] = ⟨1, [], l1⟩ := by rw [List.getElem_append_right (by omega)]; simp [HM.out.1]
      obtain ⟨_, _, lv, x2, x3⟩ := hq1 m hl
      rw [e] at x3
      obtain ⟨u, c, rfl, _⟩ := x3
      refine ⟨u, c, ?_⟩
      rw [← HM.out.2]
      exact (k310.cell (p := ⟨b1, o1 + m * 3 + 2, none⟩) hb1 (by simp)).trans x2
    have hB0 : ∃ u c, w10.cell? ⟨b2, o2 + (m + 1) * 3 + 2, none⟩ = some (.slice u (z + 1) c) ∧ z + 1 ≤ 9223372036854775807 := by
      have hl : m + 1 < ((incN :: ns1.map upN) ++ [(⟨1, [], 0 :: uL l1⟩ : Nod)]).length := by rw [HJL.out]; omega
      have e : ((incN :: ns1.map upN) ++ [(⟨1, [], 0 :: uL l1⟩ : Nod)])[m + 1] = ⟨1, [], 0 :: uL l1⟩ := by rw [List.getElem_append_right (by simp; omega)]; simp [HM.out.1]
      obtain ⟨_, _, lv, x2, x3⟩ := hq2 (m + 1) hl
      rw [e] at x3
      obtain ⟨u, c, rfl, y1, y2, _⟩ := x3
      rw [List.length_cons, List.length_map, HM.out.2] at y1
      refine ⟨u, c, ?_, by omega⟩
      have := (k710.cell (p := ⟨b2, o2 + (m + 1) * 3 + 2, none⟩) hb2 (by simp)).trans x2
      rw [List.length_cons, List.length_map, HM.out.2] at this
      exact this
    have hR : w10.cell? ⟨b2, o2, none⟩ = some (.int .i64 5) ∧ w10.cell? ⟨b2, o2 + 1, none⟩ = some (.string ⟨#[97, 58, 58, 98]⟩) := by
      have hl : 0 < ((incN :: ns1.map upN) ++ [(⟨1, [], 0 :: uL l1⟩ : Nod)]).length := by rw [HJL.out]; omega
      obtain ⟨x0, x1, _⟩ := hq2 0 hl
      rw [Nat.zero_mul, Nat.add_zero] at x0 x1
      exact ⟨(k710.cell (p := ⟨b2, o2, none⟩) hb2 (by simp)).trans x0, (k710.cell (p := ⟨b2, o2 + 1, none⟩) hb2 (by simp)).trans x1⟩
    obtain ⟨ua, ca, hA0⟩ := hA0
    obtain ⟨ub, cb, hB0, hz2⟩ := hB0
    obtain ⟨r0, r1⟩ := hR
    have HK7 : Hid (b2 < w10.heap.size) := Nat.lt_of_lt_of_le hb2 k710.size
    clear hq1 hq2 hn1 hn2 k310 k710
    have e1 : IntKind.i64.wrap ((m : Int) + 1 + 1) = (m : Int) + 2 := by rw [IntKind.wrap_i64]; omega
    have e2 : IntKind.i64.wrap ((m : Int) + 2 - 1) = ((m + 1 : Nat) : Int) := by rw [IntKind.wrap_i64]; omega
    have e3 : IntKind.i64.wrap ((m : Int) + 2 - 2) = (m : Int) := by rw [IntKind.wrap_i64]; omega
    have e4 : IntKind.i64.wrap ((z : Int) + 1) = (z : Int) + 1 := by rw [IntKind.wrap_i64]; omega
    go_wp2_with fail
    go_quiet (fail)
    clear r0 r1 hA0 hB0 hz2 e1 e2 e4
    go_wp2_with fail
    go_loopw [16] (fun si wr => ∃ i : Nat, si = .int .i64 i ∧ i ≤ m ∧ Hid (Kept [] w10 wr)) (fun si _ => m - (intOf si).toNat)
    case atStart => exact ⟨0, rfl, by omega, Kept.drewN _ _ _⟩
    case round =>
      obtain ⟨i, rfl, hi, HK⟩ := hrel
      obtain ⟨p1, p2, _⟩ := HAR.out _ HK.out
      by_cases hlt : i < m
      · obtain ⟨x0, x1, lva, x2, x3⟩ := HA.out i hlt _ HK.out
        obtain ⟨y0, y1, lvb, y2, y3⟩ := HB.out i hlt _ HK.out
        have e5 : IntKind.i64.wrap ((i : Int) + 1) = ((i + 1 : Nat) : Int) := by rw [IntKind.wrap_i64]; omega
        have hil : i < ns1.length := by rw [HM.out.1]; exact hlt
        obtain ⟨kd, hkd⟩ : ∃ k : Int, ((ns1[i]'hil).kd : Int) = k := ⟨_, rfl⟩
        obtain ⟨tx, htx⟩ : ∃ k, strL (ns1[i]'hil).tx = k := ⟨_, rfl⟩
        obtain ⟨ks, hks⟩ : ∃ k, (ns1[i]'hil).ks = k := ⟨_, rfl⟩
        rw [hkd] at x0 y0
        rw [htx] at x1 y1
        rw [hks] at x3 y3
        obtain ⟨au, ap, rfl, hap1, hap, hka⟩ := x3
        obtain ⟨bu, bp, rfl, _, hbp, hkb⟩ := y3
        have hlk : (uL ks).length = ks.length := List.length_map ..
        rw [hlk] at y2
        obtain ⟨c, hc⟩ : ∃ c, ks.length = c := ⟨_, rfl⟩
        rw [hc] at x2 y2
        have HC : Hid (ks.length = c ∧ (uL ks).length = c ∧ c ≤ 9223372036854775807) := ⟨hc, by rw [hlk, hc], by omega⟩
        have HKX := Lib.hid hka
        have HKY := Lib.hid hkb
        obtain ⟨w21, hw21⟩ : ∃ x, wr.alloc (.cells #[.int .i64 kd, .string tx, .slice au c ap] 33) = x := ⟨_, rfl⟩
        obtain ⟨A0, hA0⟩ : ∃ x, wr.heap.size = x := ⟨_, rfl⟩
        have H21 : Hid (w21.heap[A0]? = some (.cells #[.int .i64 kd, .string tx, .slice au c ap] 33) ∧ Kept [] wr w21) := by
          rw [← hw21, ← hA0]
          exact ⟨heap_alloc_last _ _, Kept.alloc _ _ _⟩
        have hbl : b2 < wr.heap.size := Nat.lt_of_lt_of_le HK7.out HK.out.size
        have p22 := (HAR.out _ (HK.out.trans H21.out.2)).2.1
        have z0 := (H21.out.2.cell (p := ⟨b2, o2 + (i + 1) * 3, none⟩) hbl (by simp)).trans y0
        have z1 := (H21.out.2.cell (p := ⟨b2, o2 + (i + 1) * 3 + 1, none⟩) hbl (by simp)).trans y1
        have z2 := (H21.out.2.cell (p := ⟨b2, o2 + (i + 1) * 3 + 2, none⟩) hbl (by simp)).trans y2
        obtain ⟨w22, hw22⟩ : ∃ x, w21.alloc (.cells #[.int .i64 kd, .string tx, .slice bu c bp] 33) = x := ⟨_, rfl⟩
        obtain ⟨B0, hB0⟩ : ∃ x, w21.heap.size = x := ⟨_, rfl⟩
        have H22 : Hid (w22.heap[B0]? = some (.cells #[.int .i64 kd, .string tx, .slice bu c bp] 33) ∧ Kept [] w21 w22) := by
          rw [← hw22, ← hB0]
          exact ⟨heap_alloc_last _ _, Kept.alloc _ _ _⟩
        have HCL : Hid (∀ w', Kept [] w22 w' → w'.cell? ⟨A0, 0, none⟩ = some (.int .i64 kd) ∧ w'.cell? ⟨A0, 1, none⟩ = some (.string tx) ∧ w'.cell? ⟨A0, 2, none⟩ = some (.slice au c ap) ∧ w'.cell? ⟨B0, 0, none⟩ = some (.int .i64 kd) ∧ w'.cell? ⟨B0, 1, none⟩ = some (.string tx) ∧ w'.cell? ⟨B0, 2, none⟩ = some (.slice bu c bp)) := fun w' hk => by
          have ha := (H22.out.2.trans hk).heap (by simp) H21.out.1
          have hb := hk.heap (by simp) H22.out.1
          exact ⟨cell_of_row _ _ 0 _ _ _ ha, cell_of_row _ _ 1 _ _ _ ha, cell_of_row _ _ 2 _ _ _ ha, cell_of_row _ _ 0 _ _ _ hb, cell_of_row _ _ 1 _ _ _ hb, cell_of_row _ _ 2 _ _ _ hb⟩
        have HW : Hid (Kept [] w10 w22 ∧ Kept [] wr w22) := ⟨HK.out.trans (H21.out.2.trans H22.out.2), H21.out.2.trans H22.out.2⟩
        obtain ⟨t0, t1, t2, t3, t4, t5⟩ := HCL.out w22 (Kept.refl _ _)
        have HXI : Hid (∀ x ∈ ks, x < i) := fun x hx => by
          have hkid : kidsN (ns1 ++ [⟨1, [], l1⟩]) i = ks := by
            unfold kidsN
            rw [List.getElem?_append_left hil, List.getElem?_eq_getElem hil]
            exact hks
          exact (HAO.out.seg.kids i (by omega) (by rw [HKL.out]; omega) x (by rw [hkid]; exact hx)).2
        clear hkd htx hks hka hkb hlk hc y0 y1 y2 hap hap1 hbp
        go_wp2_with fail
        clear z0 z1 z2 x0 x1 x2 p22 t0 t1 t2 t3 t4 t5 hw21 hw22 p1 p2
        go_loopw [19] (fun sk wx => ∃ q : Nat, sk = .int .i64 q ∧ q ≤ c ∧ Hid (Kept [] w22 wx)) (fun sk _ => c - (intOf sk).toNat)
        case atStart => exact ⟨0, rfl, by omega, Kept.refl _ _⟩
        case round =>
          obtain ⟨q, rfl, hq, HQ⟩ := hrel
          obtain ⟨_, _, t2, _, _, t5⟩ := HCL.out _ HQ.out
          by_cases hqc : q < c
          · have hq1 : q < ks.length := by rw [HC.out.1]; exact hqc
            have hq2 : q < (uL ks).length := by rw [HC.out.2.1]; exact hqc
            obtain ⟨b3, o3, rfl, hb3, hc3⟩ := HKX.out (by omega)
            obtain ⟨b4, o4, rfl, hb4, hc4⟩ := HKY.out (by omega)
            have v3 := ((HW.out.2.trans HQ.out).cell (p := ⟨b3, o3 + q, none⟩) hb3 (by simp)).trans (hc3 q hq1)
            have v4 := ((HW.out.2.trans HQ.out).cell (p := ⟨b4, o4 + q, none⟩) hb4 (by simp)).trans (hc4 q hq2)
            have e7 : (uL ks)[q] = ks[q] + 1 := List.getElem_map ..
            rw [e7] at v4
            have hxi := HXI.out ks[q] (List.getElem_mem hq1)
            obtain ⟨x, hx⟩ : ∃ x, ks[q] = x := ⟨_, rfl⟩
            rw [hx] at v3 v4 hxi
            have e6 : IntKind.i64.wrap ((x : Int) + 1) = (x : Int) + 1 := by rw [IntKind.wrap_i64]; omega
            have hcm := HC.out.2.2
            have e8 : IntKind.i64.wrap ((q : Int) + 1) = ((q + 1 : Nat) : Int) := by rw [IntKind.wrap_i64]; omega
            clear hx e7 hc3 hc4
            go_wp2_with fail
            go_quiet (fail)
            go_wp2_with fail
            go_roundw
            case rel => exact ⟨q + 1, by go_num, by omega, HQ.out.trans (Kept.drewN _ _ _)⟩
            case measure => simp [intOf]; omega
          · have hle : q = c := by omega
            subst hle
            go_wp2_with fail
            go_roundw
            case rel => exact ⟨i + 1, by go_num, by omega, HW.out.1.trans HQ.out⟩
            case measure => simp [intOf]; omega
      · have hle : i = m := by omega
        subst hle
        go_wp2_with fail
        go_ret
        exact ⟨rfl, HKA.out.2.2.trans HK.out⟩
end Go.Proofs.Ytlbenaodpfhjeaa

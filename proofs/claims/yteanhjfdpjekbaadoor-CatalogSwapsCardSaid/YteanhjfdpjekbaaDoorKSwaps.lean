/-
  Layer 7: the walk of CatalogSwaps.
  Conditions: those that each theorem states.
-/
import Derived.Test.YteanhjfdpjekbaaDoorKSwap
import Derived.Test.YteanhjfdpjekbaaDoorPReg
namespace Go.Proofs.YteanhjfdpjekbaaDoor
open Go.RowKit Go.Maps
set_option maxRecDepth 100000

theorem normI (n : Int) (hb : -9223372036854775808 ≤ n ∧ n ≤ 9223372036854775807) : ∃ I : Nat, (if n < 0 then -(n + 1) else n) = (I : Int) ∧ I ≤ 9223372036854775807 := by
  refine ⟨(if n < 0 then -(n + 1) else n).toNat, by split <;> omega, by split <;> omega⟩

set_option maxRecDepth 100000 in
set_option maxHeartbeats 8000000 in
theorem swaps_walk (c : Cat) (x y : Int) (v : Value) (w : World) (h : CatIs w v c) (ht : TysIs w) (hbx0 : -9223372036854775808 ≤ x ∧ x ≤ 9223372036854775807) (hby0 : -9223372036854775808 ≤ y ∧ y ≤ 9223372036854775807) :
    Calls Tryd.prog 6 #[v, .int .i64 x, .int .i64 y] w fun e w' => e = .returned (.bool true) ∧ Kept [] w w' := by
  have HH := Lib.hid h
  obtain ⟨ra, rc, ea, ec, rfl, hbx⟩ := h.box
  obtain ⟨vv, hvv⟩ : ∃ vv, c.ver = vv := ⟨_, rfl⟩
  obtain ⟨nd, hnd⟩ : ∃ nd, strL c.node = nd := ⟨_, rfl⟩
  obtain ⟨rn, hrn⟩ : ∃ n, c.R.length = n := ⟨_, rfl⟩
  obtain ⟨en, hen⟩ : ∃ m, c.E.length = m := ⟨_, rfl⟩
  have hA := Kept.alloc [] w (.cells #[.int .i64 c.ver, .string (strL c.node), .slice ra c.R.length rc, .slice ea c.E.length ec] 25)
  obtain ⟨w1, hw1⟩ : ∃ w1, w.alloc (.cells #[.int .i64 c.ver, .string (strL c.node), .slice ra c.R.length rc, .slice ea c.E.length ec] 25) = w1 := ⟨_, rfl⟩
  rw [hw1] at hbx hA
  have HBX := Lib.hid hbx
  have HA := Lib.hid hA
  have HC : Hid (∀ w', Kept [] w1 w' → w'.cell? ⟨w.heap.size, 0, none⟩ = some (.int .i64 vv) ∧ w'.cell? ⟨w.heap.size, 1, none⟩ = some (.string nd) ∧ w'.cell? ⟨w.heap.size, 2, none⟩ = some (.slice ra rn rc) ∧ w'.cell? ⟨w.heap.size, 3, none⟩ = some (.slice ea en ec)) := fun w' hk => by
    rw [← hrn, ← hen, ← hvv, ← hnd]
    exact ⟨(HBX.out.kept hk).c0, (HBX.out.kept hk).c1, (HBX.out.kept hk).c2, (HBX.out.kept hk).c3⟩
  have HVV := Lib.hid hvv
  have HND := Lib.hid hnd
  have HRN := Lib.hid hrn
  have HEN := Lib.hid hen
  rw [hrn, hen, hvv, hnd] at hw1 HH
  rw [hrn, hen, hvv, hnd]
  have HTY : Hid (∀ w', Kept [] w w' → TysIs w') := fun w' hk => ht.kept hk
  obtain ⟨p, hp⟩ : ∃ p, checkO c = p := ⟨_, rfl⟩
  have HCK : Hid (∀ w', Kept [] w1 w' → Calls Tryd.prog 10 #[.agg #[.int .i64 vv, .string nd, .slice ra rn rc, .slice ea en ec]] w' fun e w2 => e = .returned (.int .i64 p) ∧ Kept [] w' w2) := fun w' hk => by rw [← hp]; exact Check_any c _ w' (HH.out.kept (HA.out.trans hk)) (HTY.out w' (HA.out.trans hk))
  have HLT : Hid (∀ w', Kept [] w1 w' → Calls Tryd.prog 14 #[.agg #[.int .i64 vv, .string nd, .slice ra rn rc, .slice ea en ec]] w' fun e w2 => ∃ ra' rc' ea' ec', e = .returned (.agg #[.int .i64 vv, .string nd, .slice ra' rn rc', .slice ea' en ec']) ∧ Hid (OwnR w'.heap.size w2 (.slice ra' rn rc') c.R ∧ OwnE w'.heap.size w2 (.slice ea' en ec') c.E ∧ Kept [] w' w2 ∧ ∀ ex w3, Kept ex w2 w3 → (∀ q ∈ ex, (Value.slice ea' en ec').ownBlock = some q) → RsIs w3 (.slice ra' rn rc') c.R)) := fun w' hk => by
    have := lent7_any c _ w' (HH.out.kept (HA.out.trans hk))
    unfold LentOut at this
    rw [hrn, hen, hvv, hnd] at this
    exact this
  have HNB : Hid (c.node.length ≤ 140737488355328) := h.node
  have HP := Lib.hid hp
  have HSH := Lib.hid (shown7_any w1 (HTY.out w1 HA.out))
  have hrl : rn ≤ 140737488355328 := by have := HBX.out.rs.len; rw [hrn] at this; omega
  have hel : en ≤ 140737488355328 := by have := HBX.out.es.len; rw [hen] at this; omega
  obtain ⟨I, hI, hI63⟩ := normI x hbx0
  obtain ⟨J, hJy, hJ63⟩ := normI y hby0
  have HI := Lib.hid hI
  have HK0 := Lib.hid hJy
  clear h hbx hA ht hvv hnd hrn hen hp hI hJy
  go_enter Tryd.func6, Tryd.ntmps6
  go_wp2_with fail
  refine HSH.out.mono ?_
  rintro e w2 ⟨rfl, hk2⟩
  have HK2 := Lib.hid hk2
  clear hk2 hw1
  obtain ⟨c0, c1, c2, c3⟩ := HC.out w2 HK2.out
  go_wp2_with fail
  refine (HCK.out w2 HK2.out).mono ?_
  rintro e w3 ⟨rfl, hk3⟩
  have HK3 : Hid (Kept [] w1 w3) := HK2.out.trans hk3
  clear c0 c1 c2 c3 hk3
  by_cases h0 : p = 0
  case neg =>
    have q0 : (p != 0) = true := by simpa using h0
    go_wp2_with fail
    go_ret
    exact ⟨rfl, HA.out.trans HK3.out⟩
  subst h0
  go_upto_if 22 with (fail)
  go_cut [1] (fun s1 wx => s1 = .int .i64 (I : Int) ∧ Hid (Kept [] w3 wx))
  case first =>
    by_cases hneg : x < 0
    · have e1 : -(x + 1) = (I : Int) := by have := HI.out; rw [if_pos hneg] at this; exact this
      have e2 : IntKind.i64.wrap (x + 1) = x + 1 := by rw [IntKind.wrap_i64]; omega
      have e3 : IntKind.i64.wrap (-(x + 1)) = (I : Int) := by rw [IntKind.wrap_i64]; omega
      go_wp2_with fail
      go_meet
      exact ⟨by first | rfl | (rw [← e1]; first | rfl | (congr 1; omega)), by show Kept [] w3 w3; exact Kept.refl _ _⟩
    · have e1 : x = (I : Int) := by have := HI.out; rw [if_neg hneg] at this; exact this
      subst e1
      go_wp2_with fail
      go_meet
      exact ⟨rfl, by show Kept [] w3 w3; exact Kept.refl _ _⟩
  case rest =>
  obtain ⟨rfl, hk4⟩ := hcut
  obtain ⟨w4, rfl⟩ : ∃ w4, w4 = wc := ⟨_, rfl⟩
  have HK4 : Hid (Kept [] w1 w4) := HK3.out.trans hk4.out
  clear hk4 hbx0 HI
  go_upto_if 27 with (fail)
  go_cut [2] (fun s2 wx => s2 = .int .i64 (J : Int) ∧ Hid (Kept [] w1 wx))
  case first =>
    by_cases hneg : y < 0
    · have e1 : -(y + 1) = (J : Int) := by have := HK0.out; rw [if_pos hneg] at this; exact this
      have e2 : IntKind.i64.wrap (y + 1) = y + 1 := by rw [IntKind.wrap_i64]; omega
      have e3 : IntKind.i64.wrap (-(y + 1)) = (J : Int) := by rw [IntKind.wrap_i64]; omega
      go_wp2_with fail
      go_meet
      exact ⟨by first | rfl | (rw [← e1]; first | rfl | (congr 1; omega)), HK4⟩
    · have e1 : y = (J : Int) := by have := HK0.out; rw [if_neg hneg] at this; exact this
      subst e1
      go_wp2_with fail
      go_meet
      exact ⟨rfl, HK4⟩
  case rest =>
  obtain ⟨rfl, HK5⟩ := hcut
  obtain ⟨w5, rfl⟩ : ∃ w5, w5 = wc := ⟨_, rfl⟩
  clear HK0 hby0
  obtain ⟨c0, c1, c2, c3⟩ := HC.out _ HK5.out
  go_wp2_with fail
  refine (HLT.out _ HK5.out).mono ?_
  rintro e w6 ⟨ra1, rc1, ea1, ec1, rfl, H6⟩
  have HK6 : Hid (Kept [] w1 w6) := HK5.out.trans H6.out.2.2.1
  obtain ⟨w7, hw7⟩ : ∃ w7, w6.alloc (.cells #[.int .i64 vv, .string nd, .slice ra1 rn rc1, .slice ea1 en ec1] 25) = w7 := ⟨_, rfl⟩
  have H7 : Hid (Kept [] w6 w7 ∧ w7.heap[w6.heap.size]? = some (.cells #[.int .i64 vv, .string nd, .slice ra1 rn rc1, .slice ea1 en ec1] 25)) := ⟨by rw [← hw7]; exact Kept.alloc _ _ _, by rw [← hw7]; exact heap_alloc_last _ _⟩
  have HX : Hid (∀ w', Kept [] w7 w' → w'.heap[w6.heap.size]? = some (.cells #[.int .i64 vv, .string nd, .slice ra1 rn rc1, .slice ea1 en ec1] 25)) := fun w' hk => hk.heap (by simp) H7.out.2
  have HK7 : Hid (Kept [] w1 w7) := HK6.out.trans H7.out.1
  obtain ⟨j1, hj1⟩ : ∃ j, I % rn = j := ⟨_, rfl⟩
  obtain ⟨j2, hj2⟩ : ∃ j, J % rn = j := ⟨_, rfl⟩
  have HJ := Lib.hid (And.intro hj1 hj2)
  clear hj1 hj2
  obtain ⟨bz, hbz⟩ : ∃ b, decide (1 < rn ∧ j1 ≠ j2) = b := ⟨_, rfl⟩
  have HBZ := Lib.hid hbz
  have a2 : w7.cell? ⟨w6.heap.size, 2, none⟩ = some (.slice ra1 rn rc1) := cell_of_row _ _ 2 _ _ _ H7.out.2
  clear hbz c0 c1 c2 c3
  go_upto_region 10 with (fail)
  clear hw7 a2
  go_cut [46] (fun s46 wx => s46 = .bool bz ∧ Hid (Kept [] w7 wx))
  case first =>
    by_cases hn1 : 1 < rn
    · have hn2 : (1 : Int) < (rn : Int) := by omega
      have hmb : ((rn : Int) == 0) = false := by rw [beq_eq_false_iff_ne]; omega
      have hmb2 : (rn == 0) = false := by rw [beq_eq_false_iff_ne]; omega
      have m1 : (I : Int) % (rn : Int) = (j1 : Int) := by rw [← HJ.out.1]; rfl
      have m2 : Int.tmod (I : Int) (rn : Int) = (j1 : Int) := by rw [Int.tmod_eq_emod_of_nonneg (by omega)]; exact m1
      have m3 : (J : Int) % (rn : Int) = (j2 : Int) := by rw [← HJ.out.2]; rfl
      have m4 : Int.tmod (J : Int) (rn : Int) = (j2 : Int) := by rw [Int.tmod_eq_emod_of_nonneg (by omega)]; exact m3
      have hjj : j1 < rn ∧ j2 < rn := by rw [← HJ.out.1, ← HJ.out.2]; exact ⟨Nat.mod_lt _ (by omega), Nat.mod_lt _ (by omega)⟩
      obtain ⟨hjj1, hjj2⟩ := hjj
      by_cases hj : j1 = j2
      · obtain rfl : bz = false := by rw [← HBZ.out]; exact decide_eq_false (fun hh => hh.2 hj)
        subst hj
        go_quiet (fail)
        go_wp2_with fail
        go_meet
        refine ⟨?_, ?_⟩
        · first | rfl | simp
        · show Kept _ _ _; exact Kept.drewN _ _ _
      · obtain rfl : bz = true := by rw [← HBZ.out]; exact decide_eq_true ⟨hn1, hj⟩
        have q1 : (j1 == j2) = false := by simpa using hj
        have q2 : ((j1 : Int) == (j2 : Int)) = false := by rw [beq_eq_false_iff_ne]; omega
        have q3 : (j1 != j2) = true := by simpa using hj
        have q4 : ((j1 : Int) != (j2 : Int)) = true := by rw [bne, q2]; rfl
        go_quiet (fail)
        go_wp2_with fail
        go_meet
        refine ⟨?_, ?_⟩
        · first | rfl | simp [hj]
        · show Kept _ _ _; exact Kept.drewN _ _ _
    · have hn2 : decide ((1 : Int) < (rn : Int)) = false := decide_eq_false (by omega)
      have hn3 : decide (1 < rn) = false := decide_eq_false hn1
      obtain rfl : bz = false := by rw [← HBZ.out]; exact decide_eq_false (fun hh => hn1 hh.1)
      clear hn1
      go_quiet (fail)
      go_wp2_with fail
      go_meet
      refine ⟨?_, ?_⟩
      · first | rfl | simp
      · show Kept _ _ _; exact Kept.drewN _ _ _
  case rest =>
  obtain ⟨rfl, HK8⟩ := hcut
  obtain ⟨w8, rfl⟩ : ∃ w8, w8 = wc := ⟨_, rfl⟩
  go_upto_if 46 with (fail)
  go_cut [9] (fun s9 wx => s9 = .int .i64 (rn : Int) ∧ Hid (Kept [] w1 wx))
  case first =>
    cases bz
    · go_wp2_with fail
      go_meet
      exact ⟨rfl, HK7.out.trans HK8.out⟩
    · have hnj : 1 < rn ∧ j1 ≠ j2 := of_decide_eq_true HBZ.out
      obtain ⟨hn1, hj⟩ := hnj
      have hjj1 : j1 < rn := by rw [← HJ.out.1]; exact Nat.mod_lt _ (by omega)
      have hjj2 : j2 < rn := by rw [← HJ.out.2]; exact Nat.mod_lt _ (by omega)
      have hmb : ((rn : Int) == 0) = false := by rw [beq_eq_false_iff_ne]; omega
      have hmb2 : (rn == 0) = false := by rw [beq_eq_false_iff_ne]; omega
      have m1 : (I : Int) % (rn : Int) = (j1 : Int) := by rw [← HJ.out.1]; rfl
      have m2 : Int.tmod (I : Int) (rn : Int) = (j1 : Int) := by rw [Int.tmod_eq_emod_of_nonneg (by omega)]; exact m1
      have m3 : (J : Int) % (rn : Int) = (j2 : Int) := by rw [← HJ.out.2]; rfl
      have m4 : Int.tmod (J : Int) (rn : Int) = (j2 : Int) := by rw [Int.tmod_eq_emod_of_nonneg (by omega)]; exact m3
      obtain ⟨g, o, cap, cur, vs, hv, ho, hbg, hg, htk, hc1, hc2, hP, hoff⟩ := H6.out.1.openR (by rw [HRN.out]; omega)
      injection hv with e1 e2 e3
      subst e1 e3
      have HKS : Hid (Kept [] w6 w8) := H7.out.1.trans HK8.out
      have hg8 := HKS.out.heap (by simp) hg
      have hjR1 : j1 < c.R.length := by rw [HRN.out]; exact hjj1
      have hjR2 : j2 < c.R.length := by rw [HRN.out]; exact hjj2
      have hjv1 : j1 < vs.length := by rw [hP.1]; exact hjR1
      have hjv2 : j2 < vs.length := by rw [hP.1]; exact hjR2
      obtain ⟨r1, hr1⟩ : ∃ r, c.R[j1] = r := ⟨_, rfl⟩
      obtain ⟨r2, hr2⟩ : ∃ r, c.R[j2] = r := ⟨_, rfl⟩
      obtain ⟨v1, hv1⟩ : ∃ x, vs[j1] = x := ⟨_, rfl⟩
      obtain ⟨v2, hv2⟩ : ∃ x, vs[j2] = x := ⟨_, rfl⟩
      have hp1 := hP.2 j1 hjR1 hjv1
      have hp2 := hP.2 j2 hjR2 hjv2
      rw [hv1] at hp1
      rw [hv2] at hp2
      obtain ⟨p1, q1, hs1⟩ := hp1.slice
      obtain ⟨p2, q2, hs2⟩ := hp2.slice
      obtain ⟨n1, hn1'⟩ : ∃ n, c.R[j1].P.length = n := ⟨_, rfl⟩
      obtain ⟨n2, hn2'⟩ : ∃ n, c.R[j2].P.length = n := ⟨_, rfl⟩
      rw [hn1'] at hs1
      rw [hn2'] at hs2
      subst hs1 hs2
      have F : Hid (∀ w', Kept [] w6 w' → w'.cell? ⟨g, o + j1 * 3, none⟩ = some (.string (strL r1.t)) ∧ w'.cell? ⟨g, o + j1 * 3 + 1, none⟩ = some (.string (strL r1.ti)) ∧ w'.cell? ⟨g, o + j1 * 3 + 2, none⟩ = some (.slice p1 n1 q1) ∧
          w'.cell? ⟨g, o + j2 * 3, none⟩ = some (.string (strL r2.t)) ∧ w'.cell? ⟨g, o + j2 * 3 + 1, none⟩ = some (.string (strL r2.ti)) ∧ w'.cell? ⟨g, o + j2 * 3 + 2, none⟩ = some (.slice p2 n2 q2) ∧ (∀ q, w'.frozen? ⟨g, q, none⟩ = false)) := fun w' hk => by
        have hgk := hk.heap (by simp) hg
        refine ⟨row_at ho hgk htk (q := 3 * j1) (by omega) (by omega) ?_, row_at ho hgk htk (q := 3 * j1 + 1) (by omega) (by omega) ?_, row_at ho hgk htk (q := 3 * j1 + 2) (by omega) (by omega) ?_, row_at ho hgk htk (q := 3 * j2) (by omega) (by omega) ?_, row_at ho hgk htk (q := 3 * j2 + 1) (by omega) (by omega) ?_, row_at ho hgk htk (q := 3 * j2 + 2) (by omega) (by omega) ?_, fun q => frozen_of_row _ _ q _ _ hgk⟩
        · rw [rcv_get0 _ _ hP.1 j1 hjR1, hr1]
        · rw [rcv_get1 _ _ hP.1 j1 hjR1, hr1]
        · rw [rcv_get2 _ _ hP.1 j1 hjR1, List.getElem?_eq_getElem hjv1, hv1]
        · rw [rcv_get0 _ _ hP.1 j2 hjR2, hr2]
        · rw [rcv_get1 _ _ hP.1 j2 hjR2, hr2]
        · rw [rcv_get2 _ _ hP.1 j2 hjR2, List.getElem?_eq_getElem hjv2, hv2]
      have HSW : Hid (∀ wd, Kept [] w6 wd → ∀ w', w' = (((((wd.setCell ⟨g, o + j1 * 3, none⟩ (.string (strL r2.t))).setCell ⟨g, o + j1 * 3 + 1, none⟩ (.string (strL r2.ti))).setCell ⟨g, o + j1 * 3 + 2, none⟩ (.slice p2 n2 q2)).setCell ⟨g, o + j2 * 3, none⟩ (.string (strL r1.t))).setCell ⟨g, o + j2 * 3 + 1, none⟩ (.string (strL r1.ti))).setCell ⟨g, o + j2 * 3 + 2, none⟩ (.slice p1 n1 q1) →
          Kept [g] wd w' ∧ CatIs w' (.agg #[.int .i64 vv, .string nd, .slice (some ⟨g, o, none⟩) rn rc1, .slice ea1 en ec1]) ⟨c.ver, c.node, swapL c.R j1 j2 hjR1 hjR2, c.E⟩) := fun wd hk w' hw => by
        have hkw : Kept [g] wd w' := by
          rw [hw]
          exact (((((Kept.setCell _ _ _ _ (by simp)).trans (Kept.setCell _ _ _ _ (by simp))).trans (Kept.setCell _ _ _ _ (by simp))).trans (Kept.setCell _ _ _ _ (by simp))).trans (Kept.setCell _ _ _ _ (by simp))).trans (Kept.setCell _ _ _ _ (by simp))
        refine ⟨hkw, ⟨⟨_, _, by rw [← HVV.out, ← HND.out]; rfl, ?_, ?_⟩, HNB.out⟩⟩
        · rw [← HRN.out]
          exact swapR_is hjR1 hjR2 hjv1 hjv2 hj ho (hk.heap (by simp) hg) htk hc1 hc2 (hP.kept hk) hoff HBX.out.rs.len (fun r hr => HBX.out.rs.txt r hr) hkw (by rw [hw, hr1, hr2, hv1, hv2])
        · exact ((H6.out.2.1.kept hk).keptX hkw (H6.out.2.1.off hg)).es
      have FA : Hid (∀ wd, Kept [] w6 wd → ∀ wA, wA = ((wd.setCell ⟨g, o + j1 * 3, none⟩ (.string (strL r2.t))).setCell ⟨g, o + j1 * 3 + 1, none⟩ (.string (strL r2.ti))).setCell ⟨g, o + j1 * 3 + 2, none⟩ (.slice p2 n2 q2) →
          wA.cell? ⟨g, o + j2 * 3, none⟩ = some (.string (strL r2.t)) ∧ wA.cell? ⟨g, o + j2 * 3 + 1, none⟩ = some (.string (strL r2.ti)) ∧ wA.cell? ⟨g, o + j2 * 3 + 2, none⟩ = some (.slice p2 n2 q2) ∧ (∀ q, wA.frozen? ⟨g, q, none⟩ = false)) := fun wd hk wA hA => by
        have hgk := hk.heap (by simp) hg
        obtain ⟨_, _, _, d0, d1, d2, _⟩ := F.out wd hk
        exact ⟨swap_mid hgk hA (by omega) (by omega) (by omega) d0, swap_mid hgk hA (by omega) (by omega) (by omega) d1, swap_mid hgk hA (by omega) (by omega) (by omega) d2, fun q => swap_fz hgk hA q⟩
      have HBAD : Hid (checkO ⟨c.ver, c.node, swapL c.R j1 j2 hjR1 hjR2, c.E⟩ ≠ 0) := swapR_bad HP.out hjR1 hjR2 hj
      obtain ⟨cs, hcs⟩ : ∃ cs : Cat, (⟨c.ver, c.node, swapL c.R j1 j2 hjR1 hjR2, c.E⟩ : Cat) = cs := ⟨_, rfl⟩
      rw [hcs] at HSW HBAD
      have HG : Hid (w5.heap.size ≤ g ∧ g < w6.heap.size) := ⟨hbg, (Array.getElem?_eq_some_iff.1 hg).1⟩
      clear hcs hg8 hp1 hp2 hn1' hn2' ho hbg hg htk hc1 hc2 hP hoff hr1 hr2 hv1 hv2 hjR1 hjR2 hjv1 hjv2 e2
      have hmn : ¬ rn = 0 := by omega
      go_upto_region 11 with (fail)
      go_cut [9] (fun s9 wx => s9 = .int .i64 (rn : Int) ∧ Hid (Kept [g] w8 wx ∧ CatIs wx (.agg #[.int .i64 vv, .string nd, .slice (some ⟨g, o, none⟩) rn rc1, .slice ea1 en ec1]) cs))
      case first =>
        have z2 : ∀ w', Kept [g] w8.drew w' → w'.cell? ⟨w6.heap.size, 2, none⟩ = some (.slice (some ⟨g, o, none⟩) rn rc1) := fun w' hk => cell_of_row _ _ 2 _ _ _ (hk.heap (by have := HG.out; simp; omega) (show w8.drew.heap[w6.heap.size]? = _ from HX.out w8 HK8.out))
        refine wp_region_plan (R := (Kept [g])) (.take 0 (.take 1 (.take 2 (.take 3 (.take 4 (.take 5 (.take 6 (.take 7 (.take 8 (.take 9 (.take 10 (.take 11 (.take 12 (.take 13 (.take 14 (.take 15 (.take 17 (.take 18 (.take 19 (.take 20 (.take 21 (.take 22 (.two 16 (.one 23 (.take 24 (.one 25 (.take 26 (.one 27 .fin))))) 23 (.one 16 (.take 24 (.one 25 (.take 26 (.one 27 .fin)))))))))))))))))))))))))))) (fun _ => Kept.refl _ _) (fun _ _ _ h k => h.trans k) (by kernel_rfl) (fun _ _ d _ _ h => by cases d <;> exact h) (by kernel_rfl) rfl (by kernel_rfl) ?_
        repeat (first | (apply wpP_take; (case hw => rfl); (case hv => intro w' hk; simp only [List.getD_cons_zero, List.getD_cons_succ]; go_simp; with_reducible rfl); simp only [List.getD_cons_zero, List.getD_cons_succ, Act.put, List.setIfInBounds_toArray, List.set_cons_zero, List.set_cons_succ]) | (refine wpP_pass (by rfl) ?_; simp only [List.getD_cons_zero, List.getD_cons_succ, Act.put, List.setIfInBounds_toArray, List.set_cons_zero, List.set_cons_succ]))
        clear z2
        obtain ⟨wd, hwd⟩ : ∃ wd, w8.drew = wd := ⟨_, rfl⟩
        have HD : Hid (Kept [] w8 wd) := by show Kept _ _ _; rw [← hwd]; exact Kept.drew _ _
        rw [hwd]
        clear hwd
        obtain ⟨f0, f1, f2, d0, d1, d2, fz⟩ := F.out wd (HKS.out.trans HD.out)
        obtain ⟨wA, hwA⟩ : ∃ wA, ((wd.setCell ⟨g, o + j1 * 3, none⟩ (.string (strL r2.t))).setCell ⟨g, o + j1 * 3 + 1, none⟩ (.string (strL r2.ti))).setCell ⟨g, o + j1 * 3 + 2, none⟩ (.slice p2 n2 q2) = wA := ⟨_, rfl⟩
        have HA1 := Lib.hid hwA
        have HKA : Hid (Kept [g] wd wA) := by
          show Kept _ _ _
          rw [← hwA]
          exact ((Kept.setCell _ _ _ _ (by simp)).trans (Kept.setCell _ _ _ _ (by simp))).trans (Kept.setCell _ _ _ _ (by simp))
        clear hwA
        refine wpP_two ?_ ?_
        · refine wpP_one (by rfl) (fun K hK => ?_); simp only [List.getD_cons_zero, List.getD_cons_succ]
          go_simp
          refine hK _ _ (Kept.refl _ _) ?_
          clear hK K
          refine wpP_one (by rfl) (fun K hK => ?_); simp only [List.getD_cons_zero, List.getD_cons_succ]
          go_simp
          refine hK _ _ (Kept.refl _ _) ?_
          clear hK K
          repeat (first | (apply wpP_take; (case hw => rfl); (case hv => intro w' hk; simp only [List.getD_cons_zero, List.getD_cons_succ]; go_simp; with_reducible rfl); simp only [List.getD_cons_zero, List.getD_cons_succ, Act.put, List.setIfInBounds_toArray, List.set_cons_zero, List.set_cons_succ]) | (refine wpP_pass (by rfl) ?_; simp only [List.getD_cons_zero, List.getD_cons_succ, Act.put, List.setIfInBounds_toArray, List.set_cons_zero, List.set_cons_succ]))
          refine wpP_one (by rfl) (fun K hK => ?_); simp only [List.getD_cons_zero, List.getD_cons_succ]
          go_simp
          rw [HA1.out]
          refine hK _ _ HKA.out ?_
          clear hK K f0 f1 f2 d0 d1 d2 fz
          obtain ⟨d0, d1, d2, fz⟩ := FA.out wd (HKS.out.trans HD.out) wA HA1.out.symm
          repeat (first | (apply wpP_take; (case hw => rfl); (case hv => intro w' hk; simp only [List.getD_cons_zero, List.getD_cons_succ]; go_simp; with_reducible rfl); simp only [List.getD_cons_zero, List.getD_cons_succ, Act.put, List.setIfInBounds_toArray, List.set_cons_zero, List.set_cons_succ]) | (refine wpP_pass (by rfl) ?_; simp only [List.getD_cons_zero, List.getD_cons_succ, Act.put, List.setIfInBounds_toArray, List.set_cons_zero, List.set_cons_succ]))
          refine wpP_one (by rfl) (fun K hK => ?_); simp only [List.getD_cons_zero, List.getD_cons_succ]
          go_simp
          refine hK _ _ (((Kept.setCell _ _ _ _ (by simp)).trans (Kept.setCell _ _ _ _ (by simp))).trans (Kept.setCell _ _ _ _ (by simp))) ?_
          clear hK K
          refine wpP_fin ?_
          go_wp2_with fail
          go_meet
          obtain ⟨k1, k2⟩ := HSW.out wd (HKS.out.trans HD.out) _ (by rw [HA1.out])
          exact ⟨rfl, (HD.out.mono (by simp)).trans k1, k2⟩
        · refine wpP_one (by rfl) (fun K hK => ?_); simp only [List.getD_cons_zero, List.getD_cons_succ]
          go_simp
          refine hK _ _ (Kept.refl _ _) ?_
          clear hK K
          refine wpP_one (by rfl) (fun K hK => ?_); simp only [List.getD_cons_zero, List.getD_cons_succ]
          go_simp
          refine hK _ _ (Kept.refl _ _) ?_
          clear hK K
          repeat (first | (apply wpP_take; (case hw => rfl); (case hv => intro w' hk; simp only [List.getD_cons_zero, List.getD_cons_succ]; go_simp; with_reducible rfl); simp only [List.getD_cons_zero, List.getD_cons_succ, Act.put, List.setIfInBounds_toArray, List.set_cons_zero, List.set_cons_succ]) | (refine wpP_pass (by rfl) ?_; simp only [List.getD_cons_zero, List.getD_cons_succ, Act.put, List.setIfInBounds_toArray, List.set_cons_zero, List.set_cons_succ]))
          refine wpP_one (by rfl) (fun K hK => ?_); simp only [List.getD_cons_zero, List.getD_cons_succ]
          go_simp
          rw [HA1.out]
          refine hK _ _ HKA.out ?_
          clear hK K f0 f1 f2 d0 d1 d2 fz
          obtain ⟨d0, d1, d2, fz⟩ := FA.out wd (HKS.out.trans HD.out) wA HA1.out.symm
          repeat (first | (apply wpP_take; (case hw => rfl); (case hv => intro w' hk; simp only [List.getD_cons_zero, List.getD_cons_succ]; go_simp; with_reducible rfl); simp only [List.getD_cons_zero, List.getD_cons_succ, Act.put, List.setIfInBounds_toArray, List.set_cons_zero, List.set_cons_succ]) | (refine wpP_pass (by rfl) ?_; simp only [List.getD_cons_zero, List.getD_cons_succ, Act.put, List.setIfInBounds_toArray, List.set_cons_zero, List.set_cons_succ]))
          refine wpP_one (by rfl) (fun K hK => ?_); simp only [List.getD_cons_zero, List.getD_cons_succ]
          go_simp
          refine hK _ _ (((Kept.setCell _ _ _ _ (by simp)).trans (Kept.setCell _ _ _ _ (by simp))).trans (Kept.setCell _ _ _ _ (by simp))) ?_
          clear hK K
          refine wpP_fin ?_
          go_wp2_with fail
          go_meet
          obtain ⟨k1, k2⟩ := HSW.out wd (HKS.out.trans HD.out) _ (by rw [HA1.out])
          exact ⟨rfl, (HD.out.mono (by simp)).trans k1, k2⟩
      case rest =>
      obtain ⟨rfl, HKX⟩ := hcut
      obtain ⟨wx, rfl⟩ : ∃ wx, wx = wc := ⟨_, rfl⟩
      have hbx' := HKX.out.1.heap (b := w6.heap.size) (by have := HG.out; simp; omega) (HX.out w8 HK8.out)
      have a0 : wx.cell? ⟨w6.heap.size, 0, none⟩ = some (.int .i64 vv) := cell_of_row _ _ 0 _ _ _ hbx'
      have a1 : wx.cell? ⟨w6.heap.size, 1, none⟩ = some (.string nd) := cell_of_row _ _ 1 _ _ _ hbx'
      have a2 : wx.cell? ⟨w6.heap.size, 2, none⟩ = some (.slice (some ⟨g, o, none⟩) rn rc1) := cell_of_row _ _ 2 _ _ _ hbx'
      have a3 : wx.cell? ⟨w6.heap.size, 3, none⟩ = some (.slice ea1 en ec1) := cell_of_row _ _ 3 _ _ _ hbx'
      have HK1X : Hid (Kept [] w1 wx) := (HK7.out.trans HK8.out).into HKX.out.1 (by have := HG.out; have := HK5.out.size; simp; omega)
      obtain ⟨z, hz⟩ : ∃ z, checkO cs = z := ⟨_, rfl⟩
      have HCX : Hid (Calls Tryd.prog 10 #[.agg #[.int .i64 vv, .string nd, .slice (some ⟨g, o, none⟩) rn rc1, .slice ea1 en ec1]] wx fun e w2 => e = .returned (.int .i64 z) ∧ Kept [] wx w2) := by rw [← hz]; exact Check_any cs _ wx HKX.out.2 (HTY.out wx (HA.out.trans HK1X.out))
      have hz1 : (z == 0) = false := by rw [beq_eq_false_iff_ne, ← hz]; exact HBAD.out
      clear hz hbx' hmb hmb2 m1 m2 m3 m4
      go_wp2_with fail
      refine HCX.out.mono ?_
      rintro e wy ⟨rfl, hky⟩
      clear a0 a1 a2 a3
      go_wp2_with fail
      go_meet
      exact ⟨rfl, HK1X.out.trans hky⟩
  case rest =>
  obtain ⟨rfl, HK9⟩ := hcut
  obtain ⟨w9, rfl⟩ : ∃ w9, w9 = wc := ⟨_, rfl⟩
  obtain ⟨c0, c1, c2, c3⟩ := HC.out _ HK9.out
  go_wp2_with fail
  refine (HLT.out _ HK9.out).mono ?_
  rintro e u6w ⟨ra2, rc2, ea2, ec2, rfl, G6⟩
  have GK6 : Hid (Kept [] w1 u6w) := HK9.out.trans G6.out.2.2.1
  obtain ⟨u7w, hv7⟩ : ∃ u7w, u6w.alloc (.cells #[.int .i64 vv, .string nd, .slice ra2 rn rc2, .slice ea2 en ec2] 25) = u7w := ⟨_, rfl⟩
  have G7 : Hid (Kept [] u6w u7w ∧ u7w.heap[u6w.heap.size]? = some (.cells #[.int .i64 vv, .string nd, .slice ra2 rn rc2, .slice ea2 en ec2] 25)) := ⟨by rw [← hv7]; exact Kept.alloc _ _ _, by rw [← hv7]; exact heap_alloc_last _ _⟩
  have GX : Hid (∀ w', Kept [] u7w w' → w'.heap[u6w.heap.size]? = some (.cells #[.int .i64 vv, .string nd, .slice ra2 rn rc2, .slice ea2 en ec2] 25)) := fun w' hk => hk.heap (by simp) G7.out.2
  have GK7 : Hid (Kept [] w1 u7w) := GK6.out.trans G7.out.1
  obtain ⟨i1, hi1⟩ : ∃ j, I % en = j := ⟨_, rfl⟩
  obtain ⟨i2, hi2⟩ : ∃ j, J % en = j := ⟨_, rfl⟩
  have GJ := Lib.hid (And.intro hi1 hi2)
  clear hi1 hi2
  obtain ⟨bw, hbw⟩ : ∃ b, decide (1 < en ∧ i1 ≠ i2) = b := ⟨_, rfl⟩
  have GBZ := Lib.hid hbw
  have a2 : u7w.cell? ⟨u6w.heap.size, 3, none⟩ = some (.slice ea2 en ec2) := cell_of_row _ _ 3 _ _ _ G7.out.2
  clear hbw c0 c1 c2 c3
  go_upto_region 16 with (fail)
  clear hv7 a2
  go_cut [91] (fun s91 wx => s91 = .bool bw ∧ Hid (Kept [] u7w wx))
  case first =>
    by_cases hn1 : 1 < en
    · have hn2 : (1 : Int) < (en : Int) := by omega
      have hmb : ((en : Int) == 0) = false := by rw [beq_eq_false_iff_ne]; omega
      have hmb2 : (en == 0) = false := by rw [beq_eq_false_iff_ne]; omega
      have m1 : (I : Int) % (en : Int) = (i1 : Int) := by rw [← GJ.out.1]; rfl
      have m2 : Int.tmod (I : Int) (en : Int) = (i1 : Int) := by rw [Int.tmod_eq_emod_of_nonneg (by omega)]; exact m1
      have m3 : (J : Int) % (en : Int) = (i2 : Int) := by rw [← GJ.out.2]; rfl
      have m4 : Int.tmod (J : Int) (en : Int) = (i2 : Int) := by rw [Int.tmod_eq_emod_of_nonneg (by omega)]; exact m3
      have hjj : i1 < en ∧ i2 < en := by rw [← GJ.out.1, ← GJ.out.2]; exact ⟨Nat.mod_lt _ (by omega), Nat.mod_lt _ (by omega)⟩
      obtain ⟨hjj1, hjj2⟩ := hjj
      by_cases hj : i1 = i2
      · obtain rfl : bw = false := by rw [← GBZ.out]; exact decide_eq_false (fun hh => hh.2 hj)
        subst hj
        go_quiet (fail)
        go_wp2_with fail
        go_meet
        refine ⟨?_, ?_⟩
        · first | rfl | simp
        · show Kept _ _ _; exact Kept.drewN _ _ _
      · obtain rfl : bw = true := by rw [← GBZ.out]; exact decide_eq_true ⟨hn1, hj⟩
        have q1 : (i1 == i2) = false := by simpa using hj
        have q2 : ((i1 : Int) == (i2 : Int)) = false := by rw [beq_eq_false_iff_ne]; omega
        have q3 : (i1 != i2) = true := by simpa using hj
        have q4 : ((i1 : Int) != (i2 : Int)) = true := by rw [bne, q2]; rfl
        go_quiet (fail)
        go_wp2_with fail
        go_meet
        refine ⟨?_, ?_⟩
        · first | rfl | simp [hj]
        · show Kept _ _ _; exact Kept.drewN _ _ _
    · have hn2 : decide ((1 : Int) < (en : Int)) = false := decide_eq_false (by omega)
      have hn3 : decide (1 < en) = false := decide_eq_false hn1
      obtain rfl : bw = false := by rw [← GBZ.out]; exact decide_eq_false (fun hh => hn1 hh.1)
      clear hn1
      go_quiet (fail)
      go_wp2_with fail
      go_meet
      refine ⟨?_, ?_⟩
      · first | rfl | simp
      · show Kept _ _ _; exact Kept.drewN _ _ _
  case rest =>
  obtain ⟨rfl, GK8⟩ := hcut
  obtain ⟨u8w, rfl⟩ : ∃ u8w, u8w = wc := ⟨_, rfl⟩
  go_upto_if 91 with (fail)
  go_cut [11] (fun s11 wx => s11 = .int .i64 (en : Int) ∧ Hid (Kept [] w1 wx))
  case first =>
    cases bw
    · go_wp2_with fail
      go_meet
      exact ⟨rfl, GK7.out.trans GK8.out⟩
    · have hnj : 1 < en ∧ i1 ≠ i2 := of_decide_eq_true GBZ.out
      obtain ⟨hn1, hj⟩ := hnj
      have hjj1 : i1 < en := by rw [← GJ.out.1]; exact Nat.mod_lt _ (by omega)
      have hjj2 : i2 < en := by rw [← GJ.out.2]; exact Nat.mod_lt _ (by omega)
      have hmb : ((en : Int) == 0) = false := by rw [beq_eq_false_iff_ne]; omega
      have hmb2 : (en == 0) = false := by rw [beq_eq_false_iff_ne]; omega
      have m1 : (I : Int) % (en : Int) = (i1 : Int) := by rw [← GJ.out.1]; rfl
      have m2 : Int.tmod (I : Int) (en : Int) = (i1 : Int) := by rw [Int.tmod_eq_emod_of_nonneg (by omega)]; exact m1
      have m3 : (J : Int) % (en : Int) = (i2 : Int) := by rw [← GJ.out.2]; rfl
      have m4 : Int.tmod (J : Int) (en : Int) = (i2 : Int) := by rw [Int.tmod_eq_emod_of_nonneg (by omega)]; exact m3
      obtain ⟨g, o, cap, cur, hv, ho, hbg, hg, htk, hc1, hc2⟩ := G6.out.2.1.openE (by rw [HEN.out]; omega)
      injection hv with e1 e2 e3
      subst e1 e3
      have GKS : Hid (Kept [] u6w u8w) := G7.out.1.trans GK8.out
      have hjR1 : i1 < c.E.length := by rw [HEN.out]; exact hjj1
      have hjR2 : i2 < c.E.length := by rw [HEN.out]; exact hjj2
      obtain ⟨r1, hr1⟩ : ∃ r, c.E[i1] = r := ⟨_, rfl⟩
      obtain ⟨r2, hr2⟩ : ∃ r, c.E[i2] = r := ⟨_, rfl⟩
      obtain ⟨x10, hx10⟩ : ∃ x, r1.fr = x := ⟨_, rfl⟩
      obtain ⟨x11, hx11⟩ : ∃ x, r1.tw = x := ⟨_, rfl⟩
      obtain ⟨x12, hx12⟩ : ∃ x, r1.nt = x := ⟨_, rfl⟩
      obtain ⟨x20, hx20⟩ : ∃ x, r2.fr = x := ⟨_, rfl⟩
      obtain ⟨x21, hx21⟩ : ∃ x, r2.tw = x := ⟨_, rfl⟩
      obtain ⟨x22, hx22⟩ : ∃ x, r2.nt = x := ⟨_, rfl⟩
      have GF : Hid (∀ w', Kept [] u6w w' → w'.cell? ⟨g, o + i1 * 3, none⟩ = some (.int .i64 x10) ∧ w'.cell? ⟨g, o + i1 * 3 + 1, none⟩ = some (.int .i64 x11) ∧ w'.cell? ⟨g, o + i1 * 3 + 2, none⟩ = some (.bool x12) ∧
          w'.cell? ⟨g, o + i2 * 3, none⟩ = some (.int .i64 x20) ∧ w'.cell? ⟨g, o + i2 * 3 + 1, none⟩ = some (.int .i64 x21) ∧ w'.cell? ⟨g, o + i2 * 3 + 2, none⟩ = some (.bool x22) ∧ (∀ q, w'.frozen? ⟨g, q, none⟩ = false)) := fun w' hk => by
        have hgk := hk.heap (by simp) hg
        refine ⟨row_at ho hgk htk (q := 3 * i1) (by omega) (by omega) ?_, row_at ho hgk htk (q := 3 * i1 + 1) (by omega) (by omega) ?_, row_at ho hgk htk (q := 3 * i1 + 2) (by omega) (by omega) ?_, row_at ho hgk htk (q := 3 * i2) (by omega) (by omega) ?_, row_at ho hgk htk (q := 3 * i2 + 1) (by omega) (by omega) ?_, row_at ho hgk htk (q := 3 * i2 + 2) (by omega) (by omega) ?_, fun q => frozen_of_row _ _ q _ _ hgk⟩
        · rw [(ecv_get _ i1 hjR1).1, hr1, hx10]
        · rw [(ecv_get _ i1 hjR1).2.1, hr1, hx11]
        · rw [(ecv_get _ i1 hjR1).2.2, hr1, hx12]
        · rw [(ecv_get _ i2 hjR2).1, hr2, hx20]
        · rw [(ecv_get _ i2 hjR2).2.1, hr2, hx21]
        · rw [(ecv_get _ i2 hjR2).2.2, hr2, hx22]
      have GSW : Hid (∀ wd, Kept [] u6w wd → ∀ w', w' = (((((wd.setCell ⟨g, o + i1 * 3, none⟩ (.int .i64 x20)).setCell ⟨g, o + i1 * 3 + 1, none⟩ (.int .i64 x21)).setCell ⟨g, o + i1 * 3 + 2, none⟩ (.bool x22)).setCell ⟨g, o + i2 * 3, none⟩ (.int .i64 x10)).setCell ⟨g, o + i2 * 3 + 1, none⟩ (.int .i64 x11)).setCell ⟨g, o + i2 * 3 + 2, none⟩ (.bool x12) →
          Kept [g] wd w' ∧ CatIs w' (.agg #[.int .i64 vv, .string nd, .slice ra2 rn rc2, .slice (some ⟨g, o, none⟩) en ec2]) ⟨c.ver, c.node, c.R, swapL c.E i1 i2 hjR1 hjR2⟩) := fun wd hk w' hw => by
        have hkw : Kept [g] wd w' := by
          rw [hw]
          exact (((((Kept.setCell _ _ _ _ (by simp)).trans (Kept.setCell _ _ _ _ (by simp))).trans (Kept.setCell _ _ _ _ (by simp))).trans (Kept.setCell _ _ _ _ (by simp))).trans (Kept.setCell _ _ _ _ (by simp))).trans (Kept.setCell _ _ _ _ (by simp))
        refine ⟨hkw, ⟨⟨_, _, by rw [← HVV.out, ← HND.out]; rfl, ?_, ?_⟩, HNB.out⟩⟩
        · exact G6.out.2.2.2 [g] w' ((hk.mono (by simp)).trans hkw) (fun q hq => by simp at hq; subst hq ho; simp [Value.ownBlock])
        · rw [← HEN.out]
          exact swapE_is hjR1 hjR2 hj ho (hk.heap (by simp) hg) htk hc1 hc2 HBX.out.es.len hkw (by rw [hw, hr1, hr2, hx10, hx11, hx12, hx20, hx21, hx22])
      have GA : Hid (∀ wd, Kept [] u6w wd → ∀ wA, wA = ((wd.setCell ⟨g, o + i1 * 3, none⟩ (.int .i64 x20)).setCell ⟨g, o + i1 * 3 + 1, none⟩ (.int .i64 x21)).setCell ⟨g, o + i1 * 3 + 2, none⟩ (.bool x22) →
          wA.cell? ⟨g, o + i2 * 3, none⟩ = some (.int .i64 x20) ∧ wA.cell? ⟨g, o + i2 * 3 + 1, none⟩ = some (.int .i64 x21) ∧ wA.cell? ⟨g, o + i2 * 3 + 2, none⟩ = some (.bool x22) ∧ (∀ q, wA.frozen? ⟨g, q, none⟩ = false)) := fun wd hk wA hA => by
        have hgk := hk.heap (by simp) hg
        obtain ⟨_, _, _, d0, d1, d2, _⟩ := GF.out wd hk
        exact ⟨swap_mid hgk hA (by omega) (by omega) (by omega) d0, swap_mid hgk hA (by omega) (by omega) (by omega) d1, swap_mid hgk hA (by omega) (by omega) (by omega) d2, fun q => swap_fz hgk hA q⟩
      have GBAD : Hid (checkO ⟨c.ver, c.node, c.R, swapL c.E i1 i2 hjR1 hjR2⟩ = 72) := swapE_bad HP.out hjR1 hjR2 hj
      obtain ⟨cs, hcs⟩ : ∃ cs : Cat, (⟨c.ver, c.node, c.R, swapL c.E i1 i2 hjR1 hjR2⟩ : Cat) = cs := ⟨_, rfl⟩
      rw [hcs] at GSW GBAD
      have GG : Hid (w9.heap.size ≤ g ∧ g < u6w.heap.size) := ⟨hbg, (Array.getElem?_eq_some_iff.1 hg).1⟩
      clear hcs ho hbg hg htk hc1 hc2 hr1 hr2 hx10 hx11 hx12 hx20 hx21 hx22 hjR1 hjR2 e2
      have hmn : ¬ en = 0 := by omega
      go_upto_region 17 with (fail)
      go_cut [11] (fun s11 wx => s11 = .int .i64 (en : Int) ∧ Hid (Kept [g] u8w wx ∧ CatIs wx (.agg #[.int .i64 vv, .string nd, .slice ra2 rn rc2, .slice (some ⟨g, o, none⟩) en ec2]) cs))
      case first =>
        have z2 : ∀ w', Kept [g] u8w.drew w' → w'.cell? ⟨u6w.heap.size, 3, none⟩ = some (.slice (some ⟨g, o, none⟩) en ec2) := fun w' hk => cell_of_row _ _ 3 _ _ _ (hk.heap (by have := GG.out; simp; omega) (show u8w.drew.heap[u6w.heap.size]? = _ from GX.out u8w GK8.out))
        refine wp_region_plan (R := (Kept [g])) (.take 0 (.take 1 (.take 2 (.take 3 (.take 4 (.take 5 (.take 6 (.take 7 (.take 8 (.take 9 (.take 10 (.take 11 (.take 12 (.take 13 (.take 14 (.take 15 (.take 17 (.take 18 (.take 19 (.take 20 (.take 21 (.take 22 (.two 16 (.one 23 (.take 24 (.one 25 (.take 26 (.one 27 .fin))))) 23 (.one 16 (.take 24 (.one 25 (.take 26 (.one 27 .fin)))))))))))))))))))))))))))) (fun _ => Kept.refl _ _) (fun _ _ _ h k => h.trans k) (by kernel_rfl) (fun _ _ d _ _ h => by cases d <;> exact h) (by kernel_rfl) rfl (by kernel_rfl) ?_
        repeat (first | (apply wpP_take; (case hw => rfl); (case hv => intro w' hk; simp only [List.getD_cons_zero, List.getD_cons_succ]; go_simp; with_reducible rfl); simp only [List.getD_cons_zero, List.getD_cons_succ, Act.put, List.setIfInBounds_toArray, List.set_cons_zero, List.set_cons_succ]) | (refine wpP_pass (by rfl) ?_; simp only [List.getD_cons_zero, List.getD_cons_succ, Act.put, List.setIfInBounds_toArray, List.set_cons_zero, List.set_cons_succ]))
        clear z2
        obtain ⟨wd, hwd⟩ : ∃ wd, u8w.drew = wd := ⟨_, rfl⟩
        have GD : Hid (Kept [] u8w wd) := by show Kept _ _ _; rw [← hwd]; exact Kept.drew _ _
        rw [hwd]
        clear hwd
        obtain ⟨f0, f1, f2, d0, d1, d2, fz⟩ := GF.out wd (GKS.out.trans GD.out)
        obtain ⟨wA, hwA⟩ : ∃ wA, ((wd.setCell ⟨g, o + i1 * 3, none⟩ (.int .i64 x20)).setCell ⟨g, o + i1 * 3 + 1, none⟩ (.int .i64 x21)).setCell ⟨g, o + i1 * 3 + 2, none⟩ (.bool x22) = wA := ⟨_, rfl⟩
        have GA1 := Lib.hid hwA
        have GKA : Hid (Kept [g] wd wA) := by
          show Kept _ _ _
          rw [← hwA]
          exact ((Kept.setCell _ _ _ _ (by simp)).trans (Kept.setCell _ _ _ _ (by simp))).trans (Kept.setCell _ _ _ _ (by simp))
        clear hwA
        refine wpP_two ?_ ?_
        · refine wpP_one (by rfl) (fun K hK => ?_); simp only [List.getD_cons_zero, List.getD_cons_succ]
          go_simp
          refine hK _ _ (Kept.refl _ _) ?_
          clear hK K
          refine wpP_one (by rfl) (fun K hK => ?_); simp only [List.getD_cons_zero, List.getD_cons_succ]
          go_simp
          refine hK _ _ (Kept.refl _ _) ?_
          clear hK K
          repeat (first | (apply wpP_take; (case hw => rfl); (case hv => intro w' hk; simp only [List.getD_cons_zero, List.getD_cons_succ]; go_simp; with_reducible rfl); simp only [List.getD_cons_zero, List.getD_cons_succ, Act.put, List.setIfInBounds_toArray, List.set_cons_zero, List.set_cons_succ]) | (refine wpP_pass (by rfl) ?_; simp only [List.getD_cons_zero, List.getD_cons_succ, Act.put, List.setIfInBounds_toArray, List.set_cons_zero, List.set_cons_succ]))
          refine wpP_one (by rfl) (fun K hK => ?_); simp only [List.getD_cons_zero, List.getD_cons_succ]
          go_simp
          rw [GA1.out]
          refine hK _ _ GKA.out ?_
          clear hK K f0 f1 f2 d0 d1 d2 fz
          obtain ⟨d0, d1, d2, fz⟩ := GA.out wd (GKS.out.trans GD.out) wA GA1.out.symm
          repeat (first | (apply wpP_take; (case hw => rfl); (case hv => intro w' hk; simp only [List.getD_cons_zero, List.getD_cons_succ]; go_simp; with_reducible rfl); simp only [List.getD_cons_zero, List.getD_cons_succ, Act.put, List.setIfInBounds_toArray, List.set_cons_zero, List.set_cons_succ]) | (refine wpP_pass (by rfl) ?_; simp only [List.getD_cons_zero, List.getD_cons_succ, Act.put, List.setIfInBounds_toArray, List.set_cons_zero, List.set_cons_succ]))
          refine wpP_one (by rfl) (fun K hK => ?_); simp only [List.getD_cons_zero, List.getD_cons_succ]
          go_simp
          refine hK _ _ (((Kept.setCell _ _ _ _ (by simp)).trans (Kept.setCell _ _ _ _ (by simp))).trans (Kept.setCell _ _ _ _ (by simp))) ?_
          clear hK K
          refine wpP_fin ?_
          go_wp2_with fail
          go_meet
          obtain ⟨k1, k2⟩ := GSW.out wd (GKS.out.trans GD.out) _ (by rw [GA1.out])
          exact ⟨rfl, (GD.out.mono (by simp)).trans k1, k2⟩
        · refine wpP_one (by rfl) (fun K hK => ?_); simp only [List.getD_cons_zero, List.getD_cons_succ]
          go_simp
          refine hK _ _ (Kept.refl _ _) ?_
          clear hK K
          refine wpP_one (by rfl) (fun K hK => ?_); simp only [List.getD_cons_zero, List.getD_cons_succ]
          go_simp
          refine hK _ _ (Kept.refl _ _) ?_
          clear hK K
          repeat (first | (apply wpP_take; (case hw => rfl); (case hv => intro w' hk; simp only [List.getD_cons_zero, List.getD_cons_succ]; go_simp; with_reducible rfl); simp only [List.getD_cons_zero, List.getD_cons_succ, Act.put, List.setIfInBounds_toArray, List.set_cons_zero, List.set_cons_succ]) | (refine wpP_pass (by rfl) ?_; simp only [List.getD_cons_zero, List.getD_cons_succ, Act.put, List.setIfInBounds_toArray, List.set_cons_zero, List.set_cons_succ]))
          refine wpP_one (by rfl) (fun K hK => ?_); simp only [List.getD_cons_zero, List.getD_cons_succ]
          go_simp
          rw [GA1.out]
          refine hK _ _ GKA.out ?_
          clear hK K f0 f1 f2 d0 d1 d2 fz
          obtain ⟨d0, d1, d2, fz⟩ := GA.out wd (GKS.out.trans GD.out) wA GA1.out.symm
          repeat (first | (apply wpP_take; (case hw => rfl); (case hv => intro w' hk; simp only [List.getD_cons_zero, List.getD_cons_succ]; go_simp; with_reducible rfl); simp only [List.getD_cons_zero, List.getD_cons_succ, Act.put, List.setIfInBounds_toArray, List.set_cons_zero, List.set_cons_succ]) | (refine wpP_pass (by rfl) ?_; simp only [List.getD_cons_zero, List.getD_cons_succ, Act.put, List.setIfInBounds_toArray, List.set_cons_zero, List.set_cons_succ]))
          refine wpP_one (by rfl) (fun K hK => ?_); simp only [List.getD_cons_zero, List.getD_cons_succ]
          go_simp
          refine hK _ _ (((Kept.setCell _ _ _ _ (by simp)).trans (Kept.setCell _ _ _ _ (by simp))).trans (Kept.setCell _ _ _ _ (by simp))) ?_
          clear hK K
          refine wpP_fin ?_
          go_wp2_with fail
          go_meet
          obtain ⟨k1, k2⟩ := GSW.out wd (GKS.out.trans GD.out) _ (by rw [GA1.out])
          exact ⟨rfl, (GD.out.mono (by simp)).trans k1, k2⟩
      case rest =>
      obtain ⟨rfl, GKX⟩ := hcut
      obtain ⟨wx, rfl⟩ : ∃ wx, wx = wc := ⟨_, rfl⟩
      have hbx' := GKX.out.1.heap (b := u6w.heap.size) (by have := GG.out; simp; omega) (GX.out u8w GK8.out)
      have a0 : wx.cell? ⟨u6w.heap.size, 0, none⟩ = some (.int .i64 vv) := cell_of_row _ _ 0 _ _ _ hbx'
      have a1 : wx.cell? ⟨u6w.heap.size, 1, none⟩ = some (.string nd) := cell_of_row _ _ 1 _ _ _ hbx'
      have a2 : wx.cell? ⟨u6w.heap.size, 2, none⟩ = some (.slice ra2 rn rc2) := cell_of_row _ _ 2 _ _ _ hbx'
      have a3 : wx.cell? ⟨u6w.heap.size, 3, none⟩ = some (.slice (some ⟨g, o, none⟩) en ec2) := cell_of_row _ _ 3 _ _ _ hbx'
      have GK1X : Hid (Kept [] w1 wx) := (GK7.out.trans GK8.out).into GKX.out.1 (by have := GG.out; have := HK9.out.size; simp; omega)
      obtain ⟨z, hz⟩ : ∃ z, checkO cs = z := ⟨_, rfl⟩
      have GCX : Hid (Calls Tryd.prog 10 #[.agg #[.int .i64 vv, .string nd, .slice ra2 rn rc2, .slice (some ⟨g, o, none⟩) en ec2]] wx fun e w2 => e = .returned (.int .i64 z) ∧ Kept [] wx w2) := by rw [← hz]; exact Check_any cs _ wx GKX.out.2 (HTY.out wx (HA.out.trans GK1X.out))
      obtain rfl : z = 72 := by rw [← hz]; exact GBAD.out
      clear hz hbx' hmb hmb2 m1 m2 m3 m4
      go_wp2_with fail
      refine GCX.out.mono ?_
      rintro e wy ⟨rfl, hky⟩
      clear a0 a1 a2 a3
      go_wp2_with fail
      go_meet
      exact ⟨rfl, GK1X.out.trans hky⟩
  case rest =>
  obtain ⟨rfl, HKF⟩ := hcut
  go_wp2_with fail
  go_ret
  exact ⟨rfl, HA.out.trans HKF.out⟩
end Go.Proofs.YteanhjfdpjekbaaDoor

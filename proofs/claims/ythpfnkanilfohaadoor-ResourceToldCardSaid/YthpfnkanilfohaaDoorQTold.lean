/-
  Layer 6: the walk of ResourceTold.
  Conditions: those that each theorem states.
-/
import Derived.Test.YthpfnkanilfohaaDoorQShown
import Derived.Test.YthpfnkanilfohaaDoorQPure2
import Derived.Test.YthpfnkanilfohaaDoorZReg
import Derived.Laws.StructEq
import Derived.Deep.DeepCutAuto
namespace Go.Proofs.YthpfnkanilfohaaDoor
open Go.RowKit Go.Maps

/-- The state of the loop: the resource that has all but one parameter. -/
structure LsSt (t ti : List UInt8) (L : List Prm) (g : Nat) (lv : Value) (w5 wr : World) : Prop where
  x : wr.heap[g]? = some (.cells #[.string (strL t), .string (strL ti), lv] 24)
  own : OwnP (g + 1) wr lv L
  kept : Kept [] w5 wr

theorem ext_get {A B : List Prm} (h : A.length = B.length) (hh : ∀ j (hj : j < A.length) (hj2 : j < B.length), A[j] = B[j]) : A = B := List.ext_getElem h hh

set_option maxRecDepth 100000 in
set_option maxHeartbeats 8000000 in
theorem told_walk (t ti : List UInt8) (ao : Option Addr) (len cap : Nat) (P : List Prm) (n : Int) (w : World) (hp : PsIs w (.slice ao len cap) P) (ht : t.length ≤ 140737488355328) (hti : ti.length ≤ 140737488355328) (hnb : -9223372036854775808 ≤ n ∧ n ≤ 9223372036854775807) :
    Calls Tryd.prog 7 #[resV t ti (.slice ao len cap), .int .i64 n] w fun e w' => e = .returned (.bool true) ∧ Kept [] w w' := by
  obtain ⟨hnb1, hnb2⟩ := hnb
  have HP := Lib.hid hp
  clear hp
  unfold resV
  obtain ⟨w1, hw1⟩ : ∃ w1, w.alloc (.cells #[.string (strL t), .string (strL ti), .slice ao len cap] 24) = w1 := ⟨_, rfl⟩
  have HA : Hid (Kept [] w w1 ∧ w1.heap[w.heap.size]? = some (.cells #[.string (strL t), .string (strL ti), .slice ao len cap] 24)) := ⟨by rw [← hw1]; exact Kept.alloc _ _ _, by rw [← hw1]; exact heap_alloc_last _ _⟩
  have FA : Hid (∀ w', Kept [] w1 w' → w'.cell? ⟨w.heap.size, 0, none⟩ = some (.string (strL t)) ∧ w'.cell? ⟨w.heap.size, 1, none⟩ = some (.string (strL ti)) ∧ w'.cell? ⟨w.heap.size, 2, none⟩ = some (.slice ao len cap)) := fun w' hk => by
    have e0 := hk.heap (by simp) HA.out.2
    exact ⟨cell_of_row _ _ 0 _ _ _ e0, cell_of_row _ _ 1 _ _ _ e0, cell_of_row _ _ 2 _ _ _ e0⟩
  obtain ⟨c, hc⟩ : ∃ c, codeO t ti P = c := ⟨_, rfl⟩
  have HC := Lib.hid hc
  obtain ⟨O, hO⟩ : ∃ O, outO t ti P = O := ⟨_, rfl⟩
  have HO := Lib.hid hO
  obtain ⟨g1, hg1⟩ : ∃ y, txO t ti P t = y := ⟨_, rfl⟩
  obtain ⟨g2, hg2⟩ : ∃ y, txO t ti P ti = y := ⟨_, rfl⟩
  have HG : Hid (c = 0 → g1 = t ∧ g2 = ti) := fun h0 => by
    rw [← hg1, ← hg2]
    unfold txO
    rw [hc, if_pos h0, if_pos h0]
    exact ⟨rfl, rfl⟩
  have HF1 : Hid (∀ w', Kept [] w w' → Calls Tryd.prog 9 #[.agg #[.string (strL t), .string (strL ti), .slice ao len cap]] w' fun e w2 => ∃ v, e = .returned (.tuple #[.agg #[.string (strL g1), .string (strL g2), v], .int .i64 c]) ∧ Hid (OwnP w'.heap.size w2 v O ∧ Kept [] w' w2)) := fun w' hk => by
    have := sfull_any t ti P _ w' (HP.out.kept hk) ht hti
    unfold FullOut resV at this
    rw [hc, hO, hg1, hg2] at this
    exact this
  clear hc hO hg1 hg2
  go_enter Tryd.func7, Tryd.ntmps7
  go_wp2_with fail
  refine (shown6_any _).mono ?_
  rintro e w2 ⟨rfl, hk2⟩
  have HK2 := Lib.hid hk2
  clear hk2 hw1
  obtain ⟨a0, a1, a2⟩ := FA.out w2 HK2.out
  go_wp2_with fail
  refine (HF1.out _ (HA.out.1.trans HK2.out)).mono ?_
  clear a0 a1 a2
  rintro e w3 ⟨v3, rfl, H3⟩
  obtain ⟨oao, ocap, rfl, _, _, _, hoc⟩ := H3.out.1.ps.open
  have HOC := Lib.hid hoc
  obtain ⟨m, hm⟩ : ∃ m, O.length = m := ⟨_, rfl⟩
  have HM := Lib.hid hm
  have hm63 : m ≤ 140737488355328 := by have := H3.out.1.ps.len; omega
  have HM32 : Hid (m * 32 ≤ 140737488355328) := by have := H3.out.1.ps.len; show _ ≤ _; omega
  rw [hm] at H3
  rw [hm]
  clear hoc hm
  obtain ⟨w4, hw4⟩ : ∃ w4, w3.alloc (.cells #[.string (strL g1), .string (strL g2), .slice oao m ocap] 24) = w4 := ⟨_, rfl⟩
  have HB : Hid (Kept [] w3 w4 ∧ w4.heap[w3.heap.size]? = some (.cells #[.string (strL g1), .string (strL g2), .slice oao m ocap] 24) ∧ w4.heap.size = w3.heap.size + 1) := ⟨by rw [← hw4]; exact Kept.alloc _ _ _, by rw [← hw4]; exact heap_alloc_last _ _, by rw [← hw4, size_alloc]⟩
  have HK4 : Hid (Kept [] w w4) := ((HA.out.1.trans HK2.out).trans H3.out.2).trans HB.out.1
  have FB : Hid (∀ w', Kept [] w4 w' → w'.cell? ⟨w3.heap.size, 0, none⟩ = some (.string (strL g1)) ∧ w'.cell? ⟨w3.heap.size, 1, none⟩ = some (.string (strL g2)) ∧ w'.cell? ⟨w3.heap.size, 2, none⟩ = some (.slice oao m ocap)) := fun w' hk => by
    have e0 := hk.heap (by simp) HB.out.2.1
    exact ⟨cell_of_row _ _ 0 _ _ _ e0, cell_of_row _ _ 1 _ _ _ e0, cell_of_row _ _ 2 _ _ _ e0⟩
  obtain ⟨b0, b1, b2⟩ := FB.out w4 (Kept.refl _ _)
  by_cases h0 : c = 0
  case neg =>
    have q0 : (c == 0) = false := by simpa using h0
    have q1 : (c != 0) = true := by simpa using h0
    clear h0
    go_wp2_with fail
    clear hw4
    go_ret
    exact ⟨rfl, HK4.out⟩
  subst h0
  obtain ⟨rfl, rfl⟩ := HG.out rfl
  by_cases hm0 : m = 0
  · subst hm0
    go_wp2_with fail
    clear hw4
    go_ret
    exact ⟨rfl, HK4.out⟩
  have hmp : 0 < m := by omega
  have hmi : (0 : Int) < (m : Int) := by omega
  have hmb : ((m : Int) == 0) = false := by rw [beq_eq_false_iff_ne]; omega
  have hmb2 : (m == 0) = false := by rw [beq_eq_false_iff_ne]; omega
  obtain ⟨I, hI⟩ : ∃ I : Nat, (if n < 0 then -(n + 1) else n) = (I : Int) := ⟨(if n < 0 then -(n + 1) else n).toNat, by split <;> omega⟩
  have hI63 : I ≤ 9223372036854775807 := by split at hI <;> omega
  have HI := Lib.hid hI
  clear hI
  go_upto_if 38 with (fail)
  clear hw4
  go_cut [1] (fun s1 wx => s1 = .int .i64 (I : Int) ∧ Hid (Kept [] w4 wx))
  case first =>
    by_cases hneg : n < 0
    · have e1 : -(n + 1) = (I : Int) := by have := HI.out; rw [if_pos hneg] at this; exact this
      have e2 : IntKind.i64.wrap (n + 1) = n + 1 := by rw [IntKind.wrap_i64]; omega
      have e3 : IntKind.i64.wrap (-(n + 1)) = (I : Int) := by rw [IntKind.wrap_i64]; omega
      go_wp2_with fail
      go_meet
      exact ⟨by first | rfl | (rw [← e1]; first | rfl | (congr 1; omega)), by show Kept [] w4 w4; exact Kept.refl _ _⟩
    · have e1 : n = (I : Int) := by have := HI.out; rw [if_neg hneg] at this; exact this
      subst e1
      go_wp2_with fail
      go_meet
      exact ⟨rfl, by show Kept [] w4 w4; exact Kept.refl _ _⟩
  case rest =>
    obtain ⟨rfl, HK5⟩ := hcut
    clear b0 b1 b2
    obtain ⟨j, hj⟩ : ∃ j, I % m = j := ⟨_, rfl⟩
    have hjm : j < m := by rw [← hj]; exact Nat.mod_lt _ hmp
    have hmod : (I : Int) % (m : Int) = (j : Int) := by rw [← hj]; rfl
    have hmod2 : Int.tmod (I : Int) (m : Int) = (j : Int) := by rw [Int.tmod_eq_emod_of_nonneg (by omega)]; exact hmod
    obtain ⟨b0, b1, b2⟩ := FB.out wc HK5.out
    obtain ⟨g, hg⟩ : ∃ g, wc.heap.size = g := ⟨_, rfl⟩
    have HGE : Hid (w4.heap.size ≤ g ∧ wc.heap.size = g) := ⟨by rw [← hg]; exact HK5.out.size, hg⟩
    have HD0 : Hid (LsSt g1 g2 ((O.take 0).eraseIdx j) g (.slice none 0 0) wc (wc.alloc (.cells #[.string (strL g1), .string (strL g2), .slice none 0 0] 24))) := by
      refine ⟨?_, ?_, Kept.alloc _ _ _⟩
      · rw [← hg]; exact heap_alloc_last _ _
      · simp; exact OwnP.nil _ _
    have HJ := Lib.hid hj
    clear hj
    go_wp2_with fail
    clear b0 b1 b2 hg hmod hmod2 hmb hmb2
    go_loopw [9] (fun i wr => ∃ k : Nat, k ≤ m ∧ i = .int .i64 k ∧ Hid (∃ lv, LsSt g1 g2 ((O.take k).eraseIdx j) g lv wc wr)) (fun i _ => m - (intOf i).toNat)
    case atStart => exact ⟨0, by omega, rfl, _, HD0.out⟩
    case round =>
      clear HD0
      obtain ⟨k, hk, rfl, HDD⟩ := hrel
      obtain ⟨lv, hdf⟩ := HDD.out
      have HDF := Lib.hid hdf
      clear HDD hdf
      obtain ⟨u1, u2, u3, rfl⟩ := prm_val _ _ _ _ HDF.out.own
      have HKR : Hid (Kept [] w4 wr) := HK5.out.trans HDF.out.kept
      obtain ⟨b0, b1, b2⟩ := FB.out wr HKR.out
      by_cases hkm : k < m
      · have hkO : k < O.length := by rw [HM.out]; exact hkm
        by_cases hkj : k = j
        · have q1 : ((k : Int) == (j : Int)) = true := by rw [beq_iff_eq]; omega
          have q2 : (k == j) = true := by rw [beq_iff_eq]; exact hkj
          have HN : Hid (∃ lv, LsSt g1 g2 ((O.take (k + 1)).eraseIdx j) g lv wc wr) := by
            rw [erase_take hkO, if_pos hkj]
            exact ⟨_, HDF.out⟩
          clear hkj
          go_wp2_with fail
          go_roundw
          case rel => exact ⟨k + 1, by omega, by go_num, HN⟩
          case measure => simp [intOf]; omega
        · have q1 : ((k : Int) == (j : Int)) = false := by rw [beq_eq_false_iff_ne]; omega
          have q2 : (k == j) = false := by rw [beq_eq_false_iff_ne]; exact hkj
          obtain ⟨ob, oo, rfl, hob, hocc⟩ := HOC.out (by omega)
          obtain ⟨x0, x1⟩ := hocc k hkO
          obtain ⟨p, hpp⟩ : ∃ p, O[k] = p := ⟨_, rfl⟩
          rw [hpp] at x0 x1
          have HE : Hid ((O.take (k + 1)).eraseIdx j = (O.take k).eraseIdx j ++ [p]) := by show _ = _; rw [erase_take hkO, if_neg hkj, hpp]
          have HPL : Hid (p.1.length ≤ 140737488355328 ∧ p.2.length ≤ 140737488355328) := by rw [← hpp]; exact H3.out.1.ps.each _ (List.getElem_mem hkO)
          have hgs : g + 1 ≤ wr.heap.size := by have := (Array.getElem?_eq_some_iff.1 HDF.out.x).1; omega
          have HKW3 : Hid (Kept [] w3 wr) := HB.out.1.trans HKR.out
          have hobg : ob < g + 1 := by have h1 := HB.out.2.2; have h2 := HGE.out.1; omega
          have hw3g : w3.heap.size < g + 1 := by have h1 := HB.out.2.2; have h2 := HGE.out.1; omega
          have q3 : ∀ w', Below (g + 1) wr.drew w' → w'.cell? ⟨g, 2, none⟩ = some (.slice u1 u2 u3) := fun w' h => below_cell h (by omega) (cell_of_row _ _ 2 _ _ _ (show wr.drew.heap[g]? = _ from HDF.out.x))
          have q4 : ∀ w', Below (g + 1) wr.drew w' → w'.cell? ⟨ob, oo + k * 2, none⟩ = some (.string (strL p.1)) := fun w' h => below_cell h hobg ((HKW3.out.cell (p := ⟨ob, oo + k * 2, none⟩) hob (by simp)).trans x0)
          have q5 : ∀ w', Below (g + 1) wr.drew w' → w'.cell? ⟨ob, oo + k * 2 + 1, none⟩ = some (.string (strL p.2)) := fun w' h => below_cell h hobg ((HKW3.out.cell (p := ⟨ob, oo + k * 2 + 1, none⟩) hob (by simp)).trans x1)
          have q6 : ∀ w', Below (g + 1) wr.drew w' → w'.cell? ⟨w3.heap.size, 2, none⟩ = some (.slice (some ⟨ob, oo, none⟩) m ocap) := fun w' h => below_cell h hw3g (show wr.drew.cell? _ = _ from b2)
          obtain ⟨v7, w7, hrun, hown, hap, hk7⟩ := (HDF.out.own.kept (Kept.drew [] _)).app (by exact hgs) p (by
            have h1 := (List.eraseIdx_sublist (O.take k) j).length_le
            rw [List.length_take] at h1
            have h2 := HM32.out
            omega) HPL.out
          obtain ⟨y1, y2, y3, rfl⟩ := prm_val _ _ _ _ hown
          have hex : ∀ z ∈ (Value.slice u1 u2 u3).ownBlock.toList, g + 1 ≤ z := fun z hz => (HDF.out.own.blk z (by simpa using hz)).1
          have HRUN := Lib.hid hrun
          have HBA : Hid (Below (g + 1) wr.drew (wr.drew.alloc (.cells #[.string (strL p.1), .string (strL p.2)] 31))) := (Kept.alloc [] wr.drew _).below hgs (by simp)
          have HB7 : Hid (Below (g + 1) (wr.drew.alloc (.cells #[.string (strL p.1), .string (strL p.2)] 31)) w7) := hk7.below (by rw [size_alloc]; exact Nat.le_succ_of_le hgs) hex
          have HX7 : Hid (w7.heap[g]? = some (.cells #[.string (strL g1), .string (strL g2), .slice u1 u2 u3] 24) ∧ OwnP (g + 1) w7 (.slice y1 y2 y3) ((O.take (k + 1)).eraseIdx j) ∧ Kept [] wc w7) := by
            refine ⟨hk7.heap (fun hz => by have := hex _ hz; omega) ((Kept.alloc [] _ _).heap (by simp) (show wr.drew.heap[g]? = _ from HDF.out.x)), by rw [HE.out]; exact hown, ?_⟩
            exact OwnP.into (HDF.out.kept.trans (Kept.drew [] _)) hap (HDF.out.own.kept (Kept.drew [] _)) (by have := HGE.out; omega)
          clear hrun hown hap hk7 hex hocc x0 x1 hpp hkj
          go_wp2_with fail
          refine wp_region_ordZ (R := (Below (g + 1))) 10 [(true, 0), (true, 1), (true, 2), (true, 3), (true, 4), (true, 5), (true, 6), (false, 7), (false, 8), (true, 9)] (fun _ => Below.refl _ _) (fun _ _ _ h k => h.trans k) (by kernel_rfl) (fun _ _ d _ _ h => by cases d <;> exact h) (by kernel_rfl) rfl (by decide) (by kernel_rfl) (by kernel_rfl) ?_
          simp only [named, List.getD_cons_zero, List.getD_cons_succ]
          repeat (first | (apply wpR_take; (case hw => rfl); (case hv => intro w' hk; go_simp; with_reducible rfl); simp only [Act.put, List.setIfInBounds_toArray, List.set_cons_zero, List.set_cons_succ]) | (refine wpR_pass (by rfl) ?_; simp only [Act.put, List.setIfInBounds_toArray, List.set_cons_zero, List.set_cons_succ]))
          clear q3 q4 q5 q6 b0 b1 b2
          refine wpR_force (by rfl) (fun K hK => ?_)
          go_simp
          refine hK _ _ HBA.out ?_
          clear hK K
          refine wpR_force (by rfl) (fun K hK => ?_)
          refine wp_append_run _ _ _ rfl _ _ _ rfl rfl HRUN.out ?_
          refine hK _ _ HB7.out ?_
          clear hK K
          repeat (first | (apply wpR_take; (case hw => rfl); (case hv => intro w' hk; go_simp; with_reducible rfl); simp only [Act.put, List.setIfInBounds_toArray, List.set_cons_zero, List.set_cons_succ]) | (refine wpR_pass (by rfl) ?_; simp only [Act.put, List.setIfInBounds_toArray, List.set_cons_zero, List.set_cons_succ]))
          refine wpR_nil ?_; refine lastQ_go rfl ?_
          have z2 : w7.cell? ⟨g, 2, none⟩ = some (.slice u1 u2 u3) := cell_of_row _ _ 2 _ _ _ HX7.out.1
          have fy : ∀ q, w7.frozen? ⟨g, q, none⟩ = false := fun q => frozen_of_row _ _ q _ _ HX7.out.1
          go_simp
          clear z2 fy
          generalize hw8 : w7.setCell _ _ = w8
          have H8 : Hid (∃ lv, LsSt g1 g2 ((O.take (k + 1)).eraseIdx j) g lv wc w8) := by
            have hk8 : Kept [g] w7 w8 := by rw [← hw8]; exact Kept.setCell _ _ _ _ (by simp)
            refine ⟨.slice y1 y2 y3, ?_, HX7.out.2.1.keptX hk8 (fun z hz => by have := (HX7.out.2.1.blk z hz).1; simp; omega), HX7.out.2.2.into hk8 (by simp; have := HGE.out; omega)⟩
            rw [← hw8]
            exact row_setCell HX7.out.1 2 _
          clear hw8
          go_wp2_with fail
          go_roundw
          case rel => exact ⟨k + 1, by omega, by go_num, H8⟩
          case measure => simp [intOf]; omega
      · have hkm2 : k = m := by omega
        obtain ⟨L, hL⟩ : ∃ L, O.eraseIdx j = L := ⟨_, rfl⟩
        have hLk : (O.take k).eraseIdx j = L := by rw [List.take_of_length_le (by rw [HM.out]; omega), hL]
        obtain ⟨q, hq⟩ : ∃ q, L.length = q := ⟨_, rfl⟩
        have hX := HDF.out.x
        have hOW := HDF.out.own
        rw [hLk] at hOW
        have c0 : wr.cell? ⟨g, 0, none⟩ = some (.string (strL g1)) := cell_of_row _ _ 0 _ _ _ hX
        have c1 : wr.cell? ⟨g, 1, none⟩ = some (.string (strL g2)) := cell_of_row _ _ 1 _ _ _ hX
        have c2 : wr.cell? ⟨g, 2, none⟩ = some (.slice u1 u2 u3) := cell_of_row _ _ 2 _ _ _ hX
        obtain ⟨cb, hcb⟩ : ∃ c, codeO g1 g2 L = c := ⟨_, rfl⟩
        obtain ⟨Ob, hOb⟩ : ∃ Ob, outO g1 g2 L = Ob := ⟨_, rfl⟩
        obtain ⟨z1, hz1⟩ : ∃ z, txO g1 g2 L g1 = z := ⟨_, rfl⟩
        obtain ⟨z2, hz2⟩ : ∃ z, txO g1 g2 L g2 = z := ⟨_, rfl⟩
        have HF2 : Hid (Calls Tryd.prog 9 #[.agg #[.string (strL g1), .string (strL g2), .slice u1 u2 u3]] wr fun e w2 => ∃ v, e = .returned (.tuple #[.agg #[.string (strL z1), .string (strL z2), v], .int .i64 cb]) ∧ Hid (OwnP wr.heap.size w2 v Ob ∧ Kept [] wr w2)) := by
          have := sfull_any g1 g2 L _ wr hOW.ps ht hti
          unfold FullOut resV at this
          rw [hcb, hOb, hz1, hz2] at this
          exact this
        have HCB : Hid (cb = 62 ∨ cb = 0) := by
          have := code_cases (Q := L) HC.out
          rw [hcb] at this
          exact this
        have hjO : j < O.length := by rw [HM.out]; exact hjm
        obtain ⟨p, hpp⟩ : ∃ p, O[j] = p := ⟨_, rfl⟩
        have HTP : Hid (cb = 0 → getP Ob p.1 = some p.2 → Ob = O) := fun h0 hg' => by
          have hjo : j < (outO g1 g2 P).length := by rw [HO.out]; exact hjO
          have := told_pure (t := g1) (ti := g2) (P := P) HC.out hjo (by rw [HO.out, hL, hcb]; exact h0) (by simp only [HO.out, hL, hOb, hpp]; exact hg')
          simp only [HO.out, hL, hOb] at this
          exact this
        have HGO : Hid (getP O p.1 = some p.2) := by
          have hr := full_rise HC.out
          rw [HO.out] at hr
          rw [← hpp]
          exact getP_mem hr (List.getElem_mem hjO)
        obtain ⟨ob, oo, rfl, hob, hocc⟩ := HOC.out (by omega)
        obtain ⟨x0, x1⟩ := hocc j hjO
        rw [hpp] at x0 x1
        have HX0 : Hid (∀ w', Kept [] w4 w' → w'.cell? ⟨ob, oo + j * 2, none⟩ = some (.string (strL p.1))) := fun w' hk => ((HB.out.1.trans hk).cell (p := ⟨ob, oo + j * 2, none⟩) hob (by simp)).trans x0
        have HOCC := Lib.hid hocc
        clear hX hOW hLk hL hq hcb hOb hz1 hz2 hocc x0 x1 hpp
        go_wp2_with fail
        refine HF2.out.mono ?_
        clear c0 c1 c2 b0 b1 b2
        rintro e w10 ⟨v10, rfl, H10⟩
        obtain ⟨qao, qcap, rfl, _, _, _, hqc⟩ := H10.out.1.ps.open
        have HQC := Lib.hid hqc
        obtain ⟨r, hr⟩ : ∃ r, Ob.length = r := ⟨_, rfl⟩
        have HR := Lib.hid hr
        have hr63 : r ≤ 140737488355328 := by have := H10.out.1.ps.len; omega
        rw [hr] at H10
        rw [hr]
        clear hqc hr
        obtain ⟨w11, hw11⟩ : ∃ w11, w10.alloc (.cells #[.string (strL z1), .string (strL z2), .slice qao r qcap] 24) = w11 := ⟨_, rfl⟩
        have HD : Hid (Kept [] w10 w11 ∧ w11.heap[w10.heap.size]? = some (.cells #[.string (strL z1), .string (strL z2), .slice qao r qcap] 24)) := ⟨by rw [← hw11]; exact Kept.alloc _ _ _, by rw [← hw11]; exact heap_alloc_last _ _⟩
        have HK11 : Hid (Kept [] w4 w11) := (HKR.out.trans H10.out.2).trans HD.out.1
        have FD : Hid (∀ w', Kept [] w11 w' → w'.cell? ⟨w10.heap.size, 0, none⟩ = some (.string (strL z1)) ∧ w'.cell? ⟨w10.heap.size, 1, none⟩ = some (.string (strL z2)) ∧ w'.cell? ⟨w10.heap.size, 2, none⟩ = some (.slice qao r qcap)) := fun w' hk => by
          have e0 := hk.heap (by simp) HD.out.2
          exact ⟨cell_of_row _ _ 0 _ _ _ e0, cell_of_row _ _ 1 _ _ _ e0, cell_of_row _ _ 2 _ _ _ e0⟩
        rcases HCB.out with rfl | rfl
        · go_wp2_with fail
          clear hw11
          go_ret
          exact ⟨rfl, HK4.out.trans HK11.out⟩
        obtain ⟨vx, hvx⟩ : ∃ x, getV Ob p.1 = x := ⟨_, rfl⟩
        obtain ⟨bx, hbx⟩ : ∃ b, getB Ob p.1 = b := ⟨_, rfl⟩
        have HGB : Hid (∀ w', Kept [] w11 w' → Calls Tryd.prog 14 #[.agg #[.string (strL z1), .string (strL z2), .slice qao r qcap], .string (strL p.1)] w' fun e w2 => e = .returned (.tuple #[.string (strL vx), .bool bx]) ∧ Kept [] w' w2) := fun w' hk => by
          rw [← hvx, ← hbx]
          exact sget_any z1 z2 p.1 Ob _ w' ((H10.out.1.ps.kept HD.out.1).kept hk)
        have HGA : Hid (∀ w', Kept [] w4 w' → Calls Tryd.prog 14 #[.agg #[.string (strL g1), .string (strL g2), .slice (some ⟨ob, oo, none⟩) m ocap], .string (strL p.1)] w' fun e w2 => e = .returned (.tuple #[.string (strL p.2), .bool true]) ∧ Kept [] w' w2) := fun w' hk => by
          have := sget_any g1 g2 p.1 O _ w' ((H3.out.1.ps.kept HB.out.1).kept hk)
          unfold GetP getV getB at this
          rw [HGO.out] at this
          exact this
        have HOO : Hid (bx = true → vx = p.2 → Ob = O) := fun h1 h2 => by
          refine HTP.out rfl ?_
          rw [← hbx] at h1
          rw [← hvx] at h2
          unfold getB getV at *
          cases hgp : getP Ob p.1 with
          | none => rw [hgp] at h1; cases h1
          | some y => rw [hgp] at h2; rw [← h2]; rfl
        have k0 : ∀ w', Kept [] w11.drew w' → w'.cell? ⟨w10.heap.size, 0, none⟩ = some (.string (strL z1)) := fun w' hk => (FD.out w' ((Kept.drew [] _).trans hk)).1
        have k1 : ∀ w', Kept [] w11.drew w' → w'.cell? ⟨w10.heap.size, 1, none⟩ = some (.string (strL z2)) := fun w' hk => (FD.out w' ((Kept.drew [] _).trans hk)).2.1
        have k2 : ∀ w', Kept [] w11.drew w' → w'.cell? ⟨w10.heap.size, 2, none⟩ = some (.slice qao r qcap) := fun w' hk => (FD.out w' ((Kept.drew [] _).trans hk)).2.2
        have k3 : ∀ w', Kept [] w11.drew w' → w'.cell? ⟨w3.heap.size, 2, none⟩ = some (.slice (some ⟨ob, oo, none⟩) m ocap) := fun w' hk => (FB.out w' (HK11.out.trans ((Kept.drew [] _).trans hk))).2.2
        have k4 : ∀ w', Kept [] w11.drew w' → w'.cell? ⟨ob, oo + j * 2, none⟩ = some (.string (strL p.1)) := fun w' hk => HX0.out w' (HK11.out.trans ((Kept.drew [] _).trans hk))
        clear hvx hbx
        go_wp2_with fail
        clear hw11
        refine wp_region_ord [(true, 0), (true, 1), (true, 2), (true, 3), (true, 4), (true, 5), (true, 6), (false, 7), (true, 8), (true, 9), (true, 10), (true, 11), (true, 12)] [] (by kernel_rfl) (fun _ _ d _ _ h => by cases d <;> exact h) (by kernel_rfl) rfl (by kernel_rfl) (by kernel_rfl) ?_
        simp only [named, List.getD_cons_zero, List.getD_cons_succ]
        repeat (first | (apply wpGrow_take; (case hw => rfl); (case hv => intro w' hk; go_simp; with_reducible rfl); simp only [Act.put, List.setIfInBounds_toArray, List.set_cons_zero, List.set_cons_succ]) | (refine wpGrow_pass (by rfl) ?_; simp only [Act.put, List.setIfInBounds_toArray, List.set_cons_zero, List.set_cons_succ]) | (refine wpGrow_skip (by rfl) ?_; simp only [Act.put, List.setIfInBounds_toArray, List.set_cons_zero, List.set_cons_succ]))
        clear k0 k1 k2 k3 k4
        refine wpGrow_force (by rfl) (fun K hK => ?_)
        go_simp
        refine (HGB.out _ (Kept.drew [] _)).mono ?_
        rintro e w12 ⟨rfl, hk12⟩
        have HK12 : Hid (Kept [] w11 w12) := (Kept.drew [] _).trans hk12
        refine hK _ _ hk12 ?_
        clear hK K hk12
        repeat (first | (apply wpGrow_take; (case hw => rfl); (case hv => intro w' hk; go_simp; with_reducible rfl); simp only [Act.put, List.setIfInBounds_toArray, List.set_cons_zero, List.set_cons_succ]) | (refine wpGrow_pass (by rfl) ?_; simp only [Act.put, List.setIfInBounds_toArray, List.set_cons_zero, List.set_cons_succ]) | (refine wpGrow_skip (by rfl) ?_; simp only [Act.put, List.setIfInBounds_toArray, List.set_cons_zero, List.set_cons_succ]))
        refine wpGrow_nil ?_
        have k0 : ∀ w', Kept [] w12.drew w' → w'.cell? ⟨w3.heap.size, 0, none⟩ = some (.string (strL g1)) := fun w' hk => (FB.out w' (HK11.out.trans (HK12.out.trans ((Kept.drew [] _).trans hk)))).1
        have k1 : ∀ w', Kept [] w12.drew w' → w'.cell? ⟨w3.heap.size, 1, none⟩ = some (.string (strL g2)) := fun w' hk => (FB.out w' (HK11.out.trans (HK12.out.trans ((Kept.drew [] _).trans hk)))).2.1
        have k3 : ∀ w', Kept [] w12.drew w' → w'.cell? ⟨w3.heap.size, 2, none⟩ = some (.slice (some ⟨ob, oo, none⟩) m ocap) := fun w' hk => (FB.out w' (HK11.out.trans (HK12.out.trans ((Kept.drew [] _).trans hk)))).2.2
        have k4 : ∀ w', Kept [] w12.drew w' → w'.cell? ⟨ob, oo + j * 2, none⟩ = some (.string (strL p.1)) := fun w' hk => HX0.out w' (HK11.out.trans (HK12.out.trans ((Kept.drew [] _).trans hk)))
        go_wp2_with fail
        refine wp_region_ord [(true, 0), (true, 1), (true, 2), (true, 3), (true, 4), (true, 5), (true, 6), (false, 7), (true, 8), (true, 9), (true, 10), (true, 11), (true, 12)] [] (by kernel_rfl) (fun _ _ d _ _ h => by cases d <;> exact h) (by kernel_rfl) rfl (by kernel_rfl) (by kernel_rfl) ?_
        simp only [named, List.getD_cons_zero, List.getD_cons_succ]
        repeat (first | (apply wpGrow_take; (case hw => rfl); (case hv => intro w' hk; go_simp; with_reducible rfl); simp only [Act.put, List.setIfInBounds_toArray, List.set_cons_zero, List.set_cons_succ]) | (refine wpGrow_pass (by rfl) ?_; simp only [Act.put, List.setIfInBounds_toArray, List.set_cons_zero, List.set_cons_succ]) | (refine wpGrow_skip (by rfl) ?_; simp only [Act.put, List.setIfInBounds_toArray, List.set_cons_zero, List.set_cons_succ]))
        clear k0 k1 k3 k4
        refine wpGrow_force (by rfl) (fun K hK => ?_)
        go_simp
        refine (HGA.out _ (HK11.out.trans (HK12.out.trans (Kept.drew [] _)))).mono ?_
        rintro e w13 ⟨rfl, hk13⟩
        have HK13 : Hid (Kept [] w11 w13) := HK12.out.trans ((Kept.drew [] _).trans hk13)
        refine hK _ _ hk13 ?_
        clear hK K hk13
        repeat (first | (apply wpGrow_take; (case hw => rfl); (case hv => intro w' hk; go_simp; with_reducible rfl); simp only [Act.put, List.setIfInBounds_toArray, List.set_cons_zero, List.set_cons_succ]) | (refine wpGrow_pass (by rfl) ?_; simp only [Act.put, List.setIfInBounds_toArray, List.set_cons_zero, List.set_cons_succ]) | (refine wpGrow_skip (by rfl) ?_; simp only [Act.put, List.setIfInBounds_toArray, List.set_cons_zero, List.set_cons_succ]))
        refine wpGrow_nil ?_
        cases bx
        · go_wp2_with fail
          go_ret
          exact ⟨rfl, (HK4.out.trans HK11.out).trans HK13.out⟩
        by_cases hvp : vx = p.2
        case neg =>
          have s1 : ((strL vx).toList == (strL p.2).toList) = false := by rw [str_beqP, decide_eq_false hvp]
          clear hvp
          go_wp2_with fail
          go_ret
          exact ⟨rfl, (HK4.out.trans HK11.out).trans HK13.out⟩
        have HEQ : Hid (Ob = O) := HOO.out rfl hvp
        have s1 : ((strL vx).toList == (strL p.2).toList) = true := by rw [str_beqP, decide_eq_true hvp]
        have hrm : r = m := by rw [← HR.out, HEQ.out, HM.out]
        subst hrm
        obtain ⟨_, _, b2⟩ := FB.out w13 (HK11.out.trans HK13.out)
        obtain ⟨_, _, d2⟩ := FD.out w13 HK13.out
        clear hvp
        go_wp2_with fail
        clear b2 d2 s1
        obtain ⟨wo, rfl⟩ : ∃ wo, wo = wr := ⟨_, rfl⟩
        go_loopw [16, 17] (fun sm i wr => ∃ k : Nat, k ≤ r ∧ i = .int .i64 k ∧ sm = .bool true ∧ Hid (Kept [] w11 wr)) (fun _ i _ => r - (intOf i).toNat)
        case atStart => exact ⟨0, by omega, rfl, rfl, HK13.out⟩
        case round =>
          obtain ⟨k', hk', rfl, rfl, HV⟩ := hrel
          obtain ⟨_, _, b2⟩ := FB.out wr (HK11.out.trans HV.out)
          obtain ⟨_, _, d2⟩ := FD.out wr HV.out
          by_cases hlk : k' < r
          · have hkO' : k' < O.length := by rw [HM.out]; exact hlk
            have hkOb : k' < Ob.length := by rw [HR.out]; exact hlk
            obtain ⟨qb, qo, rfl, hqb, hqcc⟩ := HQC.out (by omega)
            obtain ⟨y0, y1⟩ := hqcc k' hkOb
            obtain ⟨x0, x1⟩ := HOCC.out k' hkO'
            obtain ⟨pk, hpk⟩ : ∃ pk, O[k'] = pk := ⟨_, rfl⟩
            have hpkb : Ob[k'] = pk := by simp only [HEQ.out]; exact hpk
            rw [hpkb] at y0 y1
            rw [hpk] at x0 x1
            have HKV : Hid (Kept [] w3 wr) := HB.out.1.trans (HK11.out.trans HV.out)
            have c0 := (HKV.out.cell (p := ⟨ob, oo + k' * 2, none⟩) hob (by simp)).trans x0
            have c1 := (HKV.out.cell (p := ⟨ob, oo + k' * 2 + 1, none⟩) hob (by simp)).trans x1
            have HKQ : Hid (Kept [] w10 wr) := HD.out.1.trans HV.out
            have d0 := (HKQ.out.cell (p := ⟨qb, qo + k' * 2, none⟩) hqb (by simp)).trans y0
            have d1 := (HKQ.out.cell (p := ⟨qb, qo + k' * 2 + 1, none⟩) hqb (by simp)).trans y1
            clear hqcc y0 y1 x0 x1 hpk hpkb
            go_wp2_with fail
            go_quiet (fail)
            generalize hwq : World.drewN wr _ = wz
            have HWZ : Hid (Kept [] w11 wz) := by rw [← hwq]; exact HV.out.trans (Kept.drewN _ _ _)
            clear hwq b2 d2 c0 c1 d0 d1
            go_wp2_with fail
            go_roundw
            case rel => exact ⟨k' + 1, by omega, by go_num, rfl, HWZ⟩
            case measure => simp [intOf]; omega
          · go_wp2_with fail
            go_ret
            exact ⟨rfl, (HK4.out.trans HK11.out).trans HV.out⟩
end Go.Proofs.YthpfnkanilfohaaDoor

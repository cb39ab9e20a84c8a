/-
  Layer 6: the document's Check.
  Conditions: those that each theorem states.
-/
import Derived.Test.YtfofhnbijjocfaaGreatDoorQDpure
import Derived.Deep.DeepCutAuto
namespace Go.Proofs.YtfofhnbijjocfaaGreatDoor
open Go.RowKit Go.Maps
set_option maxRecDepth 100000

theorem dflt_ne {k : Nat} (h : k ≠ 0) : dfltK k ≠ [] := by
  unfold dfltK
  rw [if_neg h]
  repeat' split
  all_goals decide
theorem kn_take {S : List Prm} {n : List UInt8} {k : Nat} (hk : k < S.length) : knB (S.take (k + 1)) n = (knB (S.take k) n || decide (S[k].1 = n)) := by
  unfold knB
  rw [List.take_succ_eq_append_getElem hk, List.any_append]
  simp

set_option maxRecDepth 100000 in
set_option maxHeartbeats 8000000 in
theorem rscheck_any (t ti : List UInt8) (P : List Prm) (v : Value) (w : World) (h : PsIs w v P) (hti : ti.length ≤ 140737488355328) :
    Calls Tryz.prog 39 #[resV t ti v] w fun e w' => e = .returned (.int .i64 (codeO t ti P)) ∧ Kept [] w w' := by
  have HP := Lib.hid h
  have hl := h.len
  obtain ⟨ao, cap, rfl, _, _, _, h5⟩ := h.open
  have H5 := Lib.hid h5
  obtain ⟨n, hn⟩ : ∃ n, P.length = n := ⟨_, rfl⟩
  rw [hn] at HP hl
  have HN := Lib.hid hn
  have hn63 : n ≤ 140737488355328 := by omega
  rw [hn]
  clear h hn hl h5
  obtain ⟨w1, hw1⟩ : ∃ w1, w.alloc (.cells #[.string (strL t), .string (strL ti), .slice ao n cap] 40) = w1 := ⟨_, rfl⟩
  have HK : Hid (Kept [] w w1) := by rw [← hw1]; exact Kept.alloc _ _ _
  have G0 : Hid (w1.heap[w.heap.size]? = some (.cells #[.string (strL t), .string (strL ti), .slice ao n cap] 40)) := by rw [← hw1]; exact heap_alloc_last _ _
  have FA : Hid (∀ w', Kept [] w1 w' → w'.cell? ⟨w.heap.size, 0, none⟩ = some (.string (strL t)) ∧ w'.cell? ⟨w.heap.size, 1, none⟩ = some (.string (strL ti)) ∧ w'.cell? ⟨w.heap.size, 2, none⟩ = some (.slice ao n cap)) := fun w' hk => by
    have e0 := hk.heap (by simp) G0.out
    exact ⟨cell_of_row _ _ 0 _ _ _ e0, cell_of_row _ _ 1 _ _ _ e0, cell_of_row _ _ 2 _ _ _ e0⟩
  obtain ⟨dk, hdk⟩ : ∃ dk, dfltK (kindI t) = dk := ⟨_, rfl⟩
  have HDK := Lib.hid hdk
  have HF1 : Hid (∀ w', Calls Tryz.prog 40 #[.string (strL t)] w' fun e w2 => e = .returned (.string (strL dk)) ∧ w' = w2) := fun w' => by rw [← hdk]; exact rsfirst_any t w'
  obtain ⟨a0, a1, a2⟩ := FA.out w1 (Kept.refl _ _)
  unfold resV
  by_cases hk0 : kindI t = 0
  · have HC : Hid (codeO t ti P = 60) := by show _ = _; unfold codeO; rw [if_pos hk0]
    have hdn : dk = [] := by rw [← hdk, hk0]; rfl
    have e1 : ((strL dk).toList == []) = true := by rw [strL_bytes, hdn]; rfl
    have e2 : (strL dk).toList.isEmpty = true := by rw [strL_bytes, hdn]; rfl
    rw [HC.out]
    clear hk0 hdk hdn
    go_enter Tryz.func39, Tryz.ntmps39
    go_wp2_with fail
    refine (HF1.out _).mono ?_
    rintro e w2 ⟨rfl, rfl⟩
    go_wp2_with fail
    go_ret
    exact ⟨rfl, HK.out⟩
  have hdn : dk ≠ [] := by rw [← hdk]; exact dflt_ne hk0
  have e1 : ((strL dk).toList == []) = false := by rw [strL_bytes, beq_eq_false_iff_ne]; exact hdn
  have e2 : (strL dk).toList.isEmpty = false := by rw [strL_bytes]; simpa using hdn
  have HK0 := Lib.hid hk0
  clear hk0 hdk hdn
  cases htt : titleK (kindI t) ti
  · have HC : Hid (codeO t ti P = 61) := by show _ = _; unfold codeO; rw [if_neg HK0.out, if_pos htt]
    have HT := Lib.hid htt
    rw [HC.out]
    clear htt
    go_enter Tryz.func39, Tryz.ntmps39
    go_wp2_with fail
    refine (HF1.out _).mono ?_
    rintro e w2 ⟨rfl, rfl⟩
    go_wp2_with fail
    refine (rstitle_any t ti _ hti).mono ?_
    rw [HT.out]
    rintro e w2 ⟨rfl, hk2⟩
    have HK2 := Lib.hid hk2
    clear hk2
    go_wp2_with fail
    go_ret
    exact ⟨rfl, HK.out.trans HK2.out⟩
  have HTT := Lib.hid htt
  clear htt
  obtain ⟨code, hcode⟩ : ∃ c, codeO t ti P = c := ⟨_, rfl⟩
  have HCO := Lib.hid hcode
  rw [hcode]
  clear hcode
  obtain ⟨st, hst⟩ : ∃ st, stO t P = st := ⟨_, rfl⟩
  obtain ⟨x, hx⟩ : ∃ x, getV P nEnsure = x := ⟨_, rfl⟩
  obtain ⟨b, hb⟩ : ∃ b, getB P nEnsure = b := ⟨_, rfl⟩
  have q1 : strL nEnsure = { data := #[101, 110, 115, 117, 114, 101] } := rfl
  have HGET : Hid (∀ w', Kept [] w w' → Calls Tryz.prog 21 #[.agg #[.string (strL t), .string (strL ti), .slice ao n cap], .string { data := #[101, 110, 115, 117, 114, 101] }] w' fun e w2 => e = .returned (.tuple #[.string (strL x), .bool b]) ∧ Kept [] w' w2) := fun w' hk => by
    rw [← hx, ← hb, ← q1]
    exact rsget_any t ti nEnsure P _ w' (HP.out.kept hk)
  have HST : Hid ((b = true → x = st) ∧ (b = false → dk = st)) := by
    show _ ∧ _
    rw [← hx, ← hst, ← hb, ← HDK.out]
    unfold stO getV getB
    cases getP P nEnsure <;> simp
  have HSTO := Lib.hid hst
  have HSL : Hid (st.length ≤ 140737488355328) := by show _ ≤ _; rw [← hst]; exact stO_len fun p hp => (HP.out.each p hp).2
  clear hst hx hb q1
  go_enter Tryz.func39, Tryz.ntmps39
  go_wp2_with fail
  refine (HF1.out _).mono ?_
  rintro e w2 ⟨rfl, rfl⟩
  clear hw1
  go_wp2_with fail
  refine (rstitle_any t ti _ hti).mono ?_
  rw [HTT.out]
  rintro e w2 ⟨rfl, hk2⟩
  have HK2 := Lib.hid hk2
  clear hk2 a0 a1 a2
  obtain ⟨a0, a1, a2⟩ := FA.out w2 HK2.out
  go_wp2_with fail
  refine (HGET.out _ (HK.out.trans HK2.out)).mono ?_
  rintro e w3 ⟨rfl, hk3⟩
  have HK3 : Hid (Kept [] w1 w3) := HK2.out.trans hk3
  clear hk3 a0 a1 a2
  obtain ⟨a0, a1, a2⟩ := FA.out w3 HK3.out
  go_upto_if 30 with (fail)
  go_cut [3] (fun s3 wx => s3 = .string (strL st) ∧ Hid (Kept [] w1 wx))
  case first =>
    cases b
    · obtain rfl := HST.out.2 rfl
      go_wp2_with fail
      refine (HF1.out _).mono ?_
      rintro e w4 ⟨rfl, rfl⟩
      go_wp2_with fail
      go_meet
      exact ⟨rfl, HK3⟩
    · obtain rfl := HST.out.1 rfl
      go_wp2_with fail
      go_meet
      exact ⟨rfl, HK3⟩
  case rest =>
    obtain ⟨rfl, HK4⟩ := hcut
    clear a0 a1 a2
    obtain ⟨a0, a1, a2⟩ := FA.out wc HK4.out
    go_wp2_with fail
    refine (rules_any t st _ HK0.out HSL.out).mono ?_
    clear a0 a1 a2
    rintro e w5 ⟨v5, b5, rfl, HR⟩
    have HK5 : Hid (Kept [] w1 w5) := HK4.out.trans HR.out.2.2
    obtain ⟨ao5, cap5, rfl, hcell⟩ := HR.out.2.1.cell
    obtain ⟨S, hS⟩ : ∃ S, slotsK (kindI t) st = S := ⟨_, rfl⟩
    have HS := Lib.hid hS
    obtain ⟨q, hq⟩ : ∃ q, S.length = q := ⟨_, rfl⟩
    have HQ := Lib.hid hq
    have hrl : (rulesK (kindI t) st).length = q := by unfold rulesK; rw [List.length_map, hS, hq]
    have hq100 : q ≤ 100 := by rw [← hq, ← hS]; exact slotsK_len _ _
    have HCELL : Hid (0 < q → ∃ gb, ao5 = some ⟨gb, 0, none⟩ ∧ gb < w5.heap.size ∧ ∀ k (hk : k < S.length), w5.cell? ⟨gb, k * 3, none⟩ = some (.string (strL S[k].1)) ∧ w5.cell? ⟨gb, k * 3 + 2, none⟩ = some (.bool (decide (S[k].1 = nTarget)))) := fun h0 => by
      obtain ⟨gb, e1, e2, e3⟩ := hcell (by rw [hrl]; exact h0)
      refine ⟨gb, e1, e2, fun k hk => ?_⟩
      obtain ⟨f0, _, f2⟩ := e3 k (by rw [hrl, ← hq]; exact hk)
      subst hS
      refine ⟨?_, ?_⟩
      · rw [f0]; simp [rulesK]
      · rw [f2]; simp [rulesK]
    rw [hrl]
    have HB5 : Hid (b5 = decide (S ≠ [])) := by show _ = _; rw [← hS]; exact HR.out.1
    clear hcell hS hq hrl
    cases b5
    · have HC : Hid (code = 62) := by
        show _ = _
        rw [← HCO.out]
        refine codeO_none HK0.out HTT.out ?_
        rw [HSTO.out, HS.out]
        have := of_decide_eq_false HB5.out.symm
        simpa using this
      go_wp2_with fail
      go_ret
      exact ⟨ret1 HC.out.symm, HK.out.trans HK5.out⟩
    have HDOC : Hid ((docOk S P → code = 0) ∧ (¬ docOk S P → code = 62)) := by
      show _ ∧ _
      rw [← HCO.out, ← HS.out, ← HSTO.out]
      exact ⟨codeO_yes HK0.out HTT.out, codeO_no HK0.out HTT.out⟩
    obtain ⟨a0, a1, a2⟩ := FA.out w5 HK5.out
    go_wp2_with fail
    clear a0 a1 a2
    go_loopw [7] (fun i wr => ∃ j : Nat, j ≤ n ∧ i = .int .i64 j ∧ Hid (∀ i (hi : i < P.length), i < j → stepB S P i P[i] = true) ∧ Hid (Kept [] w5 wr)) (fun i _ => n - (intOf i).toNat)
    case atStart => exact ⟨0, by omega, rfl, fun i hi h0 => by omega, Kept.refl _ _⟩
    case round =>
      obtain ⟨j, hj, rfl, HJ, HW⟩ := hrel
      obtain ⟨a0, a1, a2⟩ := FA.out wr (HK5.out.trans HW.out)
      by_cases hlt : j < n
      · have hjl : j < P.length := by rw [HN.out]; exact hlt
        obtain ⟨pb, po, rfl, hpb, hpc⟩ := H5.out (by omega)
        obtain ⟨p0, p1⟩ := hpc j hjl
        have HKW : Hid (Kept [] w wr) := (HK.out.trans HK5.out).trans HW.out
        have d0 := (HKW.out.cell (p := ⟨pb, po + j * 2, none⟩) hpb (by simp)).trans p0
        have d1 := (HKW.out.cell (p := ⟨pb, po + j * 2 + 1, none⟩) hpb (by simp)).trans p1
        obtain ⟨p, hp⟩ : ∃ p, P[j] = p := ⟨_, rfl⟩
        rw [hp] at d0 d1
        have HP1 : Hid (p.1.length ≤ 140737488355328 ∧ p.2.length ≤ 140737488355328) := by
          have := HP.out.each P[j] (List.getElem_mem hjl)
          rw [hp] at this
          exact this
        have HPJ := Lib.hid hp
        obtain ⟨wa, hwa⟩ : ∃ wa, wr.alloc (.cells #[.string (strL p.1), .string (strL p.2)] 61) = wa := ⟨_, rfl⟩
        have HWA : Hid (Kept [] wr wa ∧ wa.heap[wr.heap.size]? = some (.cells #[.string (strL p.1), .string (strL p.2)] 61)) := ⟨by rw [← hwa]; exact Kept.alloc _ _ _, by rw [← hwa]; exact heap_alloc_last _ _⟩
        have hpc0 := Lib.hid hpc
        clear p0 p1 hpc hp
        go_wp2_with fail
        clear hwa a0 a1 a2 d0 d1
        obtain ⟨wo, rfl⟩ : ∃ wo, wo = wr := ⟨_, rfl⟩
        go_loopw [9, 10] (fun kn ki wi => ∃ (k : Nat) (bn : Bool), k ≤ q ∧ ki = .int .i64 k ∧ kn = .bool bn ∧ Hid (bn = knB (S.take k) p.1) ∧ Hid (Kept [] wa wi)) (fun _ ki _ => q - (intOf ki).toNat)
        case atStart => exact ⟨0, false, by omega, rfl, rfl, rfl, Kept.refl _ _⟩
        case round =>
          obtain ⟨k, bn, hk, rfl, rfl, HBN, HWI⟩ := hrel
          by_cases hkq : k < q
          · have hks : k < S.length := by rw [HQ.out]; exact hkq
            obtain ⟨gb, rfl, hgb, hgc⟩ := HCELL.out (by omega)
            obtain ⟨g0, _⟩ := hgc k hks
            have HKI : Hid (Kept [] w5 wr) := (HW.out.trans HWA.out.1).trans HWI.out
            have c0 := (HKI.out.cell (p := ⟨gb, k * 3, none⟩) hgb (by simp)).trans g0
            obtain ⟨s, hs⟩ : ∃ s, S[k].1 = s := ⟨_, rfl⟩
            rw [hs] at c0
            have HSK : Hid (knB (S.take (k + 1)) p.1 = (bn || decide (s = p.1))) := by show _ = _; rw [kn_take hks, hs, HBN.out]
            have hg2 := HWI.out.heap (by simp) HWA.out.2
            have z0 : wr.cell? ⟨wo.heap.size, 0, none⟩ = some (.string (strL p.1)) := cell_of_row _ _ 0 _ _ _ hg2
            clear hgc g0 hs hg2
            cases bn
            · by_cases hsp : s = p.1
              · have e3 : ((strL s).toList == (strL p.1).toList) = true := by rw [str_beqP, decide_eq_true hsp]
                have HT : Hid (true = knB (S.take (k + 1)) p.1) := by show _ = _; rw [HSK.out, decide_eq_true hsp]; rfl
                clear hsp
                go_wp2_with fail
                go_quiet (fail)
                generalize hwq : World.drewN wr _ = wq
                have HWQ : Hid (Kept [] wa wq) := by rw [← hwq]; exact HWI.out.trans (Kept.drewN _ _ _)
                clear hwq z0 c0
                go_wp2_with fail
                go_roundw
                case rel => exact ⟨k + 1, true, by omega, by go_num, rfl, HT, HWQ⟩
                case measure => simp [intOf]; omega
              · have e3 : ((strL s).toList == (strL p.1).toList) = false := by rw [str_beqP, decide_eq_false hsp]
                have HT : Hid (false = knB (S.take (k + 1)) p.1) := by show _ = _; rw [HSK.out, decide_eq_false hsp]; rfl
                clear hsp
                go_wp2_with fail
                go_quiet (fail)
                generalize hwq : World.drewN wr _ = wq
                have HWQ : Hid (Kept [] wa wq) := by rw [← hwq]; exact HWI.out.trans (Kept.drewN _ _ _)
                clear hwq z0 c0
                go_wp2_with fail
                go_roundw
                case rel => exact ⟨k + 1, false, by omega, by go_num, rfl, HT, HWQ⟩
                case measure => simp [intOf]; omega
            · have HT : Hid (true = knB (S.take (k + 1)) p.1) := by show _ = _; rw [HSK.out]; rfl
              go_wp2_with fail
              go_quiet (fail)
              generalize hwq : World.drewN wr _ = wq
              have HWQ : Hid (Kept [] wa wq) := by rw [← hwq]; exact HWI.out.trans (Kept.drewN _ _ _)
              clear hwq z0 c0
              go_wp2_with fail
              go_roundw
              case rel => exact ⟨k + 1, true, by omega, by go_num, rfl, HT, HWQ⟩
              case measure => simp [intOf]; omega
          · have HKN : Hid (bn = knB S p.1) := by
              show _ = _
              rw [HBN.out, List.take_of_length_le (by rw [HQ.out]; omega)]
            have HK6 : Hid (Kept [] w5 wr) := (HW.out.trans HWA.out.1).trans HWI.out
            have hg2 := HWI.out.heap (by simp) HWA.out.2
            have z0 : ∀ w', Kept [] wr.drew w' → w'.cell? ⟨wo.heap.size, 0, none⟩ = some (.string (strL p.1)) := fun w' hk => cell_of_row _ _ 0 _ _ _ (hk.heap (by simp) (show wr.drew.heap[wo.heap.size]? = _ from hg2))
            have z1 : ∀ w', Kept [] wr.drew w' → w'.cell? ⟨wo.heap.size, 1, none⟩ = some (.string (strL p.2)) := fun w' hk => cell_of_row _ _ 1 _ _ _ (hk.heap (by simp) (show wr.drew.heap[wo.heap.size]? = _ from hg2))
            have z2 : ∀ w', Kept [] wr.drew w' → w'.cell? ⟨w.heap.size, 2, none⟩ = some (.slice (some ⟨pb, po, none⟩) n cap) := fun w' hk => (FA.out w' ((HK5.out.trans HK6.out).trans ((Kept.drew [] _).trans hk))).2.2
            clear hg2
            cases bn
            · have HC : Hid (code = 62) := HDOC.out.2 (not_step hjl (by rw [HPJ.out]; unfold stepB; rw [← HKN.out]; rfl))
              go_wp2_with fail
              refine wp_region_ord [(true, 0), (true, 1), (true, 2), (true, 3), (true, 4), (true, 5), (true, 6), (true, 7), (true, 8), (true, 9), (true, 10), (true, 11), (true, 12), (true, 13), (true, 14), (true, 15), (true, 16), (true, 17), (true, 18), (true, 19), (true, 20), (true, 21), (true, 22), (false, 23), (true, 24), (true, 25)] [] (by kernel_rfl) (fun _ _ d _ _ h => by cases d <;> exact h) (by kernel_rfl) rfl (by kernel_rfl) (by kernel_rfl) ?_
              simp only [named, List.getD_cons_zero, List.getD_cons_succ]
              repeat (first | (apply wpGrow_take; (case hw => rfl); (case hv => intro w' hk; go_simp; with_reducible rfl); simp only [Act.put, List.setIfInBounds_toArray, List.set_cons_zero, List.set_cons_succ]) | (refine wpGrow_pass (by rfl) ?_; simp only [Act.put, List.setIfInBounds_toArray, List.set_cons_zero, List.set_cons_succ]) | (refine wpGrow_skip (by rfl) ?_; simp only [Act.put, List.setIfInBounds_toArray, List.set_cons_zero, List.set_cons_succ]))
              refine wpGrow_nil ?_
              clear z0 z1 z2
              go_wp2_with fail
              go_ret
              exact ⟨ret1 HC.out.symm, ((HK.out.trans HK5.out).trans HK6.out).trans (Kept.drew [] _)⟩
            · rcases Nat.eq_zero_or_pos j with rfl | hj0
              · go_wp2_with fail
                refine wp_region_ord [(true, 0), (true, 1), (true, 2), (true, 3), (true, 4), (true, 5), (true, 6), (true, 7), (true, 8), (true, 9), (true, 10), (true, 11), (true, 12), (true, 13), (true, 14), (true, 15), (true, 16), (true, 17), (true, 18), (true, 19), (true, 20), (true, 21), (true, 22), (false, 23), (true, 24), (true, 25)] [] (by kernel_rfl) (fun _ _ d _ _ h => by cases d <;> exact h) (by kernel_rfl) rfl (by kernel_rfl) (by kernel_rfl) ?_
                simp only [named, List.getD_cons_zero, List.getD_cons_succ]
                repeat (first | (apply wpGrow_take; (case hw => rfl); (case hv => intro w' hk; go_simp; with_reducible rfl); simp only [Act.put, List.setIfInBounds_toArray, List.set_cons_zero, List.set_cons_succ]) | (refine wpGrow_pass (by rfl) ?_; simp only [Act.put, List.setIfInBounds_toArray, List.set_cons_zero, List.set_cons_succ]) | (refine wpGrow_skip (by rfl) ?_; simp only [Act.put, List.setIfInBounds_toArray, List.set_cons_zero, List.set_cons_succ]))
                refine wpGrow_force (by rfl) (fun K hK => ?_)
                go_simp
                refine (rsvalue_any p.1 p.2 _ HP1.out.2).mono ?_
                cases hv : valB p.1 p.2
                · have HV := Lib.hid hv
                  clear hv
                  rintro e w8 ⟨rfl, hk8⟩
                  have HK8 : Hid (Kept [] wr w8) := (Kept.drew [] _).trans hk8
                  refine hK _ _ hk8 ?_
                  clear hK K hk8
                  repeat (first | (apply wpGrow_take; (case hw => rfl); (case hv => intro w' hk; go_simp; with_reducible rfl); simp only [Act.put, List.setIfInBounds_toArray, List.set_cons_zero, List.set_cons_succ]) | (refine wpGrow_pass (by rfl) ?_; simp only [Act.put, List.setIfInBounds_toArray, List.set_cons_zero, List.set_cons_succ]) | (refine wpGrow_skip (by rfl) ?_; simp only [Act.put, List.setIfInBounds_toArray, List.set_cons_zero, List.set_cons_succ]))
                  refine wpGrow_nil ?_
                  clear z0 z1 z2 
                  have HC : Hid (code = 62) := HDOC.out.2 (not_step hjl (by rw [HPJ.out]; unfold stepB; rw [HV.out]; simp))
                  go_wp2_with fail
                  go_ret
                  exact ⟨ret1 HC.out.symm, ((HK.out.trans HK5.out).trans HK6.out).trans HK8.out⟩
                · have HV := Lib.hid hv
                  clear hv
                  rintro e w8 ⟨rfl, hk8⟩
                  have HK8 : Hid (Kept [] w5 w8) := HK6.out.trans ((Kept.drew [] _).trans hk8)
                  refine hK _ _ hk8 ?_
                  clear hK K hk8
                  repeat (first | (apply wpGrow_take; (case hw => rfl); (case hv => intro w' hk; go_simp; with_reducible rfl); simp only [Act.put, List.setIfInBounds_toArray, List.set_cons_zero, List.set_cons_succ]) | (refine wpGrow_pass (by rfl) ?_; simp only [Act.put, List.setIfInBounds_toArray, List.set_cons_zero, List.set_cons_succ]) | (refine wpGrow_skip (by rfl) ?_; simp only [Act.put, List.setIfInBounds_toArray, List.set_cons_zero, List.set_cons_succ]))
                  refine wpGrow_nil ?_
                  clear z0 z1 z2 
                  have HJ2 : Hid (∀ i (hi : i < P.length), i < 0 + 1 → stepB S P i P[i] = true) := fun i hi hij => by
                    by_cases e : i = 0
                    · subst e
                      rw [HPJ.out]
                      exact (by unfold stepB; rw [← HKN.out, HV.out]; simp)
                    · exact HJ.out i hi (by omega)
                  go_wp2_with fail
                  go_roundw
                  case rel => exact ⟨0 + 1, by omega, by go_num, HJ2, HK8⟩
                  case measure => simp [intOf]; omega
              · obtain ⟨q0, hjq⟩ : ∃ q0, j = q0 + 1 := ⟨j - 1, by omega⟩
                have hq0 : q0 < P.length := by omega
                have hj0i : (0 : Int) < (j : Int) := by omega
                have wq : IntKind.i64.wrap ((j : Int) - 1) = (q0 : Int) := by rw [IntKind.wrap_i64]; omega
                have HJQ := Lib.hid hjq
                obtain ⟨y0, _⟩ := hpc0.out q0 hq0
                obtain ⟨p2, hp2⟩ : ∃ p2, P[q0].1 = p2 := ⟨_, rfl⟩
                rw [hp2] at y0
                have HPV : Hid (prevN P j = p2) := by
                  show _ = _
                  rw [prevN_of hjl (by omega), ← hp2]
                  simp [hjq]
                have y1 : ∀ w', Kept [] wr.drew w' → w'.cell? ⟨pb, po + q0 * 2, none⟩ = some (.string (strL p2)) := fun w' hk => (((HK.out.trans HK5.out).trans HK6.out).trans ((Kept.drew [] _).trans hk)).cell (p := ⟨pb, po + q0 * 2, none⟩) hpb (by simp) |>.trans y0
                clear y0 hp2 hjq
                have hq0n : q0 < n := by have := HJQ.out; omega
                cases hlt2 : lessB p.1 p2
                case true =>
                  have hs : lessB p2 p.1 = false := less_asym hlt2
                  have hs2 : Op.bytesLess (strL p.1).toList (strL p2).toList = true := by rw [strL_bytes, strL_bytes]; exact hlt2
                  clear hlt2
                  have HC : Hid (code = 62) := HDOC.out.2 (not_step hjl (by rw [HPJ.out]; unfold stepB; rw [HPV.out, hs, decide_eq_false (show ¬ j = 0 by omega)]; simp))
                  clear hs
                  go_wp2_with fail
                  refine wp_region_ord [(true, 0), (true, 1), (true, 2), (true, 3), (true, 4), (true, 5), (true, 6), (true, 7), (true, 8), (true, 9), (true, 10), (true, 11), (true, 12), (true, 13), (true, 14), (true, 15), (true, 16), (true, 17), (true, 18), (true, 19), (true, 20), (true, 21), (true, 22), (false, 23), (true, 24), (true, 25)] [] (by kernel_rfl) (fun _ _ d _ _ h => by cases d <;> exact h) (by kernel_rfl) rfl (by kernel_rfl) (by kernel_rfl) ?_
                  simp only [named, List.getD_cons_zero, List.getD_cons_succ]
                  repeat (first | (apply wpGrow_take; (case hw => rfl); (case hv => intro w' hk; go_simp; with_reducible rfl); simp only [Act.put, List.setIfInBounds_toArray, List.set_cons_zero, List.set_cons_succ]) | (refine wpGrow_pass (by rfl) ?_; simp only [Act.put, List.setIfInBounds_toArray, List.set_cons_zero, List.set_cons_succ]) | (refine wpGrow_skip (by rfl) ?_; simp only [Act.put, List.setIfInBounds_toArray, List.set_cons_zero, List.set_cons_succ]))
                  refine wpGrow_nil ?_
                  clear z0 z1 z2 y1 wq
                  go_wp2_with fail
                  go_ret
                  exact ⟨ret1 HC.out.symm, ((HK.out.trans HK5.out).trans HK6.out).trans (Kept.drew [] _)⟩
                have hs2 : Op.bytesLess (strL p.1).toList (strL p2).toList = false := by rw [strL_bytes, strL_bytes]; exact hlt2
                by_cases hee : p.1 = p2
                · have hs : lessB p2 p.1 = false := by rw [hee]; exact less_irr _
                  have hs3 : ((strL p.1).toList == (strL p2).toList) = true := by rw [str_beqP, decide_eq_true hee]
                  clear hlt2 hee
                  have HC : Hid (code = 62) := HDOC.out.2 (not_step hjl (by rw [HPJ.out]; unfold stepB; rw [HPV.out, hs, decide_eq_false (show ¬ j = 0 by omega)]; simp))
                  clear hs
                  go_wp2_with fail
                  refine wp_region_ord [(true, 0), (true, 1), (true, 2), (true, 3), (true, 4), (true, 5), (true, 6), (true, 7), (true, 8), (true, 9), (true, 10), (true, 11), (true, 12), (true, 13), (true, 14), (true, 15), (true, 16), (true, 17), (true, 18), (true, 19), (true, 20), (true, 21), (true, 22), (false, 23), (true, 24), (true, 25)] [] (by kernel_rfl) (fun _ _ d _ _ h => by cases d <;> exact h) (by kernel_rfl) rfl (by kernel_rfl) (by kernel_rfl) ?_
                  simp only [named, List.getD_cons_zero, List.getD_cons_succ]
                  repeat (first | (apply wpGrow_take; (case hw => rfl); (case hv => intro w' hk; go_simp; with_reducible rfl); simp only [Act.put, List.setIfInBounds_toArray, List.set_cons_zero, List.set_cons_succ]) | (refine wpGrow_pass (by rfl) ?_; simp only [Act.put, List.setIfInBounds_toArray, List.set_cons_zero, List.set_cons_succ]) | (refine wpGrow_skip (by rfl) ?_; simp only [Act.put, List.setIfInBounds_toArray, List.set_cons_zero, List.set_cons_succ]))
                  refine wpGrow_nil ?_
                  clear z0 z1 z2 y1 wq
                  go_wp2_with fail
                  go_ret
                  exact ⟨ret1 HC.out.symm, ((HK.out.trans HK5.out).trans HK6.out).trans (Kept.drew [] _)⟩
                · have hs : lessB p2 p.1 = true := by rw [less_tri, hlt2, decide_eq_false hee]; rfl
                  have hs3 : ((strL p.1).toList == (strL p2).toList) = false := by rw [str_beqP, decide_eq_false hee]
                  have HSS := Lib.hid hs
                  clear hs hlt2 hee
                  go_wp2_with fail
                  refine wp_region_ord [(true, 0), (true, 1), (true, 2), (true, 3), (true, 4), (true, 5), (true, 6), (true, 7), (true, 8), (true, 9), (true, 10), (true, 11), (true, 12), (true, 13), (true, 14), (true, 15), (true, 16), (true, 17), (true, 18), (true, 19), (true, 20), (true, 21), (true, 22), (false, 23), (true, 24), (true, 25)] [] (by kernel_rfl) (fun _ _ d _ _ h => by cases d <;> exact h) (by kernel_rfl) rfl (by kernel_rfl) (by kernel_rfl) ?_
                  simp only [named, List.getD_cons_zero, List.getD_cons_succ]
                  repeat (first | (apply wpGrow_take; (case hw => rfl); (case hv => intro w' hk; go_simp; with_reducible rfl); simp only [Act.put, List.setIfInBounds_toArray, List.set_cons_zero, List.set_cons_succ]) | (refine wpGrow_pass (by rfl) ?_; simp only [Act.put, List.setIfInBounds_toArray, List.set_cons_zero, List.set_cons_succ]) | (refine wpGrow_skip (by rfl) ?_; simp only [Act.put, List.setIfInBounds_toArray, List.set_cons_zero, List.set_cons_succ]))
                  refine wpGrow_force (by rfl) (fun K hK => ?_)
                  go_simp
                  refine (rsvalue_any p.1 p.2 _ HP1.out.2).mono ?_
                  cases hv : valB p.1 p.2
                  · have HV := Lib.hid hv
                    clear hv
                    rintro e w8 ⟨rfl, hk8⟩
                    have HK8 : Hid (Kept [] wr w8) := (Kept.drew [] _).trans hk8
                    refine hK _ _ hk8 ?_
                    clear hK K hk8
                    repeat (first | (apply wpGrow_take; (case hw => rfl); (case hv => intro w' hk; go_simp; with_reducible rfl); simp only [Act.put, List.setIfInBounds_toArray, List.set_cons_zero, List.set_cons_succ]) | (refine wpGrow_pass (by rfl) ?_; simp only [Act.put, List.setIfInBounds_toArray, List.set_cons_zero, List.set_cons_succ]) | (refine wpGrow_skip (by rfl) ?_; simp only [Act.put, List.setIfInBounds_toArray, List.set_cons_zero, List.set_cons_succ]))
                    refine wpGrow_nil ?_
                    clear z0 z1 z2 y1 wq
                    have HC : Hid (code = 62) := HDOC.out.2 (not_step hjl (by rw [HPJ.out]; unfold stepB; rw [HV.out]; simp))
                    go_wp2_with fail
                    go_ret
                    exact ⟨ret1 HC.out.symm, ((HK.out.trans HK5.out).trans HK6.out).trans HK8.out⟩
                  · have HV := Lib.hid hv
                    clear hv
                    rintro e w8 ⟨rfl, hk8⟩
                    have HK8 : Hid (Kept [] w5 w8) := HK6.out.trans ((Kept.drew [] _).trans hk8)
                    refine hK _ _ hk8 ?_
                    clear hK K hk8
                    repeat (first | (apply wpGrow_take; (case hw => rfl); (case hv => intro w' hk; go_simp; with_reducible rfl); simp only [Act.put, List.setIfInBounds_toArray, List.set_cons_zero, List.set_cons_succ]) | (refine wpGrow_pass (by rfl) ?_; simp only [Act.put, List.setIfInBounds_toArray, List.set_cons_zero, List.set_cons_succ]) | (refine wpGrow_skip (by rfl) ?_; simp only [Act.put, List.setIfInBounds_toArray, List.set_cons_zero, List.set_cons_succ]))
                    refine wpGrow_nil ?_
                    clear z0 z1 z2 y1 wq
                    have HJ2 : Hid (∀ i (hi : i < P.length), i < j + 1 → stepB S P i P[i] = true) := fun i hi hij => by
                      by_cases e : i = j
                      · subst e
                        rw [HPJ.out]
                        exact (by unfold stepB; rw [← HKN.out, HV.out, HPV.out, HSS.out]; simp)
                      · exact HJ.out i hi (by omega)
                    go_wp2_with fail
                    go_roundw
                    case rel => exact ⟨j + 1, by omega, by go_num, HJ2, HK8⟩
                    case measure => simp [intOf]; omega
      · have HD1 : Hid (∀ i (hi : i < P.length), stepB S P i P[i] = true) := fun i hi => HJ.out i hi (by rw [HN.out] at hi; omega)
        have HWO : Hid (Kept [] w5 wr) := HW.out
        go_wp2_with fail
        clear a0 a1 a2
        obtain ⟨wo, rfl⟩ : ∃ wo, wo = wr := ⟨_, rfl⟩
        go_loopw [11] (fun ki wr => ∃ k : Nat, k ≤ q ∧ ki = .int .i64 k ∧ Hid (∀ i (hi : i < S.length), i < k → S[i].1 = nTarget → getB P S[i].1 = true) ∧ Hid (Kept [] w5 wr)) (fun ki _ => q - (intOf ki).toNat)
        case atStart => exact ⟨0, by omega, rfl, fun i hi h0 => by omega, HWO.out⟩
        case round =>
          obtain ⟨k, hk, rfl, HKK, HWI⟩ := hrel
          by_cases hkq : k < q
          · have hks : k < S.length := by rw [HQ.out]; exact hkq
            obtain ⟨gb, rfl, hgb, hgc⟩ := HCELL.out (by omega)
            obtain ⟨g0, g2⟩ := hgc k hks
            obtain ⟨s, hs⟩ : ∃ s, S[k].1 = s := ⟨_, rfl⟩
            rw [hs] at g0 g2
            obtain ⟨bt, hbt⟩ : ∃ bt, decide (s = nTarget) = bt := ⟨_, rfl⟩
            rw [hbt] at g2
            obtain ⟨x', hx'⟩ : ∃ x', getV P s = x' := ⟨_, rfl⟩
            obtain ⟨bg, hbg⟩ : ∃ bg, getB P s = bg := ⟨_, rfl⟩
            have HSS := Lib.hid hs
            have HBT := Lib.hid hbt
            have HBG := Lib.hid hbg
            have HGN : Hid (∀ w', Kept [] w w' → Calls Tryz.prog 21 #[.agg #[.string (strL t), .string (strL ti), .slice ao n cap], .string (strL s)] w' fun e w2 => e = .returned (.tuple #[.string (strL x'), .bool bg]) ∧ Kept [] w' w2) := fun w' hk => by
              rw [← hx', ← hbg]
              exact rsget_any t ti s P _ w' (HP.out.kept hk)
            have HC2 : Hid (∀ w', Kept [] w5 w' → w'.cell? ⟨gb, k * 3, none⟩ = some (.string (strL s)) ∧ w'.cell? ⟨gb, k * 3 + 2, none⟩ = some (.bool bt)) := fun w' hk =>
              ⟨(hk.cell (p := ⟨gb, k * 3, none⟩) hgb (by simp)).trans g0, (hk.cell (p := ⟨gb, k * 3 + 2, none⟩) hgb (by simp)).trans g2⟩
            have z0 : ∀ w', Kept [] wr.drew w' → w'.cell? ⟨w.heap.size, 0, none⟩ = some (.string (strL t)) := fun w' hk => (FA.out w' ((HK5.out.trans HWI.out).trans ((Kept.drew [] _).trans hk))).1
            have z1 : ∀ w', Kept [] wr.drew w' → w'.cell? ⟨w.heap.size, 1, none⟩ = some (.string (strL ti)) := fun w' hk => (FA.out w' ((HK5.out.trans HWI.out).trans ((Kept.drew [] _).trans hk))).2.1
            have z2 : ∀ w', Kept [] wr.drew w' → w'.cell? ⟨w.heap.size, 2, none⟩ = some (.slice ao n cap) := fun w' hk => (FA.out w' ((HK5.out.trans HWI.out).trans ((Kept.drew [] _).trans hk))).2.2
            have z3 : ∀ w', Kept [] wr.drew w' → w'.cell? ⟨gb, k * 3, none⟩ = some (.string (strL s)) := fun w' hk => (HC2.out w' (HWI.out.trans ((Kept.drew [] _).trans hk))).1
            clear hgc g0 g2 hs hbt hbg hx'
            go_wp2_with fail
            refine wp_region_ord [(true, 0), (true, 1), (true, 2), (true, 3), (true, 4), (true, 5), (false, 6), (true, 7), (true, 8), (true, 9), (true, 10), (true, 11)] [] (by kernel_rfl) (fun _ _ d _ _ h => by cases d <;> exact h) (by kernel_rfl) rfl (by kernel_rfl) (by kernel_rfl) ?_
            simp only [named, List.getD_cons_zero, List.getD_cons_succ]
            repeat (first | (apply wpGrow_take; (case hw => rfl); (case hv => intro w' hk; go_simp; with_reducible rfl); simp only [Act.put, List.setIfInBounds_toArray, List.set_cons_zero, List.set_cons_succ]) | (refine wpGrow_pass (by rfl) ?_; simp only [Act.put, List.setIfInBounds_toArray, List.set_cons_zero, List.set_cons_succ]) | (refine wpGrow_skip (by rfl) ?_; simp only [Act.put, List.setIfInBounds_toArray, List.set_cons_zero, List.set_cons_succ]))
            clear z0 z1 z2 z3
            refine wpGrow_force (by rfl) (fun K hK => ?_)
            go_simp
            refine (HGN.out _ ((HK.out.trans HK5.out).trans (HWI.out.trans (Kept.drew [] _)))).mono ?_
            rintro e w8 ⟨rfl, hk8⟩
            have HK8 : Hid (Kept [] w5 w8) := HWI.out.trans ((Kept.drew [] _).trans hk8)
            refine hK _ _ hk8 ?_
            clear hK K hk8
            repeat (first | (apply wpGrow_take; (case hw => rfl); (case hv => intro w' hk; go_simp; with_reducible rfl); simp only [Act.put, List.setIfInBounds_toArray, List.set_cons_zero, List.set_cons_succ]) | (refine wpGrow_pass (by rfl) ?_; simp only [Act.put, List.setIfInBounds_toArray, List.set_cons_zero, List.set_cons_succ]) | (refine wpGrow_skip (by rfl) ?_; simp only [Act.put, List.setIfInBounds_toArray, List.set_cons_zero, List.set_cons_succ]))
            refine wpGrow_nil ?_
            obtain ⟨y0, y2⟩ := HC2.out w8 HK8.out
            cases bt
            · have HK9 : Hid (∀ i (hi : i < S.length), i < k + 1 → S[i].1 = nTarget → getB P S[i].1 = true) := fun i hi hik ht' => by
                by_cases e : i = k
                · subst e
                  rw [HSS.out] at ht'
                  exact absurd ht' (of_decide_eq_false HBT.out)
                · exact HKK.out i hi (by omega) ht'
              go_wp2_with fail
              go_roundw
              case rel => exact ⟨k + 1, by omega, by go_num, HK9, HK8⟩
              case measure => simp [intOf]; omega
            · cases bg
              · have HC : Hid (code = 62) := HDOC.out.2 (not_target (List.getElem_mem hks) (by rw [HSS.out]; exact of_decide_eq_true HBT.out) (by rw [HSS.out]; exact HBG.out))
                go_wp2_with fail
                go_ret
                exact ⟨ret1 HC.out.symm, (HK.out.trans HK5.out).trans HK8.out⟩
              · have HK9 : Hid (∀ i (hi : i < S.length), i < k + 1 → S[i].1 = nTarget → getB P S[i].1 = true) := fun i hi hik ht' => by
                  by_cases e : i = k
                  · subst e
                    rw [HSS.out]; exact HBG.out
                  · exact HKK.out i hi (by omega) ht'
                go_wp2_with fail
                go_roundw
                case rel => exact ⟨k + 1, by omega, by go_num, HK9, HK8⟩
                case measure => simp [intOf]; omega
          · have HC : Hid (code = 0) := HDOC.out.1 ⟨HD1.out, fun s hs ht' => by
              obtain ⟨i, hi, rfl⟩ := List.getElem_of_mem hs
              exact HKK.out i hi (by rw [HQ.out] at hi; omega) ht'⟩
            go_wp2_with fail
            go_ret
            exact ⟨ret1 HC.out.symm, (HK.out.trans HK5.out).trans HWI.out⟩
end Go.Proofs.YtfofhnbijjocfaaGreatDoor

/-
  Layer 5: the walk of TablesPrint.
  Conditions: those that each theorem states.
-/
import Derived.Test.YtdaofgmdledcbaaDoorTText
import Derived.Test.YtdaofgmdledcbaaDoorTShown
import Derived.Test.YtdaofgmdledcbaaDoorTSame
import Derived.Test.YtdaofgmdledcbaaDoorTLent
import Derived.Test.YtdaofgmdledcbaaDoorTPrintR
namespace Go.Proofs.YtdaofgmdledcbaaDoor
open Go.RowKit Go.Maps

theorem SlIs.argB {w : World} {v : Value} {c : List UInt8} (h : SlIs w v c) (hc : CapOk v) (hl : c.length ≤ 140737488355328) : ∃ ao cap, v = .slice ao c.length cap ∧ ArgB w ao c.length cap c := by
  obtain ⟨ao', n', c', hv, h1, h2⟩ := hc
  rcases h with ⟨b, o, cap, rfl, hb, hr⟩ | ⟨rfl, rfl⟩
  · simp at hv
    obtain ⟨rfl, rfl, rfl⟩ := hv
    exact ⟨_, _, rfl, rfl, hl, h1, h2, fun e => (by cases e), .inr ⟨b, o, rfl, hb, hr⟩⟩
  · exact ⟨none, 0, rfl, rfl, hl, Nat.le_refl _, by omega, fun _ => rfl, .inl rfl⟩
theorem printE_len {t : List UInt8} {l : List TRow} {n : Int} {c : List UInt8} (h : printE t l = (n, c)) : c.length ≤ 2432 := by
  unfold printE at h
  split at h
  · rw [← (Prod.mk.inj h).2]; simp
  split at h
  · rw [← (Prod.mk.inj h).2]; simp
  split at h
  · rw [← (Prod.mk.inj h).2]; simp
  split at h
  · rw [← (Prod.mk.inj h).2]; simp
  · rw [← (Prod.mk.inj h).2]; omega
theorem rsame_self (ao1 : Option Addr) (len1 cap1 : Nat) (l : List TRow) (ao2 : Option Addr) (len2 cap2 : Nat) (w : World) (h1 : RowsIs w ao1 len1 l) (h2 : RowsIs w ao2 len2 l) :
    Calls Tryd.prog 12 #[.slice ao1 len1 cap1, .slice ao2 len2 cap2] w fun e w' => e = .returned (.bool true) ∧ Kept [] w w' :=
  (rsame_any ao1 len1 cap1 l ao2 len2 cap2 l w h1 h2).mono fun e w' ⟨h, k⟩ => ⟨by rw [h, decide_eq_true rfl], k⟩

set_option maxRecDepth 100000 in
set_option maxHeartbeats 4000000 in
theorem tprint_walk (t : List UInt8) (ao : Option Addr) (len cap : Nat) (l : List TRow) (w : World) (ht : t.length ≤ 9223372036854775807) (hl : RowsIs w ao len l) :
    Calls Tryd.prog 3 #[.string (strL t), .slice ao len cap] w fun e w' => e = .returned (.bool true) ∧ Kept [] w w' := by
  have HL := Lib.hid hl
  have hlen : len ≤ 140737488355328 := by have := hl.bytes; omega
  have HLL := Lib.hid hl.hlen
  clear hl
  go_enter Tryd.func3, Tryd.ntmps3
  go_wp2_with fail
  refine (shown5_any _).mono ?_
  rintro e w1 ⟨rfl, hk1⟩
  have HK1 := Lib.hid hk1
  clear hk1
  go_wp2_with fail
  refine (lent_any ao len cap l _ (HL.out.kept HK1.out)).mono ?_
  rintro e w2 ⟨v2, rfl, HV⟩
  obtain ⟨oao, ocap, hv2, -, -, -, hrows⟩ := HV.out.1.rows
  subst hv2
  rw [HLL.out] at hrows ⊢
  have HO := Lib.hid hrows
  have HK2 := Lib.hid (HK1.out.trans HV.out.2)
  clear hrows HV HK1
  go_wp2_with fail
  refine (print_any t oao len ocap l _ ht HO.out).mono ?_
  rintro e w3 ⟨v3, n, c, rfl, HP3⟩
  have HK3 := Lib.hid (HK2.out.trans HP3.out.2.2.2)
  go_wp2_with fail
  refine (rprint_any t ao len cap l _ (HL.out.kept HK3.out)).mono ?_
  rintro e w4 ⟨v4, n4, c4, rfl, HP4⟩
  have hnc := HP3.out.1.symm.trans HP4.out.1
  injection hnc with hn4 hc4
  subst hn4 hc4
  have HK4 := Lib.hid (HK3.out.trans HP4.out.2.2.2)
  have HO4 := Lib.hid ((HO.out.kept HP3.out.2.2.2).kept HP4.out.2.2.2)
  go_wp2_with fail
  refine (rsame_self oao len ocap l ao len cap _ HO4.out (HL.out.kept HK4.out)).mono ?_
  rintro e w5 ⟨rfl, hk5⟩
  have HK5 := Lib.hid (HK4.out.trans hk5)
  have HO5 := Lib.hid (HO4.out.kept hk5)
  have cv3 : (convert 25 9 v3).run Tryd.prog w5 = .ok (.string (strL c)) w5 := convL ((HP3.out.2.1.kept HP4.out.2.2.2).kept hk5)
  have cv4 : (convert 25 9 v4).run Tryd.prog w5 = .ok (.string (strL c)) w5 := convL (HP4.out.2.1.kept hk5)
  have HV5 := Lib.hid ((HP3.out.2.1.kept HP4.out.2.2.2).kept hk5)
  have HCP := Lib.hid HP3.out.2.2.1
  have HPE := Lib.hid HP3.out.1
  clear hk5 HP3 HP4 HK4 HO4 HK3 HK2 HO
  go_wp2_with fail
  refine (width_any t _ ht).mono ?_
  obtain ⟨m, hm⟩ : ∃ m, widthI t = m := ⟨_, rfl⟩
  have HM := Lib.hid hm
  rw [hm]
  clear hm
  rintro e w6 ⟨rfl, hk6⟩
  have HK6 := Lib.hid (HK5.out.trans hk6)
  have HO6 := Lib.hid (HO5.out.kept hk6)
  have HV6 := Lib.hid (HV5.out.kept hk6)
  clear hk6 cv3 cv4 HK5 HO5 HV5
  go_wp2_with fail
  refine (rwidth_any t _).mono ?_
  rw [HM.out]
  rintro e w7 ⟨rfl, rfl⟩
  go_wp2_with fail
  go_loopw [12] (fun i wr => ∃ k : Nat, k ≤ len ∧ i = .int .i64 k ∧ Hid (Kept [] w6 wr)) (fun i _ => len - (intOf i).toNat)
  case atStart => exact ⟨0, by omega, rfl, Kept.refl _ _⟩
  case round =>
    obtain ⟨k, hk, rfl, HW⟩ := hrel
    by_cases hlt : k < len
    · have hll : k < l.length := by rw [HLL.out]; exact hlt
      obtain ⟨b, o, rfl, hb, hc⟩ := (HO6.out.kept HW.out).cell (by omega)
      obtain ⟨b', o', rfl, hb', hc'⟩ := (HL.out.kept (HK6.out.trans HW.out)).cell (by omega)
      obtain ⟨cv, e0, e1, hcv⟩ := hc k hll
      obtain ⟨cv', e0', e1', hcv'⟩ := hc' k hll
      obtain ⟨x, hx⟩ : ∃ x, l[k] = x := ⟨_, rfl⟩
      have HXL : Hid (x.1.length ≤ 140737488355328) := by show _ ≤ _; rw [← hx]; exact HL.out.keys _ (List.getElem_mem hll)
      rw [hx] at e0 hcv e0' hcv'
      obtain ⟨xk, xc⟩ := x
      have HCV := Lib.hid hcv
      have HCV' := Lib.hid hcv'
      clear hx hc hc' hcv hcv'
      have ca : ∀ w', Kept [] wr.drew w' → w'.cell? ⟨b, o + k * 2, none⟩ = some (.string (strL xk)) := fun w' hk => by rw [((Kept.drew [] wr).trans hk).cell hb (by simp)]; exact e0
      have cb : ∀ w', Kept [] wr.drew w' → w'.cell? ⟨b, o + k * 2 + 1, none⟩ = some cv := fun w' hk => by rw [((Kept.drew [] wr).trans hk).cell hb (by simp)]; exact e1
      have cc : ∀ w', Kept [] wr.drew w' → w'.cell? ⟨b', o' + k * 2, none⟩ = some (.string (strL xk)) := fun w' hk => by rw [((Kept.drew [] wr).trans hk).cell hb' (by simp)]; exact e0'
      have cd : ∀ w', Kept [] wr.drew w' → w'.cell? ⟨b', o' + k * 2 + 1, none⟩ = some cv' := fun w' hk => by rw [((Kept.drew [] wr).trans hk).cell hb' (by simp)]; exact e1'
      clear e0 e1 e0' e1'
      obtain ⟨ck, hck⟩ : ∃ ck, checkI t (xk, xc) = ck := ⟨_, rfl⟩
      have HCK := Lib.hid hck
      clear hck
      go_wp2_with fail
      refine wp_region_ord [(true, 0), (true, 1), (true, 2), (true, 3), (true, 4), (true, 6), (true, 7), (true, 8), (true, 9), (true, 10), (false, 5), (false, 11), (true, 12)] [] (by kernel_rfl) (fun _ _ d _ _ h => by cases d <;> exact h) (by kernel_rfl) rfl (by kernel_rfl) (by kernel_rfl) ?_
      simp only [named, List.getD_cons_zero, List.getD_cons_succ]
      repeat (first | (apply wpGrow_take; (case hw => rfl); (case hv => intro w' hk; go_simp; with_reducible rfl); simp only [Act.put, List.setIfInBounds_toArray, List.set_cons_zero, List.set_cons_succ]) | (refine wpGrow_pass (by rfl) ?_; simp only [Act.put, List.setIfInBounds_toArray, List.set_cons_zero, List.set_cons_succ]) | (refine wpGrow_skip (by rfl) ?_; simp only [Act.put, List.setIfInBounds_toArray, List.set_cons_zero, List.set_cons_succ]))
      refine wpGrow_force (by rfl) (fun K hK => ?_)
      go_simp
      refine (check_any t xk cv xc _ ht HXL.out (HCV.out.kept (Kept.drew _ _))).mono ?_
      rw [HCK.out]
      rintro e w8 ⟨rfl, hk8⟩
      refine hK _ _ hk8 ?_
      clear hK K
      have HK8 := Lib.hid hk8
      clear hk8
      repeat (first | (apply wpGrow_take; (case hw => rfl); (case hv => intro w' hk; go_simp; with_reducible rfl); simp only [Act.put, List.setIfInBounds_toArray, List.set_cons_zero, List.set_cons_succ]) | (refine wpGrow_pass (by rfl) ?_; simp only [Act.put, List.setIfInBounds_toArray, List.set_cons_zero, List.set_cons_succ]) | (refine wpGrow_skip (by rfl) ?_; simp only [Act.put, List.setIfInBounds_toArray, List.set_cons_zero, List.set_cons_succ]))
      refine wpGrow_force (by rfl) (fun K hK => ?_)
      go_simp
      refine (rcheck_any t xk cv' xc _ HXL.out ((HCV'.out.kept (Kept.drew _ _)).kept HK8.out)).mono ?_
      rw [HCK.out]
      rintro e w9 ⟨rfl, hk9⟩
      refine hK _ _ hk9 ?_
      clear hK K
      have HK9 := Lib.hid hk9
      clear hk9 ca cb cc cd
      repeat (first | (apply wpGrow_take; (case hw => rfl); (case hv => intro w' hk; go_simp; with_reducible rfl); simp only [Act.put, List.setIfInBounds_toArray, List.set_cons_zero, List.set_cons_succ]) | (refine wpGrow_pass (by rfl) ?_; simp only [Act.put, List.setIfInBounds_toArray, List.set_cons_zero, List.set_cons_succ]) | (refine wpGrow_skip (by rfl) ?_; simp only [Act.put, List.setIfInBounds_toArray, List.set_cons_zero, List.set_cons_succ]))
      refine wpGrow_nil ?_
      go_wp2_with fail
      go_roundw
      case rel => exact ⟨k + 1, by omega, by go_num, ((HW.out.trans (Kept.drew _ _)).trans HK8.out).trans HK9.out⟩
      case measure => simp [intOf]; omega
    · have HKW := Lib.hid (HK6.out.trans HW.out)
      by_cases e2 : n = 0
      · have q2 : (n != 0) = false := by simpa using e2
        have q2' : (n == 0) = true := by simpa using e2
        have HPP : Hid (parseE t c = (0, l)) := parse_print (by rw [HPE.out, e2])
        clear e2
        obtain ⟨pao, pcap, hv, hpb⟩ := (HV6.out.kept HW.out).argB HCP.out (by have := printE_len HPE.out; omega)
        subst hv
        have HPB := Lib.hid hpb
        clear hpb
        go_wp2_with fail
        refine (parse_any t pao c.length pcap c _ ht HPB.out).mono ?_
        rintro e w8 ⟨xao, xlen, xcap, xn, xl, rfl, HX⟩
        have hx := HX.out.1
        rw [HPP.out] at hx
        injection hx with hx1 hx2
        subst hx1 hx2
        have hxl : xlen = len := by rw [← HX.out.2.1.hlen, HLL.out]
        subst hxl
        go_wp2_with fail
        refine (rsame_self xao xlen xcap l ao xlen cap _ HX.out.2.1 (HL.out.kept (HKW.out.trans HX.out.2.2.2))).mono ?_
        rintro e w9 ⟨rfl, hk9⟩
        have HK9 := Lib.hid ((HKW.out.trans HX.out.2.2.2).trans hk9)
        clear hk9
        go_wp2_with fail
        go_ret
        exact ⟨rfl, HK9.out⟩
      · have q2 : (n != 0) = true := by simpa using e2
        have q2' : (n == 0) = false := by simpa using e2
        clear e2
        go_wp2_with fail
        go_ret
        exact ⟨rfl, HKW.out⟩
end Go.Proofs.YtdaofgmdledcbaaDoor

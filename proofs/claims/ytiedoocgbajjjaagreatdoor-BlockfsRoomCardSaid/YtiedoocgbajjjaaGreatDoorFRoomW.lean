/-
  Layer 4: the walk of BlockfsRoom.
  Conditions: those that each theorem states.
-/
import Derived.Test.YtiedoocgbajjjaaGreatDoorFRoomP
import Derived.Test.YtiedoocgbajjjaaGreatDoorFPut4
import Derived.Deep.DeepCutAuto
namespace Go.Proofs.YtiedoocgbajjjaaGreatDoor
open Go.RowKit Go.Maps
set_option maxRecDepth 100000

theorem costI_bd8 (k s : Int) : 0 ≤ costI k s ∧ costI k s ≤ 39 := by
  have := dataI_bd k s
  unfold costI
  split <;> omega
theorem stat_root {T : PTr} (h : T.rc.kind = 2) : statV (atP T [47]).2 = .agg #[.int .i64 T.rc.kind, .int .i64 T.rc.mode, .int .i64 (T.ks.len : Int)] ∧ (atP T [47]).1 = 0 := by
  have e : atP T [47] = (0, some T) := by unfold atP; rw [show pathO [47] = some [] from by decide]; rfl
  rw [e]
  refine ⟨?_, rfl⟩
  obtain ⟨r, k⟩ := T
  have hk : r.kind = 2 := h
  simp [statV, PTr.rc, PTr.sizeP, PTr.ks, hk]

set_option maxRecDepth 100000 in
set_option maxHeartbeats 16000000 in
theorem room_walk (ao : Option Addr) (len cap : Nat) (H : List EdH) (P : List EdP) (y : Int) (w : World) (hA : EdsIn w ao len cap H P) (hy : -9223372036854775808 ≤ y ∧ y ≤ 9223372036854775807) :
    Calls Tryz.prog 6 #[.slice ao len cap, .int .i64 y] w fun e w' => e = .returned (.bool true) ∧ Kept [] w w' := by
  have HA := Lib.hid hA
  have HY := Lib.hid hy
  have hcap := hA.caps
  clear hA hy
  go_enter Tryz.func6, Tryz.ntmps6
  go_wp2_with fail
  refine (shown4_any w).mono ?_
  rintro e w1 ⟨rfl, hk1⟩
  have HG := Lib.hid (ground_grd w w1 hk1 512 1 ⟨by omega, by omega, by omega⟩ rfl)
  clear hk1
  go_wp2_with fail
  refine HG.out.mono ?_
  rintro e w2 ⟨f, d, j, m, rfl, H2⟩
  clear HG
  obtain ⟨N, hN⟩ : ∃ N, min len 40 = N := ⟨_, rfl⟩
  have hN1 : N ≤ len := by omega
  have hN2 : N ≤ 40 := by omega
  have HN := Lib.hid hN
  clear hN
  go_wp2_with fail
  go_loopw [8] (fun i wr => ∃ k : Nat, k ≤ N ∧ i = .int .i64 k ∧ Hid (∃ T, Grd w f d j m 512 1 k T wr)) (fun i _ => N - (intOf i).toNat)
  case atStart => exact ⟨0, by omega, rfl, ⟨_, H2.out.1⟩⟩
  case round =>
    obtain ⟨k, hk, rfl, HR⟩ := hrel
    go_upto_region 6 with (fail)
    go_cut [38] (fun sv wx => sv = .bool (decide (k < N)) ∧ Hid (wr = wx))
    case first =>
      have hNo := HN.out
      by_cases h1 : (k : Int) < (len : Int)
      · by_cases h2 : (k : Int) < 40
        · have h3 : decide (k < N) = true := by simp; omega
          clear hNo
          go_wp2_with fail
          go_meet
          exact ⟨by rw [h3], rfl⟩
        · have h3 : decide (k < N) = false := by simp; omega
          clear hNo
          go_wp2_with fail
          go_meet
          exact ⟨by rw [h3], rfl⟩
      · have h3 : decide (k < N) = false := by simp; omega
        clear hNo
        go_wp2_with fail
        go_meet
        exact ⟨by rw [h3], rfl⟩
    obtain ⟨rfl, hwr⟩ := hcut
    have hwr' := hwr.out
    subst hwr'
    clear hwr
    by_cases hlt : k < N
    · rw [decide_eq_true hlt]
      obtain ⟨T, hT⟩ := HR.out
      have hkl : k < len := by omega
      have hkc : k + 1 ≤ cap := by omega
      obtain ⟨b, o, rfl, HD⟩ := hT.one (by omega) HA.out hkl (by rw [HA.out.len.2]; exact hkl) (cap - k)
      have HD := Lib.hid HD
      clear hT
      go_wp2_with fail
      refine HD.out.mono ?_
      rintro e w3 ⟨rfl, H3⟩
      have HK : Hid (∃ T, Grd w f d j m 512 1 (k + 1) T w3) := ⟨_, H3.out.1⟩
      clear HD H3
      go_wp2_with fail
      go_roundw
      case rel => exact ⟨k + 1, by omega, by go_num, HK⟩
      case measure => simp [intOf]; omega
    · rw [decide_eq_false hlt]
      obtain ⟨T, hT⟩ := HR.out
      have HT : Hid (Grd w f d j m 512 1 40 T wr) := hT.up (by omega)
      obtain ⟨g, hg, hfs⟩ := hT.fs
      have HAU := Lib.hid (fsat_audit f d j m 512 1 g _ zeroL [] T wr hfs)
      have HLE := Lib.hid (fun w' (hk : Kept [] wr w') => fsat_len f d j m 512 1 g _ zeroL [] T w' (hfs.kept hk))
      have HOF := Lib.hid (fun w' => rof_yes ((512 : Nat) : Int) w' (by omega) (by omega))
      rw [layV_q (q := 1) rfl] at HOF
      unfold layW at HOF
      clear HR hN1 hN2 HN hk hT hlt hfs hg hcap
      go_wp2_with fail
      refine HAU.out.mono ?_
      rintro e w3 ⟨v2, v3, v4, F, rfl, H3⟩
      clear HAU
      obtain ⟨hA3, hfree, hD⟩ := H3.out
      have hul := used_loose (233 + 1) F 512
      obtain ⟨lu, hlu⟩ : ∃ lu, (usedL (233 + 1) F 512).length = lu := ⟨_, rfl⟩
      obtain ⟨lf, hlf⟩ : ∃ lf, (looseL (233 + 1) F 512).length = lf := ⟨_, rfl⟩
      obtain ⟨a3, c3, e3⟩ := hA3.a3.val (by omega)
      obtain ⟨a4, c4, e4⟩ := hA3.a4.val (by omega)
      subst e3 e4
      rw [hlu, hlf] at hul ⊢
      rw [hlf] at hfree
      have HK3 : Hid (Kept [] wr w3) := hA3.kept
      have HFE : Hid ((lf : Int) = ((512 : Nat) : Int) - ((233 + 1 : Nat) : Int) - T.costP) := hfree
      have hsum : (lu : Int) + (lf : Int) = 278 := by omega
      clear hA3 hlu hlf hfree hD hul H3
      go_wp2_with fail
      refine (HLE.out w3 HK3.out).mono ?_
      rintro e w4 ⟨rfl, rfl⟩
      go_wp2_with fail
      refine (HOF.out w3).mono ?_
      rintro e w4 ⟨rfl, hk4⟩
      go_wp2_with fail
      obtain ⟨x, hx⟩ : ∃ x, w4.heap.size = x := ⟨_, rfl⟩
      generalize hw5 : World.alloc w4 _ = w5
      have hk5 : Kept [] w4 w5 := by rw [← hw5]; exact Kept.alloc _ _ _
      have hr5 : w5.cell? ⟨x, 6, none⟩ = some (.int .i64 234) := by rw [← hw5, ← hx]; exact cell_of_row _ _ 6 _ _ _ (heap_alloc_last _ _)
      have hxl : x < w5.heap.size := World.block_lt_of_cell? w5 _ hr5
      have HK5 : Hid (Kept [] wr w5) := HK3.out.trans (hk4.trans hk5)
      have HX : Hid (x < w5.heap.size ∧ w5.cell? ⟨x, 6, none⟩ = some (.int .i64 234)) := ⟨hxl, hr5⟩
      rw [hx]
      have z6 : ∀ w', Kept [] w5.drew w' → w'.cell? ⟨x, 6, none⟩ = some (.int .i64 234) := fun w' hk => (((Kept.drew _ _).trans hk).cell (p := ⟨x, 6, none⟩) HX.out.1 (by simp)).trans HX.out.2
      have hsw : IntKind.i64.wrap ((lu : Int) + (lf : Int)) = 278 := by rw [hsum]; rfl
      clear hx hw5 hk4 hk5 hr5 hxl hsum
      go_wp2_with fail
      refine wp_region_ord [(true, 0), (true, 1), (true, 2), (true, 3), (true, 4), (true, 5), (true, 6), (true, 7), (true, 8), (true, 10), (true, 11), (false, 9), (true, 12), (true, 13), (true, 14), (true, 15), (true, 16), (true, 17), (true, 18), (false, 19), (true, 20), (true, 21)] [] (by kernel_rfl) (fun _ _ d _ _ h => by cases d <;> exact h) (by kernel_rfl) rfl (by kernel_rfl) (by kernel_rfl) ?_
      simp only [named, List.getD_cons_zero, List.getD_cons_succ]
      repeat (first | (apply wpGrow_take; (case hw => rfl); (case hv => intro w' hk; go_simp; with_reducible rfl); simp only [Act.put, List.setIfInBounds_toArray, List.set_cons_zero, List.set_cons_succ]) | (refine wpGrow_pass (by rfl) ?_; simp only [Act.put, List.setIfInBounds_toArray, List.set_cons_zero, List.set_cons_succ]) | (refine wpGrow_skip (by rfl) ?_; simp only [Act.put, List.setIfInBounds_toArray, List.set_cons_zero, List.set_cons_succ]))
      clear z6
      refine wpGrow_force (by rfl) (fun K hK => ?_)
      go_simp
      refine (HLE.out _ (HK5.out.trans (Kept.drew _ _))).mono ?_
      rintro e w6 ⟨rfl, rfl⟩
      refine hK _ _ (Kept.refl _ _) ?_
      clear hK K
      have hsw2 : IntKind.i64.wrap ((512 : Int) - 234) = 278 := rfl
      repeat (first | (apply wpGrow_take; (case hw => rfl); (case hv => intro w' hk; go_simp; with_reducible rfl); simp only [Act.put, List.setIfInBounds_toArray, List.set_cons_zero, List.set_cons_succ]) | (refine wpGrow_pass (by rfl) ?_; simp only [Act.put, List.setIfInBounds_toArray, List.set_cons_zero, List.set_cons_succ]) | (refine wpGrow_skip (by rfl) ?_; simp only [Act.put, List.setIfInBounds_toArray, List.set_cons_zero, List.set_cons_succ]))
      refine wpGrow_force (by rfl) (fun K hK => ?_)
      go_simp
      have HFR := Lib.hid ((HT.out.go (HK5.out.trans (Kept.drew _ _))).free)
      rw [← HFE.out] at HFR
      refine HFR.out.mono ?_
      rintro e w7 ⟨rfl, H7⟩
      refine hK _ _ H7.out.2 ?_
      clear hK K HFR
      repeat (first | (apply wpGrow_take; (case hw => rfl); (case hv => intro w' hk; go_simp; with_reducible rfl); simp only [Act.put, List.setIfInBounds_toArray, List.set_cons_zero, List.set_cons_succ]) | (refine wpGrow_pass (by rfl) ?_; simp only [Act.put, List.setIfInBounds_toArray, List.set_cons_zero, List.set_cons_succ]) | (refine wpGrow_skip (by rfl) ?_; simp only [Act.put, List.setIfInBounds_toArray, List.set_cons_zero, List.set_cons_succ]))
      refine wpGrow_nil ?_
      have HG7 : Hid (Grd w f d j m 512 1 40 T w7) := H7.out.1
      have HLF : Hid ((lf : Int) = ((512 : Nat) : Int) - ((233 + 1 : Nat) : Int) - T.costP) := HFE.out
      clear H7 HFE HX HK5 HK3 HLE HOF hsw hsw2
      go_wp2_with fail
      have HDO := Lib.hid (HG7.out.lit (by omega) 5 0 zzP [] none 0 0 (argB_nil w7) (by decide))
      obtain ⟨c, U, hdz, hgz, hcz⟩ := drop_zz HG7.out.fits
      rw [hdz] at HDO
      refine HDO.out.mono ?_
      rintro e w8 ⟨rfl, H8⟩
      have HG8 : Hid (Grd w f d j m 512 1 41 U w8) := H8.out.1
      have HGZ : Hid (U.ks.get zzN = none) := hgz
      have hUk : U.rc.kind = 2 := HG8.out.fits.kind
      clear HDO hdz hgz hcz H8
      have HST := Lib.hid (HG8.out.stat [47] (by decide))
      rw [(stat_root hUk).1, (stat_root hUk).2] at HST
      obtain ⟨ck, hck⟩ : ∃ ck : Int, U.rc.kind = ck := ⟨_, rfl⟩
      obtain ⟨cm, hcm⟩ : ∃ cm : Int, U.rc.mode = cm := ⟨_, rfl⟩
      obtain ⟨z, hz⟩ : ∃ z : Nat, U.ks.len = z := ⟨_, rfl⟩
      rw [hck, hcm, hz] at HST
      have HZ := Lib.hid hz
      clear hck hcm hUk hz
      go_wp2_with fail
      refine HST.out.mono ?_
      rintro e w9 ⟨rfl, H9⟩
      clear HST
      obtain ⟨x9, hx9⟩ : ∃ x, w9.heap.size = x := ⟨_, rfl⟩
      obtain ⟨wa, hwa⟩ : ∃ w', w9.alloc (.cells #[.int .i64 ck, .int .i64 cm, .int .i64 (z : Int)] 48) = w' := ⟨_, rfl⟩
      have hka : Kept [] w9 wa := by rw [← hwa]; exact Kept.alloc _ _ _
      have hra : wa.heap[x9]? = some (.cells #[.int .i64 ck, .int .i64 cm, .int .i64 (z : Int)] 48) := by rw [← hwa, ← hx9]; exact heap_alloc_last _ _
      have ca : wa.cell? ⟨x9, 2, none⟩ = some (.int .i64 (z : Int)) := cell_of_row _ _ 2 _ _ _ hra
      have HGA : Hid (Grd w f d j m 512 1 41 U wa) := H9.out.1.go hka
      have HRA : Hid (wa.heap[x9]? = some (.cells #[.int .i64 ck, .int .i64 cm, .int .i64 (z : Int)] 48)) := hra
      clear hka hra H9
      by_cases h16 : 16 ≤ z
      · have q1 : (16 : Int) ≤ (z : Int) := by omega
        have q2 : decide ((16 : Int) ≤ (z : Int)) = true := decide_eq_true q1
        clear h16
        go_wp2_with fail
        go_ret
        exact ⟨rfl, HGA.out.kept⟩
      have q1 : ¬ (16 : Int) ≤ (z : Int) := by omega
      have q2 : decide ((16 : Int) ≤ (z : Int)) = false := decide_eq_false q1
      have HCT := Lib.hid HGA.out.count
      obtain ⟨nc, hnc⟩ : ∃ nc, U.recs.length = nc := ⟨_, rfl⟩
      rw [hnc] at HCT
      have HNC := Lib.hid hnc
      clear hnc
      go_wp2_with fail
      refine HCT.out.mono ?_
      rintro e wb ⟨rfl, HB⟩
      clear HCT hwa hx9 ca
      by_cases h64 : 64 ≤ nc
      · have q3 : (64 : Int) ≤ (nc : Int) := by omega
        have q4 : decide ((64 : Int) ≤ (nc : Int)) = true := decide_eq_true q3
        clear h64
        go_wp2_with fail
        go_ret
        exact ⟨rfl, HB.out.1.kept⟩
      have q3 : ¬ (64 : Int) ≤ (nc : Int) := by omega
      have q4 : decide ((64 : Int) ≤ (nc : Int)) = false := decide_eq_false q3
      have HAM := Lib.hid (among4_any y 2433 wb HY.out ⟨by omega, by omega⟩)
      have hrg := amongN_rng y 2433 (by omega)
      obtain ⟨r, hr⟩ : ∃ r : Nat, amongN y 2433 = r := ⟨(amongN y 2433).toNat, by omega⟩
      rw [hr] at HAM hrg
      have HRR : Hid (r ≤ 2432) := by show _ ≤ _; omega
      have HZ2 : Hid (z < 16 ∧ nc < 64) := ⟨by omega, by omega⟩
      clear hr hrg h16 h64
      go_wp2_with fail
      refine HAM.out.mono ?_
      rintro e wb' ⟨rfl, rfl⟩
      clear HAM q1 q2 q3 q4
      have hrb := HB.out.2.heap (by simp) HRA.out
      have HRB := Lib.hid hrb
      have hz16 : z < 16 := HZ2.out.1
      have b1 := costI_bd8 1 r
      have b2 := costI_bd8 2 ((z : Int) + 1)
      have b3 := costI_bd8 2 z
      obtain ⟨c1, hc1⟩ : ∃ c, costI 1 (r : Int) = c := ⟨_, rfl⟩
      obtain ⟨c2, hc2⟩ : ∃ c, costI 2 ((z : Int) + 1) = c := ⟨_, rfl⟩
      obtain ⟨c3', hc3⟩ : ∃ c, costI 2 (z : Int) = c := ⟨_, rfl⟩
      rw [hc1] at b1
      rw [hc2] at b2
      rw [hc3] at b3
      have N1 : ∀ w', Calls Tryz.prog 27 #[.int .i64 1, .int .i64 (r : Int)] w' fun e w2 => e = .returned (.int .i64 c1) ∧ w' = w2 := fun w' => by rw [← hc1]; exact rcost_any 1 r w'
      have N2 : ∀ w', Calls Tryz.prog 27 #[.int .i64 2, .int .i64 ((z : Int) + 1)] w' fun e w2 => e = .returned (.int .i64 c2) ∧ w' = w2 := fun w' => by rw [← hc2]; exact rcost_any 2 _ w'
      have N3 : ∀ w', Calls Tryz.prog 27 #[.int .i64 2, .int .i64 (z : Int)] w' fun e w2 => e = .returned (.int .i64 c3') ∧ w' = w2 := fun w' => by rw [← hc3]; exact rcost_any 2 _ w'
      have HC := Lib.hid (And.intro hc1 (And.intro hc2 hc3))
      have z9 : ∀ w', Kept [] wb.drew w' → w'.cell? ⟨x9, 2, none⟩ = some (.int .i64 (z : Int)) := fun w' hk => cell_of_row _ _ 2 _ _ _ (((Kept.drew _ _).trans hk).heap (by simp) HRB.out)
      have hs1 : IntKind.i64.wrap ((z : Int) + 1) = (z : Int) + 1 := by rw [IntKind.wrap_i64]; omega
      have hs2 : IntKind.i64.wrap (c1 + c2) = c1 + c2 := by rw [IntKind.wrap_i64]; omega
      have hs3 : IntKind.i64.wrap (c1 + c2 - c3') = c1 + c2 - c3' := by rw [IntKind.wrap_i64]; omega
      have HSS := Lib.hid (And.intro hs1 (And.intro hs2 hs3))
      have HNN := Lib.hid (And.intro N1 (And.intro N2 N3))
      clear hrb hc1 hc2 hc3 N1 N2 N3 hs1 hs2 hs3
      go_wp2_with fail
      refine wp_region_ord [(true, 0), (true, 2), (true, 3), (true, 4), (true, 7), (true, 8), (false, 1), (false, 5), (true, 6), (false, 9), (true, 10), (true, 11)] [] (by kernel_rfl) (fun _ _ d _ _ h => by cases d <;> exact h) (by kernel_rfl) rfl (by kernel_rfl) (by kernel_rfl) ?_
      simp only [named, List.getD_cons_zero, List.getD_cons_succ]
      repeat (first | (apply wpGrow_take; (case hw => rfl); (case hv => intro w' hk; go_simp; with_reducible rfl); simp only [Act.put, List.setIfInBounds_toArray, List.set_cons_zero, List.set_cons_succ]) | (refine wpGrow_pass (by rfl) ?_; simp only [Act.put, List.setIfInBounds_toArray, List.set_cons_zero, List.set_cons_succ]) | (refine wpGrow_skip (by rfl) ?_; simp only [Act.put, List.setIfInBounds_toArray, List.set_cons_zero, List.set_cons_succ]))
      clear z9
      refine wpGrow_force (by rfl) (fun K hK => ?_)
      go_simp
      refine (HNN.out.1 _).mono ?_
      rintro e w' ⟨rfl, rfl⟩
      refine hK _ _ (Kept.refl _ _) ?_
      clear hK K
      repeat (first | (apply wpGrow_take; (case hw => rfl); (case hv => intro w' hk; go_simp; with_reducible rfl); simp only [Act.put, List.setIfInBounds_toArray, List.set_cons_zero, List.set_cons_succ]) | (refine wpGrow_pass (by rfl) ?_; simp only [Act.put, List.setIfInBounds_toArray, List.set_cons_zero, List.set_cons_succ]) | (refine wpGrow_skip (by rfl) ?_; simp only [Act.put, List.setIfInBounds_toArray, List.set_cons_zero, List.set_cons_succ]))
      refine wpGrow_force (by rfl) (fun K hK => ?_)
      go_simp
      try rw [HSS.out.1]
      refine (HNN.out.2.1 _).mono ?_
      rintro e w' ⟨rfl, rfl⟩
      refine hK _ _ (Kept.refl _ _) ?_
      clear hK K
      repeat (first | (apply wpGrow_take; (case hw => rfl); (case hv => intro w' hk; go_simp; with_reducible rfl); simp only [Act.put, List.setIfInBounds_toArray, List.set_cons_zero, List.set_cons_succ]) | (refine wpGrow_pass (by rfl) ?_; simp only [Act.put, List.setIfInBounds_toArray, List.set_cons_zero, List.set_cons_succ]) | (refine wpGrow_skip (by rfl) ?_; simp only [Act.put, List.setIfInBounds_toArray, List.set_cons_zero, List.set_cons_succ]))
      refine wpGrow_force (by rfl) (fun K hK => ?_)
      go_simp
      refine (HNN.out.2.2 _).mono ?_
      rintro e w' ⟨rfl, rfl⟩
      refine hK _ _ (Kept.refl _ _) ?_
      clear hK K
      repeat (first | (apply wpGrow_take; (case hw => rfl); (case hv => intro w' hk; go_simp; with_reducible rfl); simp only [Act.put, List.setIfInBounds_toArray, List.set_cons_zero, List.set_cons_succ]) | (refine wpGrow_pass (by rfl) ?_; simp only [Act.put, List.setIfInBounds_toArray, List.set_cons_zero, List.set_cons_succ]) | (refine wpGrow_skip (by rfl) ?_; simp only [Act.put, List.setIfInBounds_toArray, List.set_cons_zero, List.set_cons_succ]))
      refine wpGrow_nil ?_
      try rw [HSS.out.2.1]
      try rw [HSS.out.2.2]
      obtain ⟨wd, hwd⟩ : ∃ wd, wb.drew = wd := ⟨_, rfl⟩
      have HGD : Hid (Grd w f d j m 512 1 41 U wd) := by rw [← hwd]; exact HB.out.1.go (Kept.drew _ _)
      rw [hwd]
      obtain ⟨nd, hnd⟩ : ∃ nd, c1 + c2 - c3' = nd := ⟨_, rfl⟩
      rw [hnd]
      have HND := Lib.hid hnd
      have hndb : -39 ≤ nd ∧ nd ≤ 78 := by omega
      have HF1 := Lib.hid HGD.out.free
      obtain ⟨wz, hwz⟩ : ∃ v : Int, ((512 : Nat) : Int) - ((233 + 1 : Nat) : Int) - U.costP = v := ⟨_, rfl⟩
      rw [hwz] at HF1
      have HWZ := Lib.hid hwz
      have hwzb : 0 ≤ wz ∧ wz ≤ 278 := by
        have h1 := HGD.out.fits.cost
        have h2 := PTr.cost0 U
        omega
      clear hwd hnd hwz HB HSS HNN b1 b2 b3 HRB
      go_wp2_with fail
      refine HF1.out.mono ?_
      rintro e we ⟨rfl, HE⟩
      clear HF1
      have hmk : ∀ w, (Instr.makeSlice 22 (.int .i64 r) (.int .i64 r)).run Tryz.prog w = .ok (.slice (some ⟨w.heap.size, 0, none⟩) r r) (w.alloc (.cells (bvA (zerosL r)) 5)) := fun w => by
        have := run_make_bytes (P := Tryz.prog) w 22 5 Tryz.underlying22 infoByte (r : Int) (by omega) (by have := HRR.out; omega)
        simpa using this
      obtain ⟨L, hL⟩ : ∃ L, zerosL r = L := ⟨_, rfl⟩
      have hLl : L.length = r := by rw [← hL]; simp [zerosL]
      rw [hL] at hmk
      obtain ⟨g1, hg1⟩ : ∃ g1, we.heap.size = g1 := ⟨_, rfl⟩
      obtain ⟨wf, hwf⟩ : ∃ wf, we.alloc (.cells (bvA L) 5) = wf := ⟨_, rfl⟩
      have hkf : Kept [] we wf := by rw [← hwf]; exact Kept.alloc _ _ _
      have hrf : wf.heap[g1]? = some (.cells (bvA L) 5) := by rw [← hwf, ← hg1]; exact heap_alloc_last _ _
      have hab := argB_new hrf (by rw [hLl]; have := HRR.out; omega)
      rw [hLl] at hab
      have HDO := Lib.hid ((HE.out.1.go hkf).lit (by omega) 1 1 zzP L _ _ _ hab (by decide))
      obtain ⟨hy1, hy2⟩ := lay_zz (N := 512) (q := 1) HE.out.1.fits HGZ.out (by rw [HZ.out]; exact HZ2.out.1) (by rw [HNC.out]; exact HZ2.out.2) L (by rw [hLl]; exact HRR.out)
      rw [hLl, HZ.out, HC.out.1, HC.out.2.1, HC.out.2.2, HND.out] at hy1 hy2
      obtain ⟨V, hV⟩ : ∃ V, (doP 512 1 U [⟨1, 1, zzP, L⟩]).2 = V := ⟨_, rfl⟩
      rw [hV] at HDO hy2
      rw [hy1] at HDO
      have HY2 := Lib.hid hy2
      clear hL hkf hrf hab hy1 hy2 hV
      by_cases hbig : wz < nd
      · have hif : ((512 : Nat) : Int) - ((233 + 1 : Nat) : Int) < U.costP + nd := by have := HWZ.out; omega
        rw [if_pos hif] at HDO HY2
        clear hif
        go_wp2_with fail
        clear hmk hwf hg1
        refine HDO.out.mono ?_
        rintro e wg ⟨rfl, HGG⟩
        have HF2 := Lib.hid HGG.out.1.free
        rw [HY2.out, HWZ.out] at HF2
        clear HDO
        go_wp2_with fail
        refine HF2.out.mono ?_
        rintro e wh ⟨rfl, HH⟩
        clear HF2
        go_wp2_with fail
        go_ret
        exact ⟨rfl, HH.out.1.kept⟩
      · have hif : ¬ ((512 : Nat) : Int) - ((233 + 1 : Nat) : Int) < U.costP + nd := by have := HWZ.out; omega
        rw [if_neg hif] at HDO HY2
        clear hif
        have hw2 : ((512 : Nat) : Int) - ((233 + 1 : Nat) : Int) - (U.costP + nd) = wz - nd := by have := HWZ.out; omega
        go_wp2_with fail
        clear hmk hwf hg1
        refine HDO.out.mono ?_
        rintro e wg ⟨rfl, HGG⟩
        have HF2 := Lib.hid HGG.out.1.free
        rw [HY2.out, hw2] at HF2
        clear HDO hw2
        go_wp2_with fail
        refine HF2.out.mono ?_
        rintro e wh ⟨rfl, HH⟩
        clear HF2
        go_wp2_with fail
        go_ret
        exact ⟨rfl, HH.out.1.kept⟩
end Go.Proofs.YtiedoocgbajjjaaGreatDoor

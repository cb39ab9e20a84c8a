/-
  Layer 4: the walk of BlockfsOrder.
  Conditions: those that each theorem states.
-/
import Derived.Test.YtiedoocgbajjjaaGreatDoorFOrdS
namespace Go.Proofs.YtiedoocgbajjjaaGreatDoor
open Go.RowKit Go.Maps
set_option maxRecDepth 100000

theorem or_step (k i : Nat) (p : Nat → Bool) : ((decide (i < k) && p i) || (p k && i == k)) = (decide (i < k + 1) && p i) := by
  by_cases h : i < k
  · have h1 : i < k + 1 := by omega
    have h2 : (i == k) = false := by simp; omega
    simp [h, h1, h2]
  · by_cases e : i = k
    · subst e
      simp
    · have h1 : ¬ i < k + 1 := by omega
      have h2 : (i == k) = false := by simp; omega
      simp [h, h1, h2]
set_option maxRecDepth 100000 in
set_option maxHeartbeats 16000000 in
theorem order_walk (fo : Option Addr) (fl fc : Nat) (F : List BRow) (oo : Option Addr) (ol oc : Nat) (O : List Int) (w : World) (hF : RowsIn w fo fl F) (hO : NumsIn w oo ol O) :
    Calls Tryz.prog 7 #[.slice fo fl fc, .slice oo ol oc] w fun e w' => e = .returned (.bool true) ∧ Kept [] w w' := by
  have HF := Lib.hid hF
  have HO := Lib.hid hO
  clear hF hO
  go_enter Tryz.func7, Tryz.ntmps7
  go_wp2_with fail
  refine (shown4_any w).mono ?_
  rintro e w1 ⟨rfl, hk1⟩
  have HK1 := Lib.hid hk1
  have HG := Lib.hid (ground4_any 900 2 w1 ⟨by omega, by omega, by omega⟩ rfl)
  clear hk1
  go_wp2_with fail
  refine HG.out.mono ?_
  rintro e w2 ⟨f, d, j, m, rfl, H2⟩
  clear HG
  have HG2 := Lib.hid (ground4_ex 900 2 w2 ⟨by omega, by omega, by omega⟩ rfl [f, d, m, j] (fun b hb => (H2.out.1.lt b hb).1))
  go_wp2_with fail
  refine HG2.out.mono ?_
  rintro e w3 ⟨f2, d2, j2, m2, rfl, H3⟩
  clear HG2
  obtain ⟨M, hM⟩ : ∃ M, min fl 12 = M := ⟨_, rfl⟩
  have hM1 : M ≤ fl := by omega
  have hM2 : M ≤ 12 := by omega
  have hMI : min (fl : Int) 12 = (M : Int) := by omega
  have HB3 : Hid (OrSt w f d j m f2 d2 j2 m2 0 0 F (fun S => ∀ i < 12, S i = (decide (i < 0) && okF F i)) (fun T => ∀ i < 12, T i = true → i < M ∧ okF F i = true) w3) := by
    have hlow : ∀ b ∈ [f, d, m, j], w.heap.size ≤ b := fun b hb => Nat.le_trans HK1.out.size (H2.out.2.2 b hb)
    have hlow2 : ∀ b ∈ [f2, d2, m2, j2], w.heap.size ≤ b := fun b hb => Nat.le_trans (Nat.le_trans HK1.out.size H2.out.2.1.size) (H3.out.2.2 b hb)
    have hk := (HK1.out.trans H2.out.2.1).trans H3.out.2.1
    refine ⟨rootP, rootP, _, _, ⟨⟨⟨0, Nat.le_refl _, H2.out.1.ex H3.out.2.1 (fun b hb => ⟨H3.out.2.2 b hb, ?_⟩)⟩, hk, hlow⟩, ⟨⟨0, Nat.le_refl _, H3.out.1⟩, hk, hlow2⟩, fun b hb hb2 => ?_⟩, frow_rootP _, frow_rootP _, ?_, ?_⟩
    · exact (H3.out.1.lt b hb).1
    · have := (H2.out.1.lt b hb).1
      have := H3.out.2.2 b hb2
      omega
    · intro i _; simp
    · intro i _ h; cases h
  clear hM H2 H3 HK1
  go_wp2_with fail
  clear hMI
  go_loopw [11] (fun i wr => ∃ k : Nat, k ≤ M ∧ i = .int .i64 k ∧ Hid (OrSt w f d j m f2 d2 j2 m2 k 0 F (fun S => ∀ i < 12, S i = (decide (i < k) && okF F i)) (fun T => ∀ i < 12, T i = true → i < M ∧ okF F i = true) wr)) (fun i _ => M - (intOf i).toNat)
  case atStart => exact ⟨0, by omega, rfl, HB3.out⟩
  case round =>
    obtain ⟨k, hk, rfl, HR⟩ := hrel
    by_cases hlt : k < M
    · have q1 : (k : Int) < (M : Int) := by omega
      have hkF : k < F.length := by rw [HF.out.len.1]; omega
      obtain ⟨U, V, S, T, hb, hu, hv, ha, hbt⟩ := HR.out.at'
      have HU := Lib.hid (And.intro hb (And.intro hu (And.intro hv (And.intro ha hbt))))
      have HP := Lib.hid (put4_any fo fl fc F k w wr HF.out hb.kept hkF (by omega))
      clear hb hu hv ha hbt
      go_wp2_with fail
      refine HP.out.mono ?_
      rintro e w4 ⟨rfl, hk4⟩
      have HDO := Lib.hid ((HU.out.1.go hk4).lit1 (by omega) 1 k (47 :: fnm k) F[k].b F[k].ao F[k].len F[k].cap ((HF.out.each _ (List.getElem_mem hkF)).kept (HU.out.1.kept.trans hk4)) (by simp [fnm]))
      clear HP hk4
      go_wp2_with fail
      refine HDO.out.mono ?_
      rintro e w5 ⟨c, rfl, H5⟩
      have HN : Hid (OrSt w f d j m f2 d2 j2 m2 (k + 1) 0 F (fun S => ∀ i < 12, S i = (decide (i < k + 1) && okF F i)) (fun T => ∀ i < 12, T i = true → i < M ∧ okF F i = true) w5) := by
        obtain ⟨_, hu, hv, ha, hbt⟩ := HU.out
        have h5 := H5.out
        rw [flB_get hkF] at h5
        refine ⟨_, V, _, T, h5, hu.step (i := k) (by omega) rfl, hv, fun i hi => ?_, hbt⟩
        unfold plusS
        rw [ha i hi]
        exact or_step k i (okF F)
      clear HDO H5 HU
      go_wp2_with fail
      go_roundw
      case rel => exact ⟨k + 1, by omega, by go_num, HN⟩
      case measure => simp [intOf]; omega
    · obtain rfl : k = M := by omega
      have q1 : ¬ (k : Int) < (k : Int) := by omega
      obtain ⟨N, hN⟩ : ∃ N, (if k = 0 then 0 else min ol 20) = N := ⟨_, rfl⟩
      have HN := Lib.hid hN
      have hN2 : N ≤ 20 ∧ N ≤ ol ∧ (0 < N → 0 < k) := by rw [← hN]; split <;> omega
      obtain ⟨hN2, hN1, hN3⟩ := hN2
      clear hN hk
      go_wp2_with fail
      clear hlt
      go_loopw [12] (fun i wz => ∃ z : Nat, z ≤ N ∧ i = .int .i64 z ∧ Hid (OrSt w f d j m f2 d2 j2 m2 k z F (fun S => ∀ i < 12, S i = (decide (i < k) && okF F i)) (fun T => ∀ i < 12, T i = true → i < k ∧ okF F i = true) wz)) (fun i _ => N - (intOf i).toNat)
      case atStart => exact ⟨0, by omega, rfl, HR.out⟩
      case round =>
        obtain ⟨z, hz, rfl, HZ⟩ := hrel
        go_upto_region 12 with (fail)
        go_cut [63] (fun sv wx => sv = .bool (decide (z < N)) ∧ Hid (wr = wx))
        case first =>
          have hNo := HN.out
          by_cases h1 : (z : Int) < (ol : Int)
          · by_cases h2 : (z : Int) < 20
            · by_cases h4 : 0 < k
              · have h3 : decide (z < N) = true := by simp; rw [if_neg (by omega)] at hNo; omega
                clear hNo
                go_wp2_with fail
                go_meet
                exact ⟨by rw [h3], rfl⟩
              · have h3 : decide (z < N) = false := by simp; rw [if_pos (by omega)] at hNo; omega
                have h5 : ¬ (0 : Int) < (k : Int) := by omega
                clear hNo
                go_wp2_with fail
                go_meet
                exact ⟨by rw [h3], rfl⟩
            · have h3 : decide (z < N) = false := by simp; omega
              clear hNo
              go_wp2_with fail
              go_meet
              exact ⟨by rw [h3], rfl⟩
          · have h3 : decide (z < N) = false := by simp; omega
            clear hNo
            go_wp2_with fail
            go_meet
            exact ⟨by rw [h3], rfl⟩
        obtain ⟨rfl, hwr⟩ := hcut
        have hwr' := hwr.out
        subst hwr'
        clear hwr
        by_cases hlt : z < N
        · rw [decide_eq_true hlt]
          have hzO : z < O.length := by rw [HO.out.len.1]; omega
          have q3 : (z : Int) < (ol : Int) := by omega
          obtain ⟨ob, oof, rfl, hoc⟩ := HO.out.at' z hzO
          have hor := HO.out.each _ (List.getElem_mem hzO)
          obtain ⟨x, hx⟩ : ∃ x, O[z] = x := ⟨_, rfl⟩
          rw [hx] at hoc hor
          have h0k : 0 < k := hN3 (by omega)
          obtain ⟨U, V, S, T, hb, hu, hv, ha, hbt⟩ := HZ.out.at'
          have HU := Lib.hid (And.intro hb (And.intro hu (And.intro hv (And.intro ha hbt))))
          have hob : ob < w.heap.size := World.block_lt_of_cell? w _ hoc
          have hoc1 : wr.cell? ⟨ob, oof + z, none⟩ = some (.int .i64 x) := (hb.kept.cell (p := ⟨ob, oof + z, none⟩) hob (by simp)).trans hoc
          have HAM := Lib.hid (among4_any x (k : Int) wr hor ⟨by omega, by omega⟩)
          have hrg := amongN_rng x (k : Int) (by omega)
          obtain ⟨r, hr⟩ : ∃ r : Nat, amongN x (k : Int) = r := ⟨(amongN x (k : Int)).toNat, by omega⟩
          rw [hr] at HAM hrg
          have hrF : r < F.length := by rw [HF.out.len.1]; omega
          have hrk : r < k := by omega
          have HP := Lib.hid (put4_any fo fl fc F r w wr HF.out hb.kept hrF (by omega))
          clear hb hu hv ha hbt hoc hor hx hob hr hrg
          go_wp2_with fail
          refine HAM.out.mono ?_
          rintro e w4 ⟨rfl, rfl⟩
          go_wp2_with fail
          refine HP.out.mono ?_
          rintro e w4 ⟨rfl, hk4⟩
          have HDO := Lib.hid ((HU.out.1.go hk4).lit2 (by omega) 1 r (47 :: fnm r) F[r].b F[r].ao F[r].len F[r].cap ((HF.out.each _ (List.getElem_mem hrF)).kept (HU.out.1.kept.trans hk4)) (by simp [fnm]))
          clear HP HAM hk4 hoc1
          go_wp2_with fail
          refine HDO.out.mono ?_
          rintro e w5 ⟨c, rfl, H5⟩
          have HNX : Hid (OrSt w f d j m f2 d2 j2 m2 k (z + 1) F (fun S => ∀ i < 12, S i = (decide (i < k) && okF F i)) (fun T => ∀ i < 12, T i = true → i < k ∧ okF F i = true) w5) := by
            obtain ⟨_, hu, hv, ha, hbt⟩ := HU.out
            have h5 := H5.out
            rw [flB_get hrF] at h5
            refine ⟨U, _, S, _, h5, hu, hv.step (i := r) (by omega) rfl, ha, fun i hi hp => ?_⟩
            unfold plusS at hp
            rcases Bool.or_eq_true_iff.1 hp with h | h
            · exact hbt i hi h
            · obtain ⟨h6, h7⟩ := Bool.and_eq_true_iff.1 h
              have e : i = r := by simpa using h7
              subst e
              exact ⟨hrk, h6⟩
          clear HDO H5 HU
          go_wp2_with fail
          go_roundw
          case rel => exact ⟨z + 1, by omega, by go_num, HNX⟩
          case measure => simp [intOf]; omega
        · rw [decide_eq_false hlt]
          have HZ2 : Hid (OrSt w f d j m f2 d2 j2 m2 k (20 + (k - k)) F (fun S => ∀ i < 12, S i = (decide (i < k) && okF F i)) (fun T => (∀ i < 12, T i = true → i < k ∧ okF F i = true) ∧ ∀ i, k ≤ i → i < k → okF F i = true → T i = true) wr) := by
            obtain ⟨U, V, S, T, hb, hu, hv, ha, hbt⟩ := HZ.out.at'
            exact ⟨U, V, S, T, hb.up (by omega), hu, hv, ha, hbt, fun i h1 h2 => by omega⟩
          clear HZ HR HN hN1 hN2 hN3 hz hlt
          go_wp2_with fail
          go_loopw [13] (fun i wz => ∃ y : Nat, y ≤ k ∧ i = .int .i64 ((y : Int) - 1) ∧ Hid (OrSt w f d j m f2 d2 j2 m2 k (20 + (k - y)) F (fun S => ∀ i < 12, S i = (decide (i < k) && okF F i)) (fun T => (∀ i < 12, T i = true → i < k ∧ okF F i = true) ∧ ∀ i, y ≤ i → i < k → okF F i = true → T i = true) wz)) (fun i _ => (intOf i + 1).toNat)
          case atStart => exact ⟨k, by omega, by go_num, HZ2.out⟩
          case round =>
            obtain ⟨y, hy, rfl, HY⟩ := hrel
            by_cases h0 : 0 < y
            · obtain ⟨r, rfl⟩ : ∃ r, y = r + 1 := ⟨y - 1, by omega⟩
              have e1 : ((r + 1 : Nat) : Int) - 1 = (r : Int) := by omega
              rw [e1]
              have q3 : (0 : Int) ≤ (r : Int) := by omega
              have hrF : r < F.length := by rw [HF.out.len.1]; omega
              obtain ⟨U, V, S, T, hb, hu, hv, ha, hbt, hct⟩ := HY.out.at'
              have HU := Lib.hid (And.intro hb (And.intro hu (And.intro hv (And.intro ha (And.intro hbt hct)))))
              have HP := Lib.hid (put4_any fo fl fc F r w wr HF.out hb.kept hrF (by omega))
              clear hb hu hv ha hbt hct e1
              go_wp2_with fail
              refine HP.out.mono ?_
              rintro e w4 ⟨rfl, hk4⟩
              have HDO := Lib.hid ((HU.out.1.go hk4).lit2 (by omega) 1 r (47 :: fnm r) F[r].b F[r].ao F[r].len F[r].cap ((HF.out.each _ (List.getElem_mem hrF)).kept (HU.out.1.kept.trans hk4)) (by simp [fnm]))
              clear HP hk4
              go_wp2_with fail
              refine HDO.out.mono ?_
              rintro e w5 ⟨c, rfl, H5⟩
              have HNX : Hid (OrSt w f d j m f2 d2 j2 m2 k (20 + (k - r)) F (fun S => ∀ i < 12, S i = (decide (i < k) && okF F i)) (fun T => (∀ i < 12, T i = true → i < k ∧ okF F i = true) ∧ ∀ i, r ≤ i → i < k → okF F i = true → T i = true) w5) := by
                obtain ⟨_, hu, hv, ha, hbt, hct⟩ := HU.out
                have h5 := H5.out
                rw [flB_get hrF] at h5
                refine ⟨U, _, S, _, (show Both w f d j m f2 d2 j2 m2 k (20 + (k - r)) U _ w5 from h5.up (by omega)), hu, hv.step (i := r) (by omega) rfl, ha, fun i hi hp => ?_, fun i h1 h2 h3 => ?_⟩
                · unfold plusS at hp
                  rcases Bool.or_eq_true_iff.1 hp with h | h
                  · exact hbt i hi h
                  · obtain ⟨h6, h7⟩ := Bool.and_eq_true_iff.1 h
                    have e : i = r := by simpa using h7
                    subst e
                    exact ⟨by omega, h6⟩
                · unfold plusS
                  by_cases e : i = r
                  · subst e
                    have h3' : decide ((flB F i).length ≤ 2432) = true := h3
                    rw [h3']
                    simp
                  · rw [hct i (by omega) h2 h3]
                    rfl
              clear HDO H5 HU
              go_wp2_with fail
              go_roundw
              case rel => exact ⟨r, by omega, by go_num, HNX⟩
              case measure => simp [intOf]
            · obtain rfl : y = 0 := by omega
              have q3 : ¬ (0 : Int) ≤ ((0 : Nat) : Int) - 1 := by omega
              obtain ⟨U, V, S, T, hb, hu, hv, ha, hbt, hct⟩ := HY.out.at'
              have HB := Lib.hid hb
              have hcore : U.core = V.core := hu.same hv (fun i hi => by
                rw [ha i hi]
                by_cases h : i < k
                · cases ho : okF F i with
                  | true => rw [hct i (by omega) h ho]; simp [h]
                  | false =>
                    cases ht : T i with
                    | true => exact absurd (hbt i hi ht).2 (by rw [ho]; simp)
                    | false => simp
                · cases ht : T i with
                  | true => exact absurd (hbt i hi ht).1 h
                  | false => simp [h])
              have HCO := Lib.hid hcore
              clear hb hu hv ha hbt hct hcore HY HZ2 h0
              obtain ⟨wB, hwB⟩ : ∃ wB, wr = wB := ⟨_, rfl⟩
              rw [hwB] at HB
              have HWB := Lib.hid hwB
              clear hwB
              go_wp2_with fail
              go_loopw [14] (fun i wz => ∃ z : Nat, z ≤ k ∧ i = .int .i64 z ∧ Hid (Kept [] wB wz)) (fun i _ => k - (intOf i).toNat)
              case atStart => exact ⟨0, by omega, rfl, by rw [← HWB.out]; exact Kept.refl _ _⟩
              case round =>
                obtain ⟨z, hz, rfl, HZ⟩ := hrel
                by_cases hlt : z < k
                · have q1 : (z : Int) < (k : Int) := by omega
                  have hzF : z < F.length := by rw [HF.out.len.1]; omega
                  have HP := Lib.hid (fun w' (hk : Kept [] wB w') => put4_any fo fl fc F z w w' HF.out (HB.out.kept.trans hk) hzF (by omega))
                  have HPL : Hid ((47 :: fnm z).length ≤ 9223372036854775807) := by show _ ≤ _; simp [fnm]
                  go_wp2_with fail
                  refine (HP.out wr HZ.out).mono ?_
                  rintro e w4 ⟨rfl, hk4⟩
                  have HK4 : Hid (Kept [] wB w4) := HZ.out.trans hk4
                  have HR1 := Lib.hid ((HB.out.go HK4.out).one.read (47 :: fnm z) HPL.out)
                  obtain ⟨c1, hc1⟩ : ∃ c, (readP U (47 :: fnm z)).1 = c := ⟨_, rfl⟩
                  obtain ⟨B, hB⟩ : ∃ B, (readP U (47 :: fnm z)).2 = B := ⟨_, rfl⟩
                  rw [hc1, hB] at HR1
                  clear hk4
                  have hfd : ∀ w, (Instr.field 35 (.agg #[.int .i64 1, .string (strL (47 :: fnm z)), .int .i64 z, .slice F[z].ao F[z].len F[z].cap]) 1).run Tryz.prog w = .ok (.string (strL (47 :: fnm z))) w := fun _ => by kernel_rfl
                  go_wp2_with fail
                  refine HR1.out.mono ?_
                  rintro e w5 ⟨v, rfl, H5⟩
                  clear HR1
                  go_wp2_with fail
                  refine (HP.out w5 (HK4.out.trans H5.out.1)).mono ?_
                  rintro e w6 ⟨rfl, hk6⟩
                  have HK6 : Hid (Kept [] w5 w6) := hk6
                  have HR2 := Lib.hid ((HB.out.go (HK4.out.trans (H5.out.1.trans HK6.out))).two.read (47 :: fnm z) HPL.out)
                  rw [← readP_congr HCO.out, hc1, hB] at HR2
                  clear hk6 hc1 hB
                  go_wp2_with fail
                  refine HR2.out.mono ?_
                  rintro e w7 ⟨v2, rfl, H7⟩
                  clear HR2
                  obtain ⟨ga, gk, rfl, _⟩ := H5.out.2.val
                  obtain ⟨ga2, gk2, rfl, _⟩ := H7.out.2.val
                  have cv1 : (convert 22 9 (.slice ga B.length gk)).run Tryz.prog w7 = .ok (.string (strL B)) w7 := (H5.out.2.kept (HK6.out.trans H7.out.1) (by simp)).slIs.conv
                  have cv2 : (convert 22 9 (.slice ga2 B.length gk2)).run Tryz.prog w7 = .ok (.string (strL B)) w7 := H7.out.2.slIs.conv
                  have HK7 : Hid (Kept [] wB w7) := HK4.out.trans (H5.out.1.trans (HK6.out.trans H7.out.1))
                  go_wp2_with fail
                  go_roundw
                  case rel => exact ⟨z + 1, by omega, by go_num, HK7⟩
                  case measure => simp [intOf]; omega
                · have q1 : ¬ (z : Int) < (k : Int) := by omega
                  have HB2 := Lib.hid (HB.out.go HZ.out)
                  have HF1 := Lib.hid HB2.out.one.free
                  obtain ⟨cf, hcf⟩ : ∃ cf : Int, (900 : Int) - 235 - U.costP = cf := ⟨_, rfl⟩
                  rw [hcf] at HF1
                  have HCF := Lib.hid hcf
                  clear hcf
                  go_wp2_with fail
                  refine HF1.out.mono ?_
                  rintro e w4 ⟨rfl, hk4⟩
                  have HB4 := Lib.hid (HB2.out.go hk4)
                  have HF2 := Lib.hid HB4.out.two.free
                  rw [← costP_core HCO.out, HCF.out] at HF2
                  clear HF1 hk4
                  go_wp2_with fail
                  refine HF2.out.mono ?_
                  rintro e w5 ⟨rfl, hk5⟩
                  have HB5 := Lib.hid (HB4.out.go hk5)
                  have HC1 := Lib.hid HB5.out.one.count
                  obtain ⟨cc, hcc⟩ : ∃ cc, U.recs.length = cc := ⟨_, rfl⟩
                  rw [hcc] at HC1
                  have HCC := Lib.hid hcc
                  clear HF2 hk5 hcc
                  go_wp2_with fail
                  refine HC1.out.mono ?_
                  rintro e w6 ⟨rfl, hk6⟩
                  have HB6 := Lib.hid (HB5.out.go hk6)
                  have HC2 := Lib.hid HB6.out.two.count
                  rw [← recs_core HCO.out, HCC.out] at HC2
                  clear HC1 hk6
                  go_wp2_with fail
                  refine HC2.out.mono ?_
                  rintro e w7 ⟨rfl, hk7⟩
                  have HK7 : Hid (Kept [] w w7) := HB6.out.kept.trans hk7
                  clear HC2 hk7
                  go_wp2_with fail
                  go_ret
                  exact ⟨rfl, HK7.out⟩
end Go.Proofs.YtiedoocgbajjjaaGreatDoor

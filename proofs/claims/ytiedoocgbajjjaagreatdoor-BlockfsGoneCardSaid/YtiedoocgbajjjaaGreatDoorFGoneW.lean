/-
  Layer 4: the walk of BlockfsGone.
  Conditions: those that each theorem states.
-/
import Derived.Test.YtiedoocgbajjjaaGreatDoorLProof
import Derived.Test.YtiedoocgbajjjaaGreatDoorFTexts
namespace Go.Proofs.YtiedoocgbajjjaaGreatDoor
open Go.RowKit Go.Maps
set_option maxRecDepth 100000

set_option maxRecDepth 100000 in
set_option maxHeartbeats 16000000 in
theorem gone_walk (ao : Option Addr) (len cap : Nat) (H : List EdH) (P : List EdP) (fo : Option Addr) (fl fc : Nat) (F : List BRow) (w : World) (hA : EdsIn w ao len cap H P) (hF : RowsIn w fo fl F) :
    Calls Tryz.prog 4 #[.slice ao len cap, .slice fo fl fc] w fun e w' => e = .returned (.bool true) ∧ Kept [] w w' := by
  have HA := Lib.hid hA
  have HF := Lib.hid hF
  have hcap := hA.caps
  clear hA hF
  go_enter Tryz.func4, Tryz.ntmps4
  go_wp2_with fail
  refine (shown4_any w).mono ?_
  rintro e w1 ⟨rfl, hk1⟩
  have HG := Lib.hid (ground_grd w w1 hk1 700 2 ⟨by omega, by omega, by omega⟩ rfl)
  clear hk1
  go_wp2_with fail
  refine HG.out.mono ?_
  rintro e w2 ⟨f, d, j, m, rfl, H2⟩
  clear HG
  obtain ⟨N, hN⟩ : ∃ N, min len 30 = N := ⟨_, rfl⟩
  have hN1 : N ≤ len := by omega
  have hN2 : N ≤ 30 := by omega
  have HN := Lib.hid hN
  clear hN
  go_wp2_with fail
  go_loopw [8] (fun i wr => ∃ k : Nat, k ≤ N ∧ i = .int .i64 k ∧ Hid (∃ T, Grd w f d j m 700 2 k T wr)) (fun i _ => N - (intOf i).toNat)
  case atStart => exact ⟨0, by omega, rfl, ⟨_, H2.out.1⟩⟩
  case round =>
    obtain ⟨k, hk, rfl, HR⟩ := hrel
    by_cases hlt : k < N
    · obtain ⟨T, hT⟩ := HR.out
      have q1 : (k : Int) < (len : Int) := by omega
      have q2 : (k : Int) < 30 := by omega
      have hkl : k < len := by omega
      have hkc : k + 1 ≤ cap := by omega
      obtain ⟨b, o, rfl, HD⟩ := hT.one (by omega) HA.out hkl (by rw [HA.out.len.2]; exact hkl) (cap - k)
      have HD := Lib.hid HD
      clear hT
      go_wp2_with fail
      refine HD.out.mono ?_
      rintro e w3 ⟨rfl, H3⟩
      have HK : Hid (∃ T, Grd w f d j m 700 2 (k + 1) T w3) := ⟨_, H3.out.1⟩
      clear HD H3
      go_wp2_with fail
      go_roundw
      case rel => exact ⟨k + 1, by omega, by go_num, HK⟩
      case measure => simp [intOf]; omega
    · obtain ⟨T, hT⟩ := HR.out
      have HKR : Hid (Grd w f d j m 700 2 30 T wr) := hT.up (by omega)
      have hor : ¬ (k : Int) < (len : Int) ∨ ((k : Int) < (len : Int) ∧ ¬ (k : Int) < 30) := by have := HN.out; omega
      have HF1 := Lib.hid HKR.out.free
      obtain ⟨c0, hc0⟩ : ∃ c0 : Int, ((700 : Nat) : Int) - ((233 + 2 : Nat) : Int) - T.costP = c0 := ⟨_, rfl⟩
      rw [hc0] at HF1
      have HC0 := Lib.hid hc0
      clear HR hlt hN1 hN2 HN hk hT hc0 hcap
      rcases hor with q1 | ⟨q1, q2⟩
      all_goals
        go_wp2_with fail
        refine HF1.out.mono ?_
        rintro e w3 ⟨rfl, H3⟩
        have HC3 := Lib.hid H3.out.1.count
        go_wp2_with fail
        refine HC3.out.mono ?_
        rintro e w4 ⟨rfl, H4⟩
        have HL4 := Lib.hid (H4.out.1.list [47] (by decide))
        rw [list_root H4.out.1.fits.kind] at HL4
        clear HF1 HC3 H3
        go_wp2_with fail
        refine HL4.out.mono ?_
        rintro e w5 ⟨v, rfl, H5⟩
        clear HL4
        go_wp2_with fail
        have HD5 := Lib.hid (H5.out.1.lit (by omega) 2 1 zzP [] none 0 0 (argB_nil w5) (by decide))
        obtain ⟨c, hc⟩ : ∃ c, (doP 700 2 T [⟨2, 1, zzP, []⟩]).1 = c := ⟨_, rfl⟩
        obtain ⟨U, hU⟩ : ∃ U, (doP 700 2 T [⟨2, 1, zzP, []⟩]).2 = U := ⟨_, rfl⟩
        rw [hc, hU] at HD5
        have HC : Hid (doP 700 2 T [⟨2, 1, zzP, []⟩] = (c, U)) := Prod.ext hc hU
        clear hc hU
        refine HD5.out.mono ?_
        rintro e w6 ⟨rfl, H6⟩
        clear HD5
        by_cases h0 : c = 0
        case neg =>
          have q0 : (c != 0) = true := by simpa using h0
          clear h0
          go_wp2_with fail
          go_ret
          exact ⟨rfl, H6.out.1.kept⟩
        subst h0
        have HS6 := Lib.hid (H6.out.1.stat zzP (by decide))
        obtain ⟨z1, z2, z3, hsb⟩ := statV_agg (atP U zzP).2
        obtain ⟨ch, hch⟩ : ∃ ch, (atP U zzP).1 = ch := ⟨_, rfl⟩
        rw [hsb, hch] at HS6
        have HCH := Lib.hid hch
        clear hsb hch
        go_wp2_with fail
        refine HS6.out.mono ?_
        rintro e w7 ⟨rfl, H7⟩
        clear HS6
        obtain ⟨w8, hw8⟩ : ∃ w8, w7.alloc (.cells #[.int .i64 z1, .int .i64 z2, .int .i64 z3] 48) = w8 := ⟨_, rfl⟩
        have hk8 : Kept [] w7 w8 := by rw [← hw8]; exact Kept.alloc _ _ _
        have H8 : Hid (Grd w f d j m 700 2 31 U w8 ∧ Kept [f, d, m, j] w5 w8) := ⟨H7.out.1.go hk8, (H6.out.2.1.trans (H7.out.2.mono (by simp))).trans (hk8.mono (by simp))⟩
        have hOW : ∀ g, v.ownBlock = some g → g ∉ [f, d, m, j] := fun g hg hh => by
          have := H5.out.2.2.2 g hg
          have := (H4.out.1.lt g hh).2
          omega
        have HST : Hid (StrsIs w8 v T.ks.names) := H5.out.2.2.1.keptX H8.out.2 hOW
        have HOW := Lib.hid hOW
        obtain ⟨nl, hnl⟩ : ∃ nl, T.ks.names.length = nl := ⟨_, rfl⟩
        have HNL : Hid (T.ks.names.length = nl ∧ nl ≤ 16) := ⟨hnl, by rw [← hnl, PKs.len_names]; exact HKR.out.fits.len⟩
        obtain ⟨aa, ca, rfl, hcell⟩ := HST.out.parts
        rw [hnl] at HST HOW ⊢
        have HCE := Lib.hid hcell
        clear hcell hnl hOW hk8
        go_wp2_with fail
        go_loopw [16] (fun i wr' => ∃ y : Nat, y ≤ nl ∧ i = .int .i64 y ∧ Hid (w8 = wr' ∧ ∀ x (hx : x < T.ks.names.length), x < y → T.ks.names[x] ≠ zzN)) (fun i _ => nl - (intOf i).toNat)
        case atStart => exact ⟨0, by omega, rfl, rfl, fun x _ hx => by omega⟩
        case round =>
          obtain ⟨y, hy, rfl, HY0⟩ := hrel
          have hw' := HY0.out.1
          subst hw'
          have HY := Lib.hid HY0.out.2
          clear HY0
          have h16 := HNL.out.2
          by_cases hlt : y < nl
          · have hyl : y < T.ks.names.length := by rw [HNL.out.1]; exact hlt
            obtain ⟨ba, oa, rfl, hba, e1⟩ := HCE.out y hyl
            obtain ⟨x, hx⟩ : ∃ x, T.ks.names[y] = x := ⟨_, rfl⟩
            rw [hx] at e1
            have HX := Lib.hid hx
            have hyI : (y : Int) < (nl : Int) := by omega
            clear hx hba
            by_cases hz : x = zzN
            · have q3 : ((strL x).toList == zzN) = true := by rw [strL_bytes, hz]; simp
              have q4 : ((strL x).toList == [122, 122, 45, 110, 101, 119]) = true := q3
              clear hz
              go_wp2_with fail
              go_ret
              exact ⟨rfl, H8.out.1.kept⟩
            · have q3 : ((strL x).toList == [122, 122, 45, 110, 101, 119]) = false := by rw [strL_bytes]; simpa [zzN] using hz
              have HY' : Hid (∀ x (hx : x < T.ks.names.length), x < y + 1 → T.ks.names[x] ≠ zzN) := fun z hz' hz2 => by
                rcases Nat.lt_or_ge z y with h | h
                · exact HY.out z hz' h
                · obtain rfl : z = y := by omega
                  rw [HX.out]
                  exact hz
              clear hz
              go_wp2_with fail
              go_roundw
              case rel => exact ⟨y + 1, by omega, by go_num, by first | exact ⟨rfl, HY'.out⟩ | exact ⟨trivial, HY'.out⟩⟩
              case measure => simp [intOf]; omega
          · obtain rfl : y = nl := by omega
            have hgn : T.ks.get zzN = none := by
              cases hg : T.ks.get zzN with
              | none => rfl
              | some z =>
                have hm := PKs.get_mem.1 (show (T.ks.get zzN).isSome = true by rw [hg]; rfl)
                obtain ⟨x, hx, hxe⟩ := List.getElem_of_mem hm
                exact absurd hxe (HY.out x hx (by rw [← HNL.out.1]; exact hx))
            have hfit := HKR.out.fits
            have hu0 : Hung T U := hung_start hfit hgn HC.out
            obtain rfl : ch = 0 := by rw [← HCH.out]; exact hung_at hu0 hfit.kind hgn
            have HGN := Lib.hid hgn
            have HU0 := Lib.hid hu0
            obtain ⟨M, hM⟩ : ∃ M, min fl 12 = M := ⟨_, rfl⟩
            have hM1 : M ≤ fl := by omega
            have hM2 : M ≤ 12 := by omega
            have HM := Lib.hid hM
            clear hlt HY hgn hfit hu0 hM hy hw8
            go_wp2_with fail
            go_loopw [17] (fun i wy => ∃ k : Nat, k ≤ M ∧ i = .int .i64 k ∧ Hid ((∃ U, Hung T U ∧ Grd w f d j m 700 2 (31 + k) U wy) ∧ Kept [f, d, m, j] w5 wy)) (fun i _ => M - (intOf i).toNat)
            case atStart => exact ⟨0, by omega, rfl, ⟨U, HU0.out, H8.out.1⟩, H8.out.2⟩
            case round =>
              obtain ⟨z, hz, rfl, HZ⟩ := hrel
              by_cases hlt : z < M
              · have q1 : (z : Int) < (fl : Int) := by omega
                have q2 : (z : Int) < 12 := by omega
                have hzF : z < F.length := by rw [HF.out.len.1]; omega
                obtain ⟨fb, fof, rfl, hfc⟩ := HF.out.at' z hzF
                have hfe := HF.out.each _ (List.getElem_mem hzF)
                obtain ⟨x, hx⟩ : ∃ x, F[z] = x := ⟨_, rfl⟩
                rw [hx] at hfc hfe
                obtain ⟨U1, hU1, hG1⟩ := HZ.out.1
                have HU1 := Lib.hid (And.intro hU1 hG1)
                have hfb : fb < w.heap.size := World.block_lt_of_cell? w _ hfc
                have hk0 : Kept [] w wr := hG1.kept
                have hlow := hG1.low
                have zf : ∀ w', Kept [f, d, m, j] wr.drew w' → w'.cell? ⟨fb, fof + z, none⟩ = some (.slice x.ao x.len x.cap) := fun w' hk =>
                  (hk.cell (p := ⟨fb, fof + z, none⟩) (Nat.lt_of_lt_of_le hfb hk0.size) (fun hh => by have := hlow fb hh; omega)).trans ((hk0.cell (p := ⟨fb, fof + z, none⟩) hfb (by simp)).trans hfc)
                have HFE : Hid (ArgB wr x.ao x.len x.cap x.b) := hfe.kept hk0
                have hw1 : IntKind.u8.wrap (97 + (z : Int)) = 97 + (z : Int) := by rw [IntKind.wrap_u8]; omega
                have hzz : z < 12 := by omega
                clear hx hfc hfe hfb hlow hk0 hU1 hG1
                go_wp2_with fail
                refine wp_region_ord [(true, 0), (true, 1), (true, 2), (true, 3), (true, 7), (true, 8), (true, 9), (true, 10), (false, 4), (true, 5), (true, 6), (true, 11), (false, 12), (false, 13)] [f, d, m, j] (by kernel_rfl) (fun _ _ d _ _ h => by cases d <;> exact h) (by kernel_rfl) rfl (by kernel_rfl) (by kernel_rfl) ?_
                simp only [named, List.getD_cons_zero, List.getD_cons_succ]
                repeat (first | (apply wpGrow_take; (case hw => rfl); (case hv => intro w' hk; go_simp; with_reducible rfl); simp only [Act.put, List.setIfInBounds_toArray, List.set_cons_zero, List.set_cons_succ]) | (refine wpGrow_pass (by rfl) ?_; simp only [Act.put, List.setIfInBounds_toArray, List.set_cons_zero, List.set_cons_succ]) | (refine wpGrow_skip (by rfl) ?_; simp only [Act.put, List.setIfInBounds_toArray, List.set_cons_zero, List.set_cons_succ]))
                clear zf
                refine wpGrow_force (by rfl) (fun K hK => ?_)
                go_simp
                obtain ⟨c, hc⟩ : ∃ c, UInt8.ofNat (97 + z) = c := ⟨_, rfl⟩
                have hch : IntKind.u8.wrap (IntKind.i64.wrap (97 + (z : Int))) = (c.toNat : Int) := by
                  have : IntKind.i64.wrap (97 + (z : Int)) = 97 + (z : Int) := by rw [IntKind.wrap_i64]; omega
                  rw [this, hw1, ← hc]
                  simp only [UInt8.toNat_ofNat']
                  omega
                rw [hch]
                obtain ⟨g, hg⟩ : ∃ g, wr.heap.size = g := ⟨_, rfl⟩
                obtain ⟨wz, hwz⟩ : ∃ wz, (wr.alloc (.cells #[.int .u8 (c.toNat : Int)] 5)).drew = wz := ⟨_, rfl⟩
                rw [hwz]
                have hkz : Kept [] wr wz := by rw [← hwz]; exact (Kept.alloc _ _ _).trans (Kept.drew _ _)
                have hrz : wz.heap[g]? = some (.cells (bvA [c]) 5) := by rw [← hwz, ← hg]; exact (Kept.drew [] _).heap (by simp) (heap_alloc_last _ _)
                have hgz : g ∉ [f, d, m, j] := fun hh => by have := (HU1.out.2.lt g hh).2; omega
                have cv : ∀ w', Kept [f, d, m, j] wz w' → (convert 22 9 (.slice (some ⟨wr.heap.size, 0, none⟩) 1 1)).run Tryz.prog w' = .ok (.string (strL [c])) w' := fun w' hk => by
                  rw [hg]
                  exact (SlIs.row (hk.heap hgz hrz) 1 1 rfl).conv
                have hsz : (strL [c]).size = 1 := strL_size [c]
                have hps : ¬ 9223372036854775807 < 8 + (strL [c]).size := by rw [hsz]; omega
                refine hK _ _ (by rw [← hwz]; exact Kept.alloc [f, d, m, j] wr.drew _) ?_
                have HWZ := Lib.hid (And.intro hkz hc)
                clear hK K hkz hrz hwz hch hw1 hc hg hgz
                repeat (first | (apply wpGrow_take; (case hw => rfl); (case hv => intro w' hk; go_simp; with_reducible rfl); simp only [Act.put, List.setIfInBounds_toArray, List.set_cons_zero, List.set_cons_succ]) | (refine wpGrow_pass (by rfl) ?_; simp only [Act.put, List.setIfInBounds_toArray, List.set_cons_zero, List.set_cons_succ]) | (refine wpGrow_skip (by rfl) ?_; simp only [Act.put, List.setIfInBounds_toArray, List.set_cons_zero, List.set_cons_succ]))
                clear cv hps
                refine wpGrow_force (by rfl) (fun K hK => ?_)
                go_simp
                rw [show ({ data := #[47, 122, 122, 45, 110, 101, 119, 47] } : ByteArray) ++ strL [c] = strL ([47, 122, 122, 45, 110, 101, 119, 47] ++ [c]) from strL_cat _ _]
                refine hK _ _ (Kept.alloc _ _ _) ?_
                clear hK K
                have HDO := Lib.hid ((HU1.out.2.go HWZ.out.1).lit (by omega) 1 2 ([47, 122, 122, 45, 110, 101, 119, 47] ++ [c]) x.b x.ao x.len x.cap (HFE.out.kept HWZ.out.1) (by simp))
                repeat (first | (apply wpGrow_take; (case hw => rfl); (case hv => intro w' hk; go_simp; with_reducible rfl); simp only [Act.put, List.setIfInBounds_toArray, List.set_cons_zero, List.set_cons_succ]) | (refine wpGrow_pass (by rfl) ?_; simp only [Act.put, List.setIfInBounds_toArray, List.set_cons_zero, List.set_cons_succ]) | (refine wpGrow_skip (by rfl) ?_; simp only [Act.put, List.setIfInBounds_toArray, List.set_cons_zero, List.set_cons_succ]))
                refine wpGrow_force (by rfl) (fun K hK => ?_)
                go_simp
                refine HDO.out.mono ?_
                rintro e wd ⟨rfl, HD⟩
                refine hK _ _ HD.out.2.2 ?_
                clear hK K HDO
                refine wpGrow_nil ?_
                have HN : Hid ((∃ U, Hung T U ∧ Grd w f d j m 700 2 (31 + (z + 1)) U wd) ∧ Kept [f, d, m, j] w5 wd) := by
                  refine ⟨⟨_, hung_step HKR.out.fits.kind HU1.out.1 HGN.out 700 2 ⟨1, 2, [47, 122, 122, 45, 110, 101, 119, 47] ++ [c], x.b⟩ [c] ?_, HD.out.1⟩, ?_⟩
                  · rw [← HWZ.out.2]
                    exact file_path z hzz
                  · exact (HZ.out.2.trans (HWZ.out.1.mono (by simp))).trans HD.out.2.1
                clear HZ HD HWZ HU1
                go_wp2_with fail
                go_roundw
                case rel => exact ⟨z + 1, by omega, by go_num, HN⟩
                case measure => simp [intOf]; omega
              · have hor2 : ¬ (z : Int) < (fl : Int) ∨ ((z : Int) < (fl : Int) ∧ ¬ (z : Int) < 12) := by have := HM.out; omega
                obtain ⟨U1, hU1, hG1⟩ := HZ.out.1
                have HU1 := Lib.hid (And.intro hU1 (hG1.up (n' := 43) (by omega)))
                clear hU1 hG1 hlt hM1 hM2 HM hz
                rcases hor2 with q1 | ⟨q1, q2⟩
                all_goals
                  go_wp2_with fail
                  have HDO := Lib.hid (HU1.out.2.lit (by omega) 5 0 zzP [] none 0 0 (argB_nil wr) (by decide))
                  obtain ⟨he1, he2⟩ := hung_end HKR.out.fits HGN.out HU1.out.1
                  rw [he1] at HDO
                  have HE2 := Lib.hid he2
                  clear he1 he2
                  refine HDO.out.mono ?_
                  rintro e wa ⟨rfl, HA1⟩
                  have HA2 : Hid (Grd w f d j m 700 2 44 T wa ∧ Kept [f, d, m, j] w5 wa) := ⟨HA1.out.1.congr HE2.out, HZ.out.2.trans HA1.out.2.1⟩
                  clear HDO HE2 HA1 HZ HU1
                  have HL := Lib.hid (HA2.out.1.list [47] (by decide))
                  rw [list_root HKR.out.fits.kind] at HL
                  go_wp2_with fail
                  refine HL.out.mono ?_
                  rintro e wb ⟨vb, rfl, HB⟩
                  clear HL
                  have HT : Hid (Calls Tryz.prog 21 #[.slice aa y ca, vb] wb fun e w' => e = .returned (.bool true) ∧ Kept [] wb w') := by
                    refine texts4_same T.ks.names _ vb wb ?_ HB.out.2.2.1 (by rw [HNL.out.1]; omega)
                    have h5 : StrsIs w5 (.slice aa y ca) T.ks.names := by rw [← HNL.out.1]; exact H5.out.2.2.1
                    exact (h5.keptX HA2.out.2 HOW.out).kept HB.out.2.1
                  go_wp2_with fail
                  refine HT.out.mono ?_
                  rintro e wc ⟨rfl, hkc⟩
                  have HWC := Lib.hid (HB.out.1.go hkc)
                  have HFR := Lib.hid HWC.out.free
                  rw [HC0.out] at HFR
                  clear hkc HT
                  go_wp2_with fail
                  refine HFR.out.mono ?_
                  rintro e wd ⟨rfl, HD⟩
                  have HCT := Lib.hid HD.out.1.count
                  clear HFR
                  go_wp2_with fail
                  refine HCT.out.mono ?_
                  rintro e we ⟨rfl, HE⟩
                  clear HCT
                  go_wp2_with fail
                  go_ret
                  exact ⟨rfl, HE.out.1.kept⟩
end Go.Proofs.YtiedoocgbajjjaaGreatDoor

/-
  The walk through JournalSteps: at whichever write of a group the power goes off, all or none of it is there; here: the first row has at most 40 bytes, the second at most.
  Conditions: those lengths.
-/
import Derived.Test.YthojnkdhaoankaaStepsBase
namespace Go.Proofs.Ythojnkdhaoankaa
open Go.RowKit Go.Maps

set_option maxHeartbeats 8000000 in
set_option maxRecDepth 100000 in
theorem steps_walkAA (ao1 ao2 : Option Addr) (len1 cap1 len2 cap2 : Nat) (old next : List UInt8) (w : World) (hl1 : BytesArg w ao1 len1 old) (hl2 : BytesArg w ao2 len2 next) (hw1 : old.length ≤ 40) (hw2 : next.length ≤ 40) :
    Calls Try.prog 5 #[.slice ao1 len1 cap1, .slice ao2 len2 cap2] w fun e w' => e = .returned (.bool true) ∧ Kept [] w w' := by
  obtain ⟨rfl, hlen1, harg1⟩ := hl1
  obtain ⟨rfl, hlen2, harg2⟩ := hl2
  have HARG1 := Lib.hid harg1
  have HARG2 := Lib.hid harg2
  clear harg1 harg2
  go_enter Try.func5, Try.ntmps5
  go_wp2_with fail
  refine (shown_true w).mono ?_
  rintro e w1 ⟨rfl, hk1⟩
  have HK1 := Lib.hid hk1
  clear hk1
  go_wp2_with fail
  refine (ground_any 0 _ rfl (by omega) w1).mono ?_
  rintro e w2 ⟨a, m, j, rfl, hd, hj, ha, hm, hjl, hk2⟩
  have H2 : Hid (JLive w2 a j 0 0 (grS m 0)) := ⟨⟨hd, rfl, rfl⟩, hj, grS_ready m 0, by show (0 : Int) + 199 ≤ 259; omega⟩
  have HK2 := Lib.hid (HK1.out.trans hk2)
  have HA : Hid (w.heap.size ≤ a ∧ w.heap.size ≤ m ∧ w.heap.size ≤ j) := by have := HK1.out.size; exact ⟨by omega, by omega, by omega⟩
  clear hd hj hk2 ha hm hjl
  go_wp2_with fail
  generalize hwb : World.alloc (World.alloc w2 _) _ = wb
  have hkb : Kept [] w2 wb := by rw [← hwb]; exact (Kept.alloc _ _ _).trans (Kept.alloc _ _ _)
  have HLb := Lib.hid (H2.out.kept hkb (by simp) (by simp) (by simp))
  have HKwb := Lib.hid (HK2.out.trans hkb)
  clear hwb hkb H2
  obtain ⟨NA, hN⟩ : ∃ N, N = min old.length 40 := ⟨_, rfl⟩
  have hNAl : NA ≤ old.length := by omega
  have hNA40 : NA ≤ 40 := by omega
  have hway : True ∧ ¬ ((NA : Int) < (old.length : Int)) := ⟨trivial, by omega⟩
  have HNA := Lib.hid hway
  clear hN hway
  go_loopw [8, 10] (fun v i wr => ∃ (k : Nat), k ≤ NA ∧ i = .int .i64 k ∧ Hid (GPuts wr wb.heap.size v (grpG posA UInt8.ofNat (old.take k)) ∧ Kept [] wb wr)) (fun _ i _ => NA - (intOf i).toNat)
  case atStart => exact ⟨0, by omega, rfl, GPuts.start _ _ _, Kept.refl _ _⟩
  case round =>
    obtain ⟨k, hkN, rfl, HS⟩ := hrel
    by_cases hlt : k < NA
    · have hkl : k < old.length := by omega
      have hkI : (k : Int) < (old.length : Int) := by omega
      have hk40I : (k : Int) < 40 := by omega
      obtain ⟨b, o, hao, hb, hr⟩ := HARG1.out.resolve_left (by omega)
      subst hao
      obtain ⟨c, hc⟩ : ∃ c, old[k] = c := ⟨_, rfl⟩
      have hcell : wr.cell? ⟨b, o + k, none⟩ = some (.int .u8 (c.toNat : Int)) := by
        rw [(HKwb.out.trans HS.out.2).cell (p := ⟨b, o + k, none⟩) hb (by simp)]
        exact hr k _ (by simp [bv, hkl, hc])
      have HC := Lib.hid hc
      have HDV : Hid ((k : Int) = ((UInt8.ofNat k).toNat : Int)) := by show _ = _; simp; omega
      clear hc hr
      go_wp2_with fail
      refine (full2_eq c (UInt8.ofNat k) _ _ _ rfl HDV.out).mono ?_
      rintro e w3 ⟨rfl, hw3⟩
      obtain ⟨w4, hw4⟩ : ∃ w4, w4 = w3.alloc (.cells #[.int .i64 (199 + (k : Int)), .slice (some ⟨wr.heap.size, 0, none⟩) 64 64] 54) := ⟨_, rfl⟩
      have hk4 : Kept [] wr w4 := by rw [hw4, hw3]; exact (Kept.alloc _ _ _).trans (Kept.alloc _ _ _)
      obtain ⟨v', w5, hrun, hown5, ex, hk5, hex⟩ := (HS.out.1.kept hk4).append (199 + (k : Int)) (fullE c (UInt8.ofNat k)) wr.heap.size w3.heap.size (by rw [hw4, hw3]; exact (Kept.alloc [] _ _).heap (by simp) (heap_alloc_last wr _)) (fullE_length _ _) (by rw [hw4]; exact heap_alloc_last _ _) (Nat.le_trans HS.out.2.size hk4.size) (by rw [grpG_length]; simp; omega) (by omega) (by omega)
      have HN : Hid (GPuts w5 wb.heap.size v' (grpG posA UInt8.ofNat (old.take (k + 1))) ∧ Kept [] wb w5) := by
        refine ⟨?_, (HS.out.2.trans hk4).into hk5 hex⟩
        rw [grpG_take _ _ _ _ hkl, HC.out]
        have e : ((posA k : Nat) : Int) = 199 + (k : Int) := by simp only [posA]; omega
        rw [e]
        exact hown5
      have HRUN := Lib.hid hrun
      have HW4 := Lib.hid hw4
      clear hrun hown5 hk5 hex hk4 hw4 hw3
      rw [HW4.out] at HRUN
      go_wp2_with (refine wpList_append_run rfl _ _ 32 rfl _ _ _ rfl rfl HRUN.out ?_)
      go_roundw
      case rel => exact ⟨k + 1, by omega, by go_num, HN⟩
      case measure => simp [intOf]; omega
    · obtain rfl : k = NA := by omega
      obtain ⟨wa, rfl⟩ : ∃ wa, wa = wr := ⟨wr, rfl⟩
      have hgl : (grpG posA UInt8.ofNat (old.take k)).length = k := by rw [grpG_length, List.length_take]; omega
      obtain ⟨gaoa, gcapa, hv, hputsa⟩ := HS.out.1.puts (by rw [hgl]; omega)
      rw [hgl] at hv hputsa
      subst hv
      have HPA := Lib.hid hputsa
      have HGA := Lib.hid (grpA m (old.take k) (by rw [List.length_take]; omega))
      have HLa := Lib.hid (HLb.out.kept HS.out.2 (by simp) (by simp) (by simp))
      have HKwa := Lib.hid (HKwb.out.trans HS.out.2)
      have hq := HNA.out
      clear hputsa hgl hlt hkN
      obtain ⟨NX, hN⟩ : ∃ N, N = min next.length 40 := ⟨_, rfl⟩
      have hNXl : NX ≤ next.length := by omega
      have hNX40 : NX ≤ 40 := by omega
      have hway : True ∧ ¬ ((NX : Int) < (next.length : Int)) := ⟨trivial, by omega⟩
      have HNX := Lib.hid hway
      clear hN hway
      obtain ⟨hq1, hq2⟩ := hq
      all_goals
        go_wp2_with fail
        clear hq1 hq2
        go_loopw [9, 11] (fun v i wr => ∃ (k : Nat), k ≤ NX ∧ i = .int .i64 k ∧ Hid (GPuts wr wa.heap.size v (grpG posB UInt8.ofNat (next.take k)) ∧ Kept [] wa wr)) (fun _ i _ => NX - (intOf i).toNat)
        case atStart => exact ⟨0, by omega, rfl, GPuts.start _ _ _, Kept.refl _ _⟩
        case round =>
          clear HS
          obtain ⟨k, hkN, rfl, HS⟩ := hrel
          by_cases hlt : k < NX
          · have hkl : k < next.length := by omega
            have hkI : (k : Int) < (next.length : Int) := by omega
            have hk40I : (k : Int) < 40 := by omega
            obtain ⟨b, o, hao, hb, hr⟩ := HARG2.out.resolve_left (by omega)
            subst hao
            obtain ⟨c, hc⟩ : ∃ c, next[k] = c := ⟨_, rfl⟩
            have hcell : wr.cell? ⟨b, o + k, none⟩ = some (.int .u8 (c.toNat : Int)) := by
              rw [(HKwa.out.trans HS.out.2).cell (p := ⟨b, o + k, none⟩) hb (by simp)]
              exact hr k _ (by simp [bv, hkl, hc])
            have HC := Lib.hid hc
            have HDV : Hid ((k : Int) = ((UInt8.ofNat k).toNat : Int)) := by show _ = _; simp; omega
            clear hc hr
            go_wp2_with fail
            refine (full2_eq c (UInt8.ofNat k) _ _ _ rfl HDV.out).mono ?_
            rintro e w3 ⟨rfl, hw3⟩
            obtain ⟨w4, hw4⟩ : ∃ w4, w4 = w3.alloc (.cells #[.int .i64 (199 + 7 * (k : Int) % 60), .slice (some ⟨wr.heap.size, 0, none⟩) 64 64] 54) := ⟨_, rfl⟩
            have hk4 : Kept [] wr w4 := by rw [hw4, hw3]; exact (Kept.alloc _ _ _).trans (Kept.alloc _ _ _)
            obtain ⟨v', w5, hrun, hown5, ex, hk5, hex⟩ := (HS.out.1.kept hk4).append (199 + 7 * (k : Int) % 60) (fullE c (UInt8.ofNat k)) wr.heap.size w3.heap.size (by rw [hw4, hw3]; exact (Kept.alloc [] _ _).heap (by simp) (heap_alloc_last wr _)) (fullE_length _ _) (by rw [hw4]; exact heap_alloc_last _ _) (Nat.le_trans HS.out.2.size hk4.size) (by rw [grpG_length]; simp; omega) (by omega) (by omega)
            have HN : Hid (GPuts w5 wa.heap.size v' (grpG posB UInt8.ofNat (next.take (k + 1))) ∧ Kept [] wa w5) := by
              refine ⟨?_, (HS.out.2.trans hk4).into hk5 hex⟩
              rw [grpG_take _ _ _ _ hkl, HC.out]
              have e : ((posB k : Nat) : Int) = 199 + 7 * (k : Int) % 60 := by simp only [posB]; omega
              rw [e]
              exact hown5
            have HRUN := Lib.hid hrun
            have HW4 := Lib.hid hw4
            clear hrun hown5 hk5 hex hk4 hw4 hw3
            rw [HW4.out] at HRUN
            go_wp2_with (refine wpList_append_run rfl _ _ 32 rfl _ _ _ rfl rfl HRUN.out ?_)
            go_roundw
            case rel => exact ⟨k + 1, by omega, by go_num, HN⟩
            case measure => simp [intOf]; omega
          · obtain rfl : k = NX := by omega
            have hgl : (grpG posB UInt8.ofNat (next.take k)).length = k := by rw [grpG_length, List.length_take]; omega
            obtain ⟨gao, gcap, hv, hputs⟩ := HS.out.1.puts (by rw [hgl]; omega)
            rw [hgl] at hv hputs
            subst hv
            obtain ⟨lb, hlb⟩ : ∃ lb, lb = grpG posB UInt8.ofNat (next.take k) := ⟨_, rfl⟩
            rw [← hlb] at hputs
            have hnl : (next.take k).length ≤ 40 := by rw [List.length_take]; omega
            have HLB := Lib.hid hlb
            have HNL := Lib.hid hnl
            have HPB := Lib.hid hputs
            have HPAc := Lib.hid (HPA.out.kept HS.out.2 (Off.nil _))
            have HLc := Lib.hid (HLa.out.kept HS.out.2 (by simp) (by simp) (by simp))
            have HKc := Lib.hid (HKwa.out.trans HS.out.2)
            have hq := HNX.out
            clear hputs hgl hlt hkN HS hlb hnl
            obtain ⟨hq1, hq2⟩ := hq
            all_goals
              go_wp2_with fail
              clear hq1 hq2
              refine (commit_j wr a j 0 0 (grS m 0) HLc.out gaoa _ gcapa _ HPAc.out HGA.out (by omega) (by show (1 : Int) < _; omega)).mono ?_
              rintro e w6 ⟨rfl, S1, h6, hs6, hm6, hw6, hb6, hk6⟩
              obtain ⟨NB, hNB⟩ : ∃ n : Nat, n = 259 := ⟨_, rfl⟩
              have hNB2 : NB ≤ 4096 := by omega
              have hs1 : S1.size = 259 := hs6
              have HS1 : Hid (S1.size = (NB : Int)) := by show _ = _; rw [hs1, hNB]; rfl
              have HS1' := Lib.hid hs1
              have HNB := Lib.hid hNB
              obtain ⟨W1, hW1⟩ : ∃ W : Nat, S1.writes = (W : Int) := ⟨S1.writes.toNat, by have := h6.live.disk.w0; omega⟩
              have hW1b : W1 ≤ 2000 := by
                have e : (grS m 0).writes = 1 := rfl
                rw [e] at hw6
                unfold spanN tabN at hw6
                omega
              have HM1 : Hid (S1.m = m) := hm6
              have H6 := Lib.hid h6
              have HK6 := Lib.hid (HKc.out.into hk6 (by have := HA.out; show ∀ i ∈ [a, m, j], _; simp; exact ⟨this.1, this.2.1, this.2.2⟩))
              have HP6 := Lib.hid (HPB.out.kept hk6 HLc.out.off)
              have HW1 := Lib.hid hW1
              clear h6 hs6 hm6 hw6 hb6 hk6 hs1 hNB hW1
              go_wp2_with fail
              refine (rows_any w6 a 0 NB _ rfl S1 H6.out.live.disk H6.out.live.off HS1.out (by omega)).mono ?_
              rintro e w7 ⟨vb, rfl, hr7, hk7⟩
              have HR7 := Lib.hid hr7
              have H7 := Lib.hid (H6.out.kept hk7 (by simp) (by simp) (by simp))
              have HK7 := Lib.hid (HK6.out.trans hk7)
              have HP7 := Lib.hid (HP6.out.kept hk7 (Off.nil _))
              clear hr7 hk7
              go_wp2_with fail
              refine (clone_any a S1 w7 H7.out.live.disk).mono ?_
              rintro e w8 ⟨rfl, hd8, hk8⟩
              obtain ⟨ba, hba⟩ : ∃ ba, ba = w7.heap.size := ⟨_, rfl⟩
              rw [← hba] at hd8
              rw [← hba]
              have HBA := Lib.hid hba
              have HD8 := Lib.hid hd8
              have HR8 := Lib.hid (HR7.out.kept hk8 (Off.nil _))
              have H8 := Lib.hid (H7.out.kept hk8 (by simp) (by simp) (by simp))
              have HK8 := Lib.hid (HK7.out.trans hk8)
              have HP8 := Lib.hid (HP7.out.kept hk8 (Off.nil _))
              clear hd8 hk8 hba
              go_wp2_with fail
              refine (writes_any a S1 _ H8.out.live.disk).mono ?_
              rw [HW1.out]
              rintro e w9 ⟨rfl, rfl⟩
              go_wp2_with fail
              refine (commit_j w8 a j 0 1 S1 H8.out gao _ gcap lb HP8.out (by rw [HLB.out]; exact grpB S1 HS1'.out _ HNL.out) (by omega) (by rw [HW1.out]; omega)).mono ?_
              rintro e w9 ⟨rfl, S2, h9, hs9, hm9, hw9, hb9, hk9⟩
              obtain ⟨T, hT⟩ : ∃ T : Nat, T = spanN k + 1 + k + 1 := ⟨_, rfl⟩
              have hT100 : T ≤ 100 := by rw [hT]; unfold spanN tabN; omega
              rw [← hT, HW1.out] at hw9
              have HW2 := Lib.hid hw9
              have hs2 : S2.size = (NB : Int) := by rw [hs9]; exact HS1.out
              have HS2 := Lib.hid hs2
              have HB2 := Lib.hid hb9
              have H9 := Lib.hid h9
              have hoff8 := H8.out.off
              have hne : ∀ q, w7.heap.size ≤ q → q ∉ [a, S1.m, j] := fun q hq => by
                have l1 := H7.out.live.disk.lt
                have l2 := H7.out.live.disk.map.lt
                have l3 := H7.out.jour.lt
                simp; omega
              have HD9 := Lib.hid (HD8.out.kept hk9 (hne _ (by have := HBA.out; omega)) (hne (ba + 1) (by have := HBA.out; omega)))
              have HR9 := Lib.hid (HR8.out.kept hk9 hoff8)
              have HP9 := Lib.hid (HP8.out.kept hk9 hoff8)
              have HK9 := Lib.hid (HK8.out.into hk9 (by rw [HM1.out]; have := HA.out; simp; exact ⟨this.1, this.2.1, this.2.2⟩))
              clear h9 hs9 hm9 hw9 hb9 hk9 hs2 hoff8 hne hT
              go_wp2_with fail
              refine (rows_any w9 a 0 NB _ rfl S2 H9.out.live.disk H9.out.live.off HS2.out (by omega)).mono ?_
              rintro e w10 ⟨va, rfl, hr10, hk10⟩
              have H10 := Lib.hid (H9.out.kept hk10 (by simp) (by simp) (by simp))
              have HST : Hid (StSt w ba (ba + 1) S1 S2 vb va gao k lb NB w10) := ⟨HD9.out.kept hk10 (by simp) (by simp), HR9.out.kept hk10 (Off.nil _), hr10, HP9.out.kept hk10 (Off.nil _), HK9.out.trans hk10⟩
              clear hr10 hk10
              generalize ba + 1 = mb at HST
              go_wp2_with fail
              refine (writes_any a S2 _ H10.out.live.disk).mono ?_
              rw [HW2.out]
              rintro e w11 ⟨rfl, rfl⟩
              have hTe : (W1 : Int) + (T : Int) - (W1 : Int) = T := by omega
              go_wp2_with fail
              clear hTe
              obtain ⟨lenb, hlenb⟩ : ∃ n, n = k := ⟨_, rfl⟩
              rw [← hlenb] at HST ⊢
              have hlb40 : lenb ≤ 40 := by omega
              clear hlenb
              go_loopw [21] (fun i wr => ∃ (k : Nat), k ≤ 200 ∧ i = .int .i64 k ∧ Hid (StSt w ba mb S1 S2 vb va gao lenb lb NB wr)) (fun i _ => T - (intOf i).toNat)
              case atStart => exact ⟨0, by omega, rfl, HST⟩
              case round =>
                obtain ⟨k, hk200, rfl, HS⟩ := hrel
                by_cases hlt : k < T
                · have hkT : (k : Int) < (T : Int) := by omega
                  go_wp2_with fail
                  refine (clone_any ba (S1.at mb) _ HS.out.base).mono ?_
                  rintro e w5 ⟨rfl, hd5, hk5⟩
                  obtain ⟨ca, hca⟩ : ∃ ca, ca = wr.heap.size := ⟨_, rfl⟩
                  rw [← hca] at hd5
                  rw [← hca]
                  have HCA := Lib.hid hca
                  have HD5 := Lib.hid hd5
                  have HK5 := Lib.hid hk5
                  have HP5 := Lib.hid (HS.out.puts.kept hk5 (Off.nil _))
                  clear hd5 hk5 hca
                  go_wp2_with fail
                  refine (open_ready ca ((S1.at mb).at (ca + 1)) 0 _ 1 _ HD5.out rfl (by show (0 : Int) + 199 ≤ S1.size; rw [HS1'.out]; omega) H6.out.live.off H6.out.ready (by omega)).mono ?_
                  rintro e w6b ⟨j1, rfl, hj6, hjl6, hk6⟩
                  have HJ6 := Lib.hid hj6
                  have HD6 := Lib.hid (HD5.out.kept hk6 (by simp) (by simp))
                  have HP6b := Lib.hid (HP5.out.kept hk6 (Off.nil _))
                  have HK6b := Lib.hid (HK5.out.trans hk6)
                  have HJL : Hid (wr.heap.size ≤ j1) := Nat.le_trans HK5.out.size hjl6
                  clear hj6 hjl6 hk6
                  go_wp2_with fail
                  refine (fuse_any ca ((S1.at mb).at (ca + 1)) k _ HD6.out (by omega)).mono ?_
                  rw [show ((S1.at mb).at (ca + 1)).fuse k = ⟨S1.size, ca + 1, false, true, k, S1.writes, S1.blk⟩ by
                    unfold DiskS.fuse
                    rw [show ((S1.at mb).at (ca + 1)).off = false from H6.out.live.off, if_neg (by simp), if_neg (by omega)]
                    rfl]
                  rintro e w7b ⟨rfl, hd7, hk7⟩
                  have HJ7 := Lib.hid (HJ6.out.kept hk7 (by have := HJ6.out.ne_disk HD6.out; simpa using this))
                  have HP7b := Lib.hid (HP6b.out.kept hk7 (HD6.out.off.mono (by simp)))
                  have HK7b := Lib.hid (HK6b.out.into hk7 (by have := HCA.out; simp; omega))
                  have HD7 := Lib.hid hd7
                  clear hd7 hk7
                  go_wp2_with fail
                  refine (commit_fz w7b ca j1 0 1 ⟨S1.size, ca + 1, false, true, k, S1.writes, S1.blk⟩ HD7.out HJ7.out rfl H6.out.ready (by show (0 : Int) + 199 ≤ S1.size; rw [HS1'.out]; omega) gao _ gcap lb HP7b.out (by show Grp 0 S1.size lb; rw [HLB.out]; exact grpB S1 HS1'.out _ HNL.out) (by omega) (by show S1.writes < _; rw [HW1.out]; omega)).mono ?_
                  rintro e w8b ⟨x, S8, rfl, hd8, hs8, hm8, hw8, hcm, _, hk8⟩
                  have HD8b := Lib.hid hd8
                  have HS8 : Hid (S8.size = (NB : Int)) := by show _ = _; rw [hs8]; exact HS1.out
                  have HM8 : Hid (S8.m = ca + 1) := hm8
                  have HW8 : Hid (S8.writes < 1000000) := by show _ < _; have := HW1.out; simp only at hw8; omega
                  have HCM := Lib.hid hcm
                  have HK8b := Lib.hid (HK7b.out.into hk8 (by have := HCA.out; have := HJL.out; show ∀ i ∈ [ca, ca + 1, j1], _; simp; omega))
                  clear hd8 hs8 hm8 hw8 hcm hk8
                  go_wp2_with fail
                  refine (boot_any ca S8 _ HD8b.out).mono ?_
                  rintro e w8c ⟨rfl, hd8, hk8⟩
                  have HD8c : Hid (Live w8c ca S8.boot) := ⟨hd8, rfl, rfl⟩
                  have HK8c := Lib.hid (HK8b.out.into hk8 (by have := HCA.out; simp; omega))
                  clear hd8 hk8
                  have hrm : (0 : Int) + 199 ≤ S8.boot.size := by show (0 : Int) + 199 ≤ S8.size; rw [HS8.out, HNB.out]; omega
                  rcases HCM.out with ⟨rfl, c1, c2, c3, _⟩ | ⟨rfl, c1, _, ⟨c2, c3⟩ | ⟨c2, c3⟩⟩
                  · have HC2 : Hid (Ready S8.boot 0 2) := c2
                    have HC3 := Lib.hid c3
                    clear c1 c2 c3
                    go_wp2_with fail
                    refine (open_ready ca S8.boot 0 _ 2 _ HD8c.out.disk rfl hrm rfl HC2.out (by omega)).mono ?_
                    rintro e w9 ⟨j9, rfl, hj9, _, hk9⟩
                    obtain ⟨S9, hS9⟩ : ∃ S, S = S8.boot := ⟨_, rfl⟩
                    have h9 : JLive w9 ca j9 0 2 S9 := by rw [hS9]; exact ⟨HD8c.out.kept hk9 (by simp) (by simp), hj9, HC2.out, hrm⟩
                    have hs9 : S9.size = (NB : Int) := by rw [hS9]; exact HS8.out
                    have HK9 := Lib.hid (HK8c.out.trans hk9)
                    have HRW : Hid (rowsK S9.blk 0 NB = rowsK S2.blk 0 NB) := by
                      show _ = _
                      rw [hS9]
                      exact rowsK_congr (fun i hi => by rw [HB2.out i hi]; exact HC3.out i hi)
                    clear hj9 hk9 hS9
                    have HJ9 := Lib.hid h9.jour
                    have HD9 := Lib.hid h9.live
                    have HS9 := Lib.hid hs9
                    clear h9 hs9
                    go_wp2_with fail
                    refine (rows_any w9 ca 0 NB _ rfl S9 HD9.out.disk HD9.out.off HS9.out (by omega)).mono ?_
                    rintro e w10 ⟨vn, rfl, hr10, hk10⟩
                    have HR10 := Lib.hid hr10
                    have HK10 := Lib.hid (HK9.out.trans hk10)
                    have HJ10 := Lib.hid (HJ9.out.kept hk10 (by simp))
                    clear hr10 hk10
                    have HB10 := Lib.hid (HS.out.rb.kept HK10.out (Off.nil _))
                    have HA10 := Lib.hid (HS.out.ra.kept HK10.out (Off.nil _))
                    have hle := rowsK_length_le S9.blk 0 NB
                    obtain ⟨bx, hbx⟩ : ∃ y : Bool, y = true ↔ rowsK S9.blk 0 NB = rowsK S1.blk 0 NB := ⟨decide _, decide_eq_true_iff⟩
                    obtain ⟨bz, hbz⟩ : ∃ y : Bool, y = true ↔ rowsK S9.blk 0 NB = rowsK S2.blk 0 NB := ⟨decide _, decide_eq_true_iff⟩
                    have HBX := Lib.hid hbx
                    have HBZ := Lib.hid hbz
                    clear hbx hbz
                    go_wp2_with fail
                    refine (same_any w10 vn vb _ _ HR10.out HB10.out (by omega) bx HBX.out).mono ?_
                    rintro e w11 ⟨rfl, hk11⟩
                    have HK11 := Lib.hid hk11
                    clear hk11
                    go_wp2_with fail
                    refine (same_any w11 vn va _ _ (HR10.out.kept HK11.out (Off.nil _)) (HA10.out.kept HK11.out (Off.nil _)) (by omega) bz HBZ.out).mono ?_
                    rintro e w12 ⟨rfl, hk12⟩
                    have HK12 := Lib.hid (HK11.out.trans hk12)
                    clear hk12
                    go_wp2_with fail
                    refine (groups_any j9 _ w12 (HJ10.out.kept HK12.out (by simp))).mono ?_
                    rintro e w13 ⟨rfl, rfl⟩
                    have HN : Hid (StSt w ba mb S1 S2 vb va gao lenb lb NB w12) := HS.out.grow (HK10.out.trans HK12.out)
                    obtain rfl : bz = true := HBZ.out.2 HRW.out
                    cases bx
                    all_goals
                      go_wp2_with fail
                      go_roundw
                      case rel => exact ⟨k + 1 + T / 40, by omega, by go_num, HN⟩
                      case measure => simp [intOf]; omega
                  · have HC2 : Hid (Ready S8.boot 0 1) := c2
                    have HC3 := Lib.hid c3
                    clear c1 c2 c3
                    go_wp2_with fail
                    refine (open_ready ca S8.boot 0 _ 1 _ HD8c.out.disk rfl hrm rfl HC2.out (by omega)).mono ?_
                    rintro e w9 ⟨j9, rfl, hj9, _, hk9⟩
                    obtain ⟨S9, hS9⟩ : ∃ S, S = S8.boot := ⟨_, rfl⟩
                    have h9 : JLive w9 ca j9 0 1 S9 := by rw [hS9]; exact ⟨HD8c.out.kept hk9 (by simp) (by simp), hj9, HC2.out, hrm⟩
                    have hs9 : S9.size = (NB : Int) := by rw [hS9]; exact HS8.out
                    have HK9 := Lib.hid (HK8c.out.trans hk9)
                    have HRW : Hid (rowsK S9.blk 0 NB = rowsK S1.blk 0 NB) := by
                      show _ = _
                      rw [hS9]
                      exact rowsK_congr (fun i hi => HC3.out i hi)
                    clear hj9 hk9 hS9
                    have HJ9 := Lib.hid h9.jour
                    have HD9 := Lib.hid h9.live
                    have HS9 := Lib.hid hs9
                    clear h9 hs9
                    go_wp2_with fail
                    refine (rows_any w9 ca 0 NB _ rfl S9 HD9.out.disk HD9.out.off HS9.out (by omega)).mono ?_
                    rintro e w10 ⟨vn, rfl, hr10, hk10⟩
                    have HR10 := Lib.hid hr10
                    have HK10 := Lib.hid (HK9.out.trans hk10)
                    have HJ10 := Lib.hid (HJ9.out.kept hk10 (by simp))
                    clear hr10 hk10
                    have HB10 := Lib.hid (HS.out.rb.kept HK10.out (Off.nil _))
                    have HA10 := Lib.hid (HS.out.ra.kept HK10.out (Off.nil _))
                    have hle := rowsK_length_le S9.blk 0 NB
                    obtain ⟨bx, hbx⟩ : ∃ y : Bool, y = true ↔ rowsK S9.blk 0 NB = rowsK S1.blk 0 NB := ⟨decide _, decide_eq_true_iff⟩
                    obtain ⟨bz, hbz⟩ : ∃ y : Bool, y = true ↔ rowsK S9.blk 0 NB = rowsK S2.blk 0 NB := ⟨decide _, decide_eq_true_iff⟩
                    have HBX := Lib.hid hbx
                    have HBZ := Lib.hid hbz
                    clear hbx hbz
                    go_wp2_with fail
                    refine (same_any w10 vn vb _ _ HR10.out HB10.out (by omega) bx HBX.out).mono ?_
                    rintro e w11 ⟨rfl, hk11⟩
                    have HK11 := Lib.hid hk11
                    clear hk11
                    go_wp2_with fail
                    refine (same_any w11 vn va _ _ (HR10.out.kept HK11.out (Off.nil _)) (HA10.out.kept HK11.out (Off.nil _)) (by omega) bz HBZ.out).mono ?_
                    rintro e w12 ⟨rfl, hk12⟩
                    have HK12 := Lib.hid (HK11.out.trans hk12)
                    clear hk12
                    go_wp2_with fail
                    refine (groups_any j9 _ w12 (HJ10.out.kept HK12.out (by simp))).mono ?_
                    rintro e w13 ⟨rfl, rfl⟩
                    have HN : Hid (StSt w ba mb S1 S2 vb va gao lenb lb NB w12) := HS.out.grow (HK10.out.trans HK12.out)
                    obtain rfl : bx = true := HBX.out.2 HRW.out
                    go_wp2_with fail
                    go_roundw
                    case rel => exact ⟨k + 1 + T / 40, by omega, by go_num, HN⟩
                    case measure => simp [intOf]; omega
                  · have HC2 : Hid (Owes S8.boot 0 1 lb) := c2.congr rfl (fun _ _ => rfl)
                    have HC3 := Lib.hid c3
                    clear c1 c2 c3
                    go_wp2_with fail
                    refine (open_owes _ ca 0 1 _ rfl S8.boot HD8c.out hrm lb S1.blk HC2.out HC3.out (by omega) (by show S8.writes < _; have := HW8.out; omega)).mono ?_
                    rintro e w9 ⟨j9, S9, rfl, h9, hs9', hm9, hw9, hb9, _, hk9⟩
                    have hs9 : S9.size = (NB : Int) := by rw [hs9']; exact HS8.out
                    have HK9 := Lib.hid (HK8c.out.into hk9 (by have := HCA.out; rw [show S8.boot.m = ca + 1 from HM8.out]; simp; omega))
                    have HRW : Hid (rowsK S9.blk 0 NB = rowsK S2.blk 0 NB) := rowsK_congr (fun i hi => by rw [HB2.out i hi]; exact hb9 i hi)
                    clear hs9' hm9 hw9 hb9 hk9
                    have HJ9 := Lib.hid h9.jour
                    have HD9 := Lib.hid h9.live
                    have HS9 := Lib.hid hs9
                    clear h9 hs9
                    go_wp2_with fail
                    refine (rows_any w9 ca 0 NB _ rfl S9 HD9.out.disk HD9.out.off HS9.out (by omega)).mono ?_
                    rintro e w10 ⟨vn, rfl, hr10, hk10⟩
                    have HR10 := Lib.hid hr10
                    have HK10 := Lib.hid (HK9.out.trans hk10)
                    have HJ10 := Lib.hid (HJ9.out.kept hk10 (by simp))
                    clear hr10 hk10
                    have HB10 := Lib.hid (HS.out.rb.kept HK10.out (Off.nil _))
                    have HA10 := Lib.hid (HS.out.ra.kept HK10.out (Off.nil _))
                    have hle := rowsK_length_le S9.blk 0 NB
                    obtain ⟨bx, hbx⟩ : ∃ y : Bool, y = true ↔ rowsK S9.blk 0 NB = rowsK S1.blk 0 NB := ⟨decide _, decide_eq_true_iff⟩
                    obtain ⟨bz, hbz⟩ : ∃ y : Bool, y = true ↔ rowsK S9.blk 0 NB = rowsK S2.blk 0 NB := ⟨decide _, decide_eq_true_iff⟩
                    have HBX := Lib.hid hbx
                    have HBZ := Lib.hid hbz
                    clear hbx hbz
                    go_wp2_with fail
                    refine (same_any w10 vn vb _ _ HR10.out HB10.out (by omega) bx HBX.out).mono ?_
                    rintro e w11 ⟨rfl, hk11⟩
                    have HK11 := Lib.hid hk11
                    clear hk11
                    go_wp2_with fail
                    refine (same_any w11 vn va _ _ (HR10.out.kept HK11.out (Off.nil _)) (HA10.out.kept HK11.out (Off.nil _)) (by omega) bz HBZ.out).mono ?_
                    rintro e w12 ⟨rfl, hk12⟩
                    have HK12 := Lib.hid (HK11.out.trans hk12)
                    clear hk12
                    go_wp2_with fail
                    refine (groups_any j9 _ w12 (HJ10.out.kept HK12.out (by simp))).mono ?_
                    rintro e w13 ⟨rfl, rfl⟩
                    have HN : Hid (StSt w ba mb S1 S2 vb va gao lenb lb NB w12) := HS.out.grow (HK10.out.trans HK12.out)
                    obtain rfl : bz = true := HBZ.out.2 HRW.out
                    cases bx
                    all_goals
                      go_wp2_with fail
                      go_roundw
                      case rel => exact ⟨k + 1 + T / 40, by omega, by go_num, HN⟩
                      case measure => simp [intOf]; omega
                · have hkT : ¬ ((k : Int) < (T : Int)) := by omega
                  go_wp2_with fail
                  go_ret
                  exact ⟨rfl, HS.out.kept⟩
end Go.Proofs.Ythojnkdhaoankaa

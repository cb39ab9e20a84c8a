/-
  Layer 4: the walk of BlockfsArgs.
  Conditions: those that each theorem states.
-/
import Derived.Test.YtiedoocgbajjjaaGreatDoorLProof
import Derived.Test.YtiedoocgbajjjaaGreatDoorFSmall
namespace Go.Proofs.YtiedoocgbajjjaaGreatDoor
open Go.RowKit Go.Maps
set_option maxRecDepth 100000

/-- Bytes that came in, copied into a new block. -/
theorem copy64 {w : World} {bo : Option Addr} {bl bc : Nat} {B : List UInt8} (hB : ArgB w bo bl bc B) {g : Nat} {t : TypeId} (hg : w.heap[g]? = some (.cells (bvA zeroL) t)) :
    ∃ (r : Value) (w' : World) (L : List UInt8), (Builtin.copy_ #[22, 22] 3 #[.slice (some ⟨g, 0, none⟩) 64 64, .slice bo bl bc]).run Tryz.prog w = .ok r w' ∧ Hid (L.length = 64 ∧ w'.heap[g]? = some (.cells (bvA L) t) ∧ Kept [g] w w') := by
  rcases hB.at' with h0 | ⟨b, o, rfl, hb, hr⟩
  · refine ⟨_, w, zeroL, run_copy_none (P := Tryz.prog) w 22 22 3 5 _ _ _ _ _ _ Tryz.underlying22 (by kernel_rfl) (by simp [h0]), rfl, hg, Kept.refl _ _⟩
  · have hlen : (bv (B.take 64)).length = Nat.min bl 64 := by rw [bv_length, List.length_take, hB.hlen]; exact Nat.min_comm _ _
    have hm : Nat.min bl 64 ≤ 64 := Nat.min_le_right _ _
    have := run_copy_row (P := Tryz.prog) w 22 22 3 5 g 0 64 64 ⟨b, o, none⟩ bl bc (bvA zeroL) t (bv (B.take 64)) Tryz.underlying22 (by kernel_rfl) hg hlen
      (fun j v hv => by
        rw [Addr.add_mid]
        refine hr j v ?_
        simp [bv, List.getElem?_take] at hv ⊢
        exact hv.2) (by rw [hlen, bvA_size, show zeroL.length = 64 from rfl]; omega) (fun v hv => by
          obtain ⟨u, _, rfl⟩ := List.mem_map.1 hv
          rfl)
    refine ⟨_, _, B.take 64 ++ zeroL.drop (B.take 64).length, this, ?_, ?_, setRow_kept _ _ _⟩
    · have : (B.take 64).length ≤ 64 := by rw [List.length_take]; omega
      rw [List.length_append, List.length_drop, show zeroL.length = 64 from rfl]
      omega
    · rw [setRow_heap _ _ _ _ _ _ hg]
      congr 2
      simp [bvA, bv, List.map_drop]
theorem super_ne (N : Nat) : zeroL ≠ superL N := fun h => by
  have := congrArg (fun l => l.head?) h
  simp [superL, treeL, zeroL, fullL] at this
theorem head_ne (g x : Nat) : zeroL ≠ encL 2 g x false := fun h => by
  have := congrArg (fun l => l.head?) h
  simp [encL, magicL, zeroL, fullL] at this
theorem do_x (N q : Nat) (hok : SizeOk N q) : (doP N q rootP [⟨2, 1, [47, 120], []⟩]).1 = 0 ∧ (doP N q rootP [⟨2, 1, [47, 120], []⟩]).2.recs.length = 2 := by
  obtain ⟨t, ht⟩ : ∃ t, rootP.edit 2 1 [47, 120] [] = t := ⟨_, rfl⟩
  have h1 : t.1 = 0 := by rw [← ht]; decide +kernel
  have h2 : t.2.recs.length = 2 := by rw [← ht]; decide +kernel
  have h3 : t.2.costP = 1 := by rw [← ht]; decide +kernel
  rw [doP_one (by decide), ht, h1, if_neg (by simp), if_neg (by rw [h2]; omega), if_neg (by rw [h3]; have := hok.lo; have := hok.hi; have := hok.q; omega)]
  exact ⟨rfl, h2⟩
theorem wr_new (n : Int) (m : Nat) (L : List UInt8) (hL : L.length = 64) : ((DiskS.new n m).wr 1 L).2.size = n ∧ ((DiskS.new n m).wr 1 L).2.m = m ∧ (1 < n → (DiskS.new n m).wr 1 L = (0, { DiskS.new n m with blk := updL (DiskS.new n m).blk 1 L, writes := 1 })) := by
  unfold DiskS.wr DiskS.reach DiskS.burn
  by_cases h : n ≤ 1
  · have h' : ¬ 1 < n := by omega
    refine ⟨?_, ?_, fun hh => absurd hh h'⟩ <;> simp [DiskS.new, h]
  · have h' : 1 < n := by omega
    refine ⟨?_, ?_, fun _ => ?_⟩ <;> simp [DiskS.new, h, hL]

set_option maxRecDepth 100000 in
set_option maxHeartbeats 8000000 in
theorem args_walk (n : Int) (B : List UInt8) (bo : Option Addr) (bl bc : Nat) (w : World) (hB : ArgB w bo bl bc B) (hn : -9223372036854775808 ≤ n ∧ n ≤ 9223372036854775807) :
    Calls Tryz.prog 3 #[.int .i64 n, .slice bo bl bc] w fun e w' => e = .returned (.bool true) ∧ Kept [] w w' := by
  have HB := Lib.hid hB
  have hmk : ∀ w, (Instr.makeSlice 22 (.int .i64 64) (.int .i64 64)).run Tryz.prog w = .ok (.slice (some ⟨w.heap.size, 0, none⟩) 64 64) (w.alloc (.cells (bvA (zerosL 64)) 5)) := fun w => run_make_bytes (P := Tryz.prog) w 22 5 Tryz.underlying22 infoByte 64 (by omega) (by omega)
  obtain ⟨Z, hZ⟩ : ∃ Z, bvA (zerosL 64) = Z := ⟨_, rfl⟩
  have HZ := Lib.hid hZ
  rw [hZ] at hmk
  clear hB hZ
  go_enter Tryz.func3, Tryz.ntmps3
  go_wp2_with fail
  refine (shown4_any w).mono ?_
  rintro e w1 ⟨rfl, hk1⟩
  have HK1 := Lib.hid hk1
  clear hk1
  go_wp2_with fail
  by_cases hbad : n < 1 ∨ 4096 < n
  · refine (new_bad n w1 hbad).mono ?_
    rintro e w2 ⟨rfl, rfl⟩
    have q1 : ((true : Bool) != (true : Bool)) = false := rfl
    clear hbad
    go_wp2_with fail
    go_ret
    exact ⟨rfl, HK1.out⟩
  have hn1 : 1 ≤ n := by omega
  have hn2 : n ≤ 4096 := by omega
  have HNW := Lib.hid (new_ok n w1 hn1 hn2)
  obtain ⟨m, hm⟩ : ∃ m, w1.heap.size = m := ⟨_, rfl⟩
  rw [hm] at HNW
  have HM := Lib.hid hm
  clear hbad hm
  refine HNW.out.mono ?_
  rintro e w2 ⟨rfl, hd2, hk2⟩
  obtain ⟨d, hd⟩ : ∃ d, m + 1 = d := ⟨_, rfl⟩
  rw [hd] at hd2 ⊢
  have HD2 := Lib.hid hd2
  have HK2 := Lib.hid hk2
  have HDM := Lib.hid hd
  clear hd2 hk2 hd HNW
  obtain ⟨g, hg⟩ : ∃ g, w2.heap.size = g := ⟨_, rfl⟩
  have HG := Lib.hid hg
  obtain ⟨w3, hw3⟩ : ∃ w3, w2.alloc (.cells Z 5) = w3 := ⟨_, rfl⟩
  have hr3 : w3.heap[g]? = some (.cells (bvA zeroL) 5) := by rw [← hw3, ← hg, ← HZ.out]; exact heap_alloc_last _ _
  have hk3 : Kept [] w2 w3 := by rw [← hw3]; exact Kept.alloc _ _ _
  obtain ⟨rr, w4, L, hcp, H4⟩ := copy64 (HB.out.kept (HK1.out.trans (HK2.out.trans hk3))) hr3
  have HK3 := Lib.hid hk3
  clear hr3 hk3
  have HWR := Lib.hid (write_any d (DiskS.new n m) 1 (.slice (some ⟨g, 0, none⟩) 64 64) L w4 ((HD2.out.kept HK3.out (by simp) (by simp)).kept H4.out.2.2 (by have := HD2.out.lt; have := HG.out; simp; omega) (by have := HD2.out.map.lt; have := HG.out; simp; omega)) (by show (0 : Int) < _; omega) (SlIs.row H4.out.2.1 64 64 H4.out.1) (fun b o n c e => by
    injection e with e
    injection e with e
    injection e with e
    have := HD2.out.lt
    have := HG.out
    omega))
  have HSW := Lib.hid (wr_new n m L H4.out.1)
  obtain ⟨cw, hcw⟩ : ∃ cw, ((DiskS.new n m).wr 1 L).1 = cw := ⟨_, rfl⟩
  obtain ⟨SW, hSW⟩ : ∃ SW, ((DiskS.new n m).wr 1 L).2 = SW := ⟨_, rfl⟩
  have HWW : Hid ((DiskS.new n m).wr 1 L = (cw, SW)) := Prod.ext hcw hSW
  rw [hcw, hSW] at HWR
  rw [hSW] at HSW
  clear hcw hSW
  have hm4 : (m : Nat) = (DiskS.new n m).m := rfl
  by_cases h512 : n < 512
  · have h512' : decide ((512 : Int) ≤ n) = false := by simp; omega
    have HI := Lib.hid (And.intro h512 hn2)
    clear hn1 hn2 h512 hn
    go_wp2_with (at_builtin; refine wpList_copy_run rfl _ _ _ _ rfl _ _ _ rfl rfl hcp ?_)
    refine HWR.out.mono ?_
    rintro e w5 ⟨rfl, hd5, hk5⟩
    have HD5 : Hid (IsDisk w5 d SW) := hd5
    have HK5 : Hid (Kept [] w w5) := by
      have h1 := HK1.out.trans (HK2.out.trans HK3.out)
      refine (h1.into H4.out.2.2 ?_).into hk5 ?_
      · have := HG.out; have := HK2.out.size; have := HK1.out.size; simp; omega
      · have := HM.out; have := HDM.out; have := HK1.out.size; simp [DiskS.new]; omega
    clear hd5 hk5 HWR
    have HO5 := Lib.hid (fun w' (hk : Kept [] w5 w') => bOpen_small d SW w' (HD5.out.kept hk (by simp) (by simp)) (by have := HSW.out.1; have := HI.out.1; omega))
    go_wp2_with fail
    refine (HO5.out w5 (Kept.refl _ _)).mono ?_
    rintro e w6 ⟨rfl, hk6⟩
    have HK6 := Lib.hid hk6
    clear hk6
    go_wp2_with fail
    refine (bFormat_small d SW w6 (HD5.out.kept HK6.out (by simp) (by simp)) (by have := HSW.out.1; have := HI.out.1; omega)).mono ?_
    rintro e w7 ⟨rfl, hk7⟩
    have HK7 := Lib.hid (HK6.out.trans hk7)
    clear hk7
    go_wp2_with fail
    refine (HO5.out w7 HK7.out).mono ?_
    rintro e w8 ⟨rfl, hk8⟩
    have HK8 := Lib.hid hk8
    clear hk8
    go_wp2_with fail
    go_ret
    exact ⟨rfl, HK5.out.trans (HK7.out.trans HK8.out)⟩
  · obtain ⟨N, rfl⟩ : ∃ N : Nat, n = N := ⟨n.toNat, by omega⟩
    obtain ⟨q, hq⟩ : ∃ q, (N + 511) / 512 = q := ⟨_, rfl⟩
    have hok : SizeOk N q := ⟨by omega, by omega, by omega, by omega⟩
    have hsw := HSW.out.2.2 (by omega)
    have hww := HWW.out
    rw [hww] at hsw
    injection hsw with hcw hsw
    subst hcw
    have HSV : Hid (SW.size = N ∧ SW.m = m ∧ SW.off = false ∧ SW.fused = false ∧ SW.writes = 1 ∧ SW.blk 1 = L ∧ SW.blk 0 = zeroL ∧ SW.blk 2 = zeroL) := by
      subst hsw
      exact ⟨rfl, rfl, rfl, rfl, rfl, rfl, rfl, rfl⟩
    have HOK : Hid (SizeOk N q ∧ q = (N + 511) / 512) := ⟨hok, hq.symm⟩
    have h512' : decide ((512 : Int) ≤ (N : Int)) = true := by simp; omega
    clear hn1 hn2 h512 hn hq hok hsw hww
    go_wp2_with (at_builtin; refine wpList_copy_run rfl _ _ _ _ rfl _ _ _ rfl rfl hcp ?_)
    refine HWR.out.mono ?_
    rintro e w5 ⟨rfl, hd5, hk5⟩
    have HD5 : Hid (Live w5 d SW) := ⟨hd5, HSV.out.2.2.1, HSV.out.2.2.2.1⟩
    have HS5 : Hid (w.heap.size ≤ m ∧ m + 1 = d ∧ d < g ∧ d < w5.heap.size) := by
      have := HM.out; have := HDM.out; have := HK1.out.size; have := HD2.out.lt; have := HG.out; have := hd5.lt
      refine ⟨?_, ?_, ?_, ?_⟩ <;> omega
    have HK5 : Hid (Kept [] w w5 ∧ w5.heap[g]? = some (.cells (bvA L) 5)) := by
      have h1 := HK1.out.trans (HK2.out.trans HK3.out)
      refine ⟨(h1.into H4.out.2.2 ?_).into hk5 ?_, hk5.heap ?_ H4.out.2.1⟩
      · have := HG.out; have := HK2.out.size; have := HK1.out.size; simp; omega
      · have := HM.out; have := HDM.out; have := HK1.out.size; simp [DiskS.new]; omega
      · have := HS5.out; simp [DiskS.new]; omega
    clear hd5 hk5 HWR
    have HO5 := Lib.hid (bOpen_any d N q SW w5 HD5.out HSV.out.1 HOK.out.1 HOK.out.2 (by rw [HSV.out.2.2.2.2.1]; omega) (.inl (by rw [HSV.out.2.2.2.2.2.2.1]; exact super_ne N)))
    go_wp2_with fail
    refine HO5.out.mono ?_
    rintro e w6 ⟨hk6, ⟨_, rfl⟩ | ⟨f, j, a, ao, cap, rfl, H3⟩⟩
    case inr =>
      exfalso
      obtain ⟨base, hfs, _⟩ := H3.out
      have := hfs.jl.ready
      exact head_ne _ _ (HSV.out.2.2.2.2.2.2.2.symm.trans this)
    have HK6 := Lib.hid hk6
    clear hk6 HO5
    have HF6 := Lib.hid (bFormat_any d N q SW w6 (HD5.out.kept HK6.out (by simp) (by simp)) HSV.out.1 HOK.out.1 HOK.out.2 (by rw [HSV.out.2.2.2.2.1]; omega))
    go_wp2_with fail
    refine HF6.out.mono ?_
    rintro e w7 ⟨rfl, S7, hl7, hm7, hf7, hw7, hb7, hk7⟩
    have H7 : Hid (Live w7 d S7 ∧ S7.m = m ∧ Formatted N q S7 ∧ S7.writes ≤ 1000 ∧ S7.blk 1 = L ∧ Kept [d, m] w6 w7) := ⟨hl7, hm7.trans HSV.out.2.1, hf7, by rw [HSV.out.2.2.2.2.1] at hw7; omega, by rw [hb7, HSV.out.2.2.2.2.2.1], by rw [← HSV.out.2.1]; exact hk7⟩
    clear hl7 hm7 hf7 hw7 hb7 hk7 HF6
    have HO7 := Lib.hid (bOpen_any d N q S7 w7 H7.out.1 H7.out.2.2.1.size HOK.out.1 HOK.out.2 (by have := H7.out.2.2.2.1; omega) (.inr H7.out.2.2.1))
    go_wp2_with fail
    refine HO7.out.mono ?_
    rintro e w8 ⟨hk8, ⟨hne, _⟩ | ⟨f, j, a, ao, cap, rfl, H8⟩⟩
    · exact absurd H7.out.2.2.1.super hne
    have HF8 : Hid (FsAt w8 f d j m N q 0 1000 L [] rootP ∧ w7.heap.size ≤ f ∧ w7.heap.size ≤ j) := by
      obtain ⟨base, hfs, hb, hfl, hjl⟩ := H8.out
      obtain ⟨_, e1, _, e2, e3, _⟩ := H7.out
      exact ⟨⟨base, S7, _, hfs, e1, e2, e3, rootT_core a ao cap, fun b hb => by cases hb⟩, hfl, hjl⟩
    have HK8 := Lib.hid hk8
    clear hk8 HO7 H8
    go_wp2_with fail
    obtain ⟨x, hx⟩ : ∃ x, w8.heap.size = x := ⟨_, rfl⟩
    obtain ⟨w9, hw9⟩ : ∃ w9, w8.alloc (.cells #[.int .i64 2, .string ⟨#[47, 120]⟩, .int .i64 1, .slice none 0 0] 35) = w9 := ⟨_, rfl⟩
    rw [hx, hw9]
    have hk9 : Kept [] w8 w9 := by rw [← hw9]; exact Kept.alloc _ _ _
    have hr9 : w9.heap[x]? = some (.cells #[.int .i64 2, .string (strL [47, 120]), .int .i64 1, .slice none 0 0] 35) := by rw [← hw9, ← hx]; exact heap_alloc_last _ _
    have HD := Lib.hid (fsat_do f d j m N q 0 1000 L [] rootP w9 (HF8.out.1.kept hk9) _ 1 1 _ _ (edarg1 (B := []) hr9 (argB_nil w9) (by decide)) (by omega) (by omega))
    have HK9 := Lib.hid hk9
    clear hw9 hx hk9 hr9
    refine HD.out.mono ?_
    rintro e w10 ⟨rfl, ⟨⟨g', h10, _⟩, hk10⟩⟩
    rw [(do_x N q HOK.out.1).1]
    have H10 := Lib.hid (And.intro h10 hk10)
    clear h10 hk10 HD
    obtain ⟨base, S, t, hfs, hm10, _, hb10, _⟩ := H10.out.1
    have HRD := Lib.hid (read_ok d S 1 w10 hfs.jl.live.disk (reach_in (by omega) (by rw [hfs.size]; have := HOK.out.1.lo; omega) hfs.jl.live.off))
    rw [hb10] at HRD
    clear hfs hm10 hb10
    go_wp2_with fail
    refine HRD.out.mono ?_
    rintro e w11 ⟨rfl, hw11⟩
    have hk11 : Kept [] w10 w11 := by rw [hw11]; exact Kept.alloc _ _ _
    have hr11 : w11.heap[w10.heap.size]? = some (.cells (bvA L) 73) := by rw [hw11]; exact heap_alloc_last _ _
    have hg11 : w11.heap[g]? = some (.cells (bvA L) 5) := by
      have h6 := HK6.out.heap (by simp) HK5.out.2
      have h7 := H7.out.2.2.2.2.2.heap (by have := HS5.out; simp; omega) h6
      have h9 := (HK8.out.trans HK9.out).heap (by simp) h7
      refine hk11.heap (by simp) (H10.out.2.heap ?_ h9)
      have h1 := HF8.out.2
      have h2 := (Array.getElem?_eq_some_iff.1 h7).1
      have h3 := HS5.out
      simp
      omega
    have cv1 : (convert 22 9 (.slice (some ⟨w10.heap.size, 0, none⟩) 64 64)).run Tryz.prog w11 = .ok (.string (strL L)) w11 := (SlIs.row hr11 64 64 H4.out.1).conv
    have cv2 : (convert 22 9 (.slice (some ⟨g, 0, none⟩) 64 64)).run Tryz.prog w11 = .ok (.string (strL L)) w11 := (SlIs.row hg11 64 64 H4.out.1).conv
    have HC11 := Lib.hid (fsat_count f d j m N q _ _ L [] _ w11 (H10.out.1.kept hk11))
    rw [(do_x N q HOK.out.1).2] at HC11
    have HKF : Hid (Kept [] w w11) := by
      have h5 := HK5.out.1.trans HK6.out
      have h7 := h5.into H7.out.2.2.2.2.2 (by have := HS5.out; simp; omega)
      have h9 := h7.trans (HK8.out.trans HK9.out)
      have h10 := h9.into H10.out.2 (by have := HS5.out; have := HF8.out.2; have := h7.size; simp; omega)
      exact h10.trans hk11
    clear hw11 hk11 hr11 hg11
    go_wp2_with fail
    refine HC11.out.mono ?_
    rintro e w12 ⟨rfl, hk12⟩
    have HK12 := Lib.hid hk12
    clear hk12 HC11
    go_wp2_with fail
    go_ret
    exact ⟨rfl, HKF.out.trans HK12.out⟩
end Go.Proofs.YtiedoocgbajjjaaGreatDoor

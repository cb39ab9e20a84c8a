/-
  The walk of the statement that with a fuse just so many of the writes that come are done, and those that come behind change nothing.
  Conditions: none.
-/
import Derived.Test.YthhcopipamjelaaShown
import Derived.Test.YthhcopipamjelaaBytesArg
import Derived.Deep.LoopGhost
namespace Go.Proofs.Ythhcopipamjelaa
open Go.RowKit Go.Maps

/-- What holds at every round's head: n writes may be done; k have come. -/
structure FuseRel (w : World) (a m h n k : Nat) (want : List UInt8) (S : DiskS) (wr : World) : Prop where
  disk : IsDisk wr a S
  size : S.size = 16
  map : S.m = m
  before : k ≤ n → S.off = false ∧ S.fused = true ∧ S.left = n - k ∧ S.writes = k
  behind : n < k → S.off = true ∧ S.writes = n
  len : want.length = 16
  here : wr.heap[h]? = some (.cells (bvA want) 5)
  holds : ∀ j (hj : j < want.length), S.blk j = fullL want[j]
  kept : Kept [] w wr
  wa : w.heap.size ≤ a
  wm : w.heap.size ≤ m
  wh : w.heap.size ≤ h

theorem FuseRel.grow {w : World} {a m h n k : Nat} {want : List UInt8} {S : DiskS} {wr wq : World} (R : FuseRel w a m h n k want S wr) (hk : Kept [] wr wq) : FuseRel w a m h n k want S wq :=
  ⟨R.disk.kept hk (by simp) (by simp), R.size, R.map, R.before, R.behind, R.len, hk.heap (by simp) R.here, R.holds, R.kept.trans hk, R.wa, R.wm, R.wh⟩

/-- A write that comes while the fuse lasts. -/
theorem FuseRel.wr_in {w : World} {a m h n k : Nat} {want : List UInt8} {S : DiskS} {wr : World} (R : FuseRel w a m h n k want S wr) (hk : k < n) (p : Nat) (hp : p < 16) (c : UInt8) :
    (S.wr p (fullL c)).1 = 0 ∧ (S.wr p (fullL c)).2 = { S with left := S.left - 1, blk := updL S.blk p (fullL c), writes := S.writes + 1 } := by
  obtain ⟨h1, h2, h3, h4⟩ := R.before (by omega)
  have hr : S.reach p = 0 := by
    unfold DiskS.reach
    rw [h1, R.size]
    simp; omega
  have hb : S.burn = (true, { S with left := S.left - 1 }) := by
    unfold DiskS.burn
    rw [h2, if_pos rfl, if_neg (by omega)]
  unfold DiskS.wr
  rw [if_pos hr, if_pos (fullL_length c), hb]
  exact ⟨rfl, rfl⟩

/-- The write that burns it. -/
theorem FuseRel.wr_at {w : World} {a m h n k : Nat} {want : List UInt8} {S : DiskS} {wr : World} (R : FuseRel w a m h n k want S wr) (hk : k = n) (p : Nat) (hp : p < 16) (c : UInt8) :
    (S.wr p (fullL c)).1 = 2 ∧ (S.wr p (fullL c)).2 = { S with off := true, fused := false, left := 0 } := by
  obtain ⟨h1, h2, h3, h4⟩ := R.before (by omega)
  have hr : S.reach p = 0 := by
    unfold DiskS.reach
    rw [h1, R.size]
    simp; omega
  have hb : S.burn = (false, { S with off := true, fused := false, left := 0 }) := by
    unfold DiskS.burn
    rw [h2, if_pos rfl, if_pos (by omega)]
  unfold DiskS.wr
  rw [if_pos hr, if_pos (fullL_length c), hb]
  exact ⟨rfl, rfl⟩

/-- A write behind it. -/
theorem FuseRel.wr_behind {w : World} {a m h n k : Nat} {want : List UInt8} {S : DiskS} {wr : World} (R : FuseRel w a m h n k want S wr) (hk : n < k) (p : Nat) (c : UInt8) :
    (S.wr p (fullL c)).1 = 2 ∧ (S.wr p (fullL c)).2 = S := by
  have hr : S.reach p = 2 := by unfold DiskS.reach; rw [(R.behind hk).1]; rfl
  unfold DiskS.wr
  rw [hr, if_neg (by omega)]
  exact ⟨rfl, rfl⟩

theorem FuseRel.wr_out {w : World} {a m h n k : Nat} {want : List UInt8} {S : DiskS} {wr : World} (R : FuseRel w a m h n k want S wr) (hk : n ≤ k) (p : Nat) (hp : p < 16) (c : UInt8) : (S.wr p (fullL c)).1 = 2 := by
  by_cases e : k = n
  · exact (R.wr_at e p hp c).1
  · exact (R.wr_behind (by omega) p c).1

theorem FuseRel.next_in {w : World} {a m h n k : Nat} {want : List UInt8} {S : DiskS} {wr w3 : World} (R : FuseRel w a m h n k want S wr) (hkn : k < n) (p : Nat) (hp : p < 16) (c : UInt8) (hma : m ≠ h) (haa : a ≠ h)
    (hd : IsDisk w3 a (S.wr p (fullL c)).2) (hk : Kept [a, S.m] wr w3) :
    FuseRel w a m h n (k + 1) (want.set p c) (S.wr p (fullL c)).2 (w3.setCell ⟨h, p, none⟩ (.int .u8 (c.toNat : Int))) := by
  have e := (R.wr_in hkn p hp c).2
  obtain ⟨h1, h2, h3, h4⟩ := R.before (by omega)
  have hh : w3.heap[h]? = some (.cells (bvA want) 5) := hk.heap (by rw [R.map]; simp; exact ⟨fun e => haa e.symm, fun e => hma e.symm⟩) R.here
  have ks : Kept [h] w3 (w3.setCell ⟨h, p, none⟩ (.int .u8 (c.toNat : Int))) := Kept.setCell _ _ _ _ (by simp)
  rw [e] at hd ⊢
  refine ⟨hd.kept ks (by simpa using haa) (by simpa [R.map] using hma), R.size, R.map, fun _ => ⟨h1, h2, ?_, ?_⟩, fun h => absurd h (by omega), by simpa using R.len, ?_, fun j hj => ?_, ?_, R.wa, R.wm, R.wh⟩
  · show S.left - 1 = _
    rw [h3]; omega
  · show S.writes + 1 = _
    rw [h4]; omega
  · rw [heap_setCell_same w3 h p _ _ _ hh, bvA_set]
  · show updL S.blk p (fullL c) j = _
    unfold updL
    by_cases e2 : j = p
    · subst e2
      simp
    · have : ¬ ((j : Int) = (p : Int)) := by omega
      rw [if_neg this, R.holds j (by simpa using hj)]
      rw [List.getElem_set_ne (fun e => e2 e.symm)]
  · refine (R.kept.into hk ?_).into ks (by simpa using R.wh)
    rw [R.map]; simp; exact ⟨R.wa, R.wm⟩

theorem FuseRel.next_out {w : World} {a m h n k : Nat} {want : List UInt8} {S : DiskS} {wr w3 : World} (R : FuseRel w a m h n k want S wr) (hkn : n ≤ k) (p : Nat) (hp : p < 16) (c : UInt8) (hma : m ≠ h) (haa : a ≠ h)
    (hd : IsDisk w3 a (S.wr p (fullL c)).2) (hk : Kept [a, S.m] wr w3) : FuseRel w a m h n (k + 1) want (S.wr p (fullL c)).2 w3 ∧ (S.wr p (fullL c)).1 = 2 ∧ (S.wr p (fullL c)).2.off = true := by
  have hh : w3.heap[h]? = some (.cells (bvA want) 5) := hk.heap (by rw [R.map]; simp; exact ⟨fun e => haa e.symm, fun e => hma e.symm⟩) R.here
  have hkk : Kept [] w w3 := R.kept.into hk (by rw [R.map]; simp; exact ⟨R.wa, R.wm⟩)
  by_cases e : k = n
  · obtain ⟨e1, e2⟩ := R.wr_at e p hp c
    obtain ⟨h1, h2, h3, h4⟩ := R.before (by omega)
    rw [e2] at hd ⊢
    exact ⟨⟨hd, R.size, R.map, fun h => absurd h (by omega), fun _ => ⟨rfl, by show S.writes = _; rw [h4]; omega⟩, R.len, hh, R.holds, hkk, R.wa, R.wm, R.wh⟩, e1, rfl⟩
  · obtain ⟨e1, e2⟩ := R.wr_behind (by omega) p c
    rw [e2] at hd ⊢
    exact ⟨⟨hd, R.size, R.map, fun h => absurd h (by omega), fun _ => R.behind (by omega), R.len, hh, R.holds, hkk, R.wa, R.wm, R.wh⟩, e1, (R.behind (by omega)).1⟩

/-- What holds once the power is on again. -/
structure DoneRel (w : World) (a h : Nat) (want : List UInt8) (S : DiskS) (wr : World) : Prop where
  disk : IsDisk wr a S
  off : S.off = false
  size : S.size = 16
  len : want.length = 16
  here : wr.heap[h]? = some (.cells (bvA want) 5)
  holds : ∀ j (hj : j < want.length), S.blk j = fullL want[j]
  kept : Kept [] w wr

theorem DoneRel.grow {w : World} {a h : Nat} {want : List UInt8} {S : DiskS} {wr wq : World} (R : DoneRel w a h want S wr) (hk : Kept [] wr wq) : DoneRel w a h want S wq :=
  ⟨R.disk.kept hk (by simp) (by simp), R.off, R.size, R.len, hk.heap (by simp) R.here, R.holds, R.kept.trans hk⟩
theorem DoneRel.reach {w : World} {a h : Nat} {want : List UInt8} {S : DiskS} {wr : World} (R : DoneRel w a h want S wr) (q : Nat) (hq : q < 16) : S.reach q = 0 := by
  unfold DiskS.reach
  rw [R.off, R.size]
  simp; omega
theorem FuseRel.done {w : World} {a m h n k : Nat} {want : List UInt8} {S : DiskS} {wr wq : World} (R : FuseRel w a m h n k want S wr) (haa : a ≠ h) (hd : IsDisk wq a S.boot) (hk : Kept [a] wr wq) : DoneRel w a h want S.boot wq :=
  ⟨hd, rfl, R.size, R.len, hk.heap (by simpa using haa.symm) R.here, R.holds, R.kept.into hk (by simpa using R.wa)⟩

set_option maxHeartbeats 4000000 in
set_option maxRecDepth 100000 in
theorem fuses_walk (ao : Option Addr) (b o cap : Nat) (l : List UInt8) (fz : Int) (w : World) (hao : 0 < l.length → ao = some ⟨b, o, none⟩) (hb : 0 < l.length → b < w.heap.size) (hc : 0 < l.length → w.rangeAt b o (bv l)) (hz0 : -9223372036854775808 ≤ fz) (hz1 : fz ≤ 9223372036854775807) (hl : l.length ≤ 9223372036854775807) :
    Calls Try.prog 4 #[.slice ao l.length cap, .int .i64 fz] w fun e w' => e = .returned (.bool true) ∧ Kept [] w w' := by
  have HC := Lib.hid hc
  have HAO := Lib.hid hao
  have HBB := Lib.hid hb
  clear hc hao hb
  obtain ⟨n, hn⟩ : ∃ n : Nat, kindF fz 20 = n := ⟨(kindF fz 20).toNat, by have := kindF_range fz 20 (by omega); omega⟩
  have hn20 : n < 20 := by have := kindF_range fz 20 (by omega); omega
  have HN := Lib.hid hn
  clear hn
  go_enter Try.func4, Try.ntmps4
  go_wp2_with fail
  refine (shown_true w).mono ?_
  rintro e w1 ⟨rfl, hk1⟩
  have HK1 := Lib.hid hk1
  clear hk1
  go_wp2_with fail
  refine (new_ok 16 _ (by omega) (by omega)).mono ?_
  rintro e w2 ⟨rfl, hd2, hk2⟩
  obtain ⟨a, ha⟩ : ∃ a, a = w1.heap.size + 1 := ⟨_, rfl⟩
  obtain ⟨m, hm⟩ : ∃ m, m = w1.heap.size := ⟨_, rfl⟩
  rw [← ha, ← hm] at hd2
  rw [← ha]
  have HA := Lib.hid ha
  have HM := Lib.hid hm
  have HD2 := Lib.hid hd2
  have HK2 := Lib.hid hk2
  clear hd2 hk2 ha hm
  go_wp2_with fail
  refine (kind_any fz 20 _ (by omega) (by omega) (by omega) (by omega)).mono ?_
  rw [HN.out]
  rintro e w3 ⟨rfl, rfl⟩
  go_wp2_with fail
  refine (fuse_any a _ n _ HD2.out (by omega)).mono ?_
  rintro e w3 ⟨rfl, hd3, hk3⟩
  have hmk := run_make_bytes (P := Try.prog) w3 36 5 Try.underlying36 infoByte 16 (by omega) (by omega)
  have HD3 := Lib.hid hd3
  have HK3 := Lib.hid hk3
  clear hd3 hk3
  go_wp2_with fail
  clear hmk
  obtain ⟨bh, hh⟩ : ∃ bh, bh = w3.heap.size := ⟨_, rfl⟩
  rw [← hh]
  have hma : m ≠ bh := by have := HM.out; have := HA.out; have := HK2.out.size; have := HK3.out.size; have := HD2.out.lt; omega
  have haa : a ≠ bh := by have := HM.out; have := HA.out; have := HK2.out.size; have := HK3.out.size; have := HD2.out.lt; omega
  have R0 : Hid (FuseRel w a m bh n 0 (zerosL 16) (DiskS.fuse (DiskS.new 16 m) n) (w3.alloc (.cells (bvA (zerosL 16)) 5))) := by
    have e1 : DiskS.fuse (DiskS.new 16 m) n = ⟨16, m, false, true, n, 0, fun _ => zeroL⟩ := by unfold DiskS.fuse DiskS.new; simp
    have hk : Kept [] w3 (w3.alloc (.cells (bvA (zerosL 16)) 5)) := Kept.alloc _ _ _
    have hd := HD3.out
    rw [e1] at hd ⊢
    have s1 := HK1.out.size
    have s2 := HK2.out.size
    have s3 := HK3.out.size
    have ea := HA.out
    have em := HM.out
    refine ⟨hd.kept hk (by simp) (by simp), rfl, rfl, fun _ => ⟨rfl, rfl, by simp, rfl⟩, fun h => absurd h (by omega), zerosL_length _, ?_, fun j hj => ?_, ((HK1.out.trans HK2.out).into HK3.out (by simp; omega)).trans hk, by omega, by omega, by omega⟩
    · rw [hh]; exact heap_alloc_last _ _
    · have e : ∀ (n i : Nat) (hi : i < (zerosL n).length), (zerosL n)[i] = 0 := fun n i hi => by simp [zerosL]
      rw [e]; rfl
  have HH := Lib.hid hh
  clear hh
  go_loopw [10] (fun i wr => ∃ (k : Nat) (want : List UInt8) (S : DiskS), k ≤ l.length ∧ k ≤ 40 ∧ i = .int .i64 k ∧ FuseRel w a m bh n k want S wr) (fun i _ => 40 - (intOf i).toNat)
  case atStart => exact ⟨0, _, _, by omega, by omega, rfl, R0.out⟩
  case round =>
    obtain ⟨k, want, S, hkl, hk40, rfl, HR⟩ := hrel
    by_cases hin : k < l.length ∧ k < 40
    · obtain ⟨h1, h2⟩ := hin
      obtain rfl : ao = some ⟨b, o, none⟩ := HAO.out (by omega)
      have hb : b < w.heap.size := HBB.out (by omega)
      · obtain ⟨c, hcx⟩ : ∃ c, c = l[k] := ⟨_, rfl⟩
        have hp : wr.cell? ⟨b, o + k, none⟩ = some (.int .u8 (c.toNat : Int)) := by
          rw [HR.kept.cell (p := ⟨b, o + k, none⟩) hb (by simp)]; exact HC.out (by omega) k _ (by simp [bv, hcx, h1])
        clear hcx
        obtain ⟨p, hpm⟩ : ∃ p : Nat, (k : Int) % 16 = p := ⟨k % 16, by omega⟩
        have hp16 : p < 16 := by omega
        have HPM := Lib.hid hpm
        clear hpm
        go_wp2_with fail
        refine (full_any c _).mono ?_
        rintro e w4 ⟨rfl, rfl⟩
        go_wp2_with fail
        rw [HPM.out]
        refine (write_new a S p (fullL c) 64 _ _ HR.disk (by by_cases e : k ≤ n; (have := (HR.before e).2.2.2; omega); (have := (HR.behind (by omega)).2; omega)) (fullL_length _)).mono ?_
        by_cases hkn : k < n
        · rw [(HR.wr_in hkn p hp16 c).1]
          rintro e w4 ⟨rfl, hd4, hk4⟩
          have hon : (S.wr p (fullL c)).2.off = false := by rw [(HR.wr_in hkn p hp16 c).2]; exact (HR.before (by omega)).1
          have hh4 : w4.heap[bh]? = some (.cells (bvA want) 5) := hk4.heap (by rw [HR.map]; simp; exact ⟨fun e => haa e.symm, fun e => hma e.symm⟩) HR.here
          have HNX := Lib.hid (HR.next_in hkn p hp16 c hma haa hd4 hk4)
          have hc4 : w4.cell? ⟨bh, p, none⟩ = some (.int .u8 ((want[p]'(by rw [HR.len]; exact hp16)).toNat : Int)) := by
            rw [cell_of_row w4 bh p _ _ _ hh4]; simp [bvA, bv, HR.len, hp16]
          have hf4 : w4.frozen? ⟨bh, p, none⟩ = false := frozen_of_row w4 bh p _ _ hh4
          have hp4 : w4.cell? ⟨b, o + k, none⟩ = some (.int .u8 (c.toNat : Int)) := by
            have := HR.wa
            have := HR.wm
            rw [hk4.cell (p := ⟨b, o + k, none⟩) (by have := HR.kept.size; show b < _; omega) (by rw [HR.map]; simp; omega)]; exact hp
          have HD4 := Lib.hid hd4
          have HON := Lib.hid hon
          clear hd4 hk4 hh4 hp hon
          go_wp2_with fail
          refine (on_any a _ _ HD4.out).mono ?_
          rw [HON.out]
          rintro e w5 ⟨rfl, rfl⟩
          have hpm := HPM.out
          go_wp2_with fail
          go_roundw
          case rel => exact ⟨k + 1, _, _, by omega, by omega, by go_num, HNX.out⟩
          case measure => simp [intOf]; omega
        · rw [HR.wr_out (by omega) p hp16 c]
          rintro e w4 ⟨rfl, hd4, hk4⟩
          obtain ⟨HX, _, hoff⟩ := HR.next_out (by omega) p hp16 c hma haa hd4 hk4
          have HD4 := Lib.hid hd4
          have HON := Lib.hid hoff
          have HNX := Lib.hid HX
          clear hd4 hk4 HX hoff
          go_wp2_with fail
          refine (on_any a _ _ HD4.out).mono ?_
          rw [HON.out]
          rintro e w5 ⟨rfl, rfl⟩
          go_wp2_with fail
          go_roundw
          case rel => exact ⟨k + 1, _, _, by omega, by omega, by go_num, HNX.out⟩
          case measure => simp [intOf]; omega
    · by_cases hkn : k ≤ n
      · obtain rfl : k = l.length := by omega
        obtain ⟨b1, b2, b3, b4⟩ := HR.before hkn
        have hr0 : S.reach 0 = 0 := by unfold DiskS.reach; rw [b1, HR.size]; rfl
        have HR0 := Lib.hid hr0
        have HB1 := Lib.hid b1
        have HB4 := Lib.hid b4
        clear b1 b2 b3 b4 hr0
        rcases Nat.lt_or_ge l.length n with hln | hln
        all_goals
          go_wp2_with fail
          refine (read_ok a S 0 _ HR.disk HR0.out).mono ?_
          rintro e w4 ⟨rfl, hw4⟩
          have HR4 := Lib.hid (HR.grow (wq := w4) (by rw [hw4]; exact Kept.alloc _ _ _))
          clear hw4
          go_wp2_with fail
          refine (on_any a _ _ HR4.out.disk).mono ?_
          rw [HB1.out]
          rintro e w5 ⟨rfl, rfl⟩
          go_wp2_with fail
          refine (writes_any a _ _ HR4.out.disk).mono ?_
          rw [HB4.out]
          rintro e w5 ⟨rfl, rfl⟩
          go_wp2_with fail
          refine (boot_any a _ _ HR4.out.disk).mono ?_
          rintro e w6 ⟨rfl, hd6, hk6⟩
          have HD6 := Lib.hid (HR4.out.done haa hd6 hk6)
          clear hd6 hk6
          generalize S.boot = S1 at *
          go_wp2_with fail
          go_loopw [14] (fun i wq => ∃ q : Nat, q ≤ 16 ∧ i = .int .i64 q ∧ DoneRel w a bh want S1 wq) (fun i _ => 16 - (intOf i).toNat)
          case atStart => exact ⟨0, by omega, rfl, HD6.out⟩
          case round =>
            obtain ⟨q, hq16, rfl, HQ⟩ := hrel
            by_cases hq : q < 16
            · have hql : q < want.length := by rw [HQ.len]; exact hq
              go_wp2_with fail
              refine (read_ok a S1 q _ HQ.disk (HQ.reach q hq)).mono ?_
              rw [HQ.holds q hql]
              obtain ⟨c, hc⟩ : ∃ c, want[q] = c := ⟨_, rfl⟩
              rw [hc]
              rintro e w7 ⟨rfl, hw7⟩
              have hk7 : Kept [] wr w7 := by rw [hw7]; exact Kept.alloc _ _ _
              have HQ7 := Lib.hid (HQ.grow hk7)
              have cvR : ∀ w', Kept [] w7.drew w' → (convert 36 9 (.slice (some ⟨wr.heap.size, 0, none⟩) 64 64)).run Try.prog w' = .ok (.string (strL (fullL c))) w' := fun w' hk =>
                conv_range w' wr.heap.size 0 64 (fullL c) 64 (fullL_length _) (((Kept.drew [] w7).trans hk).range (by rw [hw7]; simp) (by simp) (by rw [hw7]; exact range_new _ _ _))
              have cvC : ∀ w', Kept [] w7.drew w' → w'.cell? ⟨bh, q, none⟩ = some (.int .u8 (c.toNat : Int)) := fun w' hk => by
                rw [cell_of_row w' bh q _ _ _ ((HQ7.out.grow ((Kept.drew [] w7).trans hk)).here)]; simp [bvA, bv, hql, hc]
              have Hc := Lib.hid hc
              clear hc hw7 hk7
              go_wp2_with fail
              refine wp_region_grow (List.replicate 9 true ++ [false] ++ List.replicate 3 true) [] (by kernel_rfl) (fun _ _ d _ _ h => by cases d <;> exact h) (by kernel_rfl) rfl (by kernel_rfl) ?_
              simp only [List.replicate_succ, List.replicate_zero, List.cons_append, List.nil_append, List.zip_cons_cons, List.zip_nil_left]
              repeat (apply wpGrow_take; (case hw => rfl); (case hv => intro w' hk; go_simp; with_reducible rfl); simp only [Act.put, List.setIfInBounds_toArray, List.set_cons_zero, List.set_cons_succ])
              refine wpGrow_force (by rfl) (fun K hK => ?_)
              go_simp
              refine (full_any c _).mono ?_
              rintro e w8 ⟨rfl, hw8⟩
              have hk8 : Kept [] w7.drew w8 := by rw [hw8]; exact Kept.alloc _ _ _
              refine hK _ _ hk8 ?_
              clear hK K cvR cvC
              have cvF : ∀ w', Kept [] w8 w' → (convert 36 9 (.slice (some ⟨w7.heap.size, 0, none⟩) 64 64)).run Try.prog w' = .ok (.string (strL (fullL c))) w' := fun w' hk =>
                conv_range w' w7.heap.size 0 64 (fullL c) 64 (fullL_length _) (hk.range (by rw [hw8]; simp) (by simp) (by rw [hw8]; exact range_new w7.drew _ _))
              have HQ8 := Lib.hid (HQ7.out.grow ((Kept.drew [] w7).trans hk8))
              clear hw8 hk8
              repeat (apply wpGrow_take; (case hw => rfl); (case hv => intro w' hk; go_simp; with_reducible rfl); simp only [Act.put, List.setIfInBounds_toArray, List.set_cons_zero, List.set_cons_succ])
              refine wpGrow_nil ?_
              clear cvF
              go_wp2_with fail
              go_roundw
              case rel => exact ⟨q + 1, by omega, by go_num, HQ8.out⟩
              case measure => simp [intOf]; omega
            · obtain rfl : q = 16 := by omega
              go_wp2_with fail
              refine (on_any a _ _ HQ.disk).mono ?_
              rw [HQ.off]
              rintro e w7 ⟨rfl, rfl⟩
              go_wp2_with fail
              go_ret
              exact ⟨rfl, HQ.kept⟩
      · obtain ⟨b1, b2⟩ := HR.behind (by omega)
        have hr0 : (S.reach 0 != 0) = true := by unfold DiskS.reach; rw [b1]; rfl
        have hr2 : S.reach 0 = 2 := by unfold DiskS.reach; rw [b1]; rfl
        have HR0 := Lib.hid hr0
        have HR2 := Lib.hid hr2
        have HB1 := Lib.hid b1
        have HB4 := Lib.hid b2
        clear b1 b2 hr0 hr2
        rcases Nat.lt_or_ge k l.length with hln | hln
        all_goals
          go_wp2_with fail
          refine (read_away a S 0 _ HR.disk HR0.out).mono ?_
          rw [HR2.out]
          rintro e w4 ⟨rfl, rfl⟩
          have HR4 := Lib.hid HR
          go_wp2_with fail
          refine (on_any a _ _ HR4.out.disk).mono ?_
          rw [HB1.out]
          rintro e w5 ⟨rfl, rfl⟩
          go_wp2_with fail
          refine (writes_any a _ _ HR4.out.disk).mono ?_
          rw [HB4.out]
          rintro e w5 ⟨rfl, rfl⟩
          go_wp2_with fail
          refine (boot_any a _ _ HR4.out.disk).mono ?_
          rintro e w6 ⟨rfl, hd6, hk6⟩
          have HD6 := Lib.hid (HR4.out.done haa hd6 hk6)
          clear hd6 hk6
          generalize S.boot = S1 at *
          go_wp2_with fail
          go_loopw [14] (fun i wq => ∃ q : Nat, q ≤ 16 ∧ i = .int .i64 q ∧ DoneRel w a bh want S1 wq) (fun i _ => 16 - (intOf i).toNat)
          case atStart => exact ⟨0, by omega, rfl, HD6.out⟩
          case round =>
            obtain ⟨q, hq16, rfl, HQ⟩ := hrel
            by_cases hq : q < 16
            · have hql : q < want.length := by rw [HQ.len]; exact hq
              go_wp2_with fail
              refine (read_ok a S1 q _ HQ.disk (HQ.reach q hq)).mono ?_
              rw [HQ.holds q hql]
              obtain ⟨c, hc⟩ : ∃ c, want[q] = c := ⟨_, rfl⟩
              rw [hc]
              rintro e w7 ⟨rfl, hw7⟩
              have hk7 : Kept [] wr w7 := by rw [hw7]; exact Kept.alloc _ _ _
              have HQ7 := Lib.hid (HQ.grow hk7)
              have cvR : ∀ w', Kept [] w7.drew w' → (convert 36 9 (.slice (some ⟨wr.heap.size, 0, none⟩) 64 64)).run Try.prog w' = .ok (.string (strL (fullL c))) w' := fun w' hk =>
                conv_range w' wr.heap.size 0 64 (fullL c) 64 (fullL_length _) (((Kept.drew [] w7).trans hk).range (by rw [hw7]; simp) (by simp) (by rw [hw7]; exact range_new _ _ _))
              have cvC : ∀ w', Kept [] w7.drew w' → w'.cell? ⟨bh, q, none⟩ = some (.int .u8 (c.toNat : Int)) := fun w' hk => by
                rw [cell_of_row w' bh q _ _ _ ((HQ7.out.grow ((Kept.drew [] w7).trans hk)).here)]; simp [bvA, bv, hql, hc]
              have Hc := Lib.hid hc
              clear hc hw7 hk7
              go_wp2_with fail
              refine wp_region_grow (List.replicate 9 true ++ [false] ++ List.replicate 3 true) [] (by kernel_rfl) (fun _ _ d _ _ h => by cases d <;> exact h) (by kernel_rfl) rfl (by kernel_rfl) ?_
              simp only [List.replicate_succ, List.replicate_zero, List.cons_append, List.nil_append, List.zip_cons_cons, List.zip_nil_left]
              repeat (apply wpGrow_take; (case hw => rfl); (case hv => intro w' hk; go_simp; with_reducible rfl); simp only [Act.put, List.setIfInBounds_toArray, List.set_cons_zero, List.set_cons_succ])
              refine wpGrow_force (by rfl) (fun K hK => ?_)
              go_simp
              refine (full_any c _).mono ?_
              rintro e w8 ⟨rfl, hw8⟩
              have hk8 : Kept [] w7.drew w8 := by rw [hw8]; exact Kept.alloc _ _ _
              refine hK _ _ hk8 ?_
              clear hK K cvR cvC
              have cvF : ∀ w', Kept [] w8 w' → (convert 36 9 (.slice (some ⟨w7.heap.size, 0, none⟩) 64 64)).run Try.prog w' = .ok (.string (strL (fullL c))) w' := fun w' hk =>
                conv_range w' w7.heap.size 0 64 (fullL c) 64 (fullL_length _) (hk.range (by rw [hw8]; simp) (by simp) (by rw [hw8]; exact range_new w7.drew _ _))
              have HQ8 := Lib.hid (HQ7.out.grow ((Kept.drew [] w7).trans hk8))
              clear hw8 hk8
              repeat (apply wpGrow_take; (case hw => rfl); (case hv => intro w' hk; go_simp; with_reducible rfl); simp only [Act.put, List.setIfInBounds_toArray, List.set_cons_zero, List.set_cons_succ])
              refine wpGrow_nil ?_
              clear cvF
              go_wp2_with fail
              go_roundw
              case rel => exact ⟨q + 1, by omega, by go_num, HQ8.out⟩
              case measure => simp [intOf]; omega
            · obtain rfl : q = 16 := by omega
              go_wp2_with fail
              refine (on_any a _ _ HQ.disk).mono ?_
              rw [HQ.off]
              rintro e w7 ⟨rfl, rfl⟩
              go_wp2_with fail
              go_ret
              exact ⟨rfl, HQ.kept⟩

theorem fuses_any (ao : Option Addr) (len cap : Nat) (l : List UInt8) (fz : Int) (w : World) (h : BytesArg w ao len l) (hz0 : -9223372036854775808 ≤ fz) (hz1 : fz ≤ 9223372036854775807) :
    Calls Try.prog 4 #[.slice ao len cap, .int .i64 fz] w fun e w' => e = .returned (.bool true) ∧ Kept [] w w' := by
  obtain ⟨rfl, hl, h0 | ⟨b, o, rfl, hb, hc⟩⟩ := h
  · exact fuses_walk ao 0 0 cap l fz w (fun h => absurd h (by omega)) (fun h => absurd h (by omega)) (fun h => absurd h (by omega)) hz0 hz1 hl
  · exact fuses_walk _ b o cap l fz w (fun _ => rfl) (fun _ => hb) (fun _ => hc) hz0 hz1 hl

end Go.Proofs.Ythhcopipamjelaa

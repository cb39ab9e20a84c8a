/-
  What the calls of package disk do, each as one contract over the plain description of a disk (its size, its power, its fuse, its count of writes, what each block holds).
  Conditions: fewer than 2^62 writes so far; numbers are int's.
-/
import Derived.Test.YtmckapfncnoddaaRows
import Derived.Test.YtmckapfncnoddaaBase
namespace Go.Proofs.Ytmckapfncnoddaa
open Go.RowKit Go.Maps

theorem infoByte : (Try.prog.info? 5).map (fun i => (i.zero, i.size, i.bytes)) = some (some (.int .u8 0), 1, 1) := by kernel_rfl

/-- What a disk is. -/
structure DiskS where
  size : Int
  m : Nat
  off : Bool
  fused : Bool
  left : Int
  writes : Int
  blk : Int → List UInt8

def DiskS.cells (S : DiskS) : Array Value := #[.int .i64 S.size, .map (some S.m), .bool S.off, .bool S.fused, .int .i64 S.left, .int .i64 S.writes]

structure IsDisk (w : World) (a : Nat) (S : DiskS) : Prop where
  here : w.heap[a]? = some (.cells S.cells 67)
  map : BlkMap Try.prog 3 w S.m S.writes.toNat S.blk
  s0 : 0 ≤ S.size
  s1 : S.size ≤ 4096
  l0 : 0 ≤ S.left
  l1 : S.left ≤ 9223372036854775807
  w0 : 0 ≤ S.writes
  blk64 : ∀ i, (S.blk i).length = 64

theorem IsDisk.ne {w : World} {a : Nat} {S : DiskS} (h : IsDisk w a S) : S.m ≠ a := fun e => h.map.notCells (e ▸ h.here)
theorem IsDisk.lt {w : World} {a : Nat} {S : DiskS} (h : IsDisk w a S) : a < w.heap.size := (Array.getElem?_eq_some_iff.1 h.here).1
theorem IsDisk.kept {w w' : World} {a : Nat} {S : DiskS} (h : IsDisk w a S) {ex : List Nat} (hk : Kept ex w w') (ha : a ∉ ex) (hm : S.m ∉ ex) : IsDisk w' a S :=
  ⟨hk.heap ha h.here, h.map.kept hk hm, h.s0, h.s1, h.l0, h.l1, h.w0, h.blk64⟩

theorem IsDisk.cell {w : World} {a : Nat} {S : DiskS} (h : IsDisk w a S) (j : Nat) : w.cell? ⟨a, j, none⟩ = S.cells[j]? := cell_of_row w a j _ _ _ h.here
theorem IsDisk.free {w : World} {a : Nat} {S : DiskS} (h : IsDisk w a S) (j : Nat) : w.frozen? ⟨a, j, none⟩ = false := frozen_of_row w a j _ _ h.here

/-- A store into the struct. -/
theorem IsDisk.set {w : World} {a : Nat} {S : DiskS} (h : IsDisk w a S) (j : Nat) (v : Value) (S' : DiskS) (hc : S.cells.setIfInBounds j v = S'.cells) (hm : S'.m = S.m) (hb : S'.blk = S.blk)
    (hw : S.writes.toNat ≤ S'.writes.toNat) (s0 : 0 ≤ S'.size) (s1 : S'.size ≤ 4096) (l0 : 0 ≤ S'.left) (l1 : S'.left ≤ 9223372036854775807) (w0 : 0 ≤ S'.writes) :
    IsDisk (w.setCell ⟨a, j, none⟩ v) a S' := by
  refine ⟨?_, ?_, s0, s1, l0, l1, w0, by rw [hb]; exact h.blk64⟩
  · rw [heap_setCell_same w a j _ _ v h.here, hc]
  · rw [hm, hb]
    exact (h.map.mono hw).kept (Kept.setCell [a] w ⟨a, j, none⟩ v (by simp)) (by simpa using h.ne)

def DiskS.new (n : Int) (m : Nat) : DiskS := ⟨n, m, false, false, 0, 0, fun _ => zeroL⟩

theorem IsDisk.new (n : Int) (w : World) (h0 : 1 ≤ n) (h1 : n ≤ 4096) : IsDisk ((w.alloc (.map #[] 0)).alloc (.cells #[.int .i64 n, .map (some w.heap.size), .bool false, .bool false, .int .i64 0, .int .i64 0] 67)) (w.heap.size + 1) (DiskS.new n w.heap.size) := by
  refine ⟨?_, ?_, by simp [DiskS.new]; omega, h1, by simp [DiskS.new], by simp [DiskS.new], by simp [DiskS.new], fun i => fullL_length 0⟩
  · have := heap_alloc_last (w.alloc (.map #[] 0)) (.cells (DiskS.new n w.heap.size).cells 67)
    rw [show (w.alloc (.map #[] 0)).heap.size = w.heap.size + 1 by simp] at this
    exact this
  · exact (BlkMap.made _ _ w).kept (Kept.alloc [] _ _) (by simp)

set_option maxHeartbeats 400000 in
theorem new_ok (n : Int) (w : World) (h0 : 1 ≤ n) (h1 : n ≤ 4096) :
    Calls Try.prog 24 #[.int .i64 n] w fun e w' => e = .returned (.tuple #[.pointer (some ⟨w.heap.size + 1, 0, none⟩), .int .i64 0]) ∧ IsDisk w' (w.heap.size + 1) (DiskS.new n w.heap.size) ∧ Kept [] w w' := by
  have hmm := @run_makeMap Try.prog
  go_enter Try.func24, Try.ntmps24
  go_wp2
  go_ret2
  exact ⟨rfl, IsDisk.new n w h0 h1, (Kept.alloc _ _ _).trans (Kept.alloc _ _ _)⟩

set_option maxHeartbeats 400000 in
theorem new_bad (n : Int) (w : World) (h0 : n < 1 ∨ 4096 < n) :
    Calls Try.prog 24 #[.int .i64 n] w fun e w' => e = .returned (.tuple #[.pointer none, .int .i64 1]) ∧ w = w' := by
  rcases h0 with h | h
  · go_enter Try.func24, Try.ntmps24
    go_wp2
    go_ret2
    exact ⟨rfl, rfl⟩
  · have h' : ¬ n < 1 := by omega
    go_enter Try.func24, Try.ntmps24
    go_wp2
    go_ret2
    exact ⟨rfl, rfl⟩

def DiskS.reach (S : DiskS) (i : Int) : Int := if S.off then 2 else if i < 0 ∨ S.size ≤ i then 10 else 0

set_option maxHeartbeats 400000 in
theorem reach_any (a : Nat) (S : DiskS) (i : Int) (w : World) (h : IsDisk w a S) :
    Calls Try.prog 37 #[.pointer (some ⟨a, 0, none⟩), .int .i64 i] w fun e w' => e = .returned (.int .i64 (S.reach i)) ∧ w = w' := by
  have c0 : w.cell? ⟨a, 0, none⟩ = some (.int .i64 S.size) := h.cell 0
  have c2 : w.cell? ⟨a, 2, none⟩ = some (.bool S.off) := h.cell 2
  clear h
  obtain ⟨size, m, off, fused, left, writes, blk⟩ := S
  simp only at c0 c2
  unfold DiskS.reach
  go_enter Try.func37, Try.ntmps37
  cases off
  · by_cases h1 : i < 0
    · go_wp2
      go_ret
      exact ⟨by simp, rfl⟩
    · by_cases h2 : size ≤ i
      · go_wp2
        go_ret
        exact ⟨by simp, rfl⟩
      · go_wp2
        go_ret
        exact ⟨by simp, rfl⟩
  · go_wp2
    go_ret
    exact ⟨rfl, rfl⟩

def DiskS.unfused (S : DiskS) : DiskS := { S with fused := false, left := 0 }

set_option maxHeartbeats 400000 in
theorem unfuse_any (a : Nat) (S : DiskS) (w : World) (h : IsDisk w a S) :
    Calls Try.prog 36 #[.pointer (some ⟨a, 0, none⟩)] w fun e w' => e = .returned (.tuple #[]) ∧ IsDisk w' a S.unfused ∧ Kept [a] w w' := by
  have c3 : w.cell? ⟨a, 3, none⟩ = some (.bool S.fused) := h.cell 3
  have c4 : w.cell? ⟨a, 4, none⟩ = some (.int .i64 S.left) := h.cell 4
  have f3 := h.free 3
  have f4 := h.free 4
  have HF := Lib.hid h
  clear h
  go_enter Try.func36, Try.ntmps36
  go_wp2
  go_end0
  refine ⟨rfl, ?_, (Kept.setCell _ _ _ _ (by simp)).trans (Kept.setCell _ _ _ _ (by simp))⟩
  have h1 := HF.out
  exact (h1.set 3 _ { S with fused := false } rfl rfl rfl (Nat.le_refl _) h1.s0 h1.s1 h1.l0 h1.l1 h1.w0).set 4 _ S.unfused rfl rfl rfl (Nat.le_refl _) h1.s0 h1.s1 (by simp [DiskS.unfused]) (by simp [DiskS.unfused]) h1.w0

def DiskS.burn (S : DiskS) : Bool × DiskS :=
  if S.fused then if S.left = 0 then (false, { S with off := true, fused := false, left := 0 }) else (true, { S with left := S.left - 1 }) else (true, S)

set_option maxHeartbeats 400000 in
theorem burn_any (a : Nat) (S : DiskS) (w : World) (h : IsDisk w a S) :
    Calls Try.prog 50 #[.pointer (some ⟨a, 0, none⟩)] w fun e w' => e = .returned (.bool S.burn.1) ∧ IsDisk w' a S.burn.2 ∧ Kept [a] w w' := by
  have c2 : w.cell? ⟨a, 2, none⟩ = some (.bool S.off) := h.cell 2
  have c3 : w.cell? ⟨a, 3, none⟩ = some (.bool S.fused) := h.cell 3
  have c4 : w.cell? ⟨a, 4, none⟩ = some (.int .i64 S.left) := h.cell 4
  have f2 := h.free 2
  have f4 := h.free 4
  have l0 := h.l0
  have l1 := h.l1
  have HF := Lib.hid h
  clear h
  obtain ⟨size, m, off, fused, left, writes, blk⟩ := S
  simp only at c2 c3 c4 l0 l1
  cases fused
  · have hb : Hid (DiskS.burn ⟨size, m, off, false, left, writes, blk⟩ = (true, ⟨size, m, off, false, left, writes, blk⟩)) := rfl
    go_enter Try.func50, Try.ntmps50
    go_wp2
    go_ret
    rw [hb.out]
    exact ⟨rfl, HF.out, Kept.refl _ _⟩
  · by_cases hl : left = 0
    · subst hl
      have hb : Hid (DiskS.burn ⟨size, m, off, true, 0, writes, blk⟩ = (false, ⟨size, m, true, false, 0, writes, blk⟩)) := rfl
      have h1 := HF.out
      have HX := Lib.hid (h1.set 2 (.bool true) ⟨size, m, true, true, 0, writes, blk⟩ rfl rfl rfl (Nat.le_refl _) h1.s0 h1.s1 h1.l0 h1.l1 h1.w0)
      clear h1
      go_enter Try.func50, Try.ntmps50
      go_wp2_with (go_at_call 36; refine (unfuse_any a _ _ HX.out).mono ?_; rintro e w' ⟨rfl, hd, hk⟩)
      go_ret
      rw [hb.out]
      exact ⟨rfl, hd, (Kept.setCell _ _ _ _ (by simp)).trans hk⟩
    · have hb : Hid (DiskS.burn ⟨size, m, off, true, left, writes, blk⟩ = (true, ⟨size, m, off, true, left - 1, writes, blk⟩)) := by
        show _ = _
        simp [DiskS.burn, hl]
      have hl' : (left == 0) = false := by simpa using hl
      go_enter Try.func50, Try.ntmps50
      go_wp2
      go_ret
      rw [hb.out]
      have h1 := HF.out
      exact ⟨rfl, h1.set 4 _ ⟨size, m, off, true, left - 1, writes, blk⟩ rfl rfl rfl (Nat.le_refl _) h1.s0 h1.s1 (by simp; omega) (by simp; omega) h1.w0, Kept.setCell _ _ _ _ (by simp)⟩

def DiskS.wr (S : DiskS) (i : Int) (l : List UInt8) : Int × DiskS :=
  if S.reach i = 0 then
    if l.length = 64 then
      if S.burn.1 then (0, { S.burn.2 with blk := updL S.blk i l, writes := S.writes + 1 }) else (2, S.burn.2)
    else (11, S)
  else (S.reach i, S)

theorem zeroBlock (w : World) : (zeroValue 80).run Try.prog w = .ok (.agg (bvA zeroL)) w := by kernel_rfl
theorem sizeBlock : (Try.prog.info? 80).map (·.size) = some 64 := by kernel_rfl

theorem DiskS.burn_m (S : DiskS) : S.burn.2.m = S.m ∧ S.burn.2.blk = S.blk ∧ S.burn.2.writes = S.writes ∧ S.burn.2.size = S.size := by
  unfold DiskS.burn; split <;> (try split) <;> simp

theorem reach_zero {S : DiskS} {i : Int} (h : S.reach i = 0) : 0 ≤ i ∧ i < S.size ∧ S.off = false := by
  unfold DiskS.reach at h
  split at h
  · cases h
  · split at h
    · cases h
    · rename_i h1 h2
      exact ⟨by omega, by omega, by simpa using h1⟩

set_option maxHeartbeats 400000 in
theorem write_ok (a b o cap : Nat) (S : DiskS) (i : Int) (l : List UInt8) (w : World) (h : IsDisk w a S) (hr : S.reach i = 0) (hl : l.length = 64) (hb : S.burn.1 = true) (hlw : S.writes < 4611686018427387904)
    (hba : b ≠ a) (hc : w.rangeAt b o (bv l)) (hblt : b < w.heap.size) :
    Calls Try.prog 42 #[.pointer (some ⟨a, 0, none⟩), .int .i64 i, .slice (some ⟨b, o, none⟩) 64 cap] w fun e w' => e = .returned (.int .i64 0) ∧ IsDisk w' a { S.burn.2 with blk := updL S.blk i l, writes := S.writes + 1 } ∧ Kept [a, S.m] w w' := by
  obtain ⟨hi0, hi1, hoff⟩ := reach_zero hr
  have hs1 := h.s1
  have hbm := Lib.hid S.burn_m
  have HF := Lib.hid h
  have Hr := Lib.hid hr
  have Hb := Lib.hid hb
  have Hc := Lib.hid hc
  have HL := Lib.hid hl
  clear h hr hb hc hoff hl
  go_enter Try.func42, Try.ntmps42
  go_wp2_with fail
  refine (reach_any a S i w HF.out).mono ?_
  rw [Hr.out]
  rintro e w' ⟨rfl, rfl⟩
  go_wp2_with fail
  refine (burn_any a S w HF.out).mono ?_
  rw [Hb.out]
  rintro e w1 ⟨rfl, hd, hk⟩
  have c1 : w1.cell? ⟨a, 1, none⟩ = some (.map (some S.m)) := by rw [hd.cell 1, ← hbm.out.1]; rfl
  have HD := Lib.hid hd
  have HK := Lib.hid hk
  clear hd hk
  go_wp2_with fail
  have har := run_arrayAt (P := Try.prog) 80 5 64 Try.underlying80 (some ⟨b, o, none⟩) 64 cap (Nat.le_refl _)
  refine wp_region_still_tail 8 (by kernel_rfl) (by kernel_rfl) ?_
  simp only [List.take_succ_cons, List.take_zero, List.drop_succ_cons, List.drop_zero]
  still_step
  still_step
  still_step
  still_step
  still_step
  still_step
  still_step
  clear har
  have hkc : (w1.drew).rangeAt b o (bv l) := (World.rangeAt_drew _ _ _ _).2 (HK.out.range hblt (by simpa using hba) Hc.out)
  refine wpStill_load_mid rfl 80 _ rfl b o rfl (bv l) _ hkc Try.underlying80 rfl (by rw [sizeBlock, bv_length, HL.out]) ?_
  refine wpStill_nil ?_
  have hm := HD.out.map
  rw [hbm.out.1, hbm.out.2.1, hbm.out.2.2.1] at hm
  refine wpList_upd _ rfl _ _ _ 3 80 65 rfl Try.underlying3 Try.underlying65 S.m _ _ i l rfl rfl rfl ?_ ?_ HL.out (hm.kept (Kept.drew [] _) (by simp)) ?_
  · simp [Lit.wf, IntKind.min, IntKind.max, IntKind.signed, IntKind.bits]; omega
  · unfold maxLen; omega
  intro w2 hm2 hg2
  have hk2 : Kept [S.m] w1 w2 := (Kept.drew _ _).trans (Kept.grown hg2 (by simp))
  have hne := HF.out.ne
  have hh : w2.heap[a]? = some (.cells S.burn.2.cells 67) := hk2.heap (by simpa using hne.symm) HD.out.here
  have c5 : w2.cell? ⟨a, 5, none⟩ = some (.int .i64 S.writes) := by rw [cell_of_row w2 a 5 _ _ _ hh, ← hbm.out.2.2.1]; rfl
  have f5 : w2.frozen? ⟨a, 5, none⟩ = false := frozen_of_row w2 a 5 _ _ hh
  have hw0 := HF.out.w0
  have Hm2 := Lib.hid hm2
  have Hk2 := Lib.hid hk2
  have Hne := Lib.hid hne
  have Hh := Lib.hid hh
  clear hm2 hg2 hk2 hne hh hm hkc c1
  go_wp2
  go_ret
  refine ⟨rfl, ⟨?_, ?_, HD.out.s0, HD.out.s1, HD.out.l0, HD.out.l1, by simp; omega, fun j => ?_⟩, (HK.out.mono (by simp)).trans ((Hk2.out.mono (by simp)).trans (Kept.setCell _ _ _ _ (by simp)))⟩
  · rw [heap_setCell_same w2 a 5 _ _ _ Hh.out]; rfl
  · have := Hm2.out.kept (Kept.setCell [a] w2 ⟨a, 5, none⟩ (.int .i64 (S.writes + 1)) (by simp)) (by simpa using Hne.out)
    have e1 : (S.writes + 1).toNat = S.writes.toNat + 1 := by omega
    rw [← e1] at this
    show BlkMap _ _ _ S.burn.2.m _ _
    rw [hbm.out.1]
    exact this
  · show (updL S.blk i l j).length = 64
    unfold updL
    split
    · exact HL.out
    · exact HF.out.blk64 j

set_option maxHeartbeats 400000 in
theorem write_burnt (a : Nat) (S : DiskS) (i : Int) (sl : Option Addr) (cap : Nat) (w : World) (h : IsDisk w a S) (hr : S.reach i = 0) (hb : S.burn.1 = false) :
    Calls Try.prog 42 #[.pointer (some ⟨a, 0, none⟩), .int .i64 i, .slice sl 64 cap] w fun e w' => e = .returned (.int .i64 2) ∧ IsDisk w' a S.burn.2 ∧ Kept [a, S.m] w w' := by
  have HF := Lib.hid h
  have Hr := Lib.hid hr
  have Hb := Lib.hid hb
  clear h hr hb
  go_enter Try.func42, Try.ntmps42
  go_wp2_with fail
  refine (reach_any a S i w HF.out).mono ?_
  rw [Hr.out]
  rintro e w' ⟨rfl, rfl⟩
  go_wp2_with fail
  refine (burn_any a S w HF.out).mono ?_
  rw [Hb.out]
  rintro e w1 ⟨rfl, hd, hk⟩
  go_wp2_with fail
  go_ret
  exact ⟨rfl, hd, hk.mono (by simp)⟩

set_option maxHeartbeats 400000 in
theorem write_len (a : Nat) (S : DiskS) (i : Int) (sl : Option Addr) (len cap : Nat) (w : World) (h : IsDisk w a S) (hr : S.reach i = 0) (hl : ((len : Int) != 64) = true) :
    Calls Try.prog 42 #[.pointer (some ⟨a, 0, none⟩), .int .i64 i, .slice sl len cap] w fun e w' => e = .returned (.int .i64 11) ∧ w = w' := by
  have HF := Lib.hid h
  have Hr := Lib.hid hr
  clear h hr
  go_enter Try.func42, Try.ntmps42
  go_wp2_with fail
  refine (reach_any a S i w HF.out).mono ?_
  rw [Hr.out]
  rintro e w' ⟨rfl, rfl⟩
  go_wp2_with fail
  go_ret
  exact ⟨rfl, rfl⟩

set_option maxHeartbeats 400000 in
theorem write_away (a : Nat) (S : DiskS) (i : Int) (v : Value) (w : World) (h : IsDisk w a S) (hr : (S.reach i != 0) = true) :
    Calls Try.prog 42 #[.pointer (some ⟨a, 0, none⟩), .int .i64 i, v] w fun e w' => e = .returned (.int .i64 (S.reach i)) ∧ w = w' := by
  have HF := Lib.hid h
  obtain ⟨x, hx⟩ : ∃ x, S.reach i = x := ⟨_, rfl⟩
  rw [hx] at hr ⊢
  have HX := Lib.hid hx
  clear h hx
  go_enter Try.func42, Try.ntmps42
  go_wp2_with fail
  refine (reach_any a S i w HF.out).mono ?_
  rw [HX.out]
  rintro e w' ⟨rfl, rfl⟩
  go_wp2_with fail
  go_ret
  exact ⟨rfl, rfl⟩

/-- 'Write', whatever is asked. -/
theorem write_any (a : Nat) (S : DiskS) (i : Int) (v : Value) (l : List UInt8) (w : World) (h : IsDisk w a S) (hlw : S.writes < 4611686018427387904) (hv : SlIs w v l)
    (hba : ∀ b o n c, v = .slice (some ⟨b, o, none⟩) n c → b ≠ a) :
    Calls Try.prog 42 #[.pointer (some ⟨a, 0, none⟩), .int .i64 i, v] w fun e w' => e = .returned (.int .i64 (S.wr i l).1) ∧ IsDisk w' a (S.wr i l).2 ∧ Kept [a, S.m] w w' := by
  unfold DiskS.wr
  by_cases hr : S.reach i = 0
  · rw [if_pos hr]
    by_cases hl : l.length = 64
    · rw [if_pos hl]
      rcases hv with ⟨b, o, cap, rfl, hlt, hc⟩ | ⟨rfl, rfl⟩
      · cases hb : S.burn.1
        · rw [if_neg (by simp), hl]
          exact write_burnt a S i _ cap w h hr hb
        · rw [if_pos rfl, hl]
          exact write_ok a b o cap S i l w h hr hl hb hlw (hba _ _ _ _ rfl) hc hlt
      · simp at hl
    · rw [if_neg hl]
      have h2 : ((l.length : Int) != 64) = true := by rw [bne_iff_ne]; omega
      rcases hv with ⟨b, o, cap, rfl, hlt, hc⟩ | ⟨rfl, rfl⟩
      · exact (write_len a S i _ _ cap w h hr h2).mono fun e w' ⟨he, hw⟩ => ⟨he, hw ▸ h, hw ▸ Kept.refl _ _⟩
      · exact (write_len a S i _ 0 0 w h hr (by decide)).mono fun e w' ⟨he, hw⟩ => ⟨he, hw ▸ h, hw ▸ Kept.refl _ _⟩
  · rw [if_neg hr]
    exact (write_away a S i v w h (by rw [bne_iff_ne]; exact hr)).mono fun e w' ⟨he, hw⟩ => ⟨he, hw ▸ h, hw ▸ Kept.refl _ _⟩

set_option maxHeartbeats 400000 in
theorem read_ok (a : Nat) (S : DiskS) (i : Int) (w : World) (h : IsDisk w a S) (hr : S.reach i = 0) :
    Calls Try.prog 25 #[.pointer (some ⟨a, 0, none⟩), .int .i64 i] w fun e w' => e = .returned (.tuple #[.slice (some ⟨w.heap.size, 0, none⟩) 64 64, .int .i64 0]) ∧ w' = w.alloc (.cells (bvA (S.blk i)) 80) := by
  obtain ⟨hi0, hi1, hoff⟩ := reach_zero hr
  have hs1 := h.s1
  have c1 : w.cell? ⟨a, 1, none⟩ = some (.map (some S.m)) := h.cell 1
  have HF := Lib.hid h
  have Hr := Lib.hid hr
  have hz := zeroBlock w
  have hsz : (bvA (S.blk i)).size = 64 := by rw [bvA_size]; exact h.blk64 i
  have hst := run_storeCells_new (P := Try.prog) w 80 (bvA zeroL) (bvA (S.blk i)) (by rw [sizeBlock, hsz]) (by rw [hsz, bvA_size]; exact fullL_length 0) (bvA_one _)
  clear h hr hoff
  go_enter Try.func25, Try.ntmps25
  go_wp2_with fail
  refine (reach_any a S i w HF.out).mono ?_
  rw [Hr.out]
  rintro e w' ⟨rfl, rfl⟩
  go_wp2_with (at_lookup; refine wpList_look _ rfl _ _ 3 80 65 rfl Try.underlying3 Try.underlying65 hz S.m _ _ i rfl rfl (by simp [Lit.wf, IntKind.min, IntKind.max, IntKind.signed, IntKind.bits]; omega) HF.out.map ?_)
  go_ret2
  exact ⟨rfl, rfl⟩

set_option maxHeartbeats 400000 in
theorem read_away (a : Nat) (S : DiskS) (i : Int) (w : World) (h : IsDisk w a S) (hr : (S.reach i != 0) = true) :
    Calls Try.prog 25 #[.pointer (some ⟨a, 0, none⟩), .int .i64 i] w fun e w' => e = .returned (.tuple #[.slice none 0 0, .int .i64 (S.reach i)]) ∧ w = w' := by
  have HF := Lib.hid h
  obtain ⟨x, hx⟩ : ∃ x, S.reach i = x := ⟨_, rfl⟩
  rw [hx] at hr ⊢
  have HX := Lib.hid hx
  clear h hx
  go_enter Try.func25, Try.ntmps25
  go_wp2_with fail
  refine (reach_any a S i w HF.out).mono ?_
  rw [HX.out]
  rintro e w' ⟨rfl, rfl⟩
  go_wp2_with fail
  go_ret2
  exact ⟨rfl, rfl⟩

/-- What 'Read' hands out: the value, the bytes. -/
def DiskS.rdV (S : DiskS) (i : Int) (n : Nat) : Value := if S.reach i = 0 then .slice (some ⟨n, 0, none⟩) 64 64 else .slice none 0 0
def DiskS.rdL (S : DiskS) (i : Int) : List UInt8 := if S.reach i = 0 then S.blk i else []
def DiskS.rdW (S : DiskS) (i : Int) (w : World) : World := if S.reach i = 0 then w.alloc (.cells (bvA (S.blk i)) 80) else w

theorem slIs_new (w : World) (l : List UInt8) (t : TypeId) (n : Nat) (hn : l.length = n) : SlIs (w.alloc (.cells (bvA l) t)) (.slice (some ⟨w.heap.size, 0, none⟩) n n) l := by
  subst hn
  refine Or.inl ⟨_, 0, _, rfl, by simp, fun j v hv => ?_⟩
  rw [World.cell?_alloc_mark]
  simpa [bvA] using hv

theorem read_any (a : Nat) (S : DiskS) (i : Int) (w : World) (h : IsDisk w a S) :
    Calls Try.prog 25 #[.pointer (some ⟨a, 0, none⟩), .int .i64 i] w fun e w' => e = .returned (.tuple #[S.rdV i w.heap.size, .int .i64 (S.reach i)]) ∧ w' = S.rdW i w := by
  unfold DiskS.rdV DiskS.rdW
  by_cases hr : S.reach i = 0
  · rw [if_pos hr, if_pos hr, hr]
    exact read_ok a S i w h hr
  · rw [if_neg hr, if_neg hr]
    exact (read_away a S i w h (by rw [bne_iff_ne]; exact hr)).mono fun e w' ⟨he, hw⟩ => ⟨he, hw.symm⟩

theorem DiskS.rdW_kept (S : DiskS) (i : Int) (w : World) (ex : List Nat) : Kept ex w (S.rdW i w) := by
  unfold DiskS.rdW
  split
  · exact Kept.alloc _ _ _
  · exact Kept.refl _ _
theorem DiskS.rd_slIs {w : World} {a : Nat} {S : DiskS} (h : IsDisk w a S) (i : Int) : SlIs (S.rdW i w) (S.rdV i w.heap.size) (S.rdL i) := by
  unfold DiskS.rdW DiskS.rdV DiskS.rdL
  split
  · exact slIs_new w _ _ _ (h.blk64 i)
  · exact Or.inr ⟨rfl, rfl⟩

def DiskS.fuse (S : DiskS) (n : Int) : DiskS := if S.off then S else if n < 0 then { S with fused := false, left := 0 } else { S with fused := true, left := n }

set_option maxHeartbeats 400000 in
theorem fuse_any (a : Nat) (S : DiskS) (n : Int) (w : World) (h : IsDisk w a S) (hn : n ≤ 9223372036854775807) :
    Calls Try.prog 19 #[.pointer (some ⟨a, 0, none⟩), .int .i64 n] w fun e w' => e = .returned (.tuple #[]) ∧ IsDisk w' a (S.fuse n) ∧ Kept [a] w w' := by
  have c2 : w.cell? ⟨a, 2, none⟩ = some (.bool S.off) := h.cell 2
  have c3 : w.cell? ⟨a, 3, none⟩ = some (.bool S.fused) := h.cell 3
  have c4 : w.cell? ⟨a, 4, none⟩ = some (.int .i64 S.left) := h.cell 4
  have f3 := h.free 3
  have f4 := h.free 4
  have HF := Lib.hid h
  clear h
  obtain ⟨size, m, off, fused, left, writes, blk⟩ := S
  simp only at c2 c3 c4
  cases off
  · by_cases h0 : n < 0
    · have hb : Hid (DiskS.fuse ⟨size, m, false, fused, left, writes, blk⟩ n = ⟨size, m, false, false, 0, writes, blk⟩) := by show _ = _; simp [DiskS.fuse, h0]
      have hd : Hid (decide (0 ≤ n) = false) := by show _ = _; simpa using h0
      go_enter Try.func19, Try.ntmps19
      go_wp2
      go_end0
      rw [hb.out, hd.out]
      have h1 := HF.out
      exact ⟨rfl, (h1.set 3 _ ⟨size, m, false, false, left, writes, blk⟩ rfl rfl rfl (Nat.le_refl _) h1.s0 h1.s1 h1.l0 h1.l1 h1.w0).set 4 _ ⟨size, m, false, false, 0, writes, blk⟩ rfl rfl rfl (Nat.le_refl _) h1.s0 h1.s1 (by simp) (by simp) h1.w0, (Kept.setCell _ _ _ _ (by simp)).trans (Kept.setCell _ _ _ _ (by simp))⟩
    · have hb : Hid (DiskS.fuse ⟨size, m, false, fused, left, writes, blk⟩ n = ⟨size, m, false, true, n, writes, blk⟩) := by show _ = _; simp [DiskS.fuse, h0]
      go_enter Try.func19, Try.ntmps19
      go_wp2
      go_end0
      rw [hb.out]
      have h1 := HF.out
      exact ⟨rfl, (h1.set 3 _ ⟨size, m, false, true, left, writes, blk⟩ rfl rfl rfl (Nat.le_refl _) h1.s0 h1.s1 h1.l0 h1.l1 h1.w0).set 4 _ ⟨size, m, false, true, n, writes, blk⟩ rfl rfl rfl (Nat.le_refl _) h1.s0 h1.s1 (by simpa using h0) hn h1.w0, (Kept.setCell _ _ _ _ (by simp)).trans (Kept.setCell _ _ _ _ (by simp))⟩
  · go_enter Try.func19, Try.ntmps19
    go_wp2
    exact bodyPost_ret (v := .tuple #[]) (results_none rfl _ _ _) rfl ⟨rfl, HF.out, Kept.refl _ _⟩

def DiskS.boot (S : DiskS) : DiskS := { S with off := false, fused := false, left := 0 }

set_option maxHeartbeats 400000 in
theorem boot_any (a : Nat) (S : DiskS) (w : World) (h : IsDisk w a S) :
    Calls Try.prog 20 #[.pointer (some ⟨a, 0, none⟩)] w fun e w' => e = .returned (.tuple #[]) ∧ IsDisk w' a S.boot ∧ Kept [a] w w' := by
  have c2 : w.cell? ⟨a, 2, none⟩ = some (.bool S.off) := h.cell 2
  have f2 := h.free 2
  have HX := Lib.hid (h.set 2 (.bool false) { S with off := false } rfl rfl rfl (Nat.le_refl _) h.s0 h.s1 h.l0 h.l1 h.w0)
  clear h
  go_enter Try.func20, Try.ntmps20
  go_wp2_with (go_at_call 36; refine (unfuse_any a _ _ HX.out).mono ?_; rintro e w' ⟨rfl, hd, hk⟩)
  go_end0
  exact ⟨rfl, hd, (Kept.setCell _ _ _ _ (by simp)).trans hk⟩

set_option maxHeartbeats 400000 in
theorem on_any (a : Nat) (S : DiskS) (w : World) (h : IsDisk w a S) :
    Calls Try.prog 13 #[.pointer (some ⟨a, 0, none⟩)] w fun e w' => e = .returned (.bool (!S.off)) ∧ w = w' := by
  have c2 : w.cell? ⟨a, 2, none⟩ = some (.bool S.off) := h.cell 2
  clear h
  go_enter Try.func13, Try.ntmps13
  go_wp2
  go_ret
  exact ⟨rfl, rfl⟩

set_option maxHeartbeats 400000 in
theorem writes_any (a : Nat) (S : DiskS) (w : World) (h : IsDisk w a S) :
    Calls Try.prog 28 #[.pointer (some ⟨a, 0, none⟩)] w fun e w' => e = .returned (.int .i64 S.writes) ∧ w = w' := by
  have c2 : w.cell? ⟨a, 5, none⟩ = some (.int .i64 S.writes) := h.cell 5
  clear h
  go_enter Try.func28, Try.ntmps28
  go_wp2
  go_ret
  exact ⟨rfl, rfl⟩

end Go.Proofs.Ytmckapfncnoddaa

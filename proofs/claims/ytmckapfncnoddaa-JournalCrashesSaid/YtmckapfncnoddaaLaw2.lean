/-
  The helpers of layer 2's statements: among, full, ground; and a commit on a disk without a fuse.
  Conditions: those that each theorem states.
-/
import Derived.Test.YtmckapfncnoddaaPure
namespace Go.Proofs.Ytmckapfncnoddaa
open Go.RowKit Go.Maps

def kindF (c n : Int) : Int := (if c < 0 then -(c+1) else c) % n
theorem kindF_range (c n : Int) (hn : 0 < n) : 0 ≤ kindF c n ∧ kindF c n < n := ⟨Int.emod_nonneg _ (by omega), Int.emod_lt_of_pos _ hn⟩
theorem kindF_neg {c n : Int} (h : c < 0) : -((c + 1).tmod n) = kindF c n := by
  rw [kindF, if_pos h, ← Int.neg_tmod, Int.tmod_eq_emod_of_nonneg (by omega)]
theorem kindF_pos {c n : Int} (h : 0 ≤ c) : c % n = kindF c n := by
  rw [kindF, if_neg (by omega)]

theorem among_any (c n : Int) (w : World) (hc : -9223372036854775808 ≤ c) (hc2 : c ≤ 9223372036854775807) (hn : 0 < n) (hn2 : n ≤ 1000) :
    Calls Try.prog 10 #[.int .i64 c, .int .i64 n] w fun e w' => e = .returned (.int .i64 (kindF c n)) ∧ w = w' := by
  go_enter Try.func10, Try.ntmps10
  by_cases h : c < 0
  · have h2 := Lib.hid (kindF_neg (n := n) h)
    go_wp2
    go_ret
    exact ⟨by rw [← h2.out]; rfl, rfl⟩
  · have h2 := Lib.hid (kindF_pos (c := c) (n := n) (by omega))
    go_wp2
    go_ret
    exact ⟨by rw [← h2.out]; rfl, rfl⟩

/-- A block of one byte, and another one at its end. -/
def fullE (c d : UInt8) : List UInt8 := (fullL c).set 63 d
theorem fullE_length (c d : UInt8) : (fullE c d).length = 64 := by simp [fullE, fullL]

set_option maxHeartbeats 400000 in
theorem full2_any (c d : UInt8) (w : World) :
    Calls Try.prog 26 #[.int .u8 (c.toNat : Int), .int .u8 (d.toNat : Int)] w fun e w' => e = .returned (.slice (some ⟨w.heap.size, 0, none⟩) 64 64) ∧ w' = w.alloc (.cells (bvA (fullE c d)) 5) := by
  have hmk := run_make_bytes (P := Try.prog) w 48 5 Try.underlying48 infoByte 64 (by omega) (by omega)
  go_enter Try.func26, Try.ntmps26
  go_wp2
  clear hmk
  go_loopw [6] (fun i wr => ∃ k : Nat, k ≤ 64 ∧ i = .int .i64 k ∧ Hid (wr = w.alloc (.cells (bvA (partL (zerosL 64) c k)) 5))) (fun i _ => 64 - (intOf i).toNat)
  case atStart => exact ⟨0, by omega, rfl, by rw [partL_zero]; rfl⟩
  case round =>
    obtain ⟨k, hk, rfl, HW⟩ := hrel
    by_cases hlt : k < 64
    · have hc : wr.cell? ⟨w.heap.size, k, none⟩ = some (.int .u8 (((partL (zerosL 64) c k)[k]'(by rw [partL_length, zerosL_length]; exact hlt)).toNat : Int)) := by
        rw [HW.out]; exact cell_bvA_new _ _ _ _ _
      have hf : wr.frozen? ⟨w.heap.size, k, none⟩ = false := by rw [HW.out]; exact frozen_new _ _ _ _
      go_wp2
      go_roundw
      case rel =>
        refine ⟨k + 1, by omega, by go_num, ?_⟩
        show _ = _
        rw [HW.out, alloc_setCell_new, bvA_set, partL_succ _ _ _ (by rw [zerosL_length]; exact hlt)]
      case measure => simp [intOf]; omega
    · obtain rfl : k = 64 := by omega
      have hc : wr.cell? ⟨w.heap.size, 63, none⟩ = some (.int .u8 (((partL (zerosL 64) c 64)[63]'(by rw [partL_length, zerosL_length]; omega)).toNat : Int)) := by
        rw [HW.out]; exact cell_bvA_new _ _ _ _ _
      have hf : wr.frozen? ⟨w.heap.size, 63, none⟩ = false := by rw [HW.out]; exact frozen_new _ _ _ _
      go_wp2
      go_ret
      refine ⟨rfl, ?_⟩
      rw [HW.out, alloc_setCell_new, bvA_set]
      rfl

theorem ofNat_toNat (n : Int) (h0 : 0 ≤ n) (h1 : n < 256) : (((UInt8.ofNat n.toNat).toNat : Nat) : Int) = n := by
  simp; omega
theorem full2_at (n m : Int) (w : World) (h0 : 0 ≤ n) (h1 : n < 256) (h2 : 0 ≤ m) (h3 : m < 256) :
    Calls Try.prog 26 #[.int .u8 n, .int .u8 m] w fun e w' => e = .returned (.slice (some ⟨w.heap.size, 0, none⟩) 64 64) ∧ w' = w.alloc (.cells (bvA (fullE (UInt8.ofNat n.toNat) (UInt8.ofNat m.toNat))) 5) := by
  have := full2_any (UInt8.ofNat n.toNat) (UInt8.ofNat m.toNat) w
  rw [ofNat_toNat n h0 h1, ofNat_toNat m h2 h3] at this
  exact this

/-- A disk that answers: its power is on, no fuse. -/
structure Live (w : World) (a : Nat) (S : DiskS) : Prop where
  disk : IsDisk w a S
  off : S.off = false
  fused : S.fused = false

theorem Live.kept {w w' : World} {a : Nat} {S : DiskS} (h : Live w a S) {ex : List Nat} (hk : Kept ex w w') (ha : a ∉ ex) (hm : S.m ∉ ex) : Live w' a S := ⟨h.disk.kept hk ha hm, h.off, h.fused⟩

/-- 'Commit' of a group on a disk that answers. -/
theorem commit_live (j : Nat) (J : JourS) (S : DiskS) (ao : Option Addr) (len cap : Nat) (l : List PutL) (w : World) (hj : IsJour w j J) (hd : Live w J.a S) (hl : PutsIs w ao len l) (hat : (J.at_ : Int) + 199 ≤ S.size)
    (hr : Ready S J.at_ J.g) (hg : Grp J.at_ S.size l) (ho : J.owed = false) (hgb : J.g < 1000000) (hlw : S.writes < 1000000000) :
    Calls Try.prog 14 #[.pointer (some ⟨j, 0, none⟩), .slice ao len cap] w fun e w' => e = .returned (.int .i64 0) ∧ ∃ S', Live w' J.a S' ∧ S'.size = S.size ∧ S'.m = S.m ∧ S'.writes = S.writes + (spanN len + 1 + len + 1 : Nat) ∧
      Ready S' J.at_ (J.g + 1) ∧ (∀ i, Out J.at_ i → S'.blk i = applyL S.blk l i) ∧ IsJour w' j (J.head (J.g + 1) false 0) ∧ Kept [J.a, S.m, j] w w' := by
  have hs1 := hd.disk.s1
  have hln := hl.1
  refine (commit_yes j J S ao len cap l w hj hd.disk hl (by omega) hg ho (by omega) (by omega)).mono ?_
  rintro e w' ⟨M, hM, hMl, rfl, hd', ⟨J', hj', _, _, hJ'⟩, hk⟩
  have hwf := cmt_wf (g := J.g) hg hat hMl
  obtain ⟨f1, f2, f3, f4, f5, f6, f7⟩ := wrs_free S hd.off hd.fused hd.disk.l0 _ hwf
  have hc := wrs_cut S hd.off hd.disk.l0 _ hwf
  have hcc := commit_cut hr hs1 hg hM hMl hc
  rw [f1] at hcc
  refine ⟨by rw [f1], _, ⟨hd', f2, f7⟩, f3, f4, ?_, ?_⟩
  · rw [f6]
    simp only [cmtL, List.length_append, storeL_length, List.length_cons, List.length_nil, hln]
    push_cast
    omega
  · rcases hcc with ⟨_, h2, h3⟩ | ⟨h, _⟩ | ⟨h, _⟩
    · exact ⟨h2, h3, by rw [← hJ' f1]; exact hj', hk⟩
    · cases h
    · cases h

/-- The disk that ground makes. -/
def grS (m at_ : Nat) : DiskS := ⟨259, m, false, false, 0, 1, updL (fun _ => zeroL) at_ (encL at_ 0 0 false)⟩
theorem grS_ready (m at_ : Nat) : Ready (grS m at_) at_ 0 := by simp [Ready, grS, updL]

set_option maxHeartbeats 1000000 in
theorem ground_any (at_ : Nat) (at' : Int) (hat' : at' = at_) (hat : at_ ≤ 60) (w : World) :
    Calls Try.prog 11 #[.int .i64 at'] w fun e w' => ∃ a m j, e = .returned (.tuple #[.pointer (some ⟨a, 0, none⟩), .pointer (some ⟨j, 0, none⟩)]) ∧ IsDisk w' a (grS m at_) ∧ IsJour w' j ⟨a, at_, 0, false, 0⟩ ∧
      w.heap.size ≤ a ∧ w.heap.size ≤ m ∧ w.heap.size ≤ j ∧ Kept [] w w' := by
  subst hat'
  go_enter Try.func11, Try.ntmps11
  go_wp2_with fail
  refine (new_ok 259 _ (by omega) (by omega)).mono ?_
  rintro e w1 ⟨rfl, hd1, hk1⟩
  obtain ⟨a, ha⟩ : ∃ a, a = w.heap.size + 1 := ⟨_, rfl⟩
  obtain ⟨m, hm⟩ : ∃ m, m = w.heap.size := ⟨_, rfl⟩
  rw [← ha, ← hm] at hd1
  rw [← ha]
  have HD1 := Lib.hid hd1
  have HK1 := Lib.hid hk1
  have HA := Lib.hid ha
  have HM := Lib.hid hm
  clear hd1 hk1 ha hm
  go_wp2_with fail
  refine (format_yes a (DiskS.new 259 m) (grS m at_) at_ _ 0 _ HD1.out rfl (by show (at_ : Int) + 199 ≤ 259; omega) (by show (0 : Int) < _; omega) ?_).mono ?_
  · have hr : (DiskS.new 259 m).reach at_ = 0 := reach_in (by omega) (by show (at_ : Int) < 259; omega) rfl
    unfold DiskS.wr
    rw [if_pos hr, if_pos (encL_length _ _ _ _)]
    rfl
  rintro e w2 ⟨rfl, hd2, hk2⟩
  have HD2 := Lib.hid hd2
  have HK2 : Hid (Kept [a, m] w1 w2) := hk2
  clear hd2 hk2
  go_wp2_with fail
  refine (open_ready a (grS m at_) at_ _ 0 _ HD2.out rfl (by show (at_ : Int) + 199 ≤ 259; omega) rfl (grS_ready m at_) (by omega)).mono ?_
  rintro e w3 ⟨j, rfl, hj3, hjl, hk3⟩
  have HJ3 := Lib.hid hj3
  have HK3 := Lib.hid hk3
  clear hj3 hk3
  go_wp2_with fail
  go_ret2
  have s1 := HK1.out.size
  have s2 := HK2.out.size
  have ea := HA.out
  have em := HM.out
  refine ⟨a, m, j, rfl, HD2.out.kept HK3.out (by simp) (by simp), HJ3.out, by omega, by omega, by omega, ?_⟩
  exact (HK1.out.into HK2.out (by simp; omega)).trans HK3.out
end Go.Proofs.Ytmckapfncnoddaa

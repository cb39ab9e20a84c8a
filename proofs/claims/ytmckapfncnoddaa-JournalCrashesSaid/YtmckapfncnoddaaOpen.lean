/-
  The journal's calls Format and Open.
  Conditions: those that each theorem states.
-/
import Derived.Test.YtmckapfncnoddaaCommit
namespace Go.Proofs.Ytmckapfncnoddaa
open Go.RowKit Go.Maps

theorem format_no (a : Nat) (S : DiskS) (at_ : Int) (w : World) (hd : IsDisk w a S) (hf : ¬ (0 ≤ at_ ∧ at_ ≤ S.size - 199)) :
    Calls Try.prog 21 #[.pointer (some ⟨a, 0, none⟩), .int .i64 at_] w fun e w' => e = .returned (.int .i64 1) ∧ w = w' := by
  have HD := Lib.hid hd
  have HF := Lib.hid hf
  clear hd hf
  go_enter Try.func21, Try.ntmps21
  go_wp2_with fail
  refine (fits_any a S at_ _ HD.out false (by rw [decide_eq_false HF.out])).mono ?_
  rintro e w' ⟨rfl, rfl⟩
  go_wp2_with fail
  go_ret
  exact ⟨rfl, rfl⟩

theorem format_yes (a : Nat) (S S' : DiskS) (at_ : Nat) (at' : Int) (x : Int) (w : World) (hd : IsDisk w a S) (hat : at' = at_) (hf : (at_ : Int) + 199 ≤ S.size) (hlw : S.writes < 4611686018427387904)
    (hr : S.wr at_ (encL at_ 0 0 false) = (x, S')) :
    Calls Try.prog 21 #[.pointer (some ⟨a, 0, none⟩), .int .i64 at'] w fun e w' => e = .returned (.int .i64 x) ∧ IsDisk w' a S' ∧ Kept [a, S.m] w w' := by
  subst hat
  have HD := Lib.hid hd
  have HR := Lib.hid hr
  clear hd hr
  go_enter Try.func21, Try.ntmps21
  go_wp2_with fail
  refine (fits_any a S at_ _ HD.out true (by rw [decide_eq_true]; omega)).mono ?_
  rintro e w' ⟨rfl, rfl⟩
  go_wp2_with fail
  generalize hw1 : World.alloc w _ = w1
  have hk1 : Kept [] w w1 := by rw [← hw1]; exact Kept.alloc _ _ _
  have hj1 : IsJour w1 w.heap.size ⟨a, at_, 0, false, 0⟩ := by rw [← hw1]; exact heap_alloc_last w _
  have hk2 := hk1
  refine (setHead_at w.heap.size ⟨a, at_, 0, false, 0⟩ _ S S' x 0 0 false _ _ rfl rfl w1 hj1 (HD.out.kept hk1 (by simp) (by simp)) hlw HR.out rfl).mono ?_
  rintro e w2 ⟨rfl, hd2, hj2, hk2⟩
  go_wp2_with fail
  go_ret
  refine ⟨rfl, hd2, ((hk1.mono (by simp)).trans hk2).mono (fun k hk hlt => ?_)⟩
  simp at hk ⊢
  omega

theorem open_no (a : Nat) (S : DiskS) (at_ : Int) (w : World) (hd : IsDisk w a S) (hf : ¬ (0 ≤ at_ ∧ at_ ≤ S.size - 199)) :
    Calls Try.prog 18 #[.pointer (some ⟨a, 0, none⟩), .int .i64 at_] w fun e w' => e = .returned (.tuple #[.pointer none, .int .i64 1]) ∧ w = w' := by
  have HD := Lib.hid hd
  have HF := Lib.hid hf
  clear hd hf
  go_enter Try.func18, Try.ntmps18
  go_wp2_with fail
  refine (fits_any a S at_ _ HD.out false (by rw [decide_eq_false HF.out])).mono ?_
  rintro e w' ⟨rfl, rfl⟩
  go_wp2_with fail
  go_ret2
  exact ⟨rfl, rfl⟩

theorem open_off (a : Nat) (S : DiskS) (at_ : Nat) (at' : Int) (w : World) (hd : IsDisk w a S) (hat : at' = at_) (hf : (at_ : Int) + 199 ≤ S.size) (hoff : S.off = true) :
    Calls Try.prog 18 #[.pointer (some ⟨a, 0, none⟩), .int .i64 at'] w fun e w' => e = .returned (.tuple #[.pointer none, .int .i64 2]) ∧ w = w' := by
  subst hat
  have HD := Lib.hid hd
  have hre : S.reach at_ = 2 := by unfold DiskS.reach; rw [hoff]; rfl
  have HRE := Lib.hid hre
  clear hd hre hoff
  go_enter Try.func18, Try.ntmps18
  go_wp2_with fail
  refine (fits_any a S at_ _ HD.out true (by rw [decide_eq_true]; omega)).mono ?_
  rintro e w' ⟨rfl, rfl⟩
  go_wp2_with fail
  refine (read_away a S at_ _ HD.out (by rw [HRE.out]; rfl)).mono ?_
  rw [HRE.out]
  rintro e w' ⟨rfl, rfl⟩
  go_wp2_with fail
  go_ret2
  exact ⟨rfl, rfl⟩

theorem reach_in {S : DiskS} {i : Int} (h0 : 0 ≤ i) (h1 : i < S.size) (ho : S.off = false) : S.reach i = 0 := by
  unfold DiskS.reach
  rw [ho, if_neg (by simp), if_neg (by omega)]

theorem open_zero (a : Nat) (S : DiskS) (at_ : Nat) (at' : Int) (w : World) (hd : IsDisk w a S) (hat : at' = at_) (hf : (at_ : Int) + 199 ≤ S.size) (hoff : S.off = false) (hz : S.blk at_ = zeroL) :
    Calls Try.prog 18 #[.pointer (some ⟨a, 0, none⟩), .int .i64 at'] w fun e w' => e = .returned (.tuple #[.pointer none, .int .i64 4]) ∧ Kept [] w w' := by
  subst hat
  have HD := Lib.hid hd
  have HO := Lib.hid hoff
  have HZ := Lib.hid hz
  clear hd hoff hz
  go_enter Try.func18, Try.ntmps18
  go_wp2_with fail
  refine (fits_any a S at_ _ HD.out true (by rw [decide_eq_true]; omega)).mono ?_
  rintro e w' ⟨rfl, rfl⟩
  go_wp2_with fail
  refine (read_ok a S at_ _ HD.out (reach_in (by omega) (by omega) HO.out)).mono ?_
  rw [HZ.out]
  rintro e w1 ⟨rfl, hw1⟩
  have hk1 : Kept [] w w1 := by rw [hw1]; exact Kept.alloc _ _ _
  have hh1 : w1.heap[w.heap.size]? = some (.cells (bvA zeroL) 80) := by rw [hw1]; exact heap_alloc_last w _
  have HK1 := Lib.hid hk1
  have HH1 := Lib.hid hh1
  clear hw1 hk1 hh1
  go_wp2_with fail
  refine (decode_zero w.heap.size at_ w1 (Array.getElem?_eq_some_iff.1 HH1.out).1 (range_row HH1.out)).mono ?_
  rintro e w2 ⟨rfl, hk2⟩
  have HK2 := Lib.hid hk2
  clear hk2
  go_wp2_with fail
  go_ret2
  exact ⟨rfl, HK1.out.trans (HK2.out.trans (Kept.alloc _ _ _))⟩

set_option maxHeartbeats 1000000 in
theorem open_ready (a : Nat) (S : DiskS) (at_ : Nat) (at' : Int) (g : Nat) (w : World) (hd : IsDisk w a S) (hat : at' = at_) (hf : (at_ : Int) + 199 ≤ S.size) (hoff : S.off = false) (hz : S.blk at_ = encL at_ g 0 false) (hg : g < 4611686018427387904) :
    Calls Try.prog 18 #[.pointer (some ⟨a, 0, none⟩), .int .i64 at'] w fun e w' => ∃ j, e = .returned (.tuple #[.pointer (some ⟨j, 0, none⟩), .int .i64 0]) ∧ IsJour w' j ⟨a, at_, g, false, 0⟩ ∧ w.heap.size ≤ j ∧ Kept [] w w' := by
  subst hat
  have HD := Lib.hid hd
  have HO := Lib.hid hoff
  have HZ := Lib.hid hz
  clear hd hoff hz
  go_enter Try.func18, Try.ntmps18
  go_wp2_with fail
  refine (fits_any a S at_ _ HD.out true (by rw [decide_eq_true]; omega)).mono ?_
  rintro e w' ⟨rfl, rfl⟩
  go_wp2_with fail
  refine (read_ok a S at_ _ HD.out (reach_in (by omega) (by omega) HO.out)).mono ?_
  rw [HZ.out]
  rintro e w1 ⟨rfl, hw1⟩
  have hk1 : Kept [] w w1 := by rw [hw1]; exact Kept.alloc _ _ _
  have hh1 : w1.heap[w.heap.size]? = some (.cells (bvA (encL at_ g 0 false)) 80) := by rw [hw1]; exact heap_alloc_last w _
  have HK1 := Lib.hid hk1
  have HH1 := Lib.hid hh1
  clear hw1 hk1 hh1
  go_wp2_with fail
  refine (decode_head w.heap.size at_ g 0 false w1 (Array.getElem?_eq_some_iff.1 HH1.out).1 (range_row HH1.out) hg (by omega) (.inl rfl)).mono ?_
  rintro e w2 ⟨rfl, hk2⟩
  have HK2 := Lib.hid hk2
  clear hk2
  go_wp2_with fail
  generalize hw3 : World.alloc (World.alloc w2 _) _ = w3
  have hk3 : Kept [] w2 w3 := by rw [← hw3]; exact (Kept.alloc _ _ _).trans (Kept.alloc _ _ _)
  have hj3 : IsJour w3 (w2.heap.size + 1) ⟨a, at_, g, false, 0⟩ := by rw [← hw3]; exact heap_alloc2 w2 _ _
  have HK3 := Lib.hid hk3
  have HJ3 := Lib.hid hj3
  clear hw3 hk3 hj3
  refine (settle_no _ _ w3 HJ3.out rfl).mono ?_
  rintro e w4 ⟨rfl, rfl⟩
  go_wp2_with fail
  go_ret2
  have s1 := HK1.out.size
  have s2 := HK2.out.size
  exact ⟨_, rfl, HJ3.out, by omega, HK1.out.trans (HK2.out.trans HK3.out)⟩

/-- What Open of a journal that owes a group leaves. -/
def OpenPost (x : Int) (a at_ g : Nat) (w : World) (S S' : DiskS) (e : Ending) (w' : World) : Prop :=
  ∃ j, ((x = 0 ∧ e = .returned (.tuple #[.pointer (some ⟨j, 0, none⟩), .int .i64 0]) ∧ IsJour w' j ⟨a, at_, g + 1, false, 0⟩ ∧ w.heap.size ≤ j) ∨ (x ≠ 0 ∧ e = .returned (.tuple #[.pointer none, .int .i64 x]))) ∧ IsDisk w' a S' ∧ Kept [a, S.m] w w'

set_option maxHeartbeats 1000000 in
theorem open_owed (a : Nat) (S S' : DiskS) (x : Int) (at_ : Nat) (at' : Int) (g : Nat) (l : List PutL) (w : World) (hd : IsDisk w a S) (hat : at' = at_) (hf : (at_ : Int) + 199 ≤ S.size) (hoff : S.off = false)
    (hz : S.blk at_ = encL at_ g l.length true) (hl : unpackL (flatL S at_ (spanN l.length)) l.length = l) (hgr : Grp at_ S.size l) (hg : g < 4611686018427387904) (hlw : S.writes + 300 < 4611686018427387904)
    (hr : S.wrs (l ++ [((at_ : Int), encL at_ (g + 1) 0 false)]) = (x, S')) :
    Calls Try.prog 18 #[.pointer (some ⟨a, 0, none⟩), .int .i64 at'] w fun e w' => OpenPost x a at_ g w S S' e w' := by
  subst hat
  have HD := Lib.hid hd
  have HO := Lib.hid hoff
  have HZ := Lib.hid hz
  have HL := Lib.hid hl
  have HG := Lib.hid hgr
  have HR := Lib.hid hr
  have hlen := hgr.len
  clear hd hoff hz hl hgr hr
  go_enter Try.func18, Try.ntmps18
  go_wp2_with fail
  refine (fits_any a S at_ _ HD.out true (by rw [decide_eq_true]; omega)).mono ?_
  rintro e w' ⟨rfl, rfl⟩
  go_wp2_with fail
  refine (read_ok a S at_ _ HD.out (reach_in (by omega) (by omega) HO.out)).mono ?_
  rw [HZ.out]
  rintro e w1 ⟨rfl, hw1⟩
  have hk1 : Kept [] w w1 := by rw [hw1]; exact Kept.alloc _ _ _
  have hh1 : w1.heap[w.heap.size]? = some (.cells (bvA (encL at_ g l.length true)) 80) := by rw [hw1]; exact heap_alloc_last w _
  have HK1 := Lib.hid hk1
  have HH1 := Lib.hid hh1
  clear hw1 hk1 hh1
  go_wp2_with fail
  refine (decode_head w.heap.size at_ g l.length true w1 (Array.getElem?_eq_some_iff.1 HH1.out).1 (range_row HH1.out) hg hlen (.inr rfl)).mono ?_
  rintro e w2 ⟨rfl, hk2⟩
  have HK2 := Lib.hid hk2
  clear hk2
  go_wp2_with fail
  generalize hw3 : World.alloc (World.alloc w2 _) _ = w3
  have hk3 : Kept [] w2 w3 := by rw [← hw3]; exact (Kept.alloc _ _ _).trans (Kept.alloc _ _ _)
  have hj3 : IsJour w3 (w2.heap.size + 1) ⟨a, at_, g, true, l.length⟩ := by rw [← hw3]; exact heap_alloc2 w2 _ _
  have HK3 := Lib.hid (HK1.out.trans (HK2.out.trans hk3))
  have HJ3 := Lib.hid hj3
  have hsz : w.heap.size ≤ w2.heap.size := by have s1 := HK1.out.size; have s2 := HK2.out.size; omega
  clear hw3 hk3 hj3
  refine (settle_yes _ ⟨a, at_, g, true, l.length⟩ _ S S' x l w3 HJ3.out (HD.out.kept HK3.out (by simp) (by simp)) rfl hlen hf HO.out HL.out HG.out hg hlw HR.out rfl).mono ?_
  rintro e w4 ⟨rfl, hd4, hj4, hk4⟩
  have HD4 := Lib.hid hd4
  have HJ4 := Lib.hid hj4
  have HK4 : Hid (Kept [a, S.m] w w4) := ((HK3.out.mono (by simp)).trans hk4).mono (fun k hk hlt => by simp at hk ⊢; omega)
  clear hd4 hj4 hk4
  by_cases hx : x = 0
  · subst hx
    go_wp2_with fail
    go_ret2
    have hj := HJ4.out
    simp only [if_true] at hj
    exact ⟨_, .inl ⟨rfl, rfl, hj, by omega⟩, HD4.out, HK4.out⟩
  · have hx' : (x != 0) = true := by rw [bne_iff_ne]; exact hx
    go_wp2_with fail
    go_ret2
    exact ⟨0, .inr ⟨hx, rfl⟩, HD4.out, HK4.out⟩
end Go.Proofs.Ytmckapfncnoddaa

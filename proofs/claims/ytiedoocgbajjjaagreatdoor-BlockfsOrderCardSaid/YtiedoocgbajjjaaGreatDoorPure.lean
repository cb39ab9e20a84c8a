/-
  The journal's calls settle, Commit, Format, Open and Groups.
  Conditions: those that each theorem states.
  The journal's calls Format and Open.
  Conditions: those that each theorem states.
  What writes leave on a disk whose power may go off between any two of them, and what a journal's blocks say then. No program text.
  Conditions: those that each theorem states.
-/
import Derived.Test.YtiedoocgbajjjaaGreatDoorLTakeE
import Derived.Test.YtiedoocgbajjjaaGreatDoorLoad
namespace Go.Proofs.YtiedoocgbajjjaaGreatDoor
open Go.RowKit Go.Maps
set_option maxRecDepth 100000

theorem groups_any (j : Nat) (J : JourS) (w : World) (hj : IsJour w j J) :
    Calls Tryz.prog 61 #[.pointer (some ⟨j, 0, none⟩)] w fun e w' => e = .returned (.int .i64 J.g) ∧ w = w' := by
  have c2 : w.cell? ⟨j, 2, none⟩ = some (.int .i64 J.g) := hj.cell 2
  clear hj
  go_enter Tryz.func61, Tryz.ntmps61
  go_wp2
  go_ret
  exact ⟨rfl, rfl⟩

theorem fits_any (a : Nat) (S : DiskS) (at_ : Int) (w : World) (hd : IsDisk w a S) (y : Bool) (hy : y = decide (0 ≤ at_ ∧ at_ ≤ S.size - 199)) :
    Calls Tryz.prog 67 #[.pointer (some ⟨a, 0, none⟩), .int .i64 at_] w fun e w' => e = .returned (.bool y) ∧ w = w' := by
  have HD := Lib.hid hd
  have HY := Lib.hid hy
  have s0 := hd.s0
  have s1 := hd.s1
  clear hd hy
  go_enter Tryz.func67, Tryz.ntmps67
  by_cases h : 0 ≤ at_
  · go_wp2_with fail
    refine (len_any a S _ HD.out).mono ?_
    rintro e w' ⟨rfl, rfl⟩
    by_cases h2 : at_ ≤ S.size - 199
    · have : y = true := by rw [HY.out]; simp; omega
      subst this
      go_wp2_with fail
      go_ret
      exact ⟨rfl, rfl⟩
    · have : y = false := by rw [HY.out]; simp; omega
      subst this
      have hdf : decide (at_ ≤ S.size - 199) = false := by simpa using h2
      have HDF := Lib.hid hdf
      clear hdf
      go_wp2_with fail
      go_ret
      exact ⟨by rw [← HDF.out]; rfl, rfl⟩
  · have : y = false := by rw [HY.out]; simp; omega
    subst this
    have h' : ¬ (0 ≤ at_) := h
    go_wp2_with fail
    go_ret
    exact ⟨rfl, rfl⟩

theorem settle_no (j : Nat) (J : JourS) (w : World) (hj : IsJour w j J) (ho : J.owed = false) :
    Calls Tryz.prog 87 #[.pointer (some ⟨j, 0, none⟩)] w fun e w' => e = .returned (.int .i64 0) ∧ w = w' := by
  have c3 : w.cell? ⟨j, 3, none⟩ = some (.bool J.owed) := hj.cell 3
  rw [ho] at c3
  clear hj ho
  go_enter Tryz.func87, Tryz.ntmps87
  go_wp2_with fail
  go_ret
  exact ⟨rfl, rfl⟩

set_option maxHeartbeats 1000000 in
theorem settle_yes (j : Nat) (J J' : JourS) (S S' : DiskS) (x : Int) (l : List PutL) (w : World) (hj : IsJour w j J) (hd : IsDisk w J.a S) (ho : J.owed = true) (hn : J.n ≤ 192) (hat : (J.at_ : Int) + 199 ≤ S.size) (hoff : S.off = false)
    (hl : unpackL (flatL S J.at_ (spanN J.n)) J.n = l) (hg : Grp J.at_ S.size l) (hgb : J.g < 4611686018427387904) (hlw : S.writes + 300 < 4611686018427387904)
    (hr : S.wrs (l ++ [((J.at_ : Int), encL J.at_ (J.g + 1) 0 false)]) = (x, S')) (hJ : J' = if x = 0 then J.head (J.g + 1) false 0 else J) :
    Calls Tryz.prog 87 #[.pointer (some ⟨j, 0, none⟩)] w fun e w' => e = .returned (.int .i64 x) ∧ IsDisk w' J.a S' ∧ IsJour w' j J' ∧ Kept [J.a, S.m, j] w w' := by
  have c3 : w.cell? ⟨j, 3, none⟩ = some (.bool J.owed) := hj.cell 3
  rw [ho] at c3
  have HJ := Lib.hid hj
  have HD := Lib.hid hd
  have HR := Lib.hid hr
  have HJ' := Lib.hid hJ
  have HG := Lib.hid hg
  have HL := Lib.hid hl
  have HO := Lib.hid hoff
  clear hj hd hr hJ hg hl ho hoff
  go_enter Tryz.func87, Tryz.ntmps87
  go_wp2_with fail
  refine (load_walk j J S w HJ.out HD.out hn hat HO.out (by rw [HL.out]; exact HG.out)).mono ?_
  rw [HL.out]
  rintro e w1 ⟨ao, rfl, hp, hk⟩
  have HP := Lib.hid hp
  have HK := Lib.hid hk
  clear hp hk c3
  go_wp2_with fail
  refine (perform_walk j J J' S S' x ao J.n J.n l w1 (HJ.out.kept HK.out (by simp)) (HD.out.kept HK.out (by simp) (by simp)) HP.out (by omega) hn hgb HR.out HJ'.out).mono ?_
  rintro e w2 ⟨rfl, hd2, hj2, hk2⟩
  go_wp2_with fail
  go_ret
  exact ⟨rfl, hd2, hj2, (HK.out.mono (by simp)).trans hk2⟩

/-- All that Commit writes. -/
def cmtL (at_ g : Nat) (M : List UInt8) (l : List PutL) : List PutL :=
  storeL at_ M (spanN l.length) ++ (((at_ : Int), encL at_ g l.length true) :: (l ++ [((at_ : Int), encL at_ (g + 1) 0 false)]))

theorem DiskS.wrs_cons (S : DiskS) (p : PutL) (r : List PutL) : S.wrs (p :: r) = if (S.wr p.1 p.2).1 = 0 then (S.wr p.1 p.2).2.wrs r else S.wr p.1 p.2 := rfl

/-- A group that is none is refused. -/
theorem commit_no (j : Nat) (J : JourS) (S : DiskS) (ao : Option Addr) (len cap : Nat) (l : List PutL) (w : World) (hj : IsJour w j J) (hd : IsDisk w J.a S) (hl : PutsIs w ao len l) (hat : J.at_ < 4611686018427387904) (hg : ¬ Grp J.at_ S.size l) :
    Calls Tryz.prog 81 #[.pointer (some ⟨j, 0, none⟩), .slice ao len cap] w fun e w' => e = .returned (.int .i64 20) ∧ Kept [] w w' := by
  have c0 : w.cell? ⟨j, 0, none⟩ = some (.pointer (some ⟨J.a, 0, none⟩)) := hj.cell 0
  have HJ := Lib.hid hj
  have HD := Lib.hid hd
  have HL := Lib.hid hl
  have HG := Lib.hid hg
  clear hj hd hl hg
  go_enter Tryz.func81, Tryz.ntmps81
  go_wp2_with fail
  refine (isGroup_walk j J S ao len cap l w HJ.out HD.out HL.out hat false (iff_of_false (by simp) HG.out)).mono ?_
  rintro e w1 ⟨rfl, hk1⟩
  have HK1 := Lib.hid hk1
  clear hk1
  go_wp2_with fail
  go_ret
  exact ⟨rfl, HK1.out⟩

set_option maxHeartbeats 2000000 in
theorem commit_yes (j : Nat) (J : JourS) (S : DiskS) (ao : Option Addr) (len cap : Nat) (l : List PutL) (w : World) (hj : IsJour w j J) (hd : IsDisk w J.a S) (hl : PutsIs w ao len l) (hat : J.at_ < 4611686018427387904)
    (hg : Grp J.at_ S.size l) (ho : J.owed = false) (hgb : J.g < 4611686018427387904) (hlw : S.writes + 600 < 4611686018427387904) :
    Calls Tryz.prog 81 #[.pointer (some ⟨j, 0, none⟩), .slice ao len cap] w fun e w' => ∃ M, PackK M (tabN l.length) l l.length ∧ M.length = spanN l.length * 64 ∧
      e = .returned (.int .i64 (S.wrs (cmtL J.at_ J.g M l)).1) ∧ IsDisk w' J.a (S.wrs (cmtL J.at_ J.g M l)).2 ∧
      (∃ J', IsJour w' j J' ∧ J'.a = J.a ∧ J'.at_ = J.at_ ∧ ((S.wrs (cmtL J.at_ J.g M l)).1 = 0 → J' = J.head (J.g + 1) false 0)) ∧ Kept [J.a, S.m, j] w w' := by
  have c0 : w.cell? ⟨j, 0, none⟩ = some (.pointer (some ⟨J.a, 0, none⟩)) := hj.cell 0
  have HJ := Lib.hid hj
  have HD := Lib.hid hd
  have HL := Lib.hid hl
  have HG := Lib.hid hg
  have HO := Lib.hid ho
  have HW := Lib.hid hlw
  have hlen : len ≤ 192 := by rw [← hl.1]; exact hg.len
  have hsp : spanN len ≤ 198 := by unfold spanN tabN; omega
  obtain ⟨rfl, _⟩ := hl
  clear hj hd hg ho hlw
  go_enter Tryz.func81, Tryz.ntmps81
  go_wp2_with fail
  refine (isGroup_walk j J S ao _ cap l w HJ.out HD.out HL.out hat true ⟨fun _ => HG.out, fun _ => rfl⟩).mono ?_
  rintro e w1 ⟨rfl, hk1⟩
  have HK1 := Lib.hid hk1
  have HJ1 := Lib.hid (HJ.out.kept hk1 (by simp))
  have HD1 := Lib.hid (HD.out.kept hk1 (by simp) (by simp))
  have HL1 := Lib.hid (HL.out.kept hk1 (Off.nil _))
  clear hk1 c0
  go_wp2_with fail
  refine (settle_no j J w1 HJ1.out HO.out).mono ?_
  rintro e w2 ⟨rfl, rfl⟩
  go_wp2_with fail
  refine (store_walk j J S ao _ cap l w1 HJ1.out HD1.out HL1.out HG.out (by have := HW.out; omega) hat).mono ?_
  rintro e w2 ⟨M, hM, hMl, he, hd2, hj2, hk2⟩
  obtain ⟨⟨x1, S1⟩, hx1⟩ : ∃ r, S.wrs (storeL J.at_ M (spanN l.length)) = r := ⟨_, rfl⟩
  have hm1 := S.wrs_m (storeL J.at_ M (spanN l.length))
  have hw1 := S.wrs_writes (storeL J.at_ M (spanN l.length))
  rw [hx1] at he hd2 hm1 hw1
  rw [storeL_length] at hw1
  simp only at he hd2 hm1 hw1
  subst he
  have HM := Lib.hid hM
  have HML := Lib.hid hMl
  have HD2 := Lib.hid hd2
  have HJ2 := Lib.hid hj2
  have HK2 := Lib.hid hk2
  have HX1 := Lib.hid hx1
  have HM1 := Lib.hid hm1
  have HW1 := Lib.hid hw1
  clear hM hMl hd2 hj2 hk2 hx1 hm1 hw1
  by_cases h1 : x1 = 0
  · subst h1
    obtain ⟨⟨x2, S2⟩, hx2⟩ : ∃ r, S1.wr J.at_ (encL J.at_ J.g l.length true) = r := ⟨_, rfl⟩
    have hm2 := S1.wr_m J.at_ (encL J.at_ J.g l.length true)
    have hw2 := S1.wr_writes J.at_ (encL J.at_ J.g l.length true)
    rw [hx2] at hm2 hw2
    have HX2 := Lib.hid hx2
    have HM2 := Lib.hid hm2
    have HW2 := Lib.hid hw2
    have c2 : w2.cell? ⟨j, 2, none⟩ = some (.int .i64 J.g) := HJ2.out.cell 2
    clear hx2 hm2 hw2
    go_wp2_with fail
    refine (setHead_at j J _ S1 S2 x2 J.g l.length true _ _ rfl rfl w2 HJ2.out HD2.out (by have := HW.out; have := HW1.out; omega) HX2.out rfl).mono ?_
    rw [HM1.out.1]
    rintro e w3 ⟨rfl, hd3, hj3, hk3⟩
    have HD3 := Lib.hid hd3
    have HJ3 := Lib.hid hj3
    have HK3 := Lib.hid hk3
    clear hd3 hj3 hk3 c2
    by_cases h2 : x2 = 0
    · subst h2
      have HJ3' : Hid (IsJour w3 j (J.head J.g true l.length)) := by have := HJ3.out; simp only [if_true] at this; exact this
      have hk13 : Kept [J.a, S.m, j] w1 w3 := (HK2.out.mono (by intro k hk _; simp at hk ⊢; omega)).trans HK3.out
      have HL3 := Lib.hid (HL1.out.kept hk13 ((HD1.out.off.append HJ1.out.off).mono (by intro k hk; simpa using hk)))
      obtain ⟨⟨x3, S3⟩, hx3⟩ : ∃ r, S2.wrs (l ++ [((J.at_ : Int), encL J.at_ (J.g + 1) 0 false)]) = r := ⟨_, rfl⟩
      have HX3 := Lib.hid hx3
      have HK13 := Lib.hid hk13
      clear hx3 hk13
      go_wp2_with fail
      refine (perform_walk j (J.head J.g true l.length) _ S2 S3 x3 ao _ cap l w3 HJ3'.out HD3.out HL3.out (by have := HW.out; have := HW1.out; have := HW2.out; omega) hlen hgb HX3.out rfl).mono ?_
      rw [show S2.m = S.m from HM2.out.1.trans HM1.out.1]
      rintro e w4 ⟨rfl, hd4, hj4, hk4⟩
      go_wp2_with fail
      go_ret
      refine ⟨M, HM.out, HML.out, ?_⟩
      have hall : S.wrs (cmtL J.at_ J.g M l) = (x3, S3) := by
        rw [cmtL, DiskS.wrs_append, HX1.out, if_pos rfl, DiskS.wrs_cons]
        simp only [HX2.out, if_true]
        exact HX3.out
      rw [hall]
      refine ⟨rfl, hd4, ⟨_, hj4, ?_, ?_, fun h => ?_⟩, (HK1.out.mono (by simp)).trans (HK13.out.trans hk4)⟩
      · split <;> rfl
      · split <;> rfl
      · simp only at h
        rw [if_pos h]; rfl
    · have h2' : (x2 != 0) = true := by rw [bne_iff_ne]; exact h2
      go_wp2_with fail
      go_ret
      refine ⟨M, HM.out, HML.out, ?_⟩
      have hall : S.wrs (cmtL J.at_ J.g M l) = (x2, S2) := by
        rw [cmtL, DiskS.wrs_append, HX1.out, if_pos rfl, DiskS.wrs_cons]
        simp only [HX2.out, if_neg h2]
      rw [hall]
      refine ⟨rfl, HD3.out, ⟨_, HJ3.out, ?_, ?_, fun h => absurd h h2⟩, (HK1.out.mono (by simp)).trans ((HK2.out.mono (by intro k hk _; simp at hk ⊢; omega)).trans HK3.out)⟩
      · split <;> rfl
      · split <;> rfl
  · have h1' : (x1 != 0) = true := by rw [bne_iff_ne]; exact h1
    go_wp2_with fail
    go_ret
    refine ⟨M, HM.out, HML.out, ?_⟩
    have hall : S.wrs (cmtL J.at_ J.g M l) = (x1, S1) := by
      rw [cmtL, DiskS.wrs_append, HX1.out, if_neg h1]
    rw [hall]
    exact ⟨rfl, HD2.out, ⟨J, HJ2.out, rfl, rfl, fun h => absurd h h1⟩, (HK1.out.mono (by simp)).trans (HK2.out.mono (by intro k hk _; simp at hk ⊢; omega))⟩
end Go.Proofs.YtiedoocgbajjjaaGreatDoor

namespace Go.Proofs.YtiedoocgbajjjaaGreatDoor
open Go.RowKit Go.Maps
set_option maxRecDepth 100000

theorem format_no (a : Nat) (S : DiskS) (at_ : Int) (w : World) (hd : IsDisk w a S) (hf : ¬ (0 ≤ at_ ∧ at_ ≤ S.size - 199)) :
    Calls Tryz.prog 38 #[.pointer (some ⟨a, 0, none⟩), .int .i64 at_] w fun e w' => e = .returned (.int .i64 1) ∧ w = w' := by
  have HD := Lib.hid hd
  have HF := Lib.hid hf
  clear hd hf
  go_enter Tryz.func38, Tryz.ntmps38
  go_wp2_with fail
  refine (fits_any a S at_ _ HD.out false (by rw [decide_eq_false HF.out])).mono ?_
  rintro e w' ⟨rfl, rfl⟩
  go_wp2_with fail
  go_ret
  exact ⟨rfl, rfl⟩

theorem format_yes (a : Nat) (S S' : DiskS) (at_ : Nat) (at' : Int) (x : Int) (w : World) (hd : IsDisk w a S) (hat : at' = at_) (hf : (at_ : Int) + 199 ≤ S.size) (hlw : S.writes < 4611686018427387904)
    (hr : S.wr at_ (encL at_ 0 0 false) = (x, S')) :
    Calls Tryz.prog 38 #[.pointer (some ⟨a, 0, none⟩), .int .i64 at'] w fun e w' => e = .returned (.int .i64 x) ∧ IsDisk w' a S' ∧ Kept [a, S.m] w w' := by
  subst hat
  have HD := Lib.hid hd
  have HR := Lib.hid hr
  clear hd hr
  go_enter Tryz.func38, Tryz.ntmps38
  go_wp2_with fail
  refine (fits_any a S at_ _ HD.out true (by rw [decide_eq_true]; omega)).mono ?_
  rintro e w' ⟨rfl, rfl⟩
  go_wp2_with fail
  generalize hw1 : World.alloc w _ = w1
  have hk1 : Kept [] w w1 := by rw [← hw1]; exact Kept.alloc _ _ _
  have hj1 : IsJour w1 w.heap.size ⟨a, at_, 0, false, 0⟩ := by rw [← hw1]; exact heap_alloc_last w _
  have hk2 := hk1
  refine (setHead_at w.heap.size ⟨a, at_, 0, false, 0⟩ _ S S' x 0 0 false _ _ rfl rfl w1 hj1 (HD.out.kept hk1 (by simp) (by simp)) hlw HR.out rfl).mono ?_
  rintro e w2 ⟨rfl, hd2, hj2, hk2⟩
  go_wp2_with fail
  go_ret
  refine ⟨rfl, hd2, ((hk1.mono (by simp)).trans hk2).mono (fun k hk hlt => ?_)⟩
  simp at hk ⊢
  omega

theorem open_no (a : Nat) (S : DiskS) (at_ : Int) (w : World) (hd : IsDisk w a S) (hf : ¬ (0 ≤ at_ ∧ at_ ≤ S.size - 199)) :
    Calls Tryz.prog 65 #[.pointer (some ⟨a, 0, none⟩), .int .i64 at_] w fun e w' => e = .returned (.tuple #[.pointer none, .int .i64 1]) ∧ w = w' := by
  have HD := Lib.hid hd
  have HF := Lib.hid hf
  clear hd hf
  go_enter Tryz.func65, Tryz.ntmps65
  go_wp2_with fail
  refine (fits_any a S at_ _ HD.out false (by rw [decide_eq_false HF.out])).mono ?_
  rintro e w' ⟨rfl, rfl⟩
  go_wp2_with fail
  go_ret2
  exact ⟨rfl, rfl⟩

theorem open_off (a : Nat) (S : DiskS) (at_ : Nat) (at' : Int) (w : World) (hd : IsDisk w a S) (hat : at' = at_) (hf : (at_ : Int) + 199 ≤ S.size) (hoff : S.off = true) :
    Calls Tryz.prog 65 #[.pointer (some ⟨a, 0, none⟩), .int .i64 at'] w fun e w' => e = .returned (.tuple #[.pointer none, .int .i64 2]) ∧ w = w' := by
  subst hat
  have HD := Lib.hid hd
  have hre : S.reach at_ = 2 := by unfold DiskS.reach; rw [hoff]; rfl
  have HRE := Lib.hid hre
  clear hd hre hoff
  go_enter Tryz.func65, Tryz.ntmps65
  go_wp2_with fail
  refine (fits_any a S at_ _ HD.out true (by rw [decide_eq_true]; omega)).mono ?_
  rintro e w' ⟨rfl, rfl⟩
  go_wp2_with fail
  refine (read_away a S at_ _ HD.out (by rw [HRE.out]; rfl)).mono ?_
  rw [HRE.out]
  rintro e w' ⟨rfl, rfl⟩
  go_wp2_with fail
  go_ret2
  exact ⟨rfl, rfl⟩

theorem reach_in {S : DiskS} {i : Int} (h0 : 0 ≤ i) (h1 : i < S.size) (ho : S.off = false) : S.reach i = 0 := by
  unfold DiskS.reach
  rw [ho, if_neg (by simp), if_neg (by omega)]

theorem open_zero (a : Nat) (S : DiskS) (at_ : Nat) (at' : Int) (w : World) (hd : IsDisk w a S) (hat : at' = at_) (hf : (at_ : Int) + 199 ≤ S.size) (hoff : S.off = false) (hz : S.blk at_ = zeroL) :
    Calls Tryz.prog 65 #[.pointer (some ⟨a, 0, none⟩), .int .i64 at'] w fun e w' => e = .returned (.tuple #[.pointer none, .int .i64 4]) ∧ Kept [] w w' := by
  subst hat
  have HD := Lib.hid hd
  have HO := Lib.hid hoff
  have HZ := Lib.hid hz
  clear hd hoff hz
  go_enter Tryz.func65, Tryz.ntmps65
  go_wp2_with fail
  refine (fits_any a S at_ _ HD.out true (by rw [decide_eq_true]; omega)).mono ?_
  rintro e w' ⟨rfl, rfl⟩
  go_wp2_with fail
  refine (read_ok a S at_ _ HD.out (reach_in (by omega) (by omega) HO.out)).mono ?_
  rw [HZ.out]
  rintro e w1 ⟨rfl, hw1⟩
  have hk1 : Kept [] w w1 := by rw [hw1]; exact Kept.alloc _ _ _
  have hh1 : w1.heap[w.heap.size]? = some (.cells (bvA zeroL) 73) := by rw [hw1]; exact heap_alloc_last w _
  have HK1 := Lib.hid hk1
  have HH1 := Lib.hid hh1
  clear hw1 hk1 hh1
  go_wp2_with fail
  refine (decode_zero w.heap.size at_ w1 (Array.getElem?_eq_some_iff.1 HH1.out).1 (range_row HH1.out)).mono ?_
  rintro e w2 ⟨rfl, hk2⟩
  have HK2 := Lib.hid hk2
  clear hk2
  go_wp2_with fail
  go_ret2
  exact ⟨rfl, HK1.out.trans (HK2.out.trans (Kept.alloc _ _ _))⟩

set_option maxHeartbeats 1000000 in
theorem open_ready (a : Nat) (S : DiskS) (at_ : Nat) (at' : Int) (g : Nat) (w : World) (hd : IsDisk w a S) (hat : at' = at_) (hf : (at_ : Int) + 199 ≤ S.size) (hoff : S.off = false) (hz : S.blk at_ = encL at_ g 0 false) (hg : g < 4611686018427387904) :
    Calls Tryz.prog 65 #[.pointer (some ⟨a, 0, none⟩), .int .i64 at'] w fun e w' => ∃ j, e = .returned (.tuple #[.pointer (some ⟨j, 0, none⟩), .int .i64 0]) ∧ IsJour w' j ⟨a, at_, g, false, 0⟩ ∧ w.heap.size ≤ j ∧ Kept [] w w' := by
  subst hat
  have HD := Lib.hid hd
  have HO := Lib.hid hoff
  have HZ := Lib.hid hz
  clear hd hoff hz
  go_enter Tryz.func65, Tryz.ntmps65
  go_wp2_with fail
  refine (fits_any a S at_ _ HD.out true (by rw [decide_eq_true]; omega)).mono ?_
  rintro e w' ⟨rfl, rfl⟩
  go_wp2_with fail
  refine (read_ok a S at_ _ HD.out (reach_in (by omega) (by omega) HO.out)).mono ?_
  rw [HZ.out]
  rintro e w1 ⟨rfl, hw1⟩
  have hk1 : Kept [] w w1 := by rw [hw1]; exact Kept.alloc _ _ _
  have hh1 : w1.heap[w.heap.size]? = some (.cells (bvA (encL at_ g 0 false)) 73) := by rw [hw1]; exact heap_alloc_last w _
  have HK1 := Lib.hid hk1
  have HH1 := Lib.hid hh1
  clear hw1 hk1 hh1
  go_wp2_with fail
  refine (decode_head w.heap.size at_ g 0 false w1 (Array.getElem?_eq_some_iff.1 HH1.out).1 (range_row HH1.out) hg (by omega) (.inl rfl)).mono ?_
  rintro e w2 ⟨rfl, hk2⟩
  have HK2 := Lib.hid hk2
  clear hk2
  go_wp2_with fail
  generalize hw3 : World.alloc (World.alloc w2 _) _ = w3
  have hk3 : Kept [] w2 w3 := by rw [← hw3]; exact (Kept.alloc _ _ _).trans (Kept.alloc _ _ _)
  have hj3 : IsJour w3 (w2.heap.size + 1) ⟨a, at_, g, false, 0⟩ := by rw [← hw3]; exact heap_alloc2 w2 _ _
  have HK3 := Lib.hid hk3
  have HJ3 := Lib.hid hj3
  clear hw3 hk3 hj3
  refine (settle_no _ _ w3 HJ3.out rfl).mono ?_
  rintro e w4 ⟨rfl, rfl⟩
  go_wp2_with fail
  go_ret2
  have s1 := HK1.out.size
  have s2 := HK2.out.size
  exact ⟨_, rfl, HJ3.out, by omega, HK1.out.trans (HK2.out.trans HK3.out)⟩

/-- What Open of a journal that owes a group leaves. -/
def OpenPost (x : Int) (a at_ g : Nat) (w : World) (S S' : DiskS) (e : Ending) (w' : World) : Prop :=
  ∃ j, ((x = 0 ∧ e = .returned (.tuple #[.pointer (some ⟨j, 0, none⟩), .int .i64 0]) ∧ IsJour w' j ⟨a, at_, g + 1, false, 0⟩ ∧ w.heap.size ≤ j) ∨ (x ≠ 0 ∧ e = .returned (.tuple #[.pointer none, .int .i64 x]))) ∧ IsDisk w' a S' ∧ Kept [a, S.m] w w'

set_option maxHeartbeats 1000000 in
theorem open_owed (a : Nat) (S S' : DiskS) (x : Int) (at_ : Nat) (at' : Int) (g : Nat) (l : List PutL) (w : World) (hd : IsDisk w a S) (hat : at' = at_) (hf : (at_ : Int) + 199 ≤ S.size) (hoff : S.off = false)
    (hz : S.blk at_ = encL at_ g l.length true) (hl : unpackL (flatL S at_ (spanN l.length)) l.length = l) (hgr : Grp at_ S.size l) (hg : g < 4611686018427387904) (hlw : S.writes + 300 < 4611686018427387904)
    (hr : S.wrs (l ++ [((at_ : Int), encL at_ (g + 1) 0 false)]) = (x, S')) :
    Calls Tryz.prog 65 #[.pointer (some ⟨a, 0, none⟩), .int .i64 at'] w fun e w' => OpenPost x a at_ g w S S' e w' := by
  subst hat
  have HD := Lib.hid hd
  have HO := Lib.hid hoff
  have HZ := Lib.hid hz
  have HL := Lib.hid hl
  have HG := Lib.hid hgr
  have HR := Lib.hid hr
  have hlen := hgr.len
  clear hd hoff hz hl hgr hr
  go_enter Tryz.func65, Tryz.ntmps65
  go_wp2_with fail
  refine (fits_any a S at_ _ HD.out true (by rw [decide_eq_true]; omega)).mono ?_
  rintro e w' ⟨rfl, rfl⟩
  go_wp2_with fail
  refine (read_ok a S at_ _ HD.out (reach_in (by omega) (by omega) HO.out)).mono ?_
  rw [HZ.out]
  rintro e w1 ⟨rfl, hw1⟩
  have hk1 : Kept [] w w1 := by rw [hw1]; exact Kept.alloc _ _ _
  have hh1 : w1.heap[w.heap.size]? = some (.cells (bvA (encL at_ g l.length true)) 73) := by rw [hw1]; exact heap_alloc_last w _
  have HK1 := Lib.hid hk1
  have HH1 := Lib.hid hh1
  clear hw1 hk1 hh1
  go_wp2_with fail
  refine (decode_head w.heap.size at_ g l.length true w1 (Array.getElem?_eq_some_iff.1 HH1.out).1 (range_row HH1.out) hg hlen (.inr rfl)).mono ?_
  rintro e w2 ⟨rfl, hk2⟩
  have HK2 := Lib.hid hk2
  clear hk2
  go_wp2_with fail
  generalize hw3 : World.alloc (World.alloc w2 _) _ = w3
  have hk3 : Kept [] w2 w3 := by rw [← hw3]; exact (Kept.alloc _ _ _).trans (Kept.alloc _ _ _)
  have hj3 : IsJour w3 (w2.heap.size + 1) ⟨a, at_, g, true, l.length⟩ := by rw [← hw3]; exact heap_alloc2 w2 _ _
  have HK3 := Lib.hid (HK1.out.trans (HK2.out.trans hk3))
  have HJ3 := Lib.hid hj3
  have hsz : w.heap.size ≤ w2.heap.size := by have s1 := HK1.out.size; have s2 := HK2.out.size; omega
  clear hw3 hk3 hj3
  refine (settle_yes _ ⟨a, at_, g, true, l.length⟩ _ S S' x l w3 HJ3.out (HD.out.kept HK3.out (by simp) (by simp)) rfl hlen hf HO.out HL.out HG.out hg hlw HR.out rfl).mono ?_
  rintro e w4 ⟨rfl, hd4, hj4, hk4⟩
  have HD4 := Lib.hid hd4
  have HJ4 := Lib.hid hj4
  have HK4 : Hid (Kept [a, S.m] w w4) := ((HK3.out.mono (by simp)).trans hk4).mono (fun k hk hlt => by simp at hk ⊢; omega)
  clear hd4 hj4 hk4
  by_cases hx : x = 0
  · subst hx
    go_wp2_with fail
    go_ret2
    have hj := HJ4.out
    simp only [if_true] at hj
    exact ⟨_, .inl ⟨rfl, rfl, hj, by omega⟩, HD4.out, HK4.out⟩
  · have hx' : (x != 0) = true := by rw [bne_iff_ne]; exact hx
    go_wp2_with fail
    go_ret2
    exact ⟨0, .inr ⟨hx, rfl⟩, HD4.out, HK4.out⟩
end Go.Proofs.YtiedoocgbajjjaaGreatDoor

namespace Go.Proofs.YtiedoocgbajjjaaGreatDoor
open Go.RowKit Go.Maps
set_option maxRecDepth 100000

def applyL (f : Int → List UInt8) : List PutL → Int → List UInt8
  | [] => f
  | p :: r => applyL (updL f p.1 p.2) r

theorem applyL_append (f : Int → List UInt8) (l r : List PutL) : applyL f (l ++ r) = applyL (applyL f l) r := by
  induction l generalizing f with
  | nil => rfl
  | cons p l ih => exact ih _

theorem applyL_other {f : Int → List UInt8} {l : List PutL} {i : Int} (h : ∀ p ∈ l, p.1 ≠ i) : applyL f l i = f i := by
  induction l generalizing f with
  | nil => rfl
  | cons p l ih =>
    rw [applyL, ih (fun q hq => h q (by simp [hq])), updL, if_neg (fun e => h p (by simp) e.symm)]

/-- Where something is written, what was there does not count. -/
theorem applyL_hit {f g : Int → List UInt8} {l : List PutL} {i : Int} (h : ∃ p ∈ l, p.1 = i) : applyL f l i = applyL g l i := by
  induction l generalizing f g with
  | nil => obtain ⟨p, hp, _⟩ := h; simp at hp
  | cons p l ih =>
    simp only [applyL]
    by_cases hl : ∃ q ∈ l, q.1 = i
    · exact ih hl
    · have hn : ∀ q ∈ l, q.1 ≠ i := fun q hq e => hl ⟨q, hq, e⟩
      rw [applyL_other hn, applyL_other hn]
      obtain ⟨q, hq, he⟩ := h
      rcases List.mem_cons.1 hq with rfl | hq
      · simp [updL, he]
      · exact absurd he (hn q hq)

/-- Alike but where l writes: alike behind l. -/
theorem applyL_mid {f g : Int → List UInt8} {l : List PutL} {i : Int} (h : (∀ p ∈ l, p.1 ≠ i) → f i = g i) : applyL f l i = applyL g l i := by
  by_cases hl : ∃ q ∈ l, q.1 = i
  · exact applyL_hit hl
  · have hn : ∀ q ∈ l, q.1 ≠ i := fun q hq e => hl ⟨q, hq, e⟩
    rw [applyL_other hn, applyL_other hn]; exact h hn

theorem applyL_get {f : Int → List UInt8} {l : List PutL} (hn : (l.map (·.1)).Nodup) {p : PutL} (hp : p ∈ l) : applyL f l p.1 = p.2 := by
  induction l generalizing f with
  | nil => simp at hp
  | cons q l ih =>
    simp only [List.map_cons, List.nodup_cons] at hn
    rcases List.mem_cons.1 hp with rfl | hp
    · rw [applyL, applyL_other, updL, if_pos rfl]
      intro q hq e
      exact hn.1 (e ▸ List.mem_map_of_mem hq)
    · exact ih hn.2 hp

/-- Writes that a disk can do. -/
def Wf (size : Int) (l : List PutL) : Prop := ∀ p ∈ l, 0 ≤ p.1 ∧ p.1 < size ∧ p.2.length = 64

/-- What a row of writes comes to: all done; or the power went off ahead of number k. -/
inductive Cut (S : DiskS) (l : List PutL) : Int → DiskS → Prop
  | all (S' : DiskS) (off : S'.off = false) (size : S'.size = S.size) (m : S'.m = S.m) (blk : S'.blk = applyL S.blk l) (writes : S'.writes = S.writes + l.length) (free : S.fused = false → S'.fused = false)
      (room : S.fused = true → (l.length : Int) ≤ S.left) : Cut S l 0 S'
  | cut (k : Nat) (S' : DiskS) (hk : k < l.length) (off : S'.off = true) (size : S'.size = S.size) (m : S'.m = S.m) (blk : S'.blk = applyL S.blk (l.take k)) (writes : S'.writes = S.writes + k) (fused : S.fused = true) (left : (k : Int) = S.left) (burnt : S'.fused = false) : Cut S l 2 S'

theorem wr_cases (S : DiskS) (hoff : S.off = false) (i : Int) (b : List UInt8) (h0 : 0 ≤ i) (h1 : i < S.size) (h64 : b.length = 64) :
    (S.fused = false ∧ S.wr i b = (0, { S with blk := updL S.blk i b, writes := S.writes + 1 })) ∨
    (S.fused = true ∧ S.left ≠ 0 ∧ S.wr i b = (0, { S with left := S.left - 1, blk := updL S.blk i b, writes := S.writes + 1 })) ∨
    (S.fused = true ∧ S.left = 0 ∧ S.wr i b = (2, { S with off := true, fused := false, left := 0 })) := by
  have hr : S.reach i = 0 := reach_in h0 h1 hoff
  unfold DiskS.wr DiskS.burn
  rw [if_pos hr, if_pos h64]
  cases hf : S.fused
  · exact .inl ⟨rfl, by simp [hf]⟩
  · by_cases hl : S.left = 0
    · exact .inr (.inr ⟨rfl, hl, by simp [hl]⟩)
    · exact .inr (.inl ⟨rfl, hl, by simp [hl]⟩)

theorem wrs_cut (S : DiskS) (hoff : S.off = false) (hl0 : 0 ≤ S.left) (l : List PutL) (hw : Wf S.size l) : Cut S l (S.wrs l).1 (S.wrs l).2 := by
  induction l generalizing S with
  | nil => exact .all S hoff rfl rfl rfl (by simp) (fun h => h) (fun _ => by simpa using hl0)
  | cons p l ih =>
    obtain ⟨h0, h1, h64⟩ := hw p (by simp)
    have hw' : Wf S.size l := fun q hq => hw q (by simp [hq])
    rw [DiskS.wrs_cons]
    rcases wr_cases S hoff p.1 p.2 h0 h1 h64 with ⟨hf, he⟩ | ⟨hf, hl, he⟩ | ⟨hf, hl, he⟩
    · rw [he, if_pos rfl]
      have := ih { S with blk := updL S.blk p.1 p.2, writes := S.writes + 1 } hoff hl0 hw'
      generalize DiskS.wrs { S with blk := updL S.blk p.1 p.2, writes := S.writes + 1 } l = r at this
      obtain ⟨x, S'⟩ := r
      cases this with
      | all _ a b c d e f g => exact .all _ a b c d (by rw [e]; simp; omega) (fun _ => f hf) (fun h => by rw [hf] at h; cases h)
      | cut k _ hk a b c d e f _ _ => simp only at f; rw [hf] at f; cases f
    · rw [he, if_pos rfl]
      have := ih { S with left := S.left - 1, blk := updL S.blk p.1 p.2, writes := S.writes + 1 } hoff (by simp only; omega) hw'
      generalize DiskS.wrs { S with left := S.left - 1, blk := updL S.blk p.1 p.2, writes := S.writes + 1 } l = r at this
      obtain ⟨x, S'⟩ := r
      cases this with
      | all _ a b c d e f g => exact .all _ a b c d (by rw [e]; simp; omega) (fun h => by rw [hf] at h; cases h) (fun h => by have := g hf; simp at this ⊢; omega)
      | cut k _ hk a b c d e f g h => exact .cut (k + 1) _ (by simp; omega) a b c (by rw [d]; rfl) (by rw [e]; push_cast; omega) hf (by simp only at g; omega) h
    · rw [he, if_neg (by simp)]
      exact .cut 0 _ (by simp) rfl rfl rfl rfl (by simp) hf (by simp [hl]) rfl

/-- No fuse: all is done. -/
theorem wrs_free (S : DiskS) (hoff : S.off = false) (hf : S.fused = false) (hl0 : 0 ≤ S.left) (l : List PutL) (hw : Wf S.size l) :
    (S.wrs l).1 = 0 ∧ (S.wrs l).2.off = false ∧ (S.wrs l).2.size = S.size ∧ (S.wrs l).2.m = S.m ∧ (S.wrs l).2.blk = applyL S.blk l ∧ (S.wrs l).2.writes = S.writes + l.length ∧ (S.wrs l).2.fused = false := by
  have := wrs_cut S hoff hl0 l hw
  generalize S.wrs l = r at this
  obtain ⟨x, S'⟩ := r
  cases this with
  | all _ a b c d e f g => exact ⟨rfl, a, b, c, d, e, f hf⟩
  | cut k _ hk a b c d e f _ _ => rw [hf] at f; cases f

theorem flatL_congr {S T : DiskS} {at_ k : Nat} (h : ∀ i : Nat, i < k → S.blk ((at_ : Int) + 1 + i) = T.blk ((at_ : Int) + 1 + i)) : flatL S at_ k = flatL T at_ k := by
  induction k with
  | zero => rfl
  | succ k ih => rw [flatL, flatL, ih (fun i hi => h i (by omega)), h k (by omega)]

theorem flat_take {S : DiskS} {at_ n : Nat} {M : List UInt8} (h : ∀ i : Nat, i < n → S.blk ((at_ : Int) + 1 + i) = blkOf M i) (k : Nat) (hk : k ≤ n) : flatL S at_ k = M.take (k * 64) := by
  induction k with
  | zero => simp [flatL]
  | succ k ih =>
    rw [flatL, ih (by omega), h k (by omega), blkOf, show (k + 1) * 64 = k * 64 + 64 by omega, List.take_add]
theorem flat_all {S : DiskS} {at_ n : Nat} {M : List UInt8} (hM : M.length = n * 64) (h : ∀ i : Nat, i < n → S.blk ((at_ : Int) + 1 + i) = blkOf M i) : flatL S at_ n = M := by
  rw [flat_take h n (Nat.le_refl _), ← hM, List.take_length]

theorem unpack_pack {M : List UInt8} {at_ : Nat} {size : Int} {l : List PutL} (hs : size ≤ 4096) (hg : Grp at_ size l) (hp : PackK M (tabN l.length) l l.length) : unpackL M l.length = l := by
  apply List.ext_getElem
  · rw [unpackL_length]
  · intro k h1 h2
    rw [unpackL_get]
    obtain ⟨p1, p2, p3⟩ := hp k h2 h2
    obtain ⟨q1, q2, q3, _⟩ := hg.each _ (List.getElem_mem h2)
    have e1 : numM M k = l[k].1.toNat := by
      unfold numM
      rw [List.getD_eq_getElem?_getD, List.getD_eq_getElem?_getD, p1, p2]
      simp [hiB, loB]; omega
    have e2 : blkOf M (tabN l.length + k) = l[k].2 := by
      apply List.ext_getElem?
      intro q
      unfold blkOf
      by_cases hq : q < 64
      · rw [List.getElem?_take_of_lt hq, List.getElem?_drop]; exact p3 q hq
      · rw [List.getElem?_eq_none (by simp; omega), List.getElem?_eq_none (by omega)]
    rw [e1, e2]
    ext
    · simp only; omega
    · rfl

/-- Outside the journal. -/
def Out (at_ : Nat) (i : Int) : Prop := ¬ ((at_ : Int) ≤ i ∧ i < at_ + 199)

/-- A disk with a journal at which no group is at hand. -/
def Ready (S : DiskS) (at_ g : Nat) : Prop := S.blk at_ = encL at_ g 0 false
/-- A disk with a journal that owes the group l. -/
structure Owes (S : DiskS) (at_ g : Nat) (l : List PutL) : Prop where
  head : S.blk at_ = encL at_ g l.length true
  grp : Grp at_ S.size l
  flat : unpackL (flatL S at_ (spanN l.length)) l.length = l

theorem spanN_le {n : Nat} (h : n ≤ 192) : spanN n ≤ 198 := by unfold spanN tabN; omega

theorem grp_out {at_ : Nat} {size : Int} {l : List PutL} (hg : Grp at_ size l) {i : Int} (hi : (at_ : Int) ≤ i ∧ i < at_ + 199) : ∀ p ∈ l, p.1 ≠ i := fun p hp e => (hg.each p hp).2.2.2 (e ▸ hi)

theorem storeL_mem {at_ n : Nat} {M : List UInt8} {p : PutL} (h : p ∈ storeL at_ M n) : ∃ i : Nat, i < n ∧ p = ((at_ : Int) + 1 + i, blkOf M i) := by
  simp only [storeL, List.mem_map, List.mem_range] at h
  obtain ⟨i, hi, rfl⟩ := h
  exact ⟨i, hi, rfl⟩
theorem storeL_nodup (at_ n : Nat) (M : List UInt8) : ((storeL at_ M n).map (·.1)).Nodup := by
  simp only [storeL, List.map_map]
  exact List.pairwise_map.2 ((List.nodup_range (n := n)).imp (fun h e => h (by simp at e; omega)))

theorem cmt_wf {size : Int} {at_ g : Nat} {M : List UInt8} {l : List PutL} (hg : Grp at_ size l) (hat : (at_ : Int) + 199 ≤ size) (hM : M.length = spanN l.length * 64) : Wf size (cmtL at_ g M l) := by
  have hsp := spanN_le hg.len
  intro p hp
  unfold cmtL at hp
  rcases List.mem_append.1 hp with h | h
  · obtain ⟨i, hi, rfl⟩ := storeL_mem h
    refine ⟨by simp only; omega, by simp only; omega, blkOf_length (by rw [hM]; omega)⟩
  · rcases List.mem_cons.1 h with rfl | h
    · exact ⟨by simp only; omega, by simp only; omega, encL_length _ _ _ _⟩
    · rcases List.mem_append.1 h with h | h
      · have := hg.each p h
        exact ⟨this.1, this.2.1, this.2.2.1⟩
      · simp at h
        subst h
        exact ⟨by simp only; omega, by simp only; omega, encL_length _ _ _ _⟩
theorem prf_wf {size : Int} {at_ g : Nat} {l : List PutL} (hg : Grp at_ size l) (hat : (at_ : Int) + 199 ≤ size) : Wf size (l ++ [((at_ : Int), encL at_ g 0 false)]) := by
  intro p hp
  rcases List.mem_append.1 hp with h | h
  · have := hg.each p h
    exact ⟨this.1, this.2.1, this.2.2.1⟩
  · simp at h
    subst h
    exact ⟨by simp only; omega, by simp only; omega, encL_length _ _ _ _⟩

theorem Owes.congr {S T : DiskS} {at_ g : Nat} {l : List PutL} (h : Owes S at_ g l) (hs : T.size = S.size) (hb : ∀ i : Int, (at_ : Int) ≤ i ∧ i < at_ + 199 → T.blk i = S.blk i) : Owes T at_ g l := by
  have hsp := spanN_le h.grp.len
  refine ⟨by rw [hb _ (by omega)]; exact h.head, by rw [hs]; exact h.grp, ?_⟩
  rw [flatL_congr (T := S) (fun i hi => hb _ (by omega))]
  exact h.flat

/-- What a group that is at hand leaves, wherever the power goes off while it is done. f0: what the blocks had ahead of it. -/
theorem perform_cut {S S' : DiskS} {at_ g : Nat} {l : List PutL} {x : Int} (f0 : Int → List UInt8) (ho : Owes S at_ g l) (hmid : ∀ i, Out at_ i → (∀ p ∈ l, p.1 ≠ i) → S.blk i = f0 i)
    (hc : Cut S (l ++ [((at_ : Int), encL at_ (g + 1) 0 false)]) x S') :
    (x = 0 ∧ Ready S' at_ (g + 1) ∧ ∀ i, Out at_ i → S'.blk i = applyL f0 l i) ∨ (x = 2 ∧ Owes S' at_ g l ∧ ∀ i, Out at_ i → (∀ p ∈ l, p.1 ≠ i) → S'.blk i = f0 i) := by
  cases hc with
  | all _ a b c d e f gg =>
    refine .inl ⟨rfl, ?_, fun i hi => ?_⟩
    · unfold Ready
      rw [d, applyL_append]
      simp [applyL, updL]
    · rw [d, applyL_append]
      simp only [applyL, updL]
      rw [if_neg (by unfold Out at hi; omega)]
      exact applyL_mid (fun h => hmid i hi h)
  | cut k _ hk a b c d e f _ _ =>
    have hk' : k ≤ l.length := by simp at hk; omega
    rw [List.take_append_of_le_length hk'] at d
    refine .inr ⟨rfl, ho.congr b (fun i hi => ?_), fun i hi hn => ?_⟩
    · rw [d]
      exact applyL_other (fun p hp => grp_out ho.grp hi p (List.mem_of_mem_take hp))
    · rw [d, applyL_other (fun p hp => hn p (List.mem_of_mem_take hp))]
      exact hmid i hi hn

theorem commit_cut {S S' : DiskS} {at_ g : Nat} {M : List UInt8} {l : List PutL} {x : Int} (hr : Ready S at_ g) (hs : S.size ≤ 4096) (hg : Grp at_ S.size l) (hp : PackK M (tabN l.length) l l.length) (hM : M.length = spanN l.length * 64)
    (hc : Cut S (cmtL at_ g M l) x S') :
    (x = 0 ∧ Ready S' at_ (g + 1) ∧ ∀ i, Out at_ i → S'.blk i = applyL S.blk l i) ∨
    (x = 2 ∧ Ready S' at_ g ∧ ∀ i, Out at_ i → S'.blk i = S.blk i) ∨
    (x = 2 ∧ Owes S' at_ g l ∧ ∀ i, Out at_ i → (∀ p ∈ l, p.1 ≠ i) → S'.blk i = S.blk i) := by
  have hsp := spanN_le hg.len
  -- what was laid into the journal
  have hst : ∀ i : Nat, i < spanN l.length → applyL S.blk (storeL at_ M (spanN l.length)) ((at_ : Int) + 1 + i) = blkOf M i := fun i hi =>
    applyL_get (storeL_nodup _ _ _) (p := ((at_ : Int) + 1 + i, blkOf M i)) (by
      simp only [storeL, List.mem_map, List.mem_range]
      exact ⟨i, hi, rfl⟩)
  have hsto : ∀ (k : Nat) i, Out at_ i ∨ i = at_ → applyL S.blk ((storeL at_ M (spanN l.length)).take k) i = S.blk i := fun k i hi =>
    applyL_other (fun p hp e => by
      obtain ⟨q, hq, rfl⟩ := storeL_mem (List.mem_of_mem_take hp)
      simp only at e
      unfold Out at hi
      omega)
  cases hc with
  | all _ a b c d e f gg =>
    refine .inl ⟨rfl, ?_, fun i hi => ?_⟩
    · unfold Ready
      rw [d, cmtL, applyL_append, applyL, applyL_append]
      simp [applyL, updL]
    · rw [d, cmtL, applyL_append, applyL, applyL_append]
      simp only [applyL, updL]
      have hne : ¬ i = (at_ : Int) := by unfold Out at hi; omega
      rw [if_neg hne]
      refine applyL_mid (fun _ => ?_)
      rw [updL, if_neg hne]
      have := hsto (spanN l.length) i (.inl hi)
      rwa [List.take_of_length_le (by rw [storeL_length]; omega)] at this
  | cut k _ hk a b c d e f _ _ =>
    right
    by_cases h1 : k ≤ spanN l.length
    · left
      rw [cmtL, List.take_append_of_le_length (by rw [storeL_length]; exact h1)] at d
      refine ⟨rfl, ?_, fun i hi => ?_⟩
      · unfold Ready
        rw [d, hsto k _ (.inr rfl)]; exact hr
      · rw [d, hsto k i (.inl hi)]
    · right
      obtain ⟨q, hq⟩ : ∃ q, k = spanN l.length + (q + 1) := ⟨k - spanN l.length - 1, by omega⟩
      have hql : q ≤ l.length := by
        simp only [cmtL, List.length_append, storeL_length, List.length_cons, List.length_nil] at hk
        omega
      have ht : (cmtL at_ g M l).take k = storeL at_ M (spanN l.length) ++ (((at_ : Int), encL at_ g l.length true) :: l.take q) := by
        rw [cmtL, List.take_append, List.take_of_length_le (by rw [storeL_length]; omega), storeL_length, hq, show spanN l.length + (q + 1) - spanN l.length = q + 1 by omega, List.take_succ_cons, List.take_append_of_le_length hql]
      rw [ht, applyL_append, applyL] at d
      have hat : ∀ i, (at_ : Int) ≤ i ∧ i < at_ + 199 → S'.blk i = updL (applyL S.blk (storeL at_ M (spanN l.length))) at_ (encL at_ g l.length true) i := fun i hi => by
        rw [d]
        exact applyL_other (fun p hp => grp_out hg hi p (List.mem_of_mem_take hp))
      refine ⟨rfl, ⟨?_, by rw [b]; exact hg, ?_⟩, fun i hi hn => ?_⟩
      · rw [hat _ (by omega)]
        simp [updL]
      · rw [flat_all (M := M) hM]
        · exact unpack_pack hs hg hp
        · intro i hi
          rw [hat _ (by omega), updL, if_neg (by omega)]
          exact hst i hi
      · rw [d, applyL_other (fun p hp => hn p (List.mem_of_mem_take hp)), updL, if_neg (by unfold Out at hi; omega)]
        have := hsto (spanN l.length) i (.inl hi)
        rwa [List.take_of_length_le (by rw [storeL_length]; omega)] at this
end Go.Proofs.YtiedoocgbajjjaaGreatDoor

/-
  The journal's calls settle, Commit, Format, Open and Groups.
  Conditions: those that each theorem states.
-/
import Derived.Test.YtmckapfncnoddaaLoad
namespace Go.Proofs.Ytmckapfncnoddaa
open Go.RowKit Go.Maps

theorem groups_any (j : Nat) (J : JourS) (w : World) (hj : IsJour w j J) :
    Calls Try.prog 22 #[.pointer (some ⟨j, 0, none⟩)] w fun e w' => e = .returned (.int .i64 J.g) ∧ w = w' := by
  have c2 : w.cell? ⟨j, 2, none⟩ = some (.int .i64 J.g) := hj.cell 2
  clear hj
  go_enter Try.func22, Try.ntmps22
  go_wp2
  go_ret
  exact ⟨rfl, rfl⟩

theorem fits_any (a : Nat) (S : DiskS) (at_ : Int) (w : World) (hd : IsDisk w a S) (y : Bool) (hy : y = decide (0 ≤ at_ ∧ at_ ≤ S.size - 199)) :
    Calls Try.prog 34 #[.pointer (some ⟨a, 0, none⟩), .int .i64 at_] w fun e w' => e = .returned (.bool y) ∧ w = w' := by
  have HD := Lib.hid hd
  have HY := Lib.hid hy
  have s0 := hd.s0
  have s1 := hd.s1
  clear hd hy
  go_enter Try.func34, Try.ntmps34
  by_cases h : 0 ≤ at_
  · go_wp2_with fail
    refine (len_any a S _ HD.out).mono ?_
    rintro e w' ⟨rfl, rfl⟩
    by_cases h2 : at_ ≤ S.size - 199
    · have : y = true := by rw [HY.out]; simp; omega
      subst this
      go_wp2_with fail
      go_ret
      exact ⟨rfl, rfl⟩
    · have : y = false := by rw [HY.out]; simp; omega
      subst this
      have hdf : decide (at_ ≤ S.size - 199) = false := by simpa using h2
      have HDF := Lib.hid hdf
      clear hdf
      go_wp2_with fail
      go_ret
      exact ⟨by rw [← HDF.out]; rfl, rfl⟩
  · have : y = false := by rw [HY.out]; simp; omega
    subst this
    have h' : ¬ (0 ≤ at_) := h
    go_wp2_with fail
    go_ret
    exact ⟨rfl, rfl⟩

theorem settle_no (j : Nat) (J : JourS) (w : World) (hj : IsJour w j J) (ho : J.owed = false) :
    Calls Try.prog 30 #[.pointer (some ⟨j, 0, none⟩)] w fun e w' => e = .returned (.int .i64 0) ∧ w = w' := by
  have c3 : w.cell? ⟨j, 3, none⟩ = some (.bool J.owed) := hj.cell 3
  rw [ho] at c3
  clear hj ho
  go_enter Try.func30, Try.ntmps30
  go_wp2_with fail
  go_ret
  exact ⟨rfl, rfl⟩

set_option maxHeartbeats 1000000 in
theorem settle_yes (j : Nat) (J J' : JourS) (S S' : DiskS) (x : Int) (l : List PutL) (w : World) (hj : IsJour w j J) (hd : IsDisk w J.a S) (ho : J.owed = true) (hn : J.n ≤ 192) (hat : (J.at_ : Int) + 199 ≤ S.size) (hoff : S.off = false)
    (hl : unpackL (flatL S J.at_ (spanN J.n)) J.n = l) (hg : Grp J.at_ S.size l) (hgb : J.g < 4611686018427387904) (hlw : S.writes + 300 < 4611686018427387904)
    (hr : S.wrs (l ++ [((J.at_ : Int), encL J.at_ (J.g + 1) 0 false)]) = (x, S')) (hJ : J' = if x = 0 then J.head (J.g + 1) false 0 else J) :
    Calls Try.prog 30 #[.pointer (some ⟨j, 0, none⟩)] w fun e w' => e = .returned (.int .i64 x) ∧ IsDisk w' J.a S' ∧ IsJour w' j J' ∧ Kept [J.a, S.m, j] w w' := by
  have c3 : w.cell? ⟨j, 3, none⟩ = some (.bool J.owed) := hj.cell 3
  rw [ho] at c3
  have HJ := Lib.hid hj
  have HD := Lib.hid hd
  have HR := Lib.hid hr
  have HJ' := Lib.hid hJ
  have HG := Lib.hid hg
  have HL := Lib.hid hl
  have HO := Lib.hid hoff
  clear hj hd hr hJ hg hl ho hoff
  go_enter Try.func30, Try.ntmps30
  go_wp2_with fail
  refine (load_walk j J S w HJ.out HD.out hn hat HO.out (by rw [HL.out]; exact HG.out)).mono ?_
  rw [HL.out]
  rintro e w1 ⟨ao, rfl, hp, hk⟩
  have HP := Lib.hid hp
  have HK := Lib.hid hk
  clear hp hk c3
  go_wp2_with fail
  refine (perform_walk j J J' S S' x ao J.n J.n l w1 (HJ.out.kept HK.out (by simp)) (HD.out.kept HK.out (by simp) (by simp)) HP.out (by omega) hn hgb HR.out HJ'.out).mono ?_
  rintro e w2 ⟨rfl, hd2, hj2, hk2⟩
  go_wp2_with fail
  go_ret
  exact ⟨rfl, hd2, hj2, (HK.out.mono (by simp)).trans hk2⟩

/-- All that Commit writes. -/
def cmtL (at_ g : Nat) (M : List UInt8) (l : List PutL) : List PutL :=
  storeL at_ M (spanN l.length) ++ (((at_ : Int), encL at_ g l.length true) :: (l ++ [((at_ : Int), encL at_ (g + 1) 0 false)]))

theorem DiskS.wrs_cons (S : DiskS) (p : PutL) (r : List PutL) : S.wrs (p :: r) = if (S.wr p.1 p.2).1 = 0 then (S.wr p.1 p.2).2.wrs r else S.wr p.1 p.2 := rfl

/-- A group that is none is refused. -/
theorem commit_no (j : Nat) (J : JourS) (S : DiskS) (ao : Option Addr) (len cap : Nat) (l : List PutL) (w : World) (hj : IsJour w j J) (hd : IsDisk w J.a S) (hl : PutsIs w ao len l) (hat : J.at_ < 4611686018427387904) (hg : ¬ Grp J.at_ S.size l) :
    Calls Try.prog 14 #[.pointer (some ⟨j, 0, none⟩), .slice ao len cap] w fun e w' => e = .returned (.int .i64 20) ∧ Kept [] w w' := by
  have c0 : w.cell? ⟨j, 0, none⟩ = some (.pointer (some ⟨J.a, 0, none⟩)) := hj.cell 0
  have HJ := Lib.hid hj
  have HD := Lib.hid hd
  have HL := Lib.hid hl
  have HG := Lib.hid hg
  clear hj hd hl hg
  go_enter Try.func14, Try.ntmps14
  go_wp2_with fail
  refine (isGroup_walk j J S ao len cap l w HJ.out HD.out HL.out hat false (iff_of_false (by simp) HG.out)).mono ?_
  rintro e w1 ⟨rfl, hk1⟩
  have HK1 := Lib.hid hk1
  clear hk1
  go_wp2_with fail
  go_ret
  exact ⟨rfl, HK1.out⟩

set_option maxHeartbeats 2000000 in
theorem commit_yes (j : Nat) (J : JourS) (S : DiskS) (ao : Option Addr) (len cap : Nat) (l : List PutL) (w : World) (hj : IsJour w j J) (hd : IsDisk w J.a S) (hl : PutsIs w ao len l) (hat : J.at_ < 4611686018427387904)
    (hg : Grp J.at_ S.size l) (ho : J.owed = false) (hgb : J.g < 4611686018427387904) (hlw : S.writes + 600 < 4611686018427387904) :
    Calls Try.prog 14 #[.pointer (some ⟨j, 0, none⟩), .slice ao len cap] w fun e w' => ∃ M, PackK M (tabN l.length) l l.length ∧ M.length = spanN l.length * 64 ∧
      e = .returned (.int .i64 (S.wrs (cmtL J.at_ J.g M l)).1) ∧ IsDisk w' J.a (S.wrs (cmtL J.at_ J.g M l)).2 ∧
      (∃ J', IsJour w' j J' ∧ J'.a = J.a ∧ J'.at_ = J.at_ ∧ ((S.wrs (cmtL J.at_ J.g M l)).1 = 0 → J' = J.head (J.g + 1) false 0)) ∧ Kept [J.a, S.m, j] w w' := by
  have c0 : w.cell? ⟨j, 0, none⟩ = some (.pointer (some ⟨J.a, 0, none⟩)) := hj.cell 0
  have HJ := Lib.hid hj
  have HD := Lib.hid hd
  have HL := Lib.hid hl
  have HG := Lib.hid hg
  have HO := Lib.hid ho
  have HW := Lib.hid hlw
  have hlen : len ≤ 192 := by rw [← hl.1]; exact hg.len
  have hsp : spanN len ≤ 198 := by unfold spanN tabN; omega
  obtain ⟨rfl, _⟩ := hl
  clear hj hd hg ho hlw
  go_enter Try.func14, Try.ntmps14
  go_wp2_with fail
  refine (isGroup_walk j J S ao _ cap l w HJ.out HD.out HL.out hat true ⟨fun _ => HG.out, fun _ => rfl⟩).mono ?_
  rintro e w1 ⟨rfl, hk1⟩
  have HK1 := Lib.hid hk1
  have HJ1 := Lib.hid (HJ.out.kept hk1 (by simp))
  have HD1 := Lib.hid (HD.out.kept hk1 (by simp) (by simp))
  have HL1 := Lib.hid (HL.out.kept hk1 (Off.nil _))
  clear hk1 c0
  go_wp2_with fail
  refine (settle_no j J w1 HJ1.out HO.out).mono ?_
  rintro e w2 ⟨rfl, rfl⟩
  go_wp2_with fail
  refine (store_walk j J S ao _ cap l w1 HJ1.out HD1.out HL1.out HG.out (by have := HW.out; omega) hat).mono ?_
  rintro e w2 ⟨M, hM, hMl, he, hd2, hj2, hk2⟩
  obtain ⟨⟨x1, S1⟩, hx1⟩ : ∃ r, S.wrs (storeL J.at_ M (spanN l.length)) = r := ⟨_, rfl⟩
  have hm1 := S.wrs_m (storeL J.at_ M (spanN l.length))
  have hw1 := S.wrs_writes (storeL J.at_ M (spanN l.length))
  rw [hx1] at he hd2 hm1 hw1
  rw [storeL_length] at hw1
  simp only at he hd2 hm1 hw1
  subst he
  have HM := Lib.hid hM
  have HML := Lib.hid hMl
  have HD2 := Lib.hid hd2
  have HJ2 := Lib.hid hj2
  have HK2 := Lib.hid hk2
  have HX1 := Lib.hid hx1
  have HM1 := Lib.hid hm1
  have HW1 := Lib.hid hw1
  clear hM hMl hd2 hj2 hk2 hx1 hm1 hw1
  by_cases h1 : x1 = 0
  · subst h1
    obtain ⟨⟨x2, S2⟩, hx2⟩ : ∃ r, S1.wr J.at_ (encL J.at_ J.g l.length true) = r := ⟨_, rfl⟩
    have hm2 := S1.wr_m J.at_ (encL J.at_ J.g l.length true)
    have hw2 := S1.wr_writes J.at_ (encL J.at_ J.g l.length true)
    rw [hx2] at hm2 hw2
    have HX2 := Lib.hid hx2
    have HM2 := Lib.hid hm2
    have HW2 := Lib.hid hw2
    have c2 : w2.cell? ⟨j, 2, none⟩ = some (.int .i64 J.g) := HJ2.out.cell 2
    clear hx2 hm2 hw2
    go_wp2_with fail
    refine (setHead_at j J _ S1 S2 x2 J.g l.length true _ _ rfl rfl w2 HJ2.out HD2.out (by have := HW.out; have := HW1.out; omega) HX2.out rfl).mono ?_
    rw [HM1.out.1]
    rintro e w3 ⟨rfl, hd3, hj3, hk3⟩
    have HD3 := Lib.hid hd3
    have HJ3 := Lib.hid hj3
    have HK3 := Lib.hid hk3
    clear hd3 hj3 hk3 c2
    by_cases h2 : x2 = 0
    · subst h2
      have HJ3' : Hid (IsJour w3 j (J.head J.g true l.length)) := by have := HJ3.out; simp only [if_true] at this; exact this
      have hk13 : Kept [J.a, S.m, j] w1 w3 := (HK2.out.mono (by intro k hk _; simp at hk ⊢; omega)).trans HK3.out
      have HL3 := Lib.hid (HL1.out.kept hk13 ((HD1.out.off.append HJ1.out.off).mono (by intro k hk; simpa using hk)))
      obtain ⟨⟨x3, S3⟩, hx3⟩ : ∃ r, S2.wrs (l ++ [((J.at_ : Int), encL J.at_ (J.g + 1) 0 false)]) = r := ⟨_, rfl⟩
      have HX3 := Lib.hid hx3
      have HK13 := Lib.hid hk13
      clear hx3 hk13
      go_wp2_with fail
      refine (perform_walk j (J.head J.g true l.length) _ S2 S3 x3 ao _ cap l w3 HJ3'.out HD3.out HL3.out (by have := HW.out; have := HW1.out; have := HW2.out; omega) hlen hgb HX3.out rfl).mono ?_
      rw [show S2.m = S.m from HM2.out.1.trans HM1.out.1]
      rintro e w4 ⟨rfl, hd4, hj4, hk4⟩
      go_wp2_with fail
      go_ret
      refine ⟨M, HM.out, HML.out, ?_⟩
      have hall : S.wrs (cmtL J.at_ J.g M l) = (x3, S3) := by
        rw [cmtL, DiskS.wrs_append, HX1.out, if_pos rfl, DiskS.wrs_cons]
        simp only [HX2.out, if_true]
        exact HX3.out
      rw [hall]
      refine ⟨rfl, hd4, ⟨_, hj4, ?_, ?_, fun h => ?_⟩, (HK1.out.mono (by simp)).trans (HK13.out.trans hk4)⟩
      · split <;> rfl
      · split <;> rfl
      · simp only at h
        rw [if_pos h]; rfl
    · have h2' : (x2 != 0) = true := by rw [bne_iff_ne]; exact h2
      go_wp2_with fail
      go_ret
      refine ⟨M, HM.out, HML.out, ?_⟩
      have hall : S.wrs (cmtL J.at_ J.g M l) = (x2, S2) := by
        rw [cmtL, DiskS.wrs_append, HX1.out, if_pos rfl, DiskS.wrs_cons]
        simp only [HX2.out, if_neg h2]
      rw [hall]
      refine ⟨rfl, HD3.out, ⟨_, HJ3.out, ?_, ?_, fun h => absurd h h2⟩, (HK1.out.mono (by simp)).trans ((HK2.out.mono (by intro k hk _; simp at hk ⊢; omega)).trans HK3.out)⟩
      · split <;> rfl
      · split <;> rfl
  · have h1' : (x1 != 0) = true := by rw [bne_iff_ne]; exact h1
    go_wp2_with fail
    go_ret
    refine ⟨M, HM.out, HML.out, ?_⟩
    have hall : S.wrs (cmtL J.at_ J.g M l) = (x1, S1) := by
      rw [cmtL, DiskS.wrs_append, HX1.out, if_neg h1]
    rw [hall]
    exact ⟨rfl, HD2.out, ⟨J, HJ2.out, rfl, rfl, fun h => absurd h h1⟩, (HK1.out.mono (by simp)).trans (HK2.out.mono (by intro k hk _; simp at hk ⊢; omega))⟩
end Go.Proofs.Ytmckapfncnoddaa

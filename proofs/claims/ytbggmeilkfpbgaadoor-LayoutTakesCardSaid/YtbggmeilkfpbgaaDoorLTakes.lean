/-
  LayoutTakes, walked: any bytes are taken as a node, as its other blocks, as entries, or refused, as the document says; what is taken is put as these bytes.
  Conditions: those of the theorem.
-/
import Derived.Test.YtbggmeilkfpbgaaDoorLRTakE
import Derived.Test.YtbggmeilkfpbgaaDoorLRTakN
namespace Go.Proofs.YtbggmeilkfpbgaaDoor
open Go.RowKit Go.Maps

theorem takeNode_one (ao : Option Addr) (len cap : Nat) (R : List UInt8) (w : World) (h : ArgB w ao len cap R) : Calls Tryd.prog 6 #[.slice ao len cap] w (TakeNU R w) := by
  have go : ∀ e w', TakeOut R w e w' → TakeNU R w e w' := by
    rintro e w' ⟨hk, ⟨h1, rfl⟩ | ⟨ao', cp, h1, rfl, hi, _⟩⟩
    · exact takeNU_no h1 hk
    · exact ⟨_, _, _, _, _, _, _, _, _, rfl, hk, hi, by rw [h1]; rfl⟩
  by_cases h32 : len = 32
  · subst h32
    rcases h.at' with h0 | ⟨b, o, rfl, hb, hr⟩
    · omega
    · exact (takeNode_32 b o cap R w h.hlen hb hr).mono go
  · exact (takeNode_no ao len cap R w h.hlen h32).mono go
theorem rtakeNode_one (ao : Option Addr) (len cap : Nat) (R : List UInt8) (w : World) (h : ArgB w ao len cap R) : Calls Tryd.prog 7 #[.slice ao len cap] w (TakeNU R w) := by
  by_cases h32 : len = 32
  · subst h32
    rcases h.at' with h0 | ⟨b, o, rfl, hb, hr⟩
    · omega
    · exact rtakeNode_32 b o cap R w h.hlen hb hr
  · exact rtakeNode_no ao len cap R w h.hlen h32

def moreR (M : List UInt8) (left : Int) : List Nat := if moreB M left then moreN M left.toNat else []
def moreC (M : List UInt8) (left : Int) : Int := if moreB M left then 0 else 4
def MoreU (M : List UInt8) (left : Int) (w : World) (e : Ending) (w' : World) : Prop :=
  ∃ ao cap, e = .returned (.tuple #[.slice ao (moreR M left).length cap, .int .i64 (moreC M left)]) ∧ Hid (Kept [] w w' ∧ IntsIs w' ao (moreR M left).length (natI (moreR M left)))
theorem moreU_of {M : List UInt8} {left : Int} {w : World} {e : Ending} {w' : World} (h : MoreOut M left w e w') : MoreU M left w e w' := by
  obtain ⟨hk, ⟨h1, rfl⟩ | ⟨ao, cap, h1, rfl, hi, _⟩⟩ := h
  · unfold MoreU moreR moreC
    rw [h1]
    exact ⟨none, 0, rfl, hk, rfl, by show (0 : Nat) ≤ _; omega, .inl rfl⟩
  · unfold MoreU moreR moreC
    rw [h1]
    simp only [if_true, moreN_length]
    exact ⟨ao, cap, rfl, hk, hi⟩
theorem takeMore_one (ao : Option Addr) (len cap : Nat) (M : List UInt8) (left : Int) (w : World) (h : ArgB w ao len cap M) : Calls Tryd.prog 9 #[.slice ao len cap, .int .i64 left] w (MoreU M left w) := by
  by_cases hbad : left < 0 ∨ 32 < left ∨ len ≠ 64
  · exact (takeMore_no ao len cap M left w h.hlen hbad).mono fun _ _ => moreU_of
  · obtain ⟨n, rfl⟩ : ∃ n : Nat, left = n := ⟨left.toNat, by omega⟩
    obtain rfl : len = 64 := by omega
    rcases h.at' with h0 | ⟨b, o, rfl, hb, hr⟩
    · omega
    · exact (takeMore_64 b o cap n M w h.hlen hr (by omega)).mono fun _ _ => moreU_of
theorem rtakeMore_one (ao : Option Addr) (len cap : Nat) (M : List UInt8) (left : Int) (w : World) (h : ArgB w ao len cap M) : Calls Tryd.prog 10 #[.slice ao len cap, .int .i64 left] w (MoreU M left w) := by
  by_cases hbad : left < 0 ∨ 32 < left ∨ len ≠ 64
  · exact (rtakeMore_no ao len cap M left w h.hlen hbad).mono fun _ _ => moreU_of
  · obtain ⟨n, rfl⟩ : ∃ n : Nat, left = n := ⟨left.toNat, by omega⟩
    obtain rfl : len = 64 := by omega
    rcases h.at' with h0 | ⟨b, o, rfl, hb, hr⟩
    · omega
    · exact (rtakeMore_64 b o cap n M w h.hlen hb hr (by omega)).mono fun _ _ => moreU_of

set_option maxRecDepth 100000 in
set_option maxHeartbeats 8000000 in
theorem takes_walk (ao bo : Option Addr) (len cap len2 cap2 : Nat) (left : Int) (R M : List UInt8) (w : World) (hA : ArgB w ao len cap R) (hM : ArgB w bo len2 cap2 M) :
    Calls Tryd.prog 3 #[.slice ao len cap, .slice bo len2 cap2, .int .i64 left] w fun e w' => e = .returned (.bool true) ∧ Kept [] w w' := by
  have HA := Lib.hid hA
  have HM := Lib.hid hM
  clear hA hM
  go_enter Tryd.func3, Tryd.ntmps3
  go_wp2_with fail
  refine (shown3_any _).mono ?_
  rintro e w1 ⟨rfl, hk1⟩
  have HK1 := Lib.hid hk1
  clear hk1
  go_wp2_with fail
  refine (takeNode_one ao len cap R _ (HA.out.kept HK1.out)).mono ?_
  rintro e w2 ⟨k, m, s, more, lf, c, D, ao2, cp2, rfl, H2⟩
  have HK2 := Lib.hid (HK1.out.trans H2.out.1)
  go_wp2_with fail
  generalize hw3 : World.alloc w2 _ = w3
  have H3 : Hid (w3.heap[w2.heap.size]? = some (.cells #[.int .i64 k, .int .i64 m, .int .i64 s, .slice ao2 D.length cp2, .int .i64 more] 26) ∧ IntsIs w3 ao2 D.length (natI D) ∧ Kept [] w w3) := by
    rw [← hw3]
    exact ⟨heap_alloc_last _ _, H2.out.2.1.kept (Kept.alloc _ _ _), HK2.out.trans (Kept.alloc _ _ _)⟩
  have HQ := Lib.hid H2.out.2.2
  obtain ⟨X, hX⟩ : ∃ X, w2.heap.size = X := ⟨_, rfl⟩
  rw [hX] at H3 ⊢
  clear hw3 hX H2 HK1 HK2
  refine (rtakeNode_one ao len cap R _ (HA.out.kept H3.out.2.2)).mono ?_
  rintro e w4 ⟨k', m', s', more', lf', c', D', ao4, cp4, rfl, H4⟩
  have hq := HQ.out.trans H4.out.2.2.symm
  simp only [Prod.mk.injEq] at hq
  obtain ⟨rfl, rfl, rfl, rfl, rfl, rfl, rfl⟩ := hq
  have HX4 : Hid (w4.heap[X]? = some (.cells #[.int .i64 k, .int .i64 m, .int .i64 s, .slice ao2 D.length cp2, .int .i64 more] 26) ∧ IntsIs w4 ao2 D.length (natI D) ∧ Kept [] w w4 ∧ IntsIs w4 ao4 D.length (natI D)) :=
    ⟨H4.out.1.heap (by simp) H3.out.1, H3.out.2.1.kept H4.out.1, H3.out.2.2.trans H4.out.1, H4.out.2.1⟩
  clear HQ H3 H4
  clear w2 w3
  obtain ⟨w5, hw5⟩ : ∃ w5, w4.alloc (.cells #[.int .i64 k, .int .i64 m, .int .i64 s, .slice ao4 D.length cp4, .int .i64 more] 26) = w5 := ⟨_, rfl⟩
  have hk5 : Kept [] w4 w5 := by rw [← hw5]; exact Kept.alloc _ _ _
  have hx5 := hk5.heap (by simp) HX4.out.1
  have hy5 : w5.heap[w4.heap.size]? = some (.cells #[.int .i64 k, .int .i64 m, .int .i64 s, .slice ao4 D.length cp4, .int .i64 more] 26) := by rw [← hw5]; exact heap_alloc_last _ _
  have x0 : w5.cell? ⟨X, 0, none⟩ = some (.int .i64 k) := cell_of_row _ _ 0 _ _ _ hx5
  have x1 : w5.cell? ⟨X, 1, none⟩ = some (.int .i64 m) := cell_of_row _ _ 1 _ _ _ hx5
  have x2 : w5.cell? ⟨X, 2, none⟩ = some (.int .i64 s) := cell_of_row _ _ 2 _ _ _ hx5
  have x3 : w5.cell? ⟨X, 3, none⟩ = some (.slice ao2 D.length cp2) := cell_of_row _ _ 3 _ _ _ hx5
  have x4 : w5.cell? ⟨X, 4, none⟩ = some (.int .i64 more) := cell_of_row _ _ 4 _ _ _ hx5
  have y0 : w5.cell? ⟨w4.heap.size, 0, none⟩ = some (.int .i64 k) := cell_of_row _ _ 0 _ _ _ hy5
  have y1 : w5.cell? ⟨w4.heap.size, 1, none⟩ = some (.int .i64 m) := cell_of_row _ _ 1 _ _ _ hy5
  have y2 : w5.cell? ⟨w4.heap.size, 2, none⟩ = some (.int .i64 s) := cell_of_row _ _ 2 _ _ _ hy5
  have y3 : w5.cell? ⟨w4.heap.size, 3, none⟩ = some (.slice ao4 D.length cp4) := cell_of_row _ _ 3 _ _ _ hy5
  have y4 : w5.cell? ⟨w4.heap.size, 4, none⟩ = some (.int .i64 more) := cell_of_row _ _ 4 _ _ _ hy5
  have H5 : Hid (Kept [] w w5 ∧ IntsIs w5 ao2 D.length (natI D) ∧ IntsIs w5 ao4 D.length (natI D)) := ⟨HX4.out.2.2.1.trans hk5, HX4.out.2.1.kept hk5, HX4.out.2.2.2.kept hk5⟩
  clear hk5 hx5 hy5 HX4
  go_wp2_with fail
  clear x0 x1 x2 x3 x4 y0 y1 y2 y3 y4 hw5
  refine (same_any k m s more k m s more ao2 ao4 D.length cp2 D.length cp4 (natI D) (natI D) _ H5.out.2.1 H5.out.2.2).mono ?_
  rw [sameB_refl]
  rintro e w6 ⟨rfl, hk6⟩
  have HK6 := Lib.hid (H5.out.1.trans hk6)
  clear hk6 H5
  go_wp2_with fail
  refine (takeMore_one bo len2 cap2 M left _ (HM.out.kept HK6.out)).mono ?_
  obtain ⟨r, hr⟩ : ∃ r, moreR M left = r := ⟨_, rfl⟩
  obtain ⟨cm, hcm⟩ : ∃ cm, moreC M left = cm := ⟨_, rfl⟩
  unfold MoreU
  rw [hr, hcm]
  rintro e w7 ⟨ao7, cp7, rfl, H7⟩
  have HK7 := Lib.hid (HK6.out.trans H7.out.1)
  have HR7 := Lib.hid H7.out.2
  clear H7 HK6
  go_wp2_with fail
  refine (rtakeMore_one bo len2 cap2 M left _ (HM.out.kept HK7.out)).mono ?_
  unfold MoreU
  rw [hr, hcm]
  rintro e w8 ⟨ao8, cp8, rfl, H8⟩
  have HK8 := Lib.hid (HK7.out.trans H8.out.1)
  have HR8 := Lib.hid (And.intro (HR7.out.kept H8.out.1) H8.out.2)
  clear H8 HK7 HR7 hr hcm
  go_wp2_with fail
  refine (ints_any ao7 ao8 r.length cp7 r.length cp8 (natI r) (natI r) _ HR8.out.1 HR8.out.2).mono ?_
  rw [decide_eq_true rfl]
  rintro e w9 ⟨rfl, hd9⟩
  have HK9 := Lib.hid (HK8.out.trans hd9.kept)
  clear hd9 HK8 HR8
  go_wp2_with fail
  refine (takeE_one bo len2 cap2 M _ (HM.out.kept HK9.out)).mono ?_
  obtain ⟨q, hq⟩ : ∃ q, takeQ M = q := ⟨_, rfl⟩
  obtain ⟨ct, hct⟩ : ∃ ct, takeC M = ct := ⟨_, rfl⟩
  unfold TakeEU
  rw [hq, hct]
  rintro e w10 ⟨ao10, cp10, rfl, H10⟩
  have HK10 := Lib.hid (HK9.out.trans H10.out.1)
  have HE10 := Lib.hid H10.out.2
  clear H10 HK9
  go_wp2_with fail
  refine (rtakeE_one bo len2 cap2 M _ (HM.out.kept HK10.out)).mono ?_
  unfold TakeEU
  rw [hq, hct]
  rintro e w11 ⟨ao11, cp11, rfl, H11⟩
  have HK11 := Lib.hid (HK10.out.trans H11.out.1)
  have HE11 := Lib.hid (And.intro (HE10.out.kept H11.out.1) H11.out.2)
  have HCT : Hid (ct = 0 → putC q = 0 ∧ putL q = M) := fun h0 => by
    rw [← hq]
    have hF : takeEF M = true := by
      cases hf : takeEF M
      · rw [← hct] at h0; unfold takeC at h0; rw [hf] at h0; simp at h0
      · rfl
    have hF2 := hF
    unfold takeEF takeEB at hF2
    simp only [Bool.and_eq_true, decide_eq_true_eq] at hF2
    unfold takeQ
    rw [if_pos hF]
    have hl16 : ¬ 16 < (entsOf M (M.length / 32)).length := by rw [entsOf_length]; omega
    unfold putC putL
    rw [if_neg hl16, if_neg hl16, if_pos hF2.2.1, if_pos hF2.2.1]
    exact ⟨rfl, hF2.2.2⟩
  have hlen : q.length ≤ 140737488355328 := HE11.out.1.2.1
  clear H11 HE10 HK10 hq hct
  go_wp2_with fail
  go_loopw [24] (fun i wr => ∃ j : Nat, j ≤ q.length ∧ i = .int .i64 j ∧ Hid (Drawn w11 wr)) (fun i _ => q.length - (intOf i).toNat)
  case atStart => exact ⟨0, by omega, rfl, 0, rfl⟩
  case round =>
    obtain ⟨j, hj, rfl, HD⟩ := hrel
    by_cases hlt : j < q.length
    · obtain ⟨b1, o1, rfl, hb1, hcc⟩ := (HE11.out.1.kept HD.out.kept).cell (by omega)
      obtain ⟨b2, o2, rfl, hb2, hdd⟩ := (HE11.out.2.kept HD.out.kept).cell (by omega)
      obtain ⟨c0, c1⟩ := hcc j hlt
      obtain ⟨d0, d1⟩ := hdd j hlt
      obtain ⟨n, hn⟩ : ∃ n, q[j].1 = n := ⟨_, rfl⟩
      obtain ⟨p, hp⟩ : ∃ p, q[j].2 = p := ⟨_, rfl⟩
      rw [hn] at c0 d0
      rw [hp] at c1 d1
      clear hn hp hcc hdd
      have hjI : (j : Int) < (q.length : Int) := by omega
      go_wp2_with fail
      go_quiet (fail)
      go_wp2_with fail
      go_roundw
      case rel => exact ⟨j + 1, by omega, by go_num, HD.out.more _⟩
      case measure => simp [intOf]; omega
    · have HK := Lib.hid (HK11.out.trans HD.out.kept)
      by_cases h0 : ct = 0
      · subst h0
        obtain ⟨hp0, hpl⟩ := HCT.out rfl
        have HP := Lib.hid (And.intro hp0 hpl)
        clear hp0 hpl
        go_wp2_with fail
        refine (putE_one ao10 q.length cp10 q _ (HE11.out.1.kept HD.out.kept)).mono ?_
        rw [HP.out.1, HP.out.2]
        rintro e w12 ⟨v12, rfl, H12⟩
        have cv1 : (convert 22 9 v12).run Tryd.prog w12 = .ok (.string (strL M)) w12 := convL H12.out.2.1
        have cv2 : (convert 22 9 (.slice bo len2 cap2)).run Tryd.prog w12 = .ok (.string (strL M)) w12 := (HM.out.kept (HK.out.trans H12.out.1)).conv
        have HK12 := Lib.hid (HK.out.trans H12.out.1)
        clear H12
        go_wp2_with fail
        go_ret
        exact ⟨rfl, HK12.out⟩
      · have h0' : (ct == 0) = false := by simpa using h0
        go_wp2_with fail
        go_ret
        exact ⟨rfl, HK.out⟩
end Go.Proofs.YtbggmeilkfpbgaaDoor

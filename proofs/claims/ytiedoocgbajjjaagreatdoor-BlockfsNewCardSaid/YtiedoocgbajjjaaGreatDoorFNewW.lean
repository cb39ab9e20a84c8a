/-
  Layer 4: the walk of BlockfsNew.
  Conditions: those that each theorem states.
-/
import Derived.Test.YtiedoocgbajjjaaGreatDoorLProof
namespace Go.Proofs.YtiedoocgbajjjaaGreatDoor
open Go.RowKit Go.Maps
set_option maxRecDepth 100000

set_option maxRecDepth 100000 in
set_option maxHeartbeats 8000000 in
theorem new_walk (ao : Option Addr) (len cap : Nat) (H : List EdH) (P : List EdP) (p B : List UInt8) (bo : Option Addr) (bl bc : Nat) (w : World) (hA : EdsIn w ao len cap H P) (hp : p.length ≤ 140737488355328) (hB : ArgB w bo bl bc B) :
    Calls Tryz.prog 8 #[.slice ao len cap, .string (strL p), .slice bo bl bc] w fun e w' => e = .returned (.bool true) ∧ Kept [] w w' := by
  have HA := Lib.hid hA
  have HP := Lib.hid hp
  have HB := Lib.hid hB
  have hcap := hA.caps
  clear hA hp hB
  go_enter Tryz.func8, Tryz.ntmps8
  go_wp2_with fail
  refine (shown4_any w).mono ?_
  rintro e w1 ⟨rfl, hk1⟩
  have HG := Lib.hid (ground_grd w w1 hk1 800 2 ⟨by omega, by omega, by omega⟩ rfl)
  have HK1 := Lib.hid hk1
  clear hk1
  go_wp2_with fail
  refine HG.out.mono ?_
  rintro e w2 ⟨f, d, j, m, rfl, H2⟩
  clear HG
  obtain ⟨N, hN⟩ : ∃ N, min len 30 = N := ⟨_, rfl⟩
  have hN1 : N ≤ len := by omega
  have hN2 : N ≤ 30 := by omega
  have HN := Lib.hid hN
  clear hN
  go_wp2_with fail
  go_loopw [10] (fun i wr => ∃ k : Nat, k ≤ N ∧ i = .int .i64 k ∧ Hid (∃ T, Grd w f d j m 800 2 k T wr)) (fun i _ => N - (intOf i).toNat)
  case atStart => exact ⟨0, by omega, rfl, ⟨_, H2.out.1⟩⟩
  case round =>
    obtain ⟨k, hk, rfl, HR⟩ := hrel
    by_cases hlt : k < N
    · obtain ⟨T, hT⟩ := HR.out
      have q1 : (k : Int) < (len : Int) := by omega
      have q2 : (k : Int) < 30 := by omega
      have hkl : k < len := by omega
      have hkc : k + 1 ≤ cap := by omega
      obtain ⟨b, o, rfl, HD⟩ := hT.one (by omega) HA.out hkl (by rw [HA.out.len.2]; exact hkl) (cap - k)
      have HD := Lib.hid HD
      clear hT
      go_wp2_with fail
      refine HD.out.mono ?_
      rintro e w3 ⟨rfl, H3⟩
      have HK : Hid (∃ T, Grd w f d j m 800 2 (k + 1) T w3) := ⟨_, H3.out.1⟩
      clear HD H3
      go_wp2_with fail
      go_roundw
      case rel => exact ⟨k + 1, by omega, by go_num, HK⟩
      case measure => simp [intOf]; omega
    · have HKR : Hid (∃ k T, k ≤ 30 ∧ Grd w f d j m 800 2 k T wr) := by obtain ⟨T, hT⟩ := HR.out; exact ⟨k, T, by omega, hT⟩
      have hor : ¬ (k : Int) < (len : Int) ∨ ((k : Int) < (len : Int) ∧ ¬ (k : Int) < 30) := by have := HN.out; omega
      clear HR hlt hN1 hN2 HN hk
      rcases hor with q1 | ⟨q1, q2⟩
      all_goals
        go_wp2_with fail
        obtain ⟨x, hx⟩ : ∃ x, wr.heap.size = x := ⟨_, rfl⟩
        obtain ⟨w4, hw4⟩ : ∃ w4, wr.alloc (.cells #[.int .i64 5, .string (strL p), .int .i64 0, .slice none 0 0, .int .i64 1, .string (strL p), .int .i64 77, .slice bo bl bc] 35) = w4 := ⟨_, rfl⟩
        have HW4 : Hid (Kept [] wr w4 ∧ w4.heap[x]? = some (.cells #[.int .i64 5, .string (strL p), .int .i64 0, .slice none 0 0, .int .i64 1, .string (strL p), .int .i64 77, .slice bo bl bc] 35)) := by
          show _ ∧ _
          rw [← hw4, ← hx]; exact ⟨Kept.alloc _ _ _, heap_alloc_last _ _⟩
        rw [hw4, hx]
        clear hw4 hx
        obtain ⟨n, T, hn, hT⟩ := HKR.out
        have hA4 := edarg2 HW4.out.2 (argB_nil w4) (by have := HP.out; omega) ((HB.out.kept hT.kept).kept HW4.out.1) (by have := HP.out; omega)
        have HD := Lib.hid ((hT.go HW4.out.1).doo (cap := 2) (by omega) hA4)
        clear hA4
        obtain ⟨c, hc⟩ : ∃ c, (doP 800 2 T [⟨5, 0, p, []⟩, ⟨1, 77, p, B⟩]).1 = c := ⟨_, rfl⟩
        obtain ⟨U, hU⟩ : ∃ U, (doP 800 2 T [⟨5, 0, p, []⟩, ⟨1, 77, p, B⟩]).2 = U := ⟨_, rfl⟩
        rw [hc, hU] at HD
        have HC : Hid (doP 800 2 T [⟨5, 0, p, []⟩, ⟨1, 77, p, B⟩] = (c, U)) := Prod.ext hc hU
        clear hc hU hT HKR HW4
        refine HD.out.mono ?_
        rintro e w5 ⟨rfl, H5⟩
        clear HD
        by_cases h0 : c = 0
        case neg =>
          have q0 : (c != 0) = true := by simpa using h0
          clear h0
          go_wp2_with fail
          go_ret
          exact ⟨rfl, H5.out.1.kept⟩
        subst h0
        obtain ⟨hr, hs1, hs2, hb⟩ := new_pure HC.out
        have HR5 := Lib.hid (H5.out.1.read p (by have := HP.out; omega))
        rw [hr] at HR5
        obtain ⟨cb, hcb⟩ : ∃ cb, (atP U (p ++ [47, 97])).1 = cb := ⟨_, rfl⟩
        obtain ⟨z1, z2, z3, hsb⟩ := statV_agg (atP U (p ++ [47, 97])).2
        rw [hcb] at hb
        have q5 : (cb != 0) = true := by simpa using hb
        clear hr hb HC
        go_wp2_with fail
        refine HR5.out.mono ?_
        rintro e w6 ⟨v, rfl, H6⟩
        have HS6 := Lib.hid (H6.out.1.stat p (by have := HP.out; omega))
        rw [hs1, hs2] at HS6
        clear HR5 hs1 hs2
        go_wp2_with fail
        refine HS6.out.mono ?_
        rintro e w7 ⟨rfl, H7⟩
        clear HS6
        have hps : ¬ 9223372036854775807 < (strL p).size + 2 := by rw [strL_size]; have := HP.out; omega
        obtain ⟨z, hz⟩ : ∃ z, w7.heap.size = z := ⟨_, rfl⟩
        obtain ⟨w8, hw8⟩ : ∃ w8, w7.alloc (.cells #[.int .i64 1, .int .i64 77, .int .i64 (B.length : Int)] 48) = w8 := ⟨_, rfl⟩
        have HW8 : Hid (Kept [] w7 w8 ∧ w8.heap[z]? = some (.cells #[.int .i64 1, .int .i64 77, .int .i64 (B.length : Int)] 48)) := by
          show _ ∧ _
          rw [← hw8, ← hz]; exact ⟨Kept.alloc _ _ _, heap_alloc_last _ _⟩
        go_wp2_with fail
        rw [show strL p ++ ({ data := #[47, 97] } : ByteArray) = strL (p ++ [47, 97]) from strL_cat p [47, 97]]
        clear hw8 hz hps
        have HS8 := Lib.hid ((H7.out.1.go HW8.out.1).stat (p ++ [47, 97]) (by have := HP.out; simp; omega))
        rw [hcb, hsb] at HS8
        clear hcb hsb
        refine HS8.out.mono ?_
        rintro e w9 ⟨rfl, H9⟩
        clear HS8
        obtain ⟨z', hz'⟩ : ∃ z', w9.heap.size = z' := ⟨_, rfl⟩
        obtain ⟨w10, hw10⟩ : ∃ w10, w9.alloc (.cells #[.int .i64 z1, .int .i64 z2, .int .i64 z3] 48) = w10 := ⟨_, rfl⟩
        have hk10 : Kept [] w9 w10 := by rw [← hw10]; exact Kept.alloc _ _ _
        have hr10 : w10.heap[z]? = some (.cells #[.int .i64 1, .int .i64 77, .int .i64 (B.length : Int)] 48) := (H9.out.2.trans hk10).heap (by simp) HW8.out.2
        have y0 : w10.cell? ⟨z, 0, none⟩ = some (.int .i64 1) := cell_of_row _ _ 0 _ _ _ hr10
        have y1 : w10.cell? ⟨z, 1, none⟩ = some (.int .i64 77) := cell_of_row _ _ 1 _ _ _ hr10
        have y2 : w10.cell? ⟨z, 2, none⟩ = some (.int .i64 (B.length : Int)) := cell_of_row _ _ 2 _ _ _ hr10
        have HK6 : Hid (Kept [] w6 w10) := H7.out.2.trans (HW8.out.1.trans (H9.out.2.trans hk10))
        obtain ⟨ga, gk, rfl, _⟩ := OwnB.val (show OwnB w5.heap.size w6 v B from H6.out.2.2)
        have cv1 : (convert 22 9 (.slice ga B.length gk)).run Tryz.prog w10 = .ok (.string (strL B)) w10 := (OwnB.kept (show OwnB w5.heap.size w6 _ B from H6.out.2.2) HK6.out (by simp)).slIs.conv
        have cv2 : (convert 22 9 (.slice bo bl bc)).run Tryz.prog w10 = .ok (.string (strL B)) w10 := (HB.out.kept (H9.out.1.kept.trans hk10)).conv
        have hbl : B.length = bl := HB.out.hlen
        subst hbl
        have HKF : Hid (Kept [] w w10) := H9.out.1.kept.trans hk10
        clear hk10 hr10
        go_wp2_with fail
        go_ret
        exact ⟨rfl, HKF.out⟩
end Go.Proofs.YtiedoocgbajjjaaGreatDoor

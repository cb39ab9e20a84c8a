/-
  Layer 5: the walk of TablesUnlike.
  Conditions: those that each theorem states.
-/
import Derived.Test.YtdaofgmdledcbaaDoorTText
import Derived.Test.YtdaofgmdledcbaaDoorTShown
import Derived.Test.YtdaofgmdledcbaaDoorTSame
namespace Go.Proofs.YtdaofgmdledcbaaDoor
open Go.RowKit Go.Maps

set_option maxRecDepth 100000 in
set_option maxHeartbeats 4000000 in
theorem tunlike_walk (t : List UInt8) (ao1 : Option Addr) (len1 cap1 : Nat) (a : List TRow) (ao2 : Option Addr) (len2 cap2 : Nat) (b : List TRow) (w : World) (ht : t.length ≤ 9223372036854775807) (h1 : RowsIs w ao1 len1 a) (h2 : RowsIs w ao2 len2 b) :
    Calls Tryd.prog 7 #[.string (strL t), .slice ao1 len1 cap1, .slice ao2 len2 cap2] w fun e w' => e = .returned (.bool true) ∧ Kept [] w w' := by
  have H1 := Lib.hid h1
  have H2 := Lib.hid h2
  clear h1 h2
  go_enter Tryd.func7, Tryd.ntmps7
  go_wp2_with fail
  refine (shown5_any _).mono ?_
  rintro e w1 ⟨rfl, hk1⟩
  have HK1 := Lib.hid hk1
  clear hk1
  go_wp2_with fail
  refine (print_any t ao1 len1 cap1 a _ ht (H1.out.kept HK1.out)).mono ?_
  rintro e w2 ⟨v2, n2, c2, rfl, HP2⟩
  have HK2 := Lib.hid (HK1.out.trans HP2.out.2.2.2)
  go_wp2_with fail
  refine (print_any t ao2 len2 cap2 b _ ht (H2.out.kept HK2.out)).mono ?_
  rintro e w3 ⟨v3, n3, c3, rfl, HP3⟩
  have HK3 := Lib.hid (HK2.out.trans HP3.out.2.2.2)
  go_wp2_with fail
  refine (rsame_any ao1 len1 cap1 a ao2 len2 cap2 b _ (H1.out.kept HK3.out) (H2.out.kept HK3.out)).mono ?_
  rintro e w4 ⟨rfl, hk4⟩
  have HK4 := Lib.hid (HK3.out.trans hk4)
  have cv2 : (convert 25 9 v2).run Tryd.prog w4 = .ok (.string (strL c2)) w4 := convL ((HP2.out.2.1.kept HP3.out.2.2.2).kept hk4)
  have cv3 : (convert 25 9 v3).run Tryd.prog w4 = .ok (.string (strL c3)) w4 := convL (HP3.out.2.1.kept hk4)
  clear hk4
  by_cases e2 : n2 = 0
  · have q2 : (n2 != 0) = false := by simpa using e2
    have q2' : (n2 == 0) = true := by simpa using e2
    by_cases e3 : n3 = 0
    · have q3 : (n3 != 0) = false := by simpa using e3
      have q3' : (n3 == 0) = true := by simpa using e3
      have HI : Hid (((strL c2).toList == (strL c3).toList) = decide (a = b)) := by
        show _ = _
        rw [str_beq]
        have := print_inj (by rw [HP2.out.1, e2]) (by rw [HP3.out.1, e3] : printE t b = (0, c3))
        rw [Bool.eq_iff_iff]
        simpa using this
      obtain ⟨d, hd⟩ : ∃ d, decide (a = b) = d := ⟨_, rfl⟩
      have hI := HI.out
      rw [hd] at hI ⊢
      clear HI e2 e3 HP2 HP3 hd
      cases d
      all_goals
        go_wp2_with fail
        go_ret
        exact ⟨rfl, HK4.out⟩
    · have q3 : (n3 != 0) = true := by simpa using e3
      have q3' : (n3 == 0) = false := by simpa using e3
      clear e2 e3 HP2 HP3
      go_wp2_with fail
      go_ret
      exact ⟨rfl, HK4.out⟩
  · have q2 : (n2 != 0) = true := by simpa using e2
    have q2' : (n2 == 0) = false := by simpa using e2
    clear e2 HP2 HP3
    go_wp2_with fail
    go_ret
    exact ⟨rfl, HK4.out⟩
end Go.Proofs.YtdaofgmdledcbaaDoor

/-
  Layer 11: the walk of LexerCuts.
  Conditions: those that each theorem states.
-/
import Derived.Test.YtfmhpjpalfepjaaUShown
namespace Go.Proofs.Ytfmhpjpalfepjaa
open Go.RowKit Go.Maps

set_option maxRecDepth 100000 in
set_option maxHeartbeats 8000000 in
theorem cuts_walk (S : ByteArray) (w : World) (hs : S.size ≤ 4611686018427387904) : Calls Try.prog 3 #[.string S] w fun e w' => e = .returned (.bool true) ∧ Kept [] w w' := by
  obtain ⟨a, ha⟩ : ∃ a, lxA (bl S) = a := ⟨_, rfl⟩
  obtain ⟨b, hb⟩ : ∃ a, lxE (bl S) = a := ⟨_, rfl⟩
  obtain ⟨L, hL⟩ : ∃ a, lxW (bl S) = a := ⟨_, rfl⟩
  have HL := Lib.hid (show lxA (bl S) = a ∧ lxE (bl S) = b ∧ lxW (bl S) = L from ⟨ha, hb, hL⟩)
  obtain ⟨n1, hn1⟩ : ∃ b, nameB (bl S) = b := ⟨_, rfl⟩
  obtain ⟨n2, hn2⟩ : ∃ b, typeB (bl S) = b := ⟨_, rfl⟩
  obtain ⟨n3, hn3⟩ : ∃ b, keyB (bl S) = b := ⟨_, rfl⟩
  have HN := Lib.hid (show nameB (bl S) = n1 ∧ typeB (bl S) = n2 ∧ keyB (bl S) = n3 from ⟨hn1, hn2, hn3⟩)
  clear ha hb hL hn1 hn2 hn3
  go_enter Try.func3, Try.ntmps3
  go_wp2_with fail
  refine (shown11_any w).mono ?_
  rintro e w1 ⟨rfl, hk1⟩
  have HK1 := Lib.hid hk1
  clear hk1
  go_wp2_with fail
  refine (lex_any S _ (by omega)).mono ?_
  intro e w2 h2
  obtain ⟨va, rfl, how2, hk2⟩ := h2.at HL.out
  have H2 : Hid (WsIs w2 va L ∧ Kept [] w w2) := ⟨how2.es, HK1.out.trans hk2⟩
  clear h2 how2 hk2
  go_wp2_with fail
  refine (rlex_any S _ (by omega)).mono ?_
  intro e w3 h3
  obtain ⟨vb, rfl, how3, hk3⟩ := h3.at HL.out
  have H3 : Hid (WsIs w3 va L ∧ WsIs w3 vb L ∧ Kept [] w w3) := ⟨H2.out.1.kept hk3, how3.es, H2.out.2.trans hk3⟩
  clear h3 how3 hk3
  go_wp2_with fail
  refine (same11_any va vb L _ H3.out.1 H3.out.2.1).mono ?_
  rintro e w4 ⟨rfl, hk4⟩
  have HK4 : Hid (Kept [] w w4) := H3.out.2.2.trans hk4
  clear hk4
  go_wp2_with fail
  refine (pname_any S _ (by omega)).mono ?_
  rw [HN.out.1]
  rintro e w5 ⟨rfl, hk5⟩
  have HK5 : Hid (Kept [] w w5) := HK4.out.trans hk5
  clear hk5
  go_wp2_with fail
  refine (rname_any S _ hs).mono ?_
  rw [HN.out.1]
  rintro e w6 ⟨rfl, rfl⟩
  go_wp2_with fail
  refine (ptype_any S _ (by omega)).mono ?_
  rw [HN.out.2.1]
  rintro e w7 ⟨rfl, hk7⟩
  have HK7 : Hid (Kept [] w w7) := HK5.out.trans hk7
  clear hk7
  go_wp2_with fail
  refine (rtype_any S _ (by omega)).mono ?_
  rw [HN.out.2.1]
  rintro e w8 ⟨rfl, rfl⟩
  go_wp2_with fail
  refine (key_any S _).mono ?_
  rw [HN.out.2.2]
  rintro e w9 ⟨rfl, rfl⟩
  go_wp2_with fail
  refine (rkey_any S _).mono ?_
  rw [HN.out.2.2]
  rintro e w9 ⟨rfl, rfl⟩
  go_wp2_with fail
  go_ret
  exact ⟨rfl, HK7.out⟩
end Go.Proofs.Ytfmhpjpalfepjaa

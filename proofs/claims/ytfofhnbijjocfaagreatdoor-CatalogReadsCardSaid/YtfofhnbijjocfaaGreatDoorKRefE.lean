/-
  Layer 7: the document's Encode.
  Conditions: those that each theorem states.
-/
import Derived.Test.YtfofhnbijjocfaaGreatDoorKRefC
import Derived.Test.YtfofhnbijjocfaaGreatDoorKCheck
namespace Go.Proofs.YtfofhnbijjocfaaGreatDoor
open Go.RowKit Go.Maps
set_option maxRecDepth 100000

set_option maxRecDepth 100000 in
set_option maxHeartbeats 4000000 in
theorem rcEncode_any (c : Cat) (v : Value) (w : World) (h : CatIs w v c) :
    Calls Tryz.prog 8 #[v] w (EncOut c w) := by
  have HH := Lib.hid h
  obtain ⟨ra, rc, ea, ec, rfl, hb⟩ := h.box
  obtain ⟨n, hn⟩ : ∃ n, c.R.length = n := ⟨_, rfl⟩
  obtain ⟨m, hm⟩ : ∃ m, c.E.length = m := ⟨_, rfl⟩
  obtain ⟨vv, hvv⟩ : ∃ vv, c.ver = vv := ⟨_, rfl⟩
  obtain ⟨nd, hnd⟩ : ∃ nd, strL c.node = nd := ⟨_, rfl⟩
  have hA := Kept.alloc [] w (.cells #[.int .i64 c.ver, .string (strL c.node), .slice ra c.R.length rc, .slice ea c.E.length ec] 25)
  obtain ⟨w1, hw1⟩ : ∃ w1, w.alloc (.cells #[.int .i64 c.ver, .string (strL c.node), .slice ra c.R.length rc, .slice ea c.E.length ec] 25) = w1 := ⟨_, rfl⟩
  rw [hw1] at hb hA
  have HB := Lib.hid hb
  have HA := Lib.hid hA
  have HC : Hid (∀ w', Kept [] w1 w' → w'.cell? ⟨w.heap.size, 0, none⟩ = some (.int .i64 vv) ∧ w'.cell? ⟨w.heap.size, 1, none⟩ = some (.string nd) ∧ w'.cell? ⟨w.heap.size, 2, none⟩ = some (.slice ra n rc) ∧ w'.cell? ⟨w.heap.size, 3, none⟩ = some (.slice ea m ec)) := fun w' hk => by
    rw [← hn, ← hm, ← hvv, ← hnd]
    exact ⟨(HB.out.kept hk).c0, (HB.out.kept hk).c1, (HB.out.kept hk).c2, (HB.out.kept hk).c3⟩
  obtain ⟨p, hp⟩ : ∃ p, checkO c = p := ⟨_, rfl⟩
  rw [hn, hm, hvv, hnd] at hw1 HH
  rw [hn, hm, hvv, hnd]
  have HCK : Hid (Calls Tryz.prog 11 #[.agg #[.int .i64 vv, .string nd, .slice ra n rc, .slice ea m ec]] w1 fun e w2 => e = .returned (.int .i64 p) ∧ Kept [] w1 w2) := by rw [← hp]; exact rcCheck_any c _ w1 (HH.out.kept HA.out)
  have HBY : Hid (p = 0 → ∀ w', Kept [] w1 w' → Calls Tryz.prog 16 #[.agg #[.int .i64 vv, .string nd, .slice ra n rc, .slice ea m ec]] w' fun e w2 => ∃ v', e = .returned v' ∧ Hid (OwnB w'.heap.size w2 v' (catB c) ∧ Kept [] w' w2)) := fun h0 w' hk => by
    rw [h0] at hp
    exact rcbytes_any c _ w' (HH.out.kept (HA.out.trans hk)) (checkO_ok hp).1
  have HEN : Hid ((p = 0 → encL c = catB c) ∧ (p ≠ 0 → encL c = [])) := ⟨fun h0 => by unfold encL; rw [if_pos (by rw [hp, h0])], fun h0 => by unfold encL; rw [if_neg (by rw [hp]; exact h0)]⟩
  have HP := Lib.hid hp
  obtain ⟨c0, c1, c2, c3⟩ := HC.out w1 (Kept.refl _ _)
  clear h hb hA hn hm hvv hnd hp
  go_enter Tryz.func8, Tryz.ntmps8
  go_wp2_with fail
  refine HCK.out.mono ?_
  rintro e w2 ⟨rfl, hk2⟩
  have HK2 := Lib.hid hk2
  clear hk2 hw1 c0 c1 c2 c3
  obtain ⟨c0, c1, c2, c3⟩ := HC.out w2 HK2.out
  by_cases h0 : p = 0
  case neg =>
    have q0 : (p != 0) = true := by simpa using h0
    have HE := Lib.hid (HEN.out.2 h0)
    go_wp2_with fail
    go_ret2
    refine ⟨.slice none 0 0, by rw [HP.out]; rfl, ?_, HA.out.trans HK2.out⟩
    rw [HE.out]
    exact World.ownsRow_nil _ _ _ _
  subst h0
  have HBZ := Lib.hid (HBY.out rfl w2 HK2.out)
  have HE := Lib.hid (HEN.out.1 rfl)
  clear HBY HEN
  go_wp2_with fail
  refine HBZ.out.mono ?_
  rintro e w3 ⟨v3, rfl, H3⟩
  clear c0 c1 c2 c3
  go_wp2_with fail
  go_ret2
  refine ⟨v3, by rw [HP.out]; rfl, ?_, HA.out.trans (HK2.out.trans H3.out.2)⟩
  rw [HE.out]
  exact OwnB.mono H3.out.1 (by have := HA.out.size; have := HK2.out.size; omega)
end Go.Proofs.YtfofhnbijjocfaaGreatDoor

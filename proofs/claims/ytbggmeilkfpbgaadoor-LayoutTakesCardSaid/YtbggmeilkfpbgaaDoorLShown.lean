/-
  Layer 3: the law's own examples come out right (shown).
  Conditions: none.
-/
import Derived.Test.YtbggmeilkfpbgaaDoorLPath
import Derived.Test.YtbggmeilkfpbgaaDoorLOf
namespace Go.Proofs.YtbggmeilkfpbgaaDoor
open Go.RowKit Go.Maps

theorem path_ab (w : World) : Calls Tryd.prog 19 #[.string ⟨#[47, 97, 47, 98]⟩] w fun e w' => ∃ b o cap, e = .returned (.tuple #[.slice (some ⟨b, o, none⟩) 2 cap, .int .i64 0]) ∧ Hid (w'.cell? ⟨b, o + 1, none⟩ = some (.string ⟨#[98]⟩) ∧ b < w'.heap.size ∧ Kept [] w w') := by
  refine (path_any [47, 97, 47, 98] w (by simp)).mono fun e w' ⟨hk, h⟩ => ?_
  have hp : pathO [47, 97, 47, 98] = some [[97], [98]] := by decide
  rcases h with ⟨h, _⟩ | ⟨ps, v, h, he, hs⟩
  · rw [hp] at h; cases h
  · rw [hp] at h
    injection h with h
    subst h
    rcases hs with ⟨b, o, cap, rfl, hb, hr⟩ | ⟨_, h⟩
    · exact ⟨b, o, cap, he, hr 1 _ rfl, hb, hk⟩
    · cases h
theorem path_dd (w : World) : Calls Tryd.prog 19 #[.string ⟨#[47, 46, 46]⟩] w fun e w' => e = .returned (.tuple #[.slice none 0 0, .int .i64 40]) ∧ Kept [] w w' := by
  refine (path_any [47, 46, 46] w (by simp)).mono fun e w' ⟨hk, h⟩ => ?_
  have hp : pathO [47, 46, 46] = none := by decide
  rcases h with ⟨_, h⟩ | ⟨ps, v, h, he, hs⟩
  · exact ⟨h, hk⟩
  · rw [hp] at h; cases h
theorem put_ex (B : Nat) (w : World) (hb : w.heap[B]? = some (.cells #[.int .i64 300] 3)) : Calls Tryd.prog 20 #[.agg #[.int .i64 1, .int .i64 420, .int .i64 3, .slice (some ⟨B, 0, none⟩) 1 1, .int .i64 0]] w fun e w' => ∃ b o cap vm, e = .returned (.tuple #[.slice (some ⟨b, o, none⟩) 32 cap, vm, .int .i64 0]) ∧ Hid (w'.cell? ⟨b, o, none⟩ = some (.int .u8 1) ∧ w'.cell? ⟨b, o + 2, none⟩ = some (.int .u8 164) ∧ w'.cell? ⟨b, o + 4, none⟩ = some (.int .u8 3) ∧ w'.cell? ⟨b, o + 7, none⟩ = some (.int .u8 1) ∧ w'.cell? ⟨b, o + 8, none⟩ = some (.int .u8 44) ∧ Kept [] w w') := by
  have hl : IntsIs w (some ⟨B, 0, none⟩) 1 (natI [300]) := ⟨rfl, by omega, .inr ⟨B, 0, rfl, (Array.getElem?_eq_some_iff.1 hb).1, fun j v hv => by
    rw [Nat.zero_add, cell_of_row w B j _ _ _ hb]
    simpa [iv, natI] using hv⟩⟩
  refine (putNode_yes 1 420 3 0 (some ⟨B, 0, none⟩) 1 1 [300] w hl (by omega) (by decide)).mono fun e w' ⟨va, vm, he, ha, hm, hk⟩ => ?_
  rcases ha with ⟨b, o, cap, rfl, hb', hr⟩ | ⟨_, h⟩
  · have hlen : (recL 1 (fieldsL 420 3 0 [300])).length = 32 := by decide
    rw [hlen] at he
    exact ⟨b, o, cap, vm, he, hr 0 _ (by rfl), hr 2 _ (by rfl), hr 4 _ (by rfl), hr 7 _ (by rfl), hr 8 _ (by rfl), hk⟩
  · have := congrArg List.length h
    simp [recL] at this

set_option maxRecDepth 100000 in
set_option maxHeartbeats 4000000 in
theorem shown3_any (w : World) : Calls Tryd.prog 5 #[] w fun e w' => e = .returned (.bool true) ∧ Kept [] w w' := by
  go_enter Tryd.func5, Tryd.ntmps5
  go_wp2_with fail
  refine (of_yes 512 _ (by omega) (by omega)).mono ?_
  rw [show layV 512 = #[.int .i64 512, .int .i64 0, .int .i64 1, .int .i64 2, .int .i64 201, .int .i64 202, .int .i64 234, .int .i64 64] from rfl]
  rintro e w1 ⟨rfl, hk1⟩
  have HK1 := Lib.hid hk1
  clear hk1
  go_wp2_with fail
  generalize hw2 : World.alloc w1 _ = w2
  have HB2 : Hid (w2.heap[w1.heap.size]? = some (.cells #[.int .i64 512, .int .i64 0, .int .i64 1, .int .i64 2, .int .i64 201, .int .i64 202, .int .i64 234, .int .i64 64] 45) ∧ Kept [] w w2) := ⟨by rw [← hw2]; exact heap_alloc_last _ _, by rw [← hw2]; exact HK1.out.trans (Kept.alloc _ _ _)⟩
  clear hw2 HK1
  generalize w1.heap.size = L at HB2 ⊢
  refine (path_ab _).mono ?_
  rintro e w3 ⟨b, o, cap, rfl, H3⟩
  have HB3 : Hid (w3.heap[L]? = some (.cells #[.int .i64 512, .int .i64 0, .int .i64 1, .int .i64 2, .int .i64 201, .int .i64 202, .int .i64 234, .int .i64 64] 45) ∧ Kept [] w w3) := ⟨H3.out.2.2.heap (by simp) HB2.out.1, HB2.out.2.trans H3.out.2.2⟩
  clear HB2
  go_wp2_with fail
  refine (path_dd _).mono ?_
  rintro e w4 ⟨rfl, hk4⟩
  have HB4 : Hid (w4.heap[L]? = some (.cells #[.int .i64 512, .int .i64 0, .int .i64 1, .int .i64 2, .int .i64 201, .int .i64 202, .int .i64 234, .int .i64 64] 45) ∧ Kept [] w w4) := ⟨hk4.heap (by simp) HB3.out.1, HB3.out.2.trans hk4⟩
  have H4 : Hid (w4.cell? ⟨b, o + 1, none⟩ = some (.string ⟨#[98]⟩) ∧ b < w4.heap.size) := ⟨by rw [hk4.cell (p := ⟨b, o + 1, none⟩) H3.out.2.1 (by simp)]; exact H3.out.1, Nat.lt_of_lt_of_le H3.out.2.1 hk4.size⟩
  clear HB3 H3 hk4
  clear w2 w3
  go_wp2_with fail
  generalize hw5 : World.alloc w4 _ = w5
  have hk5 : Kept [] w4 w5 := by rw [← hw5]; exact Kept.alloc _ _ _
  have hh5 : w5.heap[w4.heap.size]? = some (.cells #[.int .i64 300] 3) := by rw [← hw5]; exact heap_alloc_last _ _
  refine (put_ex w4.heap.size w5 hh5).mono ?_
  rintro e w6 ⟨b2, o2, cap2, vm, rfl, H6⟩
  obtain ⟨d0, d2, d4, d7, d8, hk6⟩ := H6.out
  have hk46 := hk5.trans hk6
  have hB6 := hk46.heap (by simp) HB4.out.1
  have c4 : w6.cell? ⟨L, 4, none⟩ = some (.int .i64 201) := cell_of_row _ _ 4 _ _ _ hB6
  have c5 : w6.cell? ⟨L, 5, none⟩ = some (.int .i64 202) := cell_of_row _ _ 5 _ _ _ hB6
  have c6 : w6.cell? ⟨L, 6, none⟩ = some (.int .i64 234) := cell_of_row _ _ 6 _ _ _ hB6
  have c7 : w6.cell? ⟨L, 7, none⟩ = some (.int .i64 64) := cell_of_row _ _ 7 _ _ _ hB6
  have cp : w6.cell? ⟨b, o + 1, none⟩ = some (.string ⟨#[98]⟩) := by rw [hk46.cell (p := ⟨b, o + 1, none⟩) H4.out.2 (by simp)]; exact H4.out.1
  have HK6 := Lib.hid (HB4.out.2.trans hk46)
  clear hw5 hk5 hh5 H6 hk6 hk46 hB6 HB4 H4
  clear w5
  go_wp2_with fail
  refine (cost_any 1 385 _).mono ?_
  rw [show costI 1 385 = 8 from rfl]
  rintro e w7 ⟨rfl, rfl⟩
  go_wp2_with fail
  refine (cost_any 2 16 _).mono ?_
  rw [show costI 2 16 = 9 from rfl]
  rintro e w7 ⟨rfl, rfl⟩
  go_wp2_with fail
  go_ret
  exact ⟨rfl, HK6.out⟩

end Go.Proofs.YtbggmeilkfpbgaaDoor

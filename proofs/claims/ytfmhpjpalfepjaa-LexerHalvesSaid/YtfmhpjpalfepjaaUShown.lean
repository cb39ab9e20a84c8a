/-
  Layer 11: the document's examples.
  Conditions: those that each theorem states.
-/
import Derived.Test.YtfmhpjpalfepjaaURLex
import Derived.Test.YtfmhpjpalfepjaaUSame
namespace Go.Proofs.Ytfmhpjpalfepjaa
open Go.RowKit Go.Maps

theorem ex1 : lexL [102, 105, 108, 101, 32, 123, 32, 39, 47, 97, 39, 58, 32, 125] 0 = ([⟨1, [102, 105, 108, 101], 0⟩, ⟨7, [123], 5⟩, ⟨4, [47, 97], 7⟩, ⟨7, [58], 11⟩, ⟨7, [125], 13⟩], none) := by
  simp [lexL, pcO, hdC, clsN, cutO, nameN, partN, spanN, moreN, smB, tlB, dgB, quoN, notB, signN, sgn1, sgn2, txO]
theorem ex2 : lexL [97, 58, 58, 98, 32, 97, 58, 32, 58, 98] 0 = ([⟨1, [97, 58, 58, 98], 0⟩, ⟨1, [97], 5⟩, ⟨7, [58], 6⟩, ⟨7, [58], 8⟩, ⟨1, [98], 9⟩], none) := by
  simp [lexL, pcO, hdC, clsN, cutO, nameN, partN, spanN, moreN, smB, tlB, dgB, signN, sgn1, sgn2, txO]
theorem ex3 : lexL [97, 32, 39, 98] 0 = ([⟨1, [97], 0⟩], some 2) := by
  simp [lexL, pcO, hdC, clsN, cutO, nameN, partN, spanN, moreN, smB, tlB, dgB, quoN, notB, txO]
theorem ex4 : lexL [49, 50, 51, 52, 53, 54, 55, 56, 57, 48] 0 = ([], some 0) := lexL_err (by simp) (by decide) 0
abbrev W1 : List Wd := [⟨1, [102, 105, 108, 101], 0⟩, ⟨7, [123], 5⟩, ⟨4, [47, 97], 7⟩, ⟨7, [58], 11⟩, ⟨7, [125], 13⟩]
abbrev W2 : List Wd := [⟨1, [97, 58, 58, 98], 0⟩, ⟨1, [97], 5⟩, ⟨7, [58], 6⟩, ⟨7, [58], 8⟩, ⟨1, [98], 9⟩]
theorem lx_ok {L : List UInt8} {ws : List Wd} (h : lexL L 0 = (ws, none)) (hl : L.length ≤ 65536) : lxA L = 0 ∧ lxE L = 0 ∧ lxW L = ws := by
  have h0 : ¬ 65536 < L.length := by omega
  unfold lxA lxE lxW
  rw [if_neg h0, if_neg h0, if_neg h0, h]
  exact ⟨rfl, rfl, rfl⟩
theorem lx_bad {L : List UInt8} {ws : List Wd} {k : Nat} (h : lexL L 0 = (ws, some k)) (hl : L.length ≤ 65536) : lxA L = k ∧ lxE L = 110 ∧ lxW L = [] := by
  have h0 : ¬ 65536 < L.length := by omega
  unfold lxA lxE lxW
  rw [if_neg h0, if_neg h0, if_neg h0, h]
  exact ⟨rfl, rfl, rfl⟩
theorem LexOut.at {L : List UInt8} {w w' : World} {e : Ending} {a b : Nat} {ws : List Wd} (h : LexOut L w e w') (hv : lxA L = a ∧ lxE L = b ∧ lxW L = ws) : ∃ v, e = .returned (.tuple #[v, .int .i64 (a : Int), .int .i64 (b : Int)]) ∧ OwnW w.heap.size w' v ws ∧ Kept [] w w' := by
  obtain ⟨v, h1, h2, h3⟩ := h
  rw [hv.1, hv.2.1] at h1
  rw [hv.2.2] at h2
  exact ⟨v, h1, h2, h3⟩

set_option maxRecDepth 100000 in
set_option maxHeartbeats 8000000 in
theorem shown11_any (w : World) : Calls Try.prog 8 #[] w fun e w' => e = .returned (.bool true) ∧ Kept [] w w' := by
  have l1 : ∀ wx, Calls Try.prog 9 #[.string ⟨#[102, 105, 108, 101, 32, 123, 32, 39, 47, 97, 39, 58, 32, 125]⟩] wx (fun e w' => ∃ v, e = .returned (.tuple #[v, .int .i64 0, .int .i64 0]) ∧ OwnW wx.heap.size w' v W1 ∧ Kept [] wx w') := fun wx =>
    (lex_any _ wx (by decide)).mono fun e w' h => h.at (lx_ok ex1 (by decide))
  have l2 : ∀ wx, Calls Try.prog 9 #[.string ⟨#[97, 58, 58, 98, 32, 97, 58, 32, 58, 98]⟩] wx (fun e w' => ∃ v, e = .returned (.tuple #[v, .int .i64 0, .int .i64 0]) ∧ OwnW wx.heap.size w' v W2 ∧ Kept [] wx w') := fun wx =>
    (lex_any _ wx (by decide)).mono fun e w' h => h.at (lx_ok ex2 (by decide))
  have l3 : ∀ wx, Calls Try.prog 9 #[.string ⟨#[97, 32, 39, 98]⟩] wx (fun e w' => ∃ v, e = .returned (.tuple #[v, .int .i64 2, .int .i64 110]) ∧ OwnW wx.heap.size w' v [] ∧ Kept [] wx w') := fun wx =>
    (lex_any _ wx (by decide)).mono fun e w' h => h.at (lx_bad ex3 (by decide))
  have l4 : ∀ wx, Calls Try.prog 9 #[.string ⟨#[49, 50, 51, 52, 53, 54, 55, 56, 57, 48]⟩] wx (fun e w' => ∃ v, e = .returned (.tuple #[v, .int .i64 0, .int .i64 110]) ∧ OwnW wx.heap.size w' v [] ∧ Kept [] wx w') := fun wx =>
    (lex_any _ wx (by decide)).mono fun e w' h => h.at (lx_bad ex4 (by decide))
  have l5 : ∀ wx, Calls Try.prog 16 #[.string ⟨#[105, 102]⟩] wx (fun e w' => e = .returned (.bool true) ∧ wx = w') := fun wx => key_any ⟨#[105, 102]⟩ wx
  have L1 := Lib.hid l1
  have L2 := Lib.hid l2
  have L3 := Lib.hid l3
  have L4 := Lib.hid l4
  have L5 := Lib.hid l5
  clear l1 l2 l3 l4 l5
  go_enter Try.func8, Try.ntmps8
  go_wp2_with fail
  refine (L1.out _).mono ?_
  rintro e w1 ⟨v1, rfl, hw1, hk1⟩
  obtain ⟨a1, c1, rfl, _, hcc1, _, hcell1⟩ := hw1.es.open
  obtain ⟨b1, o1, rfl, hb1, hc1⟩ := hcell1 (by decide)
  have HK1 : Hid (Kept [] w w1 ∧ b1 < w1.heap.size ∧ w1.cell? ⟨b1, o1 + 2 * 3, none⟩ = some (.int .i64 4) ∧ w1.cell? ⟨b1, o1 + 2 * 3 + 1, none⟩ = some (.string ⟨#[47, 97]⟩) ∧ w1.cell? ⟨b1, o1 + 2 * 3 + 2, none⟩ = some (.int .i64 7)) := ⟨hk1, hb1, (hc1 2 (by decide)).1, (hc1 2 (by decide)).2.1, (hc1 2 (by decide)).2.2⟩
  have e1 : W1.length = 5 := rfl
  rw [e1] at *
  clear hw1 hk1 hcell1 hb1 hc1
  go_wp2_with fail
  refine (L2.out _).mono ?_
  rintro e w2 ⟨v2, rfl, hw2, hk2⟩
  obtain ⟨a2, c2, rfl, _, hcc2, _, hcell2⟩ := hw2.es.open
  obtain ⟨b2, o2, rfl, hb2, hc2⟩ := hcell2 (by decide)
  have HK2 : Hid (Kept [] w1 w2 ∧ b2 < w2.heap.size ∧ w2.cell? ⟨b2, o2 + 0 * 3 + 1, none⟩ = some (.string ⟨#[97, 58, 58, 98]⟩)) := ⟨hk2, hb2, (hc2 0 (by decide)).2.1⟩
  have e2 : W2.length = 5 := rfl
  rw [e2] at *
  clear hw2 hk2 hcell2 hb2 hc2
  go_wp2_with fail
  refine (L3.out _).mono ?_
  rintro e w3 ⟨v3, rfl, hw3, hk3⟩
  have HK3 := Lib.hid hk3
  clear hw3 hk3
  go_wp2_with fail
  refine (L4.out _).mono ?_
  rintro e w4 ⟨v4, rfl, hw4, hk4⟩
  have HK24 : Hid (Kept [] w2 w4) := HK3.out.trans hk4
  have HK14 : Hid (Kept [] w1 w4) := HK2.out.1.trans HK24.out
  clear hw4 hk4
  have y0 : w4.cell? ⟨b1, o1 + 2 * 3, none⟩ = some (.int .i64 4) := (HK14.out.cell (p := ⟨b1, o1 + 2 * 3, none⟩) HK1.out.2.1 (by simp)).trans HK1.out.2.2.1
  have y1 : w4.cell? ⟨b1, o1 + 2 * 3 + 1, none⟩ = some (.string ⟨#[47, 97]⟩) := (HK14.out.cell (p := ⟨b1, o1 + 2 * 3 + 1, none⟩) HK1.out.2.1 (by simp)).trans HK1.out.2.2.2.1
  have y2 : w4.cell? ⟨b1, o1 + 2 * 3 + 2, none⟩ = some (.int .i64 7) := (HK14.out.cell (p := ⟨b1, o1 + 2 * 3 + 2, none⟩) HK1.out.2.1 (by simp)).trans HK1.out.2.2.2.2
  have y3 : w4.cell? ⟨b2, o2 + 0 * 3 + 1, none⟩ = some (.string ⟨#[97, 58, 58, 98]⟩) := (HK24.out.cell (p := ⟨b2, o2 + 0 * 3 + 1, none⟩) HK2.out.2.1 (by simp)).trans HK2.out.2.2
  simp only [Nat.zero_mul, Nat.add_zero, Nat.reduceMul] at y0 y1 y2 y3
  go_wp2_with fail
  refine (L5.out _).mono ?_
  rintro e w5 ⟨rfl, rfl⟩
  go_wp2_with fail
  go_ret
  exact ⟨rfl, HK1.out.1.trans HK14.out⟩
end Go.Proofs.Ytfmhpjpalfepjaa

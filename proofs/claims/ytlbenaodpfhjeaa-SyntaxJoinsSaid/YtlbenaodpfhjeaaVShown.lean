/-
  Layer 12: the document's examples, over what Parse answers.
  Conditions: those that each theorem states.
-/
import Derived.Test.YtlbenaodpfhjeaaVTree
import Derived.Test.YtlbenaodpfhjeaaVApp
namespace Go.Proofs.Ytlbenaodpfhjeaa
open Go.RowKit Go.Maps

abbrev E1 : List Wd := [⟨3, [120], 0⟩, ⟨7, [61], 3⟩, ⟨6, [49], 5⟩, ⟨7, [61, 61], 7⟩, ⟨6, [50], 10⟩, ⟨1, [111, 114], 12⟩, ⟨7, [33], 15⟩, ⟨1, [116, 114, 117, 101], 16⟩]
abbrev E2 : List Wd := [⟨1, [102, 105, 108, 101], 0⟩, ⟨7, [123], 5⟩, ⟨4, [97], 7⟩, ⟨7, [125], 11⟩]
abbrev E3 : List Wd := [⟨1, [105, 110, 99, 108, 117, 100, 101], 0⟩]
abbrev B1 : List UInt8 := [36, 120, 32, 61, 32, 49, 32, 61, 61, 32, 50, 32, 111, 114, 32, 33, 116, 114, 117, 101]
abbrev B2 : List UInt8 := [102, 105, 108, 101, 32, 123, 32, 39, 97, 39, 32, 125]
abbrev B3 : List UInt8 := [105, 110, 99, 108, 117, 100, 101]
set_option maxRecDepth 100000 in
theorem sx1 : lexL B1 0 = (E1, none) := by
  kernel_rfl
theorem sx2 : lexL B2 0 = (E2, none) := by
  kernel_rfl
theorem sx3 : lexL B3 0 = (E3, none) := by
  kernel_rfl
theorem lxW_of {L : List UInt8} {ws : List Wd} (h : lexL L 0 = (ws, none)) (hl : L.length ≤ 65536) : lxW L = ws := by
  have h0 : ¬ 65536 < L.length := by omega
  unfold lxW
  rw [if_neg h0, h]
  rfl
abbrev N1 : List Nod := [⟨15, [49], []⟩, ⟨15, [50], []⟩, ⟨19, [61, 61], [0, 1]⟩, ⟨17, [], []⟩, ⟨20, [], [3]⟩, ⟨19, [111, 114], [2, 4]⟩, ⟨6, [120], [5]⟩, ⟨1, [], [6]⟩]
set_option maxRecDepth 100000 in
theorem px1 : parO (E1.map tkW) = (N1, 0, 0) := by kernel_rfl
set_option maxRecDepth 100000 in
theorem px2 : parO (E2.map tkW) = ([], 3, 120) := by kernel_rfl
set_option maxRecDepth 100000 in
theorem px3 : parO (E3.map tkW) = ([], 1, 120) := by kernel_rfl
set_option maxRecDepth 100000 in
theorem px4 : parO [] = ([⟨1, [], []⟩], 0, 0) := by kernel_rfl
theorem words_at {S : ByteArray} {ws : List Wd} (h : lxW (bl S) = ws) (hs : S.size ≤ 9223372036854775807) (w : World) : Calls Try.prog 8 #[.string S] w fun e w' => ∃ v, e = .returned v ∧ WsIs w' v ws ∧ Kept [] w w' := by
  rw [← h]
  exact words12_any S w hs
theorem parse_at (hp : ParC) {l : List Tok} {ns : List Nod} {a e : Nat} (h : parO l = (ns, a, e)) (n : Nat) (hn : ns.length = n) (v : Value) (w : World) (hv : TkIs w v l) :
    Calls Try.prog 7 #[v] w fun x w' => ∃ ao cap, x = .returned (.tuple #[.agg #[.slice ao n cap], .int .i64 (a : Int), .int .i64 (e : Int)]) ∧ NdIs w' (.slice ao n cap) ns ∧ Kept [] w w' := by
  refine (hp v l w hv).mono fun x w' ⟨u, h1, h2, h3⟩ => ?_
  subst hn
  rw [h] at h1 h2
  obtain ⟨ao, cap, rfl, hc⟩ := h2
  exact ⟨ao, cap, h1, ⟨ao, cap, rfl, hc⟩, h3⟩
set_option maxRecDepth 100000 in
set_option maxHeartbeats 8000000 in
theorem shown12 (hp : ParC) : ShC := by
  intro w
  have l1 := words_at (S := ⟨#[36, 120, 32, 61, 32, 49, 32, 61, 61, 32, 50, 32, 111, 114, 32, 33, 116, 114, 117, 101]⟩) (lxW_of sx1 (by decide)) (by decide)
  have l2 := words_at (S := ⟨#[102, 105, 108, 101, 32, 123, 32, 39, 97, 39, 32, 125]⟩) (lxW_of sx2 (by decide)) (by decide)
  have l3 := words_at (S := ⟨#[105, 110, 99, 108, 117, 100, 101]⟩) (lxW_of sx3 (by decide)) (by decide)
  have L1 := Lib.hid l1
  have L2 := Lib.hid l2
  have L3 := Lib.hid l3
  have P1 := Lib.hid (parse_at hp px1 8 rfl)
  have P2 := Lib.hid (parse_at hp px2 0 rfl)
  have P3 := Lib.hid (parse_at hp px3 0 rfl)
  have P4 := Lib.hid (parse_at hp px4 1 rfl)
  clear l1 l2 l3 hp
  go_enter Try.func6, Try.ntmps6
  go_wp2_with fail
  refine (L1.out _).mono ?_
  rintro e w1 ⟨v1, rfl, hw1, hk1⟩
  have HW1 := Lib.hid (show WsIs w1 v1 E1 ∧ Kept [] w w1 from ⟨hw1, hk1⟩)
  clear hw1 hk1
  go_wp2_with fail
  refine (P1.out v1 w1 HW1.out.1.tk).mono ?_
  rintro e w2 ⟨a1, c1, rfl, hn1, hk2⟩
  have HN1 := Lib.hid (show NdIs w2 (.slice a1 8 c1) N1 ∧ Kept [] w w2 from ⟨hn1, HW1.out.2.trans hk2⟩)
  clear hn1 hk2
  obtain ⟨w3, hw3⟩ : ∃ x, w2.alloc (.cells #[.slice a1 8 c1] 25) = x := ⟨_, rfl⟩
  obtain ⟨Q1, hQ1⟩ : ∃ x, w2.heap.size = x := ⟨_, rfl⟩
  have H3 : Hid (w3.heap[Q1]? = some (.cells #[.slice a1 8 c1] 25) ∧ Kept [] w2 w3) := by
    rw [← hw3, ← hQ1]
    exact ⟨heap_alloc_last _ _, Kept.alloc _ _ _⟩
  go_wp2_with fail
  clear hw3 hQ1
  refine (L2.out _).mono ?_
  rintro e w4 ⟨v2, rfl, hw2, hk4⟩
  have HW2 := Lib.hid (show WsIs w4 v2 E2 ∧ Kept [] w3 w4 from ⟨hw2, hk4⟩)
  clear hw2 hk4
  go_wp2_with fail
  refine (P2.out v2 w4 HW2.out.1.tk).mono ?_
  rintro e w5 ⟨a2, c2, rfl, _, hk5⟩
  obtain ⟨w6, hw6⟩ : ∃ x, w5.alloc (.cells #[.slice a2 0 c2] 25) = x := ⟨_, rfl⟩
  have H6 : Hid (Kept [] w3 w6) := by show Kept _ _ _; rw [← hw6]; exact HW2.out.2.trans (hk5.trans (Kept.alloc _ _ _))
  clear hk5
  go_wp2_with fail
  clear hw6
  refine (L3.out _).mono ?_
  rintro e w7 ⟨v3, rfl, hw3, hk7⟩
  have HW3 := Lib.hid (show WsIs w7 v3 E3 ∧ Kept [] w3 w7 from ⟨hw3, H6.out.trans hk7⟩)
  clear hw3 hk7
  go_wp2_with fail
  refine (P3.out v3 w7 HW3.out.1.tk).mono ?_
  rintro e w8 ⟨a3, c3, rfl, _, hk8⟩
  obtain ⟨w9, hw9⟩ : ∃ x, w8.alloc (.cells #[.slice a3 0 c3] 25) = x := ⟨_, rfl⟩
  have H9 : Hid (Kept [] w3 w9) := by show Kept _ _ _; rw [← hw9]; exact HW3.out.2.trans (hk8.trans (Kept.alloc _ _ _))
  clear hk8
  go_wp2_with fail
  clear hw9
  refine (P4.out (.slice none 0 0) w9 ⟨⟨none, 0, rfl, by simp, by omega, fun h => by simp at h⟩, by simp⟩).mono ?_
  rintro e w10 ⟨a4, c4, rfl, hn4, hk10⟩
  have HN4 := Lib.hid (show NdIs w10 (.slice a4 1 c4) [⟨1, [], []⟩] ∧ Kept [] w3 w10 from ⟨hn4, H9.out.trans hk10⟩)
  clear hn4 hk10
  obtain ⟨w11, hw11⟩ : ∃ x, w10.alloc (.cells #[.slice a4 1 c4] 25) = x := ⟨_, rfl⟩
  obtain ⟨Q4, hQ4⟩ : ∃ x, w10.heap.size = x := ⟨_, rfl⟩
  have H11 : Hid (w11.heap[Q4]? = some (.cells #[.slice a4 1 c4] 25) ∧ Kept [] w10 w11) := by
    rw [← hw11, ← hQ4]
    exact ⟨heap_alloc_last _ _, Kept.alloc _ _ _⟩
  have H311 : Hid (Kept [] w3 w11) := HN4.out.2.trans H11.out.2
  obtain ⟨a1', c1', hv1, _, _, hc1⟩ := HN1.out.1
  injection hv1 with u1 u2 u3
  clear u2
  subst u1 u3
  obtain ⟨b1, o1, rfl, hb1, hc1⟩ := hc1 (by decide)
  obtain ⟨a4', c4', hv4, _, _, hc4⟩ := HN4.out.1
  injection hv4 with u1 u2 u3
  clear u2
  subst u1 u3
  obtain ⟨b4, o4, rfl, hb4, hc4⟩ := hc4 (by decide)
  have k1 := H3.out.2.trans H311.out
  have x0 := cell_of_row _ _ 0 _ _ _ (H311.out.heap (by simp) H3.out.1)
  have x1 := cell_of_row _ _ 0 _ _ _ H11.out.1
  have x2 := (k1.cell (p := ⟨b1, o1 + 2 * 3, none⟩) hb1 (by simp)).trans (hc1 2 (by decide)).1
  have x3 := (k1.cell (p := ⟨b1, o1 + 6 * 3, none⟩) hb1 (by simp)).trans (hc1 6 (by decide)).1
  have x4 := (k1.cell (p := ⟨b1, o1 + 6 * 3 + 1, none⟩) hb1 (by simp)).trans (hc1 6 (by decide)).2.1
  have x5 := (H11.out.2.cell (p := ⟨b4, o4 + 0 * 3, none⟩) hb4 (by simp)).trans (hc4 0 (by decide)).1
  have x0' : w11.cell? ⟨Q1, 0, none⟩ = some (.slice (some ⟨b1, o1, none⟩) 8 c1) := x0
  have x1' : w11.cell? ⟨Q4, 0, none⟩ = some (.slice (some ⟨b4, o4, none⟩) 1 c4) := x1
  have x2' : w11.cell? ⟨b1, o1 + 6, none⟩ = some (.int .i64 19) := x2
  have x3' : w11.cell? ⟨b1, o1 + 18, none⟩ = some (.int .i64 6) := x3
  have x4' : w11.cell? ⟨b1, o1 + 18 + 1, none⟩ = some (.string ⟨#[120]⟩) := x4
  have x5' : w11.cell? ⟨b4, o4, none⟩ = some (.int .i64 1) := x5
  have H10 : Hid (Kept [] w w11) := HN1.out.2.trans k1
  clear hc1 hc4 x0 x1 x2 x3 x4 x5 k1
  go_wp2_with fail
  go_ret
  exact ⟨rfl, H10.out⟩
end Go.Proofs.Ytlbenaodpfhjeaa

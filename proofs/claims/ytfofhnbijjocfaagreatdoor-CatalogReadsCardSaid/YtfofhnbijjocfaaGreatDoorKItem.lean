/-
  Layer 7: the program's reader of bytes: take, number, count, text, edge.
  Conditions: those that each theorem states.
  Layer 7: the program's reader: an edge, a resource.
  Conditions: those that each theorem states.
-/
import Derived.Test.YtfofhnbijjocfaaGreatDoorKRes
import Derived.Test.YtfofhnbijjocfaaGreatDoorZReg
import Derived.Test.YtfofhnbijjocfaaGreatDoorQFull
namespace Go.Proofs.YtfofhnbijjocfaaGreatDoor
open Go.RowKit Go.Maps
set_option maxRecDepth 100000

/-- What is panicked with where bytes end too early. -/
def endP : List PanicEntry := [{ v := .iface 78 (.agg #[]), recovered := false }]
theorem ArgB.front {w : World} {ao : Option Addr} {len cap n : Nat} {B : List UInt8} (h : ArgB w ao len cap B) (hn : n ≤ len) : ArgB w ao n cap (B.take n) := by
  refine ⟨by rw [List.length_take, h.hlen]; omega, by have := h.hle; omega, by have := h.hcap; omega, h.cap63, h.hnil, ?_⟩
  rcases h.at' with h0 | ⟨b, o, e, hb, hr⟩
  · left; omega
  · refine .inr ⟨b, o, e, hb, fun j v hv => hr j v ?_⟩
    simp only [bv, List.map_take] at hv ⊢
    rw [List.getElem?_take] at hv
    split at hv
    · exact hv
    · cases hv
theorem ArgB.rest {w : World} {ao ao' : Option Addr} {len cap n : Nat} {B : List UInt8} (h : ArgB w ao len cap B) (hn : n ≤ len) (hnil : ao' = none → cap - n = 0) (ha : ∀ b o, ao = some ⟨b, o, none⟩ → n < len → ao' = some ⟨b, o + n, none⟩) : ArgB w ao' (len - n) (cap - n) (B.drop n) := by
  refine ⟨by rw [List.length_drop, h.hlen], by have := h.hle; omega, by have := h.hcap; omega, by have := h.cap63; omega, hnil, ?_⟩
  by_cases hz : n < len
  · rcases h.at' with h0 | ⟨b, o, e, hb, hr⟩
    · left; omega
    · refine .inr ⟨b, o + n, ha b o e hz, hb, fun j v hv => ?_⟩
      have := hr (n + j) v (by simpa [bv] using hv)
      rwa [show o + n + j = o + (n + j) by omega]
  · left; omega

/-- A reader: the block of its rest; the bytes lie in the world W. -/
structure RdSt (W : World) (g : Nat) (B : List UInt8) (w : World) : Prop where
  hg : W.heap.size ≤ g
  cell : ∃ ao len cap, w.heap[g]? = some (.cells #[.slice ao len cap] 80) ∧ ArgB W ao len cap B
  kept : Kept [] W w
theorem RdSt.goX {W : World} {g : Nat} {B : List UInt8} {w w' : World} {ex : List Nat} (h : RdSt W g B w) (hk : Kept ex w w') (hx : g ∉ ex) (hW : ∀ q ∈ ex, W.heap.size ≤ q) : RdSt W g B w' := by
  obtain ⟨h1, ⟨ao, len, cap, h2, h3⟩, h4⟩ := h
  exact ⟨h1, ⟨ao, len, cap, hk.heap hx h2, h3⟩, h4.into hk hW⟩
theorem RdSt.go {W : World} {g : Nat} {B : List UInt8} {w w' : World} (h : RdSt W g B w) (hk : Kept [] w w') : RdSt W g B w' := h.goX hk (by simp) (by simp)
theorem RdSt.lt {W : World} {g : Nat} {B : List UInt8} {w : World} (h : RdSt W g B w) : g < w.heap.size := by
  obtain ⟨_, ⟨_, _, _, h2, _⟩, _⟩ := h
  exact (Array.getElem?_eq_some_iff.1 h2).1

set_option maxRecDepth 100000 in
set_option maxHeartbeats 4000000 in
theorem take_yes (W : World) (g n : Nat) (B : List UInt8) (w : World) (h : RdSt W g B w) (hn : n ≤ B.length) :
    Calls Tryz.prog 57 #[.pointer (some ⟨g, 0, none⟩), .int .i64 n] w fun e w' => ∃ ao cap, e = .returned (.slice ao n cap) ∧ Hid (ArgB W ao n cap (B.take n) ∧ RdSt W g (B.drop n) w' ∧ Kept [g] w w') := by
  obtain ⟨hg, ⟨ao, len, cap, hc, hb⟩, hk⟩ := h
  have h1 := hb.hlen
  have h2 := hb.hle
  have h3 := hb.hcap
  have h4 := hb.cap63
  have h5 := hb.hnil
  have hl : n ≤ len := by omega
  have HB := Lib.hid hb
  have HC := Lib.hid hc
  have HK := Lib.hid hk
  have HG := Lib.hid hg
  have c0 : w.cell? ⟨g, 0, none⟩ = some (.slice ao len cap) := cell_of_row _ _ 0 _ _ _ hc
  have fz : w.frozen? ⟨g, 0, none⟩ = false := frozen_of_row _ _ 0 _ _ hc
  have HN : Hid (∀ ao', (ao' = none → cap - n = 0) → (∀ b o, ao = some ⟨b, o, none⟩ → n < len → ao' = some ⟨b, o + n, none⟩) → RdSt W g (B.drop n) (w.setCell ⟨g, 0, none⟩ (.slice ao' (len - n) (cap - n))) ∧ Kept [g] w (w.setCell ⟨g, 0, none⟩ (.slice ao' (len - n) (cap - n)))) := fun ao' hz hz2 => by
    have hks : Kept [g] w (w.setCell ⟨g, 0, none⟩ (.slice ao' (len - n) (cap - n))) := Kept.setCell _ _ _ _ (by simp)
    have hr : (w.setCell ⟨g, 0, none⟩ (.slice ao' (len - n) (cap - n))).heap[g]? = some (.cells #[.slice ao' (len - n) (cap - n)] 80) := row_setCell HC.out 0 _
    exact ⟨⟨HG.out, ⟨_, _, _, hr, HB.out.rest hl hz hz2⟩, HK.out.into hks (by simpa using HG.out)⟩, hks⟩
  have HF : Hid (ArgB W ao n cap (B.take n)) := hb.front hl
  clear hb hc hk hg h1 h2 hn
  cases ao with
  | none =>
    have hc0 := h5 rfl
    subst hc0
    obtain rfl : len = 0 := by omega
    obtain rfl : n = 0 := by omega
    have hz := HN.out none (fun _ => rfl) (fun b o e => (by cases e))
    have HZ := Lib.hid hz
    clear h5 hz HN
    go_enter Tryz.func57, Tryz.ntmps57
    go_wp2_with fail
    go_ret
    exact ⟨_, _, rfl, HF.out, HZ.out.1, HZ.out.2⟩
  | some ad =>
    by_cases hcn : cap = n
    · subst hcn
      obtain rfl : len = cap := by omega
      have HZ := Lib.hid (HN.out (some ad) (fun e => (by cases e)) (fun b o e hlt => absurd hlt (Nat.lt_irrefl _)))
      clear h5 HN
      go_enter Tryz.func57, Tryz.ntmps57
      go_wp2_with fail
      go_ret
      refine ⟨_, _, rfl, HF.out, ?_⟩
      have := HZ.out
      simpa using this
    · have HZ := Lib.hid (HN.out (some (ad.add n)) (fun e => (by cases e)) (fun b o e hlt => by
        injection e with e
        subst e
        rw [Addr.add_mid]))
      clear h5 HN
      go_enter Tryz.func57, Tryz.ntmps57
      go_wp2_with fail
      go_ret
      exact ⟨_, _, rfl, HF.out, HZ.out.1, HZ.out.2⟩

set_option maxRecDepth 100000 in
set_option maxHeartbeats 4000000 in
theorem take_no (W : World) (g n : Nat) (B : List UInt8) (w : World) (h : RdSt W g B w) (hn : ¬ n ≤ B.length) :
    Calls Tryz.prog 57 #[.pointer (some ⟨g, 0, none⟩), .int .i64 n] w fun e w' => e = .panicked endP ∧ Kept [] W w' := by
  obtain ⟨hg, ⟨ao, len, cap, hc, hb⟩, hk⟩ := h
  have h1 := hb.hlen
  have h2 := hb.hle
  have hl : ¬ n ≤ len := by omega
  have c0 : w.cell? ⟨g, 0, none⟩ = some (.slice ao len cap) := cell_of_row _ _ 0 _ _ _ hc
  have HK := Lib.hid hk
  clear hb hc hk hg h1 hn
  go_enter Tryz.func57, Tryz.ntmps57
  go_wp2_with fail
  exact ⟨rfl, rfl, HK.out⟩

theorem num2_none {B : List UInt8} (h : num2 B = none) : ¬ 2 ≤ B.length := by
  match B, h with
  | [], _ => simp
  | [_], _ => simp
theorem num2_some {B : List UInt8} {n : Nat} {r : List UInt8} (h : num2 B = some (n, r)) : ∃ x y, B = x :: y :: r ∧ n = 256 * x.toNat + y.toNat := by
  match B, h with
  | x :: y :: l, h =>
    simp only [num2, Option.some.injEq, Prod.mk.injEq] at h
    exact ⟨x, y, by rw [h.2], h.1.symm⟩
theorem num1_none {B : List UInt8} (h : num1 B = none) : ¬ 1 ≤ B.length := by
  cases B with
  | nil => simp
  | cons x l => cases h
theorem num1_some {B : List UInt8} {n : Nat} {r : List UInt8} (h : num1 B = some (n, r)) : ∃ x, B = x :: r ∧ n = x.toNat := by
  cases B with
  | nil => cases h
  | cons x l =>
    simp only [num1, Option.some.injEq, Prod.mk.injEq] at h
    exact ⟨x, by rw [h.2], h.1.symm⟩

set_option maxRecDepth 100000 in
set_option maxHeartbeats 4000000 in
theorem number_no (W : World) (g : Nat) (B : List UInt8) (w : World) (h : RdSt W g B w) (hn : num2 B = none) :
    Calls Tryz.prog 42 #[.pointer (some ⟨g, 0, none⟩)] w fun e w' => e = .panicked endP ∧ Kept [] W w' := by
  have HT := Lib.hid (take_no W g 2 B w h (num2_none hn))
  clear h hn
  go_enter Tryz.func42, Tryz.ntmps42
  go_wp2_with fail
  refine HT.out.mono ?_
  rintro e w2 ⟨rfl, hk⟩
  exact ⟨rfl, rfl, hk⟩

theorem ArgB.cells {W : World} {ao : Option Addr} {len cap : Nat} {B : List UInt8} (h : ArgB W ao len cap B) (h0 : 0 < len) : ∃ b o, ao = some ⟨b, o, none⟩ ∧ ∀ w', Kept [] W w' → ∀ k (hk : k < B.length), w'.cell? ⟨b, o + k, none⟩ = some (.int .u8 (B[k].toNat : Int)) := by
  rcases h.at' with h1 | ⟨b, o, e, hb, hr⟩
  · omega
  · exact ⟨b, o, e, fun w' hkk k hk => (hkk.cell (p := ⟨b, o + k, none⟩) hb (by simp)).trans (hr k _ (by simp [bv, hk]))⟩

set_option maxRecDepth 100000 in
set_option maxHeartbeats 4000000 in
theorem number_yes (W : World) (g : Nat) (B : List UInt8) (n : Nat) (r : List UInt8) (w : World) (h : RdSt W g B w) (hn : num2 B = some (n, r)) :
    Calls Tryz.prog 42 #[.pointer (some ⟨g, 0, none⟩)] w fun e w' => e = .returned (.int .i64 n) ∧ Hid (RdSt W g r w' ∧ Kept [g] w w') := by
  obtain ⟨x, y, rfl, hv⟩ := num2_some hn
  have HT := Lib.hid (take_yes W g 2 _ w h (by simp))
  have HV := Lib.hid hv
  clear h hn hv
  go_enter Tryz.func42, Tryz.ntmps42
  go_wp2_with fail
  refine HT.out.mono ?_
  rintro e w2 ⟨ao, cap, rfl, H2⟩
  obtain ⟨b, o, rfl, hcc⟩ := H2.out.1.cells (by omega)
  have c0 : w2.cell? ⟨b, o, none⟩ = some (.int .u8 (x.toNat : Int)) := hcc w2 H2.out.2.1.kept 0 (by simp)
  have c1 : w2.cell? ⟨b, o + 1, none⟩ = some (.int .u8 (y.toNat : Int)) := hcc w2 H2.out.2.1.kept 1 (by simp)
  have hx := UInt8.toNat_lt x
  have hy := UInt8.toNat_lt y
  have hor := or_byte x.toNat y hx
  clear hcc
  go_wp2_with fail
  go_quiet (fail)
  generalize hwq : World.drewN w2 _ = wq
  have HWQ : Hid (RdSt W g r wq ∧ Kept [g] w wq) := by rw [← hwq]; exact ⟨(show RdSt W g (List.drop 2 (x :: y :: r)) _ from H2.out.2.1.go (Kept.drewN _ _ _)), H2.out.2.2.trans (Kept.drewN _ _ _)⟩
  clear hwq c0 c1
  go_wp2_with fail
  go_ret
  exact ⟨ret64 (by rw [HV.out]; omega), HWQ⟩

set_option maxHeartbeats 4000000 in
theorem count_no (W : World) (g : Nat) (B : List UInt8) (w : World) (h : RdSt W g B w) (hn : num1 B = none) :
    Calls Tryz.prog 44 #[.pointer (some ⟨g, 0, none⟩)] w fun e w' => e = .panicked endP ∧ Kept [] W w' := by
  have HT := Lib.hid (take_no W g 1 B w h (num1_none hn))
  clear h hn
  go_enter Tryz.func44, Tryz.ntmps44
  go_wp2_with fail
  refine HT.out.mono ?_
  rintro e w2 ⟨rfl, hk⟩
  exact ⟨rfl, rfl, hk⟩
set_option maxHeartbeats 4000000 in
theorem count_yes (W : World) (g : Nat) (B : List UInt8) (n : Nat) (r : List UInt8) (w : World) (h : RdSt W g B w) (hn : num1 B = some (n, r)) :
    Calls Tryz.prog 44 #[.pointer (some ⟨g, 0, none⟩)] w fun e w' => e = .returned (.int .i64 n) ∧ Hid (RdSt W g r w' ∧ Kept [g] w w') := by
  obtain ⟨x, rfl, hv⟩ := num1_some hn
  have HT := Lib.hid (take_yes W g 1 _ w h (by simp))
  have HV := Lib.hid hv
  clear h hn hv
  go_enter Tryz.func44, Tryz.ntmps44
  go_wp2_with fail
  refine HT.out.mono ?_
  rintro e w2 ⟨ao, cap, rfl, H2⟩
  obtain ⟨b, o, rfl, hcc⟩ := H2.out.1.cells (by omega)
  have c0 : w2.cell? ⟨b, o, none⟩ = some (.int .u8 (x.toNat : Int)) := hcc w2 H2.out.2.1.kept 0 (by simp)
  have hx := UInt8.toNat_lt x
  have HWQ : Hid (RdSt W g r w2 ∧ Kept [g] w w2) := ⟨(show RdSt W g (List.drop 1 (x :: r)) _ from H2.out.2.1), H2.out.2.2⟩
  clear hcc
  go_wp2_with fail
  go_ret
  exact ⟨ret64 (by rw [HV.out]), HWQ⟩

set_option maxHeartbeats 4000000 in
theorem text_no (W : World) (g : Nat) (B : List UInt8) (w : World) (h : RdSt W g B w) (hn : txtP B = none) :
    Calls Tryz.prog 43 #[.pointer (some ⟨g, 0, none⟩)] w fun e w' => e = .panicked endP ∧ Kept [] W w' := by
  unfold txtP at hn
  cases h2 : num2 B with
  | none =>
    have HT := Lib.hid (number_no W g B w h h2)
    clear h hn h2
    go_enter Tryz.func43, Tryz.ntmps43
    go_wp2_with fail
    refine HT.out.mono ?_
    rintro e w2 ⟨rfl, hk⟩
    exact ⟨rfl, rfl, hk⟩
  | some x =>
    obtain ⟨n, r⟩ := x
    rw [h2] at hn
    simp only at hn
    have hlt : ¬ n ≤ r.length := fun hh => by unfold takeN at hn; rw [if_pos hh] at hn; cases hn
    have HT := Lib.hid (number_yes W g B n r w h h2)
    have HL := Lib.hid hlt
    clear h hn h2 hlt
    go_enter Tryz.func43, Tryz.ntmps43
    go_wp2_with fail
    refine HT.out.mono ?_
    rintro e w2 ⟨rfl, H2⟩
    go_wp2_with fail
    refine (take_no W g n r w2 H2.out.1 HL.out).mono ?_
    rintro e w3 ⟨rfl, hk⟩
    exact ⟨rfl, rfl, hk⟩
set_option maxHeartbeats 4000000 in
theorem text_yes (W : World) (g : Nat) (B s r : List UInt8) (w : World) (h : RdSt W g B w) (hn : txtP B = some (s, r)) :
    Calls Tryz.prog 43 #[.pointer (some ⟨g, 0, none⟩)] w fun e w' => e = .returned (.string (strL s)) ∧ Hid (RdSt W g r w' ∧ Kept [g] w w') := by
  unfold txtP at hn
  cases h2 : num2 B with
  | none => rw [h2] at hn; cases hn
  | some x =>
    obtain ⟨n, q⟩ := x
    rw [h2] at hn
    simp only at hn
    unfold takeN at hn
    by_cases hlt : n ≤ q.length
    case neg => rw [if_neg hlt] at hn; cases hn
    rw [if_pos hlt] at hn
    simp only [Option.some.injEq, Prod.mk.injEq] at hn
    obtain ⟨rfl, rfl⟩ := hn
    have HT := Lib.hid (number_yes W g B n q w h h2)
    have HL := Lib.hid hlt
    clear h h2 hlt
    go_enter Tryz.func43, Tryz.ntmps43
    go_wp2_with fail
    refine HT.out.mono ?_
    rintro e w2 ⟨rfl, H2⟩
    go_wp2_with fail
    refine (take_yes W g n q w2 H2.out.1 HL.out).mono ?_
    rintro e w3 ⟨ao, cap, rfl, H3⟩
    have hcv : (convert 28 9 (.slice ao n cap)).run Tryz.prog w3 = .ok (.string (strL (q.take n))) w3 := (H3.out.1.kept H3.out.2.1.kept).conv
    have HF : Hid (RdSt W g (q.drop n) w3 ∧ Kept [g] w w3) := ⟨H3.out.2.1, H2.out.2.trans H3.out.2.2⟩
    go_wp2_with fail
    go_ret
    exact ⟨rfl, HF⟩
end Go.Proofs.YtfofhnbijjocfaaGreatDoor

namespace Go.Proofs.YtfofhnbijjocfaaGreatDoor
open Go.RowKit Go.Maps
set_option maxRecDepth 100000

/-- What reading an edge answers. -/
def EdgOut (W : World) (g : Nat) (B : List UInt8) (w : World) (e : Ending) (w' : World) : Prop :=
  (edgP B = none ∧ e = .panicked endP ∧ Kept [] W w') ∨ ∃ x r, edgP B = some (x, r) ∧ e = .returned (edgV x) ∧ Hid (RdSt W g r w' ∧ Kept [g] w w')
theorem EdgOut.no {W : World} {g : Nat} {B : List UInt8} {w w' : World} (h : edgP B = none) (hk : Kept [] W w') : EdgOut W g B w (.panicked endP) w' := .inl ⟨h, rfl, hk⟩
theorem EdgOut.yes {W : World} {g : Nat} {B : List UInt8} {w w' : World} {x : Edg} {r : List UInt8} (h : edgP B = some (x, r)) (hr : RdSt W g r w') (hk : Kept [g] w w') : EdgOut W g B w (.returned (.agg #[.int .i64 x.fr, .int .i64 x.tw, .bool x.nt])) w' := .inr ⟨x, r, h, rfl, hr, hk⟩

set_option maxRecDepth 100000 in
set_option maxHeartbeats 4000000 in
theorem edge_any (W : World) (g : Nat) (B : List UInt8) (w : World) (h : RdSt W g B w) : Calls Tryz.prog 46 #[.pointer (some ⟨g, 0, none⟩)] w (EdgOut W g B w) := by
  obtain ⟨w1, hw1⟩ : ∃ w1, w.alloc (.cells #[.int .i64 0, .int .i64 0, .bool false] 44) = w1 := ⟨_, rfl⟩
  have HA : Hid (Kept [] w w1 ∧ w1.heap[w.heap.size]? = some (.cells #[.int .i64 0, .int .i64 0, .bool false] 44)) := ⟨by rw [← hw1]; exact Kept.alloc _ _ _, by rw [← hw1]; exact heap_alloc_last _ _⟩
  have HRD : Hid (RdSt W g B w1) := h.go HA.out.1
  have hgl := h.lt
  have hgW := h.hg
  clear h
  cases h1 : num1 B with
  | none =>
    have HZ : Hid (edgP B = none) := by show _ = _; unfold edgP; rw [h1]
    have HT := Lib.hid (count_no W g B w1 HRD.out h1)
    clear h1
    go_enter Tryz.func46, Tryz.ntmps46
    go_wp2_with fail
    refine HT.out.mono ?_
    rintro e w2 ⟨rfl, hk⟩
    exact ⟨rfl, EdgOut.no HZ.out hk⟩
  | some x =>
    obtain ⟨n1, r1⟩ := x
    have HT1 := Lib.hid (count_yes W g B n1 r1 w1 HRD.out h1)
    cases h2 : num1 r1 with
    | none =>
      have HZ : Hid (edgP B = none) := by show _ = _; unfold edgP; rw [h1]; simp only [h2]
      have H2N := Lib.hid h2
      clear h1 h2
      go_enter Tryz.func46, Tryz.ntmps46
      go_wp2_with fail
      refine HT1.out.mono ?_
      rintro e w2 ⟨rfl, H2⟩
      go_wp2_with fail
      refine (count_no W g r1 w2 H2.out.1 H2N.out).mono ?_
      rintro e w3 ⟨rfl, hk⟩
      exact ⟨rfl, EdgOut.no HZ.out hk⟩
    | some y =>
      obtain ⟨n2, r2⟩ := y
      cases h3 : num1 r2 with
      | none =>
        have HZ : Hid (edgP B = none) := by show _ = _; unfold edgP; rw [h1]; simp only [h2, h3]
        have H2N := Lib.hid h2
        have H3N := Lib.hid h3
        clear h1 h2 h3
        go_enter Tryz.func46, Tryz.ntmps46
        go_wp2_with fail
        refine HT1.out.mono ?_
        rintro e w2 ⟨rfl, H2⟩
        go_wp2_with fail
        refine (count_yes W g r1 n2 r2 w2 H2.out.1 H2N.out).mono ?_
        rintro e w3 ⟨rfl, H3⟩
        go_wp2_with fail
        refine (count_no W g r2 w3 H3.out.1 H3N.out).mono ?_
        rintro e w4 ⟨rfl, hk⟩
        exact ⟨rfl, EdgOut.no HZ.out hk⟩
      | some z =>
        obtain ⟨n3, r3⟩ := z
        obtain ⟨nb, hnb⟩ : ∃ nb, decide (n3 = 1) = nb := ⟨_, rfl⟩
        have HZ : Hid (edgP B = some (⟨(n1 : Int), (n2 : Int), nb⟩, r3)) := by show _ = _; unfold edgP; rw [h1]; simp only [h2, h3, hnb]
        have q3 : ((n3 : Int) == 1) = nb := by rw [← hnb]; by_cases e : n3 = 1 <;> simp [e]; omega
        have H2N := Lib.hid h2
        have H3N := Lib.hid h3
        clear h1 h2 h3 hnb
        go_enter Tryz.func46, Tryz.ntmps46
        go_wp2_with fail
        refine HT1.out.mono ?_
        rintro e w2 ⟨rfl, H2⟩
        go_wp2_with fail
        refine (count_yes W g r1 n2 r2 w2 H2.out.1 H2N.out).mono ?_
        rintro e w3 ⟨rfl, H3⟩
        go_wp2_with fail
        refine (count_yes W g r2 n3 r3 w3 H3.out.1 H3N.out).mono ?_
        rintro e w4 ⟨rfl, H4⟩
        have HK4 : Hid (Kept [g] w1 w4) := (H2.out.2.trans H3.out.2).trans H4.out.2
        have e4 := HK4.out.heap (by simp; omega) HA.out.2
        have c0 : w4.cell? ⟨w.heap.size, 0, none⟩ = some (.int .i64 0) := cell_of_row _ _ 0 _ _ _ e4
        have c1 : w4.cell? ⟨w.heap.size, 1, none⟩ = some (.int .i64 0) := cell_of_row _ _ 1 _ _ _ e4
        have c2 : w4.cell? ⟨w.heap.size, 2, none⟩ = some (.bool false) := cell_of_row _ _ 2 _ _ _ e4
        have fz : ∀ q, w4.frozen? ⟨w.heap.size, q, none⟩ = false := fun q => frozen_of_row _ _ q _ _ e4
        have HE4 := Lib.hid e4
        have HGL := Lib.hid (And.intro hgl hgW)
        clear e4 hw1 hgl hgW
        go_wp2_with fail
        have r := row_setCell (row_setCell (row_setCell HE4.out 0 (.int .i64 (n1 : Int))) 1 (.int .i64 (n2 : Int))) 2 (.bool nb)
        have hkf : Kept [w.heap.size] w4 (((w4.setCell ⟨w.heap.size, 0, none⟩ (.int .i64 (n1 : Int))).setCell ⟨w.heap.size, 1, none⟩ (.int .i64 (n2 : Int))).setCell ⟨w.heap.size, 2, none⟩ (.bool nb)) := ((Kept.setCell _ _ _ _ (by simp)).trans (Kept.setCell _ _ _ _ (by simp))).trans (Kept.setCell _ _ _ _ (by simp))
        refine bodyPost_ret_by (results_cell_row rfl _ _ (w.heap.size) 44 _ (0, 0) _ rfl r Tryz.underlying44 rfl (by kernel_rfl)) rfl ?_
        exact EdgOut.yes HZ.out (H4.out.1.goX hkf (by simp; have := HGL.out; omega) (by simp; have := HGL.out; omega)) (Kept.step (o := some w.heap.size) ((HA.out.1.mono (by simp)).trans HK4.out) hkf (fun q hq => .inr (by injection hq with hq; omega)))

/-- What reading a resource answers. -/
def ResOut7 (W : World) (g : Nat) (B : List UInt8) (w : World) (e : Ending) (w' : World) : Prop :=
  (resP B = none ∧ e = .panicked endP ∧ Kept [] W w') ∨ ∃ x r v, resP B = some (x, r) ∧ e = .returned (resV x.t x.ti v) ∧ Hid (OwnP w.heap.size w' v x.P ∧ RdSt W g r w' ∧ Kept [g] w w')
theorem ResOut7.no {W : World} {g : Nat} {B : List UInt8} {w w' : World} (h : resP B = none) (hk : Kept [] W w') : ResOut7 W g B w (.panicked endP) w' := .inl ⟨h, rfl, hk⟩
theorem ResOut7.yes {W : World} {g : Nat} {B : List UInt8} {w w' : World} {x : Res} {r : List UInt8} {v : Value} (h : resP B = some (x, r)) (ho : OwnP w.heap.size w' v x.P) (hr : RdSt W g r w') (hk : Kept [g] w w') : ResOut7 W g B w (.returned (.agg #[.string (strL x.t), .string (strL x.ti), v])) w' := .inr ⟨x, r, v, h, rfl, ho, hr, hk⟩
theorem num1_lt {B : List UInt8} {n : Nat} {r : List UInt8} (h : num1 B = some (n, r)) : n < 256 := by
  obtain ⟨x, _, rfl⟩ := num1_some h
  exact UInt8.toNat_lt x
theorem takeN_len {n : Nat} {b s r : List UInt8} (h : takeN n b = some (s, r)) : s.length = n := by
  unfold takeN at h
  by_cases hn : n ≤ b.length
  · rw [if_pos hn] at h
    simp only [Option.some.injEq, Prod.mk.injEq] at h
    rw [← h.1, List.length_take]; omega
  · rw [if_neg hn] at h; cases h
theorem txtP_len {B s r : List UInt8} (h : txtP B = some (s, r)) : s.length < 65536 := by
  unfold txtP at h
  cases h2 : num2 B with
  | none => rw [h2] at h; cases h
  | some x =>
    obtain ⟨n, q⟩ := x
    rw [h2] at h
    rw [takeN_len h]
    obtain ⟨a, b, _, rfl⟩ := num2_some h2
    have := UInt8.toNat_lt a
    have := UInt8.toNat_lt b
    omega

/-- While parameters are read: the result's block, the resource's, the reader. -/
structure RxSt (W : World) (g gx : Nat) (w0 : World) (t ti : List UInt8) (P : List Prm) (r : List UInt8) (v : Value) (wr : World) : Prop where
  z : wr.heap[w0.heap.size]? = some (.cells #[.string ⟨#[]⟩, .string ⟨#[]⟩, .slice none 0 0] 40)
  x : wr.heap[gx]? = some (.cells #[.string (strL t), .string (strL ti), v] 40)
  own : OwnP (gx + 1) wr v P
  rd : RdSt W g r wr
  kept : Kept [g] w0 wr
theorem RxSt.go {W : World} {g gx : Nat} {w0 : World} {t ti : List UInt8} {P : List Prm} {r : List UInt8} {v : Value} {wr w' : World} (h : RxSt W g gx w0 t ti P r v wr) (hk : Kept [] wr w') : RxSt W g gx w0 t ti P r v w' :=
  ⟨hk.heap (by simp) h.z, hk.heap (by simp) h.x, h.own.kept hk, h.rd.go hk, h.kept.trans (hk.mono (by simp))⟩

set_option maxRecDepth 100000 in
set_option maxHeartbeats 8000000 in
theorem resource_any (W : World) (g : Nat) (B : List UInt8) (w : World) (h : RdSt W g B w) (ht : TysIs W) : Calls Tryz.prog 45 #[.pointer (some ⟨g, 0, none⟩)] w (ResOut7 W g B w) := by
  obtain ⟨w1, hw1⟩ : ∃ w1, w.alloc (.cells #[.string ⟨#[]⟩, .string ⟨#[]⟩, .slice none 0 0] 40) = w1 := ⟨_, rfl⟩
  have HA : Hid (Kept [] w w1 ∧ w1.heap[w.heap.size]? = some (.cells #[.string ⟨#[]⟩, .string ⟨#[]⟩, .slice none 0 0] 40)) := ⟨by rw [← hw1]; exact Kept.alloc _ _ _, by rw [← hw1]; exact heap_alloc_last _ _⟩
  have HRD : Hid (RdSt W g B w1) := h.go HA.out.1
  have hgl := h.lt
  have hgW := h.hg
  have HGL := Lib.hid (And.intro hgl hgW)
  have HTY := Lib.hid ht
  clear h hgl hgW ht
  cases h1 : num1 B with
  | none =>
    have HZ : Hid (resP B = none) := by show _ = _; unfold resP; rw [h1]
    have HT := Lib.hid (count_no W g B w1 HRD.out h1)
    clear h1
    go_enter Tryz.func45, Tryz.ntmps45
    go_wp2_with fail
    refine HT.out.mono ?_
    rintro e w2 ⟨rfl, hk⟩
    exact ⟨rfl, ResOut7.no HZ.out hk⟩
  | some x =>
    obtain ⟨n1, r1⟩ := x
    have HT1 := Lib.hid (count_yes W g B n1 r1 w1 HRD.out h1)
    have hn1 := num1_lt h1
    have HN1 := Lib.hid hn1
    cases h2 : txtP r1 with
    | none =>
      have HZ : Hid (resP B = none) := by show _ = _; unfold resP; rw [h1]; simp only [h2]
      have H2N := Lib.hid h2
      clear h1 h2 hn1
      go_enter Tryz.func45, Tryz.ntmps45
      go_wp2_with fail
      refine HT1.out.mono ?_
      rintro e w2 ⟨rfl, H2⟩
      go_wp2_with fail
      refine (ctypeOf_any n1 _ HN1.out (HTY.out.kept H2.out.1.kept)).mono ?_
      rintro e w2' ⟨rfl, rfl⟩
      go_wp2_with fail
      refine (text_no W g r1 w2 H2.out.1 H2N.out).mono ?_
      rintro e w3 ⟨rfl, hk⟩
      exact ⟨rfl, ResOut7.no HZ.out hk⟩
    | some y =>
      obtain ⟨ti, r2⟩ := y
      have HTL := Lib.hid (txtP_len h2)
      obtain ⟨t, hte⟩ : ∃ t, tyOf n1 = t := ⟨_, rfl⟩
      have HTT := Lib.hid hte
      have H2N := Lib.hid h2
      have H1N := Lib.hid h1
      clear h1 h2 hn1 hte
      go_enter Tryz.func45, Tryz.ntmps45
      go_wp2_with fail
      refine HT1.out.mono ?_
      rintro e w2 ⟨rfl, H2⟩
      go_wp2_with fail
      refine (ctypeOf_any n1 _ HN1.out (HTY.out.kept H2.out.1.kept)).mono ?_
      rw [HTT.out]
      rintro e w2' ⟨rfl, rfl⟩
      go_wp2_with fail
      refine (text_yes W g r1 ti r2 w2 H2.out.1 H2N.out).mono ?_
      rintro e w3 ⟨rfl, H3⟩
      obtain ⟨w4, hw4⟩ : ∃ w4, w3.alloc (.cells #[.string (strL t), .string (strL ti), .slice none 0 0] 40) = w4 := ⟨_, rfl⟩
      have HA4 : Hid (Kept [] w3 w4 ∧ w4.heap[w3.heap.size]? = some (.cells #[.string (strL t), .string (strL ti), .slice none 0 0] 40)) := ⟨by rw [← hw4]; exact Kept.alloc _ _ _, by rw [← hw4]; exact heap_alloc_last _ _⟩
      obtain ⟨gx, hgx⟩ : ∃ gx, w3.heap.size = gx := ⟨_, rfl⟩
      have hs4 : w4.heap.size = gx + 1 := by rw [← hw4, size_alloc, hgx]
      have HK13 : Hid (Kept [g] w1 w3) := H2.out.2.trans H3.out.2
      have HSZ : Hid (w.heap.size < gx ∧ g < w.heap.size ∧ W.heap.size ≤ g) := by
        refine ⟨?_, HGL.out⟩
        have h1 := (Array.getElem?_eq_some_iff.1 HA.out.2).1
        have h2 := HK13.out.size
        omega
      have HRX : Hid (RxSt W g gx w t ti [] r2 (.slice none 0 0) w4) := by
        refine ⟨HA4.out.1.heap (by simp) (HK13.out.heap (by simp; have := HSZ.out; omega) HA.out.2), by rw [← hgx]; exact HA4.out.2, OwnP.nil _ _, H3.out.1.go HA4.out.1, ?_⟩
        exact ((HA.out.1.mono (by simp)).trans HK13.out).trans (HA4.out.1.mono (by simp))
      have HW4 := Lib.hid hw4
      clear hw4
      cases h3 : num1 r2 with
      | none =>
        have HZ : Hid (resP B = none) := by show _ = _; unfold resP; rw [H1N.out]; simp only [H2N.out, h3]
        have H3N := Lib.hid h3
        clear h3 hw1 hgx hs4
        go_wp2_with fail
        rw [HW4.out]
        refine (count_no W g r2 w4 HRX.out.rd H3N.out).mono ?_
        rintro e w5 ⟨rfl, hk⟩
        exact ⟨rfl, ResOut7.no HZ.out hk⟩
      | some z =>
        obtain ⟨m, r3⟩ := z
        have HRES : Hid (∀ o, repP prmP m r3 = o → resP B = match o with | none => none | some (P, r4) => some (⟨t, ti, P⟩, r4)) := fun o ho => by
          unfold resP; rw [H1N.out]; simp only [H2N.out, h3, ho, HTT.out]
          cases o <;> rfl
        have hm := num1_lt h3
        have H3N := Lib.hid h3
        clear h3 hw1
        rw [hgx] at HA4
        have HGX := Lib.hid hgx
        clear hgx
        go_wp2_with fail
        rw [HW4.out, HGX.out]
        refine (count_yes W g r2 m r3 w4 HRX.out.rd H3N.out).mono ?_
        rintro e w5 ⟨rfl, H5⟩
        have HRX5 : Hid (RxSt W g gx w t ti [] r3 (.slice none 0 0) w5) := by
          refine ⟨H5.out.2.heap (by simp; have := HSZ.out; omega) HRX.out.z, H5.out.2.heap (by simp; have := HSZ.out; omega) HRX.out.x, OwnP.nil _ _, H5.out.1, HRX.out.kept.trans H5.out.2⟩
        clear hs4
        go_wp2_with fail
        go_loopw [12] (fun i wr => ∃ k : Nat, k ≤ m ∧ i = .int .i64 k ∧ Hid (∃ P r v, repP prmP k r3 = some (P, r) ∧ RxSt W g gx w t ti P r v wr)) (fun i _ => m - (intOf i).toNat)
        case atStart => exact ⟨0, by omega, rfl, [], r3, _, rfl, HRX5.out⟩
        case round =>
          clear HRX5 H5 HRX HA4
          obtain ⟨k, hk, rfl, HS⟩ := hrel
          obtain ⟨P, r, v, hp, hS⟩ := HS.out
          have HP := Lib.hid hp
          have HSS := Lib.hid hS
          clear HS hp hS
          by_cases hlt : k < m
          case neg =>
            have hkm : k = m := by omega
            subst hkm
            have HZ := Lib.hid (HRES.out _ HP.out)
            obtain ⟨u1, u2, u3, rfl⟩ := prm_val _ _ _ _ HSS.out.own
            have c0 : wr.cell? ⟨gx, 0, none⟩ = some (.string (strL t)) := cell_of_row _ _ 0 _ _ _ HSS.out.x
            have c1 : wr.cell? ⟨gx, 1, none⟩ = some (.string (strL ti)) := cell_of_row _ _ 1 _ _ _ HSS.out.x
            have c2 : wr.cell? ⟨gx, 2, none⟩ = some (.slice u1 u2 u3) := cell_of_row _ _ 2 _ _ _ HSS.out.x
            have d0 : wr.cell? ⟨w.heap.size, 0, none⟩ = some (.string ⟨#[]⟩) := cell_of_row _ _ 0 _ _ _ HSS.out.z
            have d1 : wr.cell? ⟨w.heap.size, 1, none⟩ = some (.string ⟨#[]⟩) := cell_of_row _ _ 1 _ _ _ HSS.out.z
            have d2 : wr.cell? ⟨w.heap.size, 2, none⟩ = some (.slice none 0 0) := cell_of_row _ _ 2 _ _ _ HSS.out.z
            have fz : ∀ q, wr.frozen? ⟨w.heap.size, q, none⟩ = false := fun q => frozen_of_row _ _ q _ _ HSS.out.z
            go_wp2_with fail
            have r' := row_setCell (row_setCell (row_setCell HSS.out.z 0 (.string (strL t))) 1 (.string (strL ti))) 2 (.slice u1 u2 u3)
            have hkf : Kept [w.heap.size] wr (((wr.setCell ⟨w.heap.size, 0, none⟩ (.string (strL t))).setCell ⟨w.heap.size, 1, none⟩ (.string (strL ti))).setCell ⟨w.heap.size, 2, none⟩ (.slice u1 u2 u3)) := ((Kept.setCell _ _ _ _ (by simp)).trans (Kept.setCell _ _ _ _ (by simp))).trans (Kept.setCell _ _ _ _ (by simp))
            refine bodyPost_ret_by (results_cell_row rfl _ _ (w.heap.size) 40 _ (0, 0) _ rfl r' Tryz.underlying40 rfl (by kernel_rfl)) rfl ?_
            refine ResOut7.yes (x := ⟨t, ti, P⟩) HZ.out ?_ (HSS.out.rd.goX hkf (by simp; have := HSZ.out; omega) (by simp; have := HSZ.out; omega)) (Kept.step (o := some w.heap.size) HSS.out.kept hkf (fun q hq => .inr (by injection hq with hq; omega)))
            exact ((HSS.out.own.keptX hkf fun q hq => by have := (HSS.out.own.blk q hq).1; have := HSZ.out; simp; omega).mono (by have := HSZ.out; omega))
          obtain ⟨u1, u2, u3, rfl⟩ := prm_val _ _ _ _ HSS.out.own
          obtain ⟨Z, hZ⟩ : ∃ Z, (Value.slice u1 u2 u3).ownBlock.toList = Z := ⟨_, rfl⟩
          have HZB : Hid (∀ q ∈ Z, gx + 1 ≤ q) := fun q hq => by rw [← hZ] at hq; exact (HSS.out.own.blk q (by simpa using hq)).1
          have HZZ := Lib.hid hZ
          have HNE : Hid (gx ∉ g :: Z) := by
            show _ ∉ _
            intro hm
            rcases List.mem_cons.1 hm with e | e
            · have := HSZ.out; omega
            · have := HZB.out gx e; omega
          have z1 : ∀ w', Kept (g :: Z) wr.drew w' → w'.cell? ⟨gx, 2, none⟩ = some (.slice u1 u2 u3) := fun w' hk => cell_of_row _ _ 2 _ _ _ (hk.heap HNE.out (show wr.drew.heap[gx]? = _ from HSS.out.x))
          have HRD0 : Hid (RdSt W g r wr.drew) := HSS.out.rd.go (Kept.drew [] _)
          clear hZ
          cases h4 : txtP r with
          | none =>
            have HZN : Hid (resP B = none) := by
              show _ = _
              rw [HRES.out none (repP_none HP.out (by unfold prmP; rw [h4]) m hlt)]
            have H4N := Lib.hid h4
            clear h4
            go_wp2_with fail
            refine wp_region_ordZ (R := (Kept (g :: Z))) 10 [(true, 0), (true, 1), (true, 2), (true, 4), (false, 3), (false, 5), (true, 6), (false, 7), (false, 8), (true, 9)] (fun _ => Kept.refl _ _) (fun _ _ _ h k => h.trans k) (by kernel_rfl) (fun _ _ d _ _ h => by cases d <;> exact h) (by kernel_rfl) rfl (by decide) (by kernel_rfl) (by kernel_rfl) ?_
            simp only [named, List.getD_cons_zero, List.getD_cons_succ]
            repeat (first | (apply wpR_take; (case hw => rfl); (case hv => intro w' hk; go_simp; with_reducible rfl); simp only [Act.put, List.setIfInBounds_toArray, List.set_cons_zero, List.set_cons_succ]) | (refine wpR_pass (by rfl) ?_; simp only [Act.put, List.setIfInBounds_toArray, List.set_cons_zero, List.set_cons_succ]))
            clear z1
            refine wpR_force (by rfl) (fun K hK => ?_)
            go_simp
            refine (text_no W g r _ HRD0.out H4N.out).mono ?_
            rintro e w6 ⟨rfl, hk6⟩
            exact ⟨rfl, ResOut7.no HZN.out hk6⟩
          | some y4 =>
            obtain ⟨s1, r4⟩ := y4
            have HL4 := Lib.hid (txtP_len h4)
            have HT4 := Lib.hid (text_yes W g r s1 r4 wr.drew HRD0.out h4)
            cases h5 : txtP r4 with
            | none =>
              have HZN : Hid (resP B = none) := by
                show _ = _
                rw [HRES.out none (repP_none HP.out (by unfold prmP; rw [h4]; simp only [h5]) m hlt)]
              have H5N := Lib.hid h5
              clear h4 h5
              go_wp2_with fail
              refine wp_region_ordZ (R := (Kept (g :: Z))) 10 [(true, 0), (true, 1), (true, 2), (true, 4), (false, 3), (false, 5), (true, 6), (false, 7), (false, 8), (true, 9)] (fun _ => Kept.refl _ _) (fun _ _ _ h k => h.trans k) (by kernel_rfl) (fun _ _ d _ _ h => by cases d <;> exact h) (by kernel_rfl) rfl (by decide) (by kernel_rfl) (by kernel_rfl) ?_
              simp only [named, List.getD_cons_zero, List.getD_cons_succ]
              repeat (first | (apply wpR_take; (case hw => rfl); (case hv => intro w' hk; go_simp; with_reducible rfl); simp only [Act.put, List.setIfInBounds_toArray, List.set_cons_zero, List.set_cons_succ]) | (refine wpR_pass (by rfl) ?_; simp only [Act.put, List.setIfInBounds_toArray, List.set_cons_zero, List.set_cons_succ]))
              clear z1
              refine wpR_force (by rfl) (fun K hK => ?_)
              go_simp
              refine HT4.out.mono ?_
              rintro e w6 ⟨rfl, H6⟩
              refine hK _ _ (H6.out.2.mono (fun q hq _ => by simp at hq; simp [hq])) ?_
              clear hK K
              repeat (first | (apply wpR_take; (case hw => rfl); (case hv => intro w' hk; go_simp; with_reducible rfl); simp only [Act.put, List.setIfInBounds_toArray, List.set_cons_zero, List.set_cons_succ]) | (refine wpR_pass (by rfl) ?_; simp only [Act.put, List.setIfInBounds_toArray, List.set_cons_zero, List.set_cons_succ]))
              refine wpR_force (by rfl) (fun K hK => ?_)
              go_simp
              refine (text_no W g r4 _ H6.out.1 H5N.out).mono ?_
              rintro e w7 ⟨rfl, hk7⟩
              exact ⟨rfl, ResOut7.no HZN.out hk7⟩
            | some y5 =>
              obtain ⟨s2, r5⟩ := y5
              have HL5 := Lib.hid (txtP_len h5)
              have HSN : Hid (repP prmP (k + 1) r3 = some (P ++ [(s1, s2)], r5)) := repP_snoc HP.out (by unfold prmP; rw [h4]; simp only [h5])
              have H5N := Lib.hid h5
              clear h4 h5
              go_wp2_with fail
              refine wp_region_ordZ (R := (Kept (g :: Z))) 10 [(true, 0), (true, 1), (true, 2), (true, 4), (false, 3), (false, 5), (true, 6), (false, 7), (false, 8), (true, 9)] (fun _ => Kept.refl _ _) (fun _ _ _ h k => h.trans k) (by kernel_rfl) (fun _ _ d _ _ h => by cases d <;> exact h) (by kernel_rfl) rfl (by decide) (by kernel_rfl) (by kernel_rfl) ?_
              simp only [named, List.getD_cons_zero, List.getD_cons_succ]
              repeat (first | (apply wpR_take; (case hw => rfl); (case hv => intro w' hk; go_simp; with_reducible rfl); simp only [Act.put, List.setIfInBounds_toArray, List.set_cons_zero, List.set_cons_succ]) | (refine wpR_pass (by rfl) ?_; simp only [Act.put, List.setIfInBounds_toArray, List.set_cons_zero, List.set_cons_succ]))
              clear z1
              refine wpR_force (by rfl) (fun K hK => ?_)
              go_simp
              refine HT4.out.mono ?_
              rintro e w6 ⟨rfl, H6⟩
              refine hK _ _ (H6.out.2.mono (fun q hq _ => by simp at hq; simp [hq])) ?_
              clear hK K
              repeat (first | (apply wpR_take; (case hw => rfl); (case hv => intro w' hk; go_simp; with_reducible rfl); simp only [Act.put, List.setIfInBounds_toArray, List.set_cons_zero, List.set_cons_succ]) | (refine wpR_pass (by rfl) ?_; simp only [Act.put, List.setIfInBounds_toArray, List.set_cons_zero, List.set_cons_succ]))
              refine wpR_force (by rfl) (fun K hK => ?_)
              go_simp
              refine (text_yes W g r4 s2 r5 w6 H6.out.1 H5N.out).mono ?_
              rintro e w7 ⟨rfl, H7⟩
              refine hK _ _ (H7.out.2.mono (fun q hq _ => by simp at hq; simp [hq])) ?_
              clear hK K
              repeat (first | (apply wpR_take; (case hw => rfl); (case hv => intro w' hk; go_simp; with_reducible rfl); simp only [Act.put, List.setIfInBounds_toArray, List.set_cons_zero, List.set_cons_succ]) | (refine wpR_pass (by rfl) ?_; simp only [Act.put, List.setIfInBounds_toArray, List.set_cons_zero, List.set_cons_succ]))
              have HKG : Hid (Kept [g] wr w7) := ((Kept.drew [g] wr).trans H6.out.2).trans H7.out.2
              have HO7 : Hid (OwnP (gx + 1) w7 (.slice u1 u2 u3) P) := HSS.out.own.keptX HKG.out (fun q hq hh => by
                have h1 := (HSS.out.own.blk q hq).1
                have h2 := HSZ.out
                simp at hh
                omega)
              have hsz7 : gx + 1 ≤ w7.heap.size := by
                have h1 := (Array.getElem?_eq_some_iff.1 HSS.out.x).1
                have h2 := HKG.out.size
                omega
              have hmP : P.length = k := repP_len HP.out
              obtain ⟨v8, w8, hrun, hown8, hap8, hk8⟩ := HO7.out.app hsz7 (s1, s2) (by rw [hmP]; omega) ⟨by have := HL4.out; show s1.length ≤ _; omega, by have := HL5.out; show s2.length ≤ _; omega⟩
              obtain ⟨x1, x2, x3, rfl⟩ := prm_val _ _ _ _ hown8
              have HRUN := Lib.hid hrun
              have HK8 : Hid (Kept (g :: Z) (w7.alloc (.cells #[.string (strL s1), .string (strL s2)] 61)) w8) := by rw [HZZ.out] at hk8; exact hk8.mono (fun q hq _ => List.mem_cons_of_mem _ hq)
              have hkZ : Kept (g :: Z) wr w8 := ((HKG.out.mono (fun q hq _ => by simp at hq; simp [hq])).trans (Kept.alloc _ _ _)).trans HK8.out
              have hZW : ∀ q ∈ (Value.slice u1 u2 u3).ownBlock.toList, gx + 1 ≤ q := fun q hq => HZB.out q (by rw [← HZZ.out]; exact hq)
              have hk78 : Kept (Value.slice u1 u2 u3).ownBlock.toList w7 w8 := (Kept.alloc _ _ _).trans hk8
              have HR8 : Hid (w8.heap[gx]? = some (.cells #[.string (strL t), .string (strL ti), .slice u1 u2 u3] 40)) := hkZ.heap HNE.out HSS.out.x
              have HN8 : Hid (RxSt W g gx w t ti (P ++ [(s1, s2)]) r5 (.slice x1 x2 x3) (w8.setCell ⟨gx, 2, none⟩ (.slice x1 x2 x3))) := by
                have hks : Kept [gx] w8 (w8.setCell ⟨gx, 2, none⟩ (.slice x1 x2 x3)) := Kept.setCell _ _ _ _ (by simp)
                have hz := HSZ.out
                refine ⟨hks.heap (by simp; omega) (hkZ.heap (fun hm => ?_) HSS.out.z), row_setCell HR8.out 2 _, hown8.keptX hks (fun q hq => by have := (hown8.blk q hq).1; simp; omega), ?_, ?_⟩
                · rcases List.mem_cons.1 hm with e | e
                  · omega
                  · have := HZB.out _ e; omega
                · exact (H7.out.1.goX hk78 (fun hm => by have := hZW g hm; omega) (fun q hq => by have := hZW q hq; omega)).goX hks (by simp; omega) (by simp; omega)
                · refine Kept.step (o := some gx) ?_ hks (fun q hq => .inr (by injection hq with hq; omega))
                  refine Kept.step (o := (Value.slice u1 u2 u3).ownBlock) (HSS.out.kept.trans HKG.out) hk78 (fun q hq => .inr (by have := hZW q (by simp [hq]); omega))
              clear hrun hown8 hap8 hk8 hkZ hZW hk78 hsz7 hmP
              refine wpR_force (by rfl) (fun K hK => ?_)
              go_simp
              refine hK _ _ (Kept.alloc _ _ _) ?_
              clear hK K
              refine wpR_force (by rfl) (fun K hK => ?_)
              refine wp_append_run _ _ _ rfl _ _ _ rfl rfl HRUN.out ?_
              refine hK _ _ HK8.out ?_
              clear hK K
              repeat (first | (apply wpR_take; (case hw => rfl); (case hv => intro w' hk; go_simp; with_reducible rfl); simp only [Act.put, List.setIfInBounds_toArray, List.set_cons_zero, List.set_cons_succ]) | (refine wpR_pass (by rfl) ?_; simp only [Act.put, List.setIfInBounds_toArray, List.set_cons_zero, List.set_cons_succ]))
              refine wpR_nil ?_; refine lastQ_go rfl ?_
              have z2 : w8.cell? ⟨gx, 2, none⟩ = some (.slice u1 u2 u3) := cell_of_row _ _ 2 _ _ _ HR8.out
              have fy : ∀ q, w8.frozen? ⟨gx, q, none⟩ = false := fun q => frozen_of_row _ _ q _ _ HR8.out
              go_simp
              clear z2 fy
              generalize hw9 : w8.setCell _ _ = w9
              have H9 : Hid (∃ P r v, repP prmP (k + 1) r3 = some (P, r) ∧ RxSt W g gx w t ti P r v w9) := by
                rw [← hw9]
                exact ⟨_, _, _, HSN.out, HN8.out⟩
              clear hw9
              go_wp2_with fail
              go_roundw
              case rel => exact ⟨k + 1, by omega, by go_num, H9⟩
              case measure => simp [intOf]; omega
end Go.Proofs.YtfofhnbijjocfaaGreatDoor

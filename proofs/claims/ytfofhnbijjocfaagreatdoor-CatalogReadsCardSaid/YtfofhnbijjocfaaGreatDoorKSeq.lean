/-
  Layer 7: the document's reader: numbers and texts, until the bytes end too early.
  Conditions: those that each theorem states.
  Layer 7: what the document's reader has read, in parts; and where it stands. No walk.
  Conditions: those that each theorem states.
-/
import Derived.Test.YtfofhnbijjocfaaGreatDoorKDecode
import Derived.Test.YtfofhnbijjocfaaGreatDoorKRefE
namespace Go.Proofs.YtfofhnbijjocfaaGreatDoor
open Go.RowKit Go.Maps
set_option maxRecDepth 100000

/-- The document's reader: what is left, or that the bytes ended too early. -/
structure RbSt (W : World) (g : Nat) (ob : Option (List UInt8)) (w : World) : Prop where
  hg : W.heap.size ≤ g
  cell : ∃ ao len cap B bad, w.heap[g]? = some (.cells #[.slice ao len cap, .bool bad] 55) ∧ ArgB W ao len cap B ∧ (∀ r, ob = some r → bad = false ∧ B = r) ∧ (ob = none → bad = true)
  kept : Kept [] W w
theorem RbSt.goX {W : World} {g : Nat} {ob : Option (List UInt8)} {w w' : World} {ex : List Nat} (h : RbSt W g ob w) (hk : Kept ex w w') (hx : g ∉ ex) (hW : ∀ q ∈ ex, W.heap.size ≤ q) : RbSt W g ob w' := by
  obtain ⟨h1, ⟨ao, len, cap, B, bad, h2, h3⟩, h4⟩ := h
  exact ⟨h1, ⟨ao, len, cap, B, bad, hk.heap hx h2, h3⟩, h4.into hk hW⟩
theorem RbSt.go {W : World} {g : Nat} {ob : Option (List UInt8)} {w w' : World} (h : RbSt W g ob w) (hk : Kept [] w w') : RbSt W g ob w' := h.goX hk (by simp) (by simp)
theorem RbSt.lt {W : World} {g : Nat} {ob : Option (List UInt8)} {w : World} (h : RbSt W g ob w) : g < w.heap.size := by
  obtain ⟨_, ⟨_, _, _, _, _, h2, _⟩, _⟩ := h
  exact (Array.getElem?_eq_some_iff.1 h2).1
theorem RbSt.bad {W : World} {g : Nat} {ob : Option (List UInt8)} {w : World} (h : RbSt W g ob w) : w.cell? ⟨g, 1, none⟩ = some (.bool ob.isNone) := by
  obtain ⟨_, ⟨_, _, _, _, bad, h2, _, h3, h4⟩, _⟩ := h
  rw [cell_of_row _ _ 1 _ _ _ h2]
  cases ob with
  | none => rw [h4 rfl]; rfl
  | some r => rw [(h3 r rfl).1]; rfl
/-- Bytes as a number. -/
def nmB (l : List UInt8) : Nat := l.foldl (fun a x => 256 * a + x.toNat) 0
theorem nmB_snoc (l : List UInt8) (x : UInt8) : nmB (l ++ [x]) = 256 * nmB l + x.toNat := by simp [nmB]
theorem nmB_lt : ∀ (l : List UInt8), l.length ≤ 2 → nmB l < 65536
  | [], _ => by simp [nmB]
  | [x], _ => by have := UInt8.toNat_lt x; simp [nmB]; omega
  | [x, y], _ => by have := UInt8.toNat_lt x; have := UInt8.toNat_lt y; simp [nmB]; omega
  | _ :: _ :: _ :: _, h => by simp at h

set_option maxRecDepth 100000 in
set_option maxHeartbeats 4000000 in
theorem rnum_off (W : World) (g n : Nat) (ob : Option (List UInt8)) (w : World) (h : RbSt W g ob w) (hn : ∀ r, ob = some r → ¬ n ≤ r.length) :
    Calls Tryz.prog 26 #[.pointer (some ⟨g, 0, none⟩), .int .i64 n] w fun e w' => e = .returned (.int .i64 (0 : Nat)) ∧ Hid (RbSt W g none w' ∧ Kept [g] w w') := by
  obtain ⟨hg, ⟨ao, len, cap, B, bad, hc, hb, h3, h4⟩, hk⟩ := h
  have hks : Kept [g] w (w.setCell ⟨g, 1, none⟩ (.bool true)) := Kept.setCell _ _ _ _ (by simp)
  have HN : Hid (RbSt W g none (w.setCell ⟨g, 1, none⟩ (.bool true)) ∧ Kept [g] w (w.setCell ⟨g, 1, none⟩ (.bool true))) :=
    ⟨⟨hg, ⟨ao, len, cap, B, true, row_setCell hc 1 _, hb, fun r e => (by cases e), fun _ => rfl⟩, hk.into hks (by simpa using hg)⟩, hks⟩
  have c0 : w.cell? ⟨g, 0, none⟩ = some (.slice ao len cap) := cell_of_row _ _ 0 _ _ _ hc
  have c1 : w.cell? ⟨g, 1, none⟩ = some (.bool bad) := cell_of_row _ _ 1 _ _ _ hc
  have fz : w.frozen? ⟨g, 1, none⟩ = false := frozen_of_row _ _ 1 _ _ hc
  have hlen := hb.hle
  have hlb := hb.hlen
  cases ob with
  | none =>
    have hbd := h4 rfl
    subst hbd
    clear hc hb h3 h4 hk hn hks hlb
    go_enter Tryz.func26, Tryz.ntmps26
    go_wp2_with fail
    go_ret
    exact ⟨rfl, HN⟩
  | some r =>
    obtain ⟨hbd, hB⟩ := h3 r rfl
    subst hbd hB
    have hl := hn B rfl
    rw [hlb] at hl
    have hlt : (len : Int) < (n : Int) := by omega
    clear hc hb h3 h4 hk hn hks hlb
    go_enter Tryz.func26, Tryz.ntmps26
    go_wp2_with fail
    go_ret
    exact ⟨rfl, HN⟩

set_option maxRecDepth 100000 in
set_option maxHeartbeats 4000000 in
theorem rnum_on (W : World) (g n : Nat) (B : List UInt8) (w : World) (h : RbSt W g (some B) w) (hn : n ≤ B.length) (h1 : 1 ≤ n) (hn2 : n ≤ 2) :
    Calls Tryz.prog 26 #[.pointer (some ⟨g, 0, none⟩), .int .i64 n] w fun e w' => e = .returned (.int .i64 (nmB (B.take n))) ∧ Hid (RbSt W g (some (B.drop n)) w' ∧ Kept [g] w w') := by
  obtain ⟨hg, ⟨ao, len, cap, B', bad, hc, hb, h3, h4⟩, hk⟩ := h
  obtain ⟨hbd, hB⟩ := h3 B rfl
  subst hbd hB
  have hle := hb.hle
  have hlb := hb.hlen
  have hcap := hb.hcap
  have h63 := hb.cap63
  have hl : n ≤ len := by omega
  have HB := Lib.hid hb
  have HC := Lib.hid hc
  have HK := Lib.hid hk
  have HG := Lib.hid hg
  obtain ⟨b, o, rfl, hcc⟩ := hb.cells (by omega)
  have HCC : Hid (∀ k (hk : k < B'.length), w.cell? ⟨b, o + k, none⟩ = some (.int .u8 (B'[k].toNat : Int))) := fun k hk2 => hcc w hk k hk2
  have HLB := Lib.hid hlb
  have HN : Hid (∀ ao', (n < len → ao' = some ⟨b, o + n, none⟩) → ao' ≠ none → RbSt W g (some (B'.drop n)) (w.setCell ⟨g, 0, none⟩ (.slice ao' (len - n) (cap - n))) ∧ Kept [g] w (w.setCell ⟨g, 0, none⟩ (.slice ao' (len - n) (cap - n)))) := fun ao' hz2 hz => by
    have hks : Kept [g] w (w.setCell ⟨g, 0, none⟩ (.slice ao' (len - n) (cap - n))) := Kept.setCell _ _ _ _ (by simp)
    have hr : (w.setCell ⟨g, 0, none⟩ (.slice ao' (len - n) (cap - n))).heap[g]? = some (.cells #[.slice ao' (len - n) (cap - n), .bool false] 55) := row_setCell HC.out 0 _
    exact ⟨⟨HG.out, ⟨_, _, _, _, _, hr, HB.out.rest hl (fun e => absurd e hz) (fun b' o' e hlt => by injection e with e; injection e with e1 e2; subst e1 e2; exact hz2 hlt), fun r e => ⟨rfl, by injection e⟩, fun e => (by cases e)⟩, HK.out.into hks (by simpa using HG.out)⟩, hks⟩
  have c0 : w.cell? ⟨g, 0, none⟩ = some (.slice (some ⟨b, o, none⟩) len cap) := cell_of_row _ _ 0 _ _ _ hc
  have c1 : w.cell? ⟨g, 1, none⟩ = some (.bool false) := cell_of_row _ _ 1 _ _ _ hc
  have fz : w.frozen? ⟨g, 0, none⟩ = false := frozen_of_row _ _ 0 _ _ hc
  have hnl : ¬ (len : Int) < (n : Int) := by omega
  clear hc hb h3 h4 hk hg hcc hlb hn
  go_enter Tryz.func26, Tryz.ntmps26
  go_wp2_with fail
  go_loop [5, 6] (fun v i => ∃ k : Nat, k ≤ n ∧ i = .int .i64 k ∧ ∃ x : Nat, v = .int .i64 x ∧ Hid (x = nmB (B'.take k))) (fun _ i => n - (intOf i).toNat)
  case atStart => exact ⟨0, by omega, rfl, 0, rfl, rfl⟩
  case round =>
    obtain ⟨k, hk, rfl, x, rfl, HX⟩ := hrel
    by_cases hlt : k < n
    · have hkl : k < B'.length := by rw [HLB.out]; omega
      have ck := HCC.out k hkl
      obtain ⟨y, hy⟩ : ∃ y, B'[k] = y := ⟨_, rfl⟩
      rw [hy] at ck
      have hyl := UInt8.toNat_lt y
      have hxl : x < 256 := by
        rw [HX.out]
        have hk1 : k ≤ 1 := by omega
        rcases (by omega : k = 0 ∨ k = 1) with e | e
        · subst e; simp [nmB]
        · subst e
          obtain ⟨z, hz⟩ : ∃ z, B'.take 1 = [z] := by
            cases B' with
            | nil => simp at hkl
            | cons a l => exact ⟨a, rfl⟩
          rw [hz]
          have := UInt8.toNat_lt z
          simp [nmB]; omega
      have HNX : Hid (256 * x + y.toNat = nmB (B'.take (k + 1))) := by
        show _ = _
        rw [List.take_succ_eq_append_getElem hkl, nmB_snoc, hy, HX.out]
      obtain ⟨x2, hx2⟩ : ∃ x2, 256 * x + y.toNat = x2 := ⟨_, rfl⟩
      have hx2i : 256 * (x : Int) + (y.toNat : Int) = (x2 : Int) := by omega
      rw [hx2] at HNX
      clear hy
      go_wp2_with fail
      go_round
      case rel => exact ⟨k + 1, by omega, by go_num, x2, by go_num, HNX⟩
      case measure => simp [intOf]; omega
    · have hkn : k = n := by omega
      subst hkn
      by_cases hcn : cap = k
      · have hlk : len = k := by omega
        have HZ := Lib.hid (HN.out (some ⟨b, o, none⟩) (fun hh => by omega) (by simp))
        subst hcn
        subst hlk
        clear HN
        go_wp2_with fail
        go_ret
        exact ⟨by rw [HX.out]; rfl, by show _ ∧ _; have := HZ.out; simpa using this⟩
      · have HZ := Lib.hid (HN.out (some ⟨b, o + k, none⟩) (fun _ => rfl) (by simp))
        clear HN
        go_wp2_with fail
        go_ret
        exact ⟨by rw [HX.out]; rfl, HZ⟩
/-- A number, or a text, of what is left; if there is too little, none, and nothing is left. -/
def num1D : Option (List UInt8) → Nat × Option (List UInt8)
  | none => (0, none)
  | some B => match num1 B with
    | none => (0, none)
    | some (v, r) => (v, some r)
def num2D : Option (List UInt8) → Nat × Option (List UInt8)
  | none => (0, none)
  | some B => match num2 B with
    | none => (0, none)
    | some (v, r) => (v, some r)
def txtD : Option (List UInt8) → List UInt8 × Option (List UInt8)
  | none => ([], none)
  | some B => match txtP B with
    | none => ([], none)
    | some (s, r) => (s, some r)
theorem num1D_no {B : List UInt8} (h : num1 B = none) : num1D (some B) = (0, none) := by
  show (match num1 B with | none => (0, none) | some (v, r) => (v, some r)) = _
  rw [h]
theorem num1D_yes {B r : List UInt8} {v : Nat} (h : num1 B = some (v, r)) : num1D (some B) = (v, some r) := by
  show (match num1 B with | none => (0, none) | some (v, r) => (v, some r)) = _
  rw [h]
theorem num2D_no {B : List UInt8} (h : num2 B = none) : num2D (some B) = (0, none) := by
  show (match num2 B with | none => (0, none) | some (v, r) => (v, some r)) = _
  rw [h]
theorem num2D_yes {B r : List UInt8} {v : Nat} (h : num2 B = some (v, r)) : num2D (some B) = (v, some r) := by
  show (match num2 B with | none => (0, none) | some (v, r) => (v, some r)) = _
  rw [h]
theorem txtD_no {B : List UInt8} (h : txtP B = none) : txtD (some B) = ([], none) := by
  show (match txtP B with | none => ([], none) | some (v, r) => (v, some r)) = _
  rw [h]
theorem txtD_yes {B r : List UInt8} {v : List UInt8} (h : txtP B = some (v, r)) : txtD (some B) = (v, some r) := by
  show (match txtP B with | none => ([], none) | some (v, r) => (v, some r)) = _
  rw [h]
theorem rnum1_any (W : World) (g : Nat) (ob : Option (List UInt8)) (w : World) (h : RbSt W g ob w) :
    Calls Tryz.prog 26 #[.pointer (some ⟨g, 0, none⟩), .int .i64 1] w fun e w' => e = .returned (.int .i64 (num1D ob).1) ∧ Hid (RbSt W g (num1D ob).2 w' ∧ Kept [g] w w') := by
  cases ob with
  | none => exact rnum_off W g 1 none w h (fun r e => by cases e)
  | some B =>
    cases hb : num1 B with
    | none => rw [num1D_no hb]; exact rnum_off W g 1 (some B) w h (fun r e => by injection e with e; subst e; exact num1_none hb)
    | some z =>
      obtain ⟨n, r⟩ := z
      rw [num1D_yes hb]
      obtain ⟨x, rfl, rfl⟩ := num1_some hb
      have := rnum_on W g 1 (x :: r) w h (by simp) (by omega) (by omega)
      have e : nmB ((x :: r).take 1) = x.toNat := by simp [nmB]
      rw [e] at this
      exact this
theorem rnum2_any (W : World) (g : Nat) (ob : Option (List UInt8)) (w : World) (h : RbSt W g ob w) :
    Calls Tryz.prog 26 #[.pointer (some ⟨g, 0, none⟩), .int .i64 2] w fun e w' => e = .returned (.int .i64 (num2D ob).1) ∧ Hid (RbSt W g (num2D ob).2 w' ∧ Kept [g] w w') := by
  cases ob with
  | none => exact rnum_off W g 2 none w h (fun r e => by cases e)
  | some B =>
    cases hb : num2 B with
    | none => rw [num2D_no hb]; exact rnum_off W g 2 (some B) w h (fun r e => by injection e with e; subst e; exact num2_none hb)
    | some z =>
      obtain ⟨n, r⟩ := z
      rw [num2D_yes hb]
      obtain ⟨x, y, rfl, rfl⟩ := num2_some hb
      have := rnum_on W g 2 (x :: y :: r) w h (by simp) (by omega) (by omega)
      have e : nmB ((x :: y :: r).take 2) = 256 * x.toNat + y.toNat := by simp [nmB]
      rw [e] at this
      exact this
theorem num1D_lt (ob : Option (List UInt8)) : (num1D ob).1 < 256 := by
  cases ob with
  | none => simp [num1D]
  | some B =>
    cases hb : num1 B with
    | none => rw [num1D_no hb]; simp
    | some z => rw [num1D_yes (v := z.1) (r := z.2) hb]; exact num1_lt hb
theorem num2D_lt (ob : Option (List UInt8)) : (num2D ob).1 < 65536 := by
  cases ob with
  | none => simp [num2D]
  | some B =>
    cases hb : num2 B with
    | none => rw [num2D_no hb]; simp
    | some z =>
      obtain ⟨n, r⟩ := z
      rw [num2D_yes hb]
      obtain ⟨x, y, _, rfl⟩ := num2_some hb
      have := UInt8.toNat_lt x
      have := UInt8.toNat_lt y
      show 256 * x.toNat + y.toNat < 65536
      omega

set_option maxRecDepth 100000 in
set_option maxHeartbeats 4000000 in
theorem rtext_any (W : World) (g : Nat) (ob : Option (List UInt8)) (w : World) (h : RbSt W g ob w) :
    Calls Tryz.prog 27 #[.pointer (some ⟨g, 0, none⟩)] w fun e w' => e = .returned (.string (strL (txtD ob).1)) ∧ Hid (RbSt W g (txtD ob).2 w' ∧ Kept [g] w w') := by
  have HT := Lib.hid (rnum2_any W g ob w h)
  obtain ⟨n, hn⟩ : ∃ n, (num2D ob).1 = n := ⟨_, rfl⟩
  obtain ⟨ob2, ho⟩ : ∃ o, (num2D ob).2 = o := ⟨_, rfl⟩
  have hn6 : n < 65536 := by rw [← hn]; exact num2D_lt ob
  rw [hn, ho] at HT
  have HD : Hid ((ob2 = none → txtD ob = ([], none)) ∧ ∀ q, ob2 = some q → txtD ob = if n ≤ q.length then (q.take n, some (q.drop n)) else ([], none)) := by
    cases ob with
    | none => exact ⟨fun _ => rfl, fun q e => by rw [← ho] at e; cases e⟩
    | some B =>
      cases hb : num2 B with
      | none =>
        rw [num2D_no hb] at hn ho
        exact ⟨fun _ => txtD_no (by unfold txtP; rw [hb]), fun q e => by rw [← ho] at e; cases e⟩
      | some z =>
        obtain ⟨m, r⟩ := z
        rw [num2D_yes hb] at hn ho
        simp only at hn ho
        subst hn
        refine ⟨fun e => (by rw [← ho] at e; cases e), fun q e => ?_⟩
        rw [← ho] at e
        injection e with e
        subst e
        by_cases hl : m ≤ r.length
        · rw [if_pos hl]
          exact txtD_yes (by unfold txtP; rw [hb]; show takeN m r = _; unfold takeN; rw [if_pos hl])
        · rw [if_neg hl]
          exact txtD_no (by unfold txtP; rw [hb]; show takeN m r = _; unfold takeN; rw [if_neg hl])
  clear h hn ho
  go_enter Tryz.func27, Tryz.ntmps27
  go_wp2_with fail
  refine HT.out.mono ?_
  rintro e w2 ⟨rfl, H2⟩
  obtain ⟨hg, ⟨ao, len, cap, B, bad, hc, hb, h3, h4⟩, hk⟩ := H2.out.1
  have c0 : w2.cell? ⟨g, 0, none⟩ = some (.slice ao len cap) := cell_of_row _ _ 0 _ _ _ hc
  have c1 : w2.cell? ⟨g, 1, none⟩ = some (.bool bad) := cell_of_row _ _ 1 _ _ _ hc
  have fz : ∀ q, w2.frozen? ⟨g, q, none⟩ = false := fun q => frozen_of_row _ _ q _ _ hc
  have HBD : Hid (RbSt W g none (w2.setCell ⟨g, 1, none⟩ (.bool true)) ∧ Kept [g] w (w2.setCell ⟨g, 1, none⟩ (.bool true))) := by
    have hks : Kept [g] w2 (w2.setCell ⟨g, 1, none⟩ (.bool true)) := Kept.setCell _ _ _ _ (by simp)
    exact ⟨⟨hg, ⟨ao, len, cap, B, true, row_setCell hc 1 _, hb, fun r e => (by cases e), fun _ => rfl⟩, hk.into hks (by simpa using hg)⟩, H2.out.2.trans hks⟩
  have hle := hb.hle
  have hlb := hb.hlen
  cases ob2 with
  | none =>
    have hbd := h4 rfl
    subst hbd
    have HX := Lib.hid (HD.out.1 rfl)
    clear hc hb h3 h4 hk hlb
    go_wp2_with fail
    go_ret
    exact ⟨by rw [HX.out]; rfl, by rw [HX.out]; exact HBD.out⟩
  | some q =>
    obtain ⟨hbd, hB⟩ := h3 q rfl
    subst hbd hB
    have HX := Lib.hid (HD.out.2 B rfl)
    by_cases hl : n ≤ B.length
    case neg =>
      have HX2 : Hid (txtD ob = ([], none)) := by show _ = _; rw [HX.out, if_neg hl]
      have hlt : (len : Int) < (n : Int) := by omega
      clear hc hb h3 h4 hk hlb hl
      go_wp2_with fail
      go_ret
      exact ⟨by rw [HX2.out]; rfl, by rw [HX2.out]; exact HBD.out⟩
    have HX2 : Hid (txtD ob = (B.take n, some (B.drop n))) := by show _ = _; rw [HX.out, if_pos hl]
    have hcap := hb.hcap
    have h63 := hb.cap63
    have hnil := hb.hnil
    have hll : n ≤ len := by omega
    have hnc : n ≤ cap := by omega
    have hnl : ¬ (len : Int) < (n : Int) := by omega
    have hcv : (convert 28 9 (.slice ao n cap)).run Tryz.prog w2 = .ok (.string (strL (B.take n))) w2 := ((hb.front hll).kept hk).conv
    have HC := Lib.hid hc
    have HB := Lib.hid hb
    have HK := Lib.hid hk
    have HG := Lib.hid hg
    have HN : Hid (∀ ao', (ao' = none → cap - n = 0) → (∀ b o, ao = some ⟨b, o, none⟩ → n < len → ao' = some ⟨b, o + n, none⟩) → RbSt W g (some (B.drop n)) (w2.setCell ⟨g, 0, none⟩ (.slice ao' (len - n) (cap - n))) ∧ Kept [g] w (w2.setCell ⟨g, 0, none⟩ (.slice ao' (len - n) (cap - n)))) := fun ao' hz hz2 => by
      have hks : Kept [g] w2 (w2.setCell ⟨g, 0, none⟩ (.slice ao' (len - n) (cap - n))) := Kept.setCell _ _ _ _ (by simp)
      have hr : (w2.setCell ⟨g, 0, none⟩ (.slice ao' (len - n) (cap - n))).heap[g]? = some (.cells #[.slice ao' (len - n) (cap - n), .bool false] 55) := row_setCell HC.out 0 _
      exact ⟨⟨HG.out, ⟨_, _, _, _, _, hr, HB.out.rest hll hz hz2, fun r e => ⟨rfl, by injection e⟩, fun e => (by cases e)⟩, HK.out.into hks (by simpa using HG.out)⟩, H2.out.2.trans hks⟩
    clear hc hb h3 h4 hk hlb hl hg HX HBD
    cases ao with
    | none =>
      have hc0 := hnil rfl
      subst hc0
      obtain rfl : len = 0 := by omega
      obtain rfl : n = 0 := by omega
      have HZ := Lib.hid (HN.out none (fun _ => rfl) (fun b o e => (by cases e)))
      clear hnil HN
      go_wp2_with fail
      go_ret
      exact ⟨by rw [HX2.out]; rfl, by rw [HX2.out]; exact HZ.out⟩
    | some ad =>
      by_cases hcn : cap = n
      · subst hcn
        obtain rfl : len = cap := by omega
        have HZ := Lib.hid (HN.out (some ad) (fun e => (by cases e)) (fun b o e hlt => absurd hlt (Nat.lt_irrefl _)))
        clear hnil HN
        go_wp2_with fail
        go_ret
        refine ⟨by rw [HX2.out]; rfl, ?_⟩
        rw [HX2.out]
        have := HZ.out
        show _ ∧ _
        simpa using this
      · have HZ := Lib.hid (HN.out (some (ad.add n)) (fun e => (by cases e)) (fun b o e hlt => by
          injection e with e
          subst e
          rw [Addr.add_mid]))
        clear hnil HN
        go_wp2_with fail
        go_ret
        exact ⟨by rw [HX2.out]; rfl, by rw [HX2.out]; exact HZ.out⟩
end Go.Proofs.YtfofhnbijjocfaaGreatDoor

namespace Go.Proofs.YtfofhnbijjocfaaGreatDoor
open Go.RowKit Go.Maps
set_option maxRecDepth 100000

theorem num1D_some {o : Option (List UInt8)} {v : Nat} {r : List UInt8} (h : num1D o = (v, some r)) : ∃ b, o = some b ∧ num1 b = some (v, r) := by
  cases o with
  | none => simp [num1D] at h
  | some b =>
    cases hb : num1 b with
    | none => rw [num1D_no hb] at h; simp at h
    | some z =>
      rw [num1D_yes (v := z.1) (r := z.2) hb] at h
      simp at h
      exact ⟨b, rfl, by rw [hb, ← h.1, ← h.2]⟩
theorem num2D_some {o : Option (List UInt8)} {v : Nat} {r : List UInt8} (h : num2D o = (v, some r)) : ∃ b, o = some b ∧ num2 b = some (v, r) := by
  cases o with
  | none => simp [num2D] at h
  | some b =>
    cases hb : num2 b with
    | none => rw [num2D_no hb] at h; simp at h
    | some z =>
      rw [num2D_yes (v := z.1) (r := z.2) hb] at h
      simp at h
      exact ⟨b, rfl, by rw [hb, ← h.1, ← h.2]⟩
theorem txtD_some {o : Option (List UInt8)} {v : List UInt8} {r : List UInt8} (h : txtD o = (v, some r)) : ∃ b, o = some b ∧ txtP b = some (v, r) := by
  cases o with
  | none => simp [txtD] at h
  | some b =>
    cases hb : txtP b with
    | none => rw [txtD_no hb] at h; simp at h
    | some z =>
      rw [txtD_yes (v := z.1) (r := z.2) hb] at h
      simp at h
      exact ⟨b, rfl, by rw [hb, ← h.1, ← h.2]⟩
theorem txtD_len {o : Option (List UInt8)} {v : List UInt8} {o2 : Option (List UInt8)} (h : txtD o = (v, o2)) : v.length < 65536 := by
  cases o with
  | none => simp [txtD] at h; rw [h.1]; simp
  | some b =>
    cases hb : txtP b with
    | none => rw [txtD_no hb] at h; simp at h; rw [h.1]; simp
    | some z =>
      rw [txtD_yes (v := z.1) (r := z.2) hb] at h
      simp at h
      rw [← h.1]
      exact txtP_len (r := z.2) (by rw [hb])

/-- i of n things of a kind have been read, or it is known that they can't be. -/
def SeqSt {α : Type} (p : List UInt8 → Option (α × List UInt8)) (ob0 : Option (List UInt8)) (n i : Nat) (l : List α) (ob : Option (List UInt8)) : Prop :=
  (∃ r0 r, ob0 = some r0 ∧ ob = some r ∧ repP p i r0 = some (l, r)) ∨ (ob = none ∧ ∀ r0, ob0 = some r0 → repP p n r0 = none)
theorem SeqSt.init {α : Type} (p : List UInt8 → Option (α × List UInt8)) (ob0 : Option (List UInt8)) (n : Nat) : SeqSt p ob0 n 0 [] ob0 := by
  cases ob0 with
  | none => exact .inr ⟨rfl, fun r e => by cases e⟩
  | some r => exact .inl ⟨r, r, rfl, rfl, rfl⟩
theorem SeqSt.next {α : Type} {p : List UInt8 → Option (α × List UInt8)} {ob0 : Option (List UInt8)} {n i : Nat} {l : List α} {r : List UInt8} (h : SeqSt p ob0 n i l (some r)) (hi : i < n) {ob : Option (List UInt8)} {x : α}
    (hy : ∀ r', ob = some r' → p r = some (x, r')) (hn : ob = none → p r = none) : SeqSt p ob0 n (i + 1) (l ++ [x]) ob := by
  rcases h with ⟨r0, r1, e0, e1, h⟩ | ⟨e, _⟩
  · injection e1 with e1
    subst e1
    cases ob with
    | none => exact .inr ⟨rfl, fun r2 e2 => by rw [e0] at e2; injection e2 with e2; subst e2; exact repP_none h (hn rfl) n hi⟩
    | some r' => exact .inl ⟨r0, r', e0, rfl, repP_snoc h (hy r' rfl)⟩
  · cases e
theorem SeqSt.off {α : Type} {p : List UInt8 → Option (α × List UInt8)} {r0 : List UInt8} {n i : Nat} {l : List α} {ob : Option (List UInt8)} (h : SeqSt p (some r0) n i l ob) (hi : ob = none ∨ i = n) : repP p n r0 = ob.map fun r' => (l, r') := by
  rcases h with ⟨r1, r, e0, e1, h⟩ | ⟨e, h⟩
  · injection e0 with e0
    subst e0 e1
    rcases hi with hi | hi
    · cases hi
    · rw [← hi]; simpa using h
  · subst e
    simpa using h r0 rfl
theorem SeqSt.low {α : Type} {p : List UInt8 → Option (α × List UInt8)} {ob0 : Option (List UInt8)} {n i : Nat} {l : List α} {r : List UInt8} (h : SeqSt p ob0 n i l (some r)) : ∃ r0, ob0 = some r0 := by
  rcases h with ⟨r0, _, e0, _⟩ | ⟨e, _⟩
  · exact ⟨r0, e0⟩
  · cases e
/-- A parameter. -/
theorem prmD_is {r s v : List UInt8} {o1 o2 : Option (List UInt8)} (h1 : txtD (some r) = (s, o1)) (h2 : txtD o1 = (v, o2)) : prmP r = o2.map fun r' => ((s, v), r') := by
  unfold prmP
  cases hb : txtP r with
  | none =>
    rw [txtD_no hb] at h1
    simp at h1
    rw [← h1.2] at h2
    simp [txtD] at h2
    rw [← h2.2]; rfl
  | some z =>
    obtain ⟨a, b⟩ := z
    rw [txtD_yes hb] at h1
    simp at h1
    obtain ⟨rfl, rfl⟩ := h1
    simp only
    cases hc : txtP b with
    | none => rw [txtD_no hc] at h2; simp at h2; rw [← h2.2]; rfl
    | some y => rw [txtD_yes (v := y.1) (r := y.2) hc] at h2; simp at h2; obtain ⟨rfl, rfl⟩ := h2; rfl
/-- A resource. -/
theorem resD_is {r ti : List UInt8} {k m i : Nat} {P : List Prm} {o1 o2 o3 oP : Option (List UInt8)} (h1 : num1D (some r) = (k, o1)) (h2 : txtD o1 = (ti, o2)) (h3 : num1D o2 = (m, o3)) (hs : SeqSt prmP o3 m i P oP) (hi : oP = none ∨ i = m) :
    resP r = oP.map fun r' => (⟨tyOf k, ti, P⟩, r') := by
  have dead : o3 = none → oP = none := fun e => by
    rcases hs with ⟨r0, _, e0, _⟩ | ⟨e1, _⟩
    · rw [e] at e0; cases e0
    · exact e1
  unfold resP
  cases hb : num1 r with
  | none =>
    rw [num1D_no hb] at h1
    simp at h1
    rw [← h1.2] at h2
    simp [txtD] at h2
    rw [← h2.2] at h3
    simp [num1D] at h3
    rw [dead h3.2.symm]; rfl
  | some z =>
    obtain ⟨a, b⟩ := z
    rw [num1D_yes hb] at h1
    simp at h1
    obtain ⟨rfl, rfl⟩ := h1
    simp only
    cases hc : txtP b with
    | none =>
      rw [txtD_no hc] at h2
      simp at h2
      rw [← h2.2] at h3
      simp [num1D] at h3
      rw [dead h3.2.symm]; rfl
    | some y =>
      obtain ⟨c, d⟩ := y
      rw [txtD_yes hc] at h2
      simp at h2
      obtain ⟨rfl, rfl⟩ := h2
      simp only
      cases hd : num1 d with
      | none =>
        rw [num1D_no hd] at h3
        simp at h3
        rw [dead h3.2.symm]; rfl
      | some x =>
        obtain ⟨e, f⟩ := x
        rw [num1D_yes hd] at h3
        simp at h3
        obtain ⟨rfl, rfl⟩ := h3
        simp only
        rw [hs.off hi]
        cases oP <;> rfl
/-- An edge. -/
theorem edgD_is {r : List UInt8} {f t k : Nat} {o1 o2 o3 : Option (List UInt8)} (h1 : num1D (some r) = (f, o1)) (h2 : num1D o1 = (t, o2)) (h3 : num1D o2 = (k, o3)) : edgP r = o3.map fun r' => (⟨(f : Int), (t : Int), decide (k = 1)⟩, r') := by
  unfold edgP
  cases hb : num1 r with
  | none =>
    rw [num1D_no hb] at h1
    simp at h1
    rw [← h1.2] at h2
    simp [num1D] at h2
    rw [← h2.2] at h3
    simp [num1D] at h3
    rw [← h3.2]; rfl
  | some z =>
    obtain ⟨a, b⟩ := z
    rw [num1D_yes hb] at h1
    simp at h1
    obtain ⟨rfl, rfl⟩ := h1
    simp only
    cases hc : num1 b with
    | none =>
      rw [num1D_no hc] at h2
      simp at h2
      rw [← h2.2] at h3
      simp [num1D] at h3
      rw [← h3.2]; rfl
    | some y =>
      obtain ⟨c, d⟩ := y
      rw [num1D_yes hc] at h2
      simp at h2
      obtain ⟨rfl, rfl⟩ := h2
      simp only
      cases hd : num1 d with
      | none => rw [num1D_no hd] at h3; simp at h3; rw [← h3.2]; rfl
      | some x => rw [num1D_yes (v := x.1) (r := x.2) hd] at h3; simp at h3; obtain ⟨rfl, rfl⟩ := h3; rfl
/-- A catalog. -/
theorem catD_is {B nd : List UInt8} {v n m i j : Nat} {R : List Res} {E : List Edg} {o1 o2 o3 oR o4 oE : Option (List UInt8)} (h1 : num2D (some B) = (v, o1)) (h2 : txtD o1 = (nd, o2)) (h3 : num1D o2 = (n, o3)) (hR : SeqSt resP o3 n i R oR) (hi : oR = none ∨ i = n)
    (h4 : num1D oR = (m, o4)) (hE : SeqSt edgP o4 m j E oE) (hj : oE = none ∨ j = m) : catP B = oE.map fun r' => (⟨(v : Int), nd, R, E⟩, r') := by
  have dead4 : o4 = none → oE = none := fun e => by
    rcases hE with ⟨r0, _, e0, _⟩ | ⟨e1, _⟩
    · rw [e] at e0; cases e0
    · exact e1
  have deadR : oR = none → oE = none := fun e => by
    rw [e] at h4
    simp [num1D] at h4
    exact dead4 h4.2.symm
  have dead : o3 = none → oE = none := fun e => by
    refine deadR ?_
    rcases hR with ⟨r0, _, e0, _⟩ | ⟨e1, _⟩
    · rw [e] at e0; cases e0
    · exact e1
  unfold catP
  cases hb : num2 B with
  | none =>
    rw [num2D_no hb] at h1
    simp at h1
    rw [← h1.2] at h2
    simp [txtD] at h2
    rw [← h2.2] at h3
    simp [num1D] at h3
    rw [dead h3.2.symm]; rfl
  | some z =>
    obtain ⟨a, b⟩ := z
    rw [num2D_yes hb] at h1
    simp at h1
    obtain ⟨rfl, rfl⟩ := h1
    simp only
    cases hc : txtP b with
    | none =>
      rw [txtD_no hc] at h2
      simp at h2
      rw [← h2.2] at h3
      simp [num1D] at h3
      rw [dead h3.2.symm]; rfl
    | some y =>
      obtain ⟨c, d⟩ := y
      rw [txtD_yes hc] at h2
      simp at h2
      obtain ⟨rfl, rfl⟩ := h2
      simp only
      cases hd : num1 d with
      | none =>
        rw [num1D_no hd] at h3
        simp at h3
        rw [dead h3.2.symm]; rfl
      | some x =>
        obtain ⟨e, f⟩ := x
        rw [num1D_yes hd] at h3
        simp at h3
        obtain ⟨rfl, rfl⟩ := h3
        simp only
        rw [hR.off hi]
        cases oR with
        | none => rw [deadR rfl]; rfl
        | some r4 =>
          simp only [Option.map_some]
          cases hf : num1 r4 with
          | none =>
            rw [num1D_no hf] at h4
            simp at h4
            rw [dead4 h4.2.symm]; rfl
          | some u =>
            obtain ⟨g, q⟩ := u
            rw [num1D_yes hf] at h4
            simp at h4
            obtain ⟨rfl, rfl⟩ := h4
            simp only
            rw [hE.off hj]
            cases oE <;> rfl
end Go.Proofs.YtfofhnbijjocfaaGreatDoor

/-
  Layer 13: texts are put on a page; a line is ended; what a word covers.
  Conditions: those that each theorem states.
  Layer 13: what a node's text may be: the program's labels, where they may.
  Conditions: those that each theorem states.
-/
import Derived.Test.YtfpdgdacifiejaaGreatWPg
import Derived.Test.YtfpdgdacifiejaaGreatWShelf
import Derived.Test.YtfpdgdacifiejaaGreatVDepP
import Derived.Test.YtfpdgdacifiejaaGreatULex
namespace Go.Proofs.YtfpdgdacifiejaaGreat
open Go.RowKit Go.Maps Go.Shelf

set_option maxRecDepth 100000 in
set_option maxHeartbeats 4000000 in
theorem pput_any (p : Nat) (nv : Value) (bl : Nat) (acc : List UInt8) (parts : List (List UInt8)) (g n : Nat) (w : World) (h : PgSt p nv bl acc w) (hn : parts.length = n) (hrow : w.heap[g]? = some (.cells (svA parts) 9)) (hs : n ≤ 1000) (hl : acc.length + parts.flatten.length ≤ 70368744177664) :
    Calls Tryz.prog 45 #[.pointer (some ⟨p, 0, none⟩), .slice (some ⟨g, 0, none⟩) n n] w fun e w' => e = .returned (.tuple #[]) ∧ PgSt p nv bl (acc ++ parts.flatten) w' ∧ PF p w w' := by
  have hgp : g ≠ p := by
    rintro rfl
    obtain ⟨ad, bf, h1, _⟩ := h.out
    rw [hrow] at h1
    injection h1 with h1
    injection h1 with _ h1
    exact absurd h1 (by decide)
  have HCELL : Hid (∀ wr, PF p w wr → ∀ k (hk : k < parts.length), wr.cell? ⟨g, k, none⟩ = some (.string (strL parts[k]))) := fun wr hk k hkl => by
    rw [cell_of_row _ _ k _ _ _ (hk.heap hrow hgp (by decide))]
    simp [svA, sv, hkl]
  have HN := Lib.hid hn
  have HL := Lib.hid hl
  have H := Lib.hid h
  clear h hn hrow hl hgp
  go_enter Tryz.func45, Tryz.ntmps45
  go_wp2_with fail
  go_loopw [8] (fun si wr => ∃ k : Nat, si = .int .i64 k ∧ k ≤ n ∧ Hid (PgSt p nv bl (acc ++ (parts.take k).flatten) wr ∧ PF p w wr)) (fun si _ => n - (intOf si).toNat)
  case atStart => exact ⟨0, rfl, by omega, Lib.hid ⟨by simpa using H.out, PF.refl _ _⟩⟩
  case round =>
    obtain ⟨k, rfl, hk, HS⟩ := hrel
    clear H
    by_cases hlt : k < n
    · have hkl : k < parts.length := by rw [HN.out]; exact hlt
      have c0 := HCELL.out wr HS.out.2 k hkl
      have HNX : Hid ((parts.take (k + 1)).flatten = (parts.take k).flatten ++ parts[k]) := by
        show _ = _
        rw [List.take_succ_eq_append_getElem hkl]
        simp only [List.flatten_append, List.flatten_cons, List.flatten_nil, List.append_nil]
      have HLE : Hid ((parts.take (k + 1)).flatten.length ≤ parts.flatten.length) := by
        show _ ≤ _
        have e : parts.flatten = (parts.take (k + 1)).flatten ++ (parts.drop (k + 1)).flatten := by rw [← List.flatten_append, List.take_append_drop]
        rw [e, List.length_append]
        omega
      have HW := Lib.hid (sbw_any p nv bl (acc ++ (parts.take k).flatten) parts[k] wr HS.out.1 (by
        have h1 := HLE.out; have h2 := HL.out
        rw [HNX.out, List.length_append] at h1
        rw [List.length_append]; omega))
      obtain ⟨tx, htx⟩ : ∃ t, strL parts[k] = t := ⟨_, rfl⟩
      rw [htx] at c0 HW
      clear htx
      go_wp2_with fail
      refine HW.out.mono ?_
      rintro e w2 ⟨rfl, h1, h2⟩
      have H2 : Hid (PgSt p nv bl (acc ++ (parts.take (k + 1)).flatten) w2 ∧ PF p w w2) := ⟨by rw [HNX.out, ← List.append_assoc]; exact h1, HS.out.2.trans h2⟩
      clear h1 h2 c0
      go_wp2_with fail
      go_roundw
      case rel => exact ⟨k + 1, by go_num, by omega, H2⟩
      case measure => simp [intOf]; omega
    · have hkn : k = n := by omega
      have HE : Hid (PgSt p nv bl (acc ++ parts.flatten) wr ∧ PF p w wr) := by
        have := HS.out
        rw [hkn, List.take_of_length_le (by rw [HN.out]; omega)] at this
        exact this
      have hii : ¬ (k : Int) < (n : Int) := by omega
      clear hkn
      go_wp2_with fail
      go_end0
      exact ⟨rfl, HE.out.1, HE.out.2⟩
/-- The numbers of blanks ahead of a line. -/
def ahS (bl : Nat) : List UInt8 := List.replicate (2 * bl) 32
theorem repeat_two : ∀ n, Lib.repeatL [32, 32] n = ahS n
  | 0 => rfl
  | n + 1 => by
    show [32, 32] ++ Lib.repeatL [32, 32] n = _
    rw [repeat_two n]
    unfold ahS
    show List.replicate 2 32 ++ List.replicate (2 * n) 32 = _
    rw [List.replicate_append_replicate, show 2 * (n + 1) = 2 + 2 * n by omega]
theorem repeat_extra : Builder.Extra Tryz.prog Tryz.lays105_ren := {
  sizeBuilder := by kernel_rfl, liesBuilder := by kernel_rfl, t5 := Tryz.underlying5
  a5 := fun w => by kernel_rfl, z5 := fun w => by kernel_rfl, v5 := fun w => by kernel_rfl
  infoByte := by kernel_rfl, cellsByte := by kernel_rfl, sizeByte := by kernel_rfl, neB5 := by decide }
theorem blanks_any (n : Nat) (w : World) (hn : n ≤ 10000) :
    Calls Tryz.prog 50 #[.string ⟨#[32, 32]⟩, .int .i64 (n : Int)] w fun e w' => e = .returned (.string (strL (ahS n))) ∧ Kept [] w w' := by
  refine (Any.strings_Repeat Tryz.lays105 repeat_extra ⟨#[32, 32]⟩ n w (by omega) (by show 2 * n ≤ _; omega)).mono fun e w' ⟨he, hw⟩ => ⟨?_, ?_⟩
  · rw [he, ← repeat_two]
    rfl
  · exact ⟨hw.os, hw.tape, hw.output, hw.size, fun k hk _ => hw.block k hk⟩
theorem put_txt1 (a : List UInt8) : [a].flatten = a := by simp
/-- One text, or two, in a new block: put. -/
theorem pput_one (p : Nat) (nv : Value) (bl : Nat) (acc a : List UInt8) (g : Nat) (w : World) (h : PgSt p nv bl acc w) (hrow : w.heap[g]? = some (.cells #[.string (strL a)] 9)) (hl : acc.length + a.length ≤ 70368744177664) :
    Calls Tryz.prog 45 #[.pointer (some ⟨p, 0, none⟩), .slice (some ⟨g, 0, none⟩) 1 1] w fun e w' => e = .returned (.tuple #[]) ∧ PgSt p nv bl (acc ++ a) w' ∧ PF p w w' := by
  have := pput_any p nv bl acc [a] g 1 w h rfl hrow (by omega) (by simpa using hl)
  simpa using this
theorem pput_two (p : Nat) (nv : Value) (bl : Nat) (acc a b : List UInt8) (g : Nat) (w : World) (h : PgSt p nv bl acc w) (hrow : w.heap[g]? = some (.cells #[.string (strL a), .string (strL b)] 9)) (hl : acc.length + (a.length + b.length) ≤ 70368744177664) :
    Calls Tryz.prog 45 #[.pointer (some ⟨p, 0, none⟩), .slice (some ⟨g, 0, none⟩) 2 2] w fun e w' => e = .returned (.tuple #[]) ∧ PgSt p nv bl (acc ++ (a ++ b)) w' ∧ PF p w w' := by
  have := pput_any p nv bl acc [a, b] g 2 w h rfl hrow (by omega) (by simpa using hl)
  simpa using this
set_option maxRecDepth 100000 in
set_option maxHeartbeats 4000000 in
/-- A line is ended. -/
theorem pline_any (p : Nat) (nv : Value) (bl : Nat) (acc : List UInt8) (w : World) (h : PgSt p nv bl acc w) (hb : bl ≤ 10000) (hl : acc.length + (1 + (ahS bl).length) ≤ 70368744177664) :
    Calls Tryz.prog 24 #[.pointer (some ⟨p, 0, none⟩)] w fun e w' => e = .returned (.tuple #[]) ∧ PgSt p nv bl (acc ++ (10 :: ahS bl)) w' ∧ PF p w w' := by
  obtain ⟨ad, bf, h1, _⟩ := h.out
  have c3 : w.cell? ⟨p, 3, none⟩ = some (.int .i64 (bl : Int)) := cell_of_row _ _ 3 _ _ _ h1
  have HB := Lib.hid (blanks_any bl w hb)
  have HL := Lib.hid hl
  have H := Lib.hid h
  clear h hl h1 hb
  go_enter Tryz.func24, Tryz.ntmps24
  go_wp2_with fail
  refine HB.out.mono ?_
  rintro e w2 ⟨rfl, hk2⟩
  obtain ⟨w3, hw3⟩ : ∃ w3, w2.alloc (.cells #[.string ⟨#[10]⟩, .string (strL (ahS bl))] 9) = w3 := ⟨_, rfl⟩
  have H3 : Hid (Kept [] w w3 ∧ w3.heap[w2.heap.size]? = some (.cells #[.string (strL [10]), .string (strL (ahS bl))] 9)) := by
    rw [← hw3]
    exact ⟨hk2.trans (Kept.alloc _ _ _), heap_alloc_last _ _⟩
  have HP := Lib.hid (pput_two p nv bl acc [10] (ahS bl) w2.heap.size w3 (H.out.go H3.out.1) H3.out.2 HL.out)
  clear hk2 c3
  go_wp2_with fail
  refine HP.out.mono ?_
  rintro e w4 ⟨rfl, h4, hk4⟩
  have H4 := Lib.hid (And.intro h4 ((PF.of H3.out.1).trans hk4))
  clear h4 hk4
  go_wp2_with fail
  go_end0
  exact ⟨rfl, H4.out.1, H4.out.2⟩
set_option maxRecDepth 100000 in
set_option maxHeartbeats 4000000 in
/-- What a word covers. -/
theorem pcovered_any (k : Nat) (tx : List UInt8) (w : World) (hl : tx.length ≤ 70368744177664) :
    Calls Tryz.prog 66 #[.int .i64 (k : Int), .string (strL tx)] w fun e w' => e = .returned (.string (strL (covO ⟨k, tx, 0⟩))) ∧ w = w' := by
  have hsz : (strL tx).size ≤ 70368744177664 := by rw [strL_size]; exact hl
  have E3 : strL (36 :: tx) = ⟨#[36]⟩ ++ strL tx := by apply ByteArray.ext; apply Array.ext'; simp [strL]
  have E4 : strL (39 :: (tx ++ [39])) = ⟨#[39]⟩ ++ strL tx ++ ⟨#[39]⟩ := by apply ByteArray.ext; apply Array.ext'; simp [strL]
  have E5 : strL (34 :: (tx ++ [34])) = ⟨#[34]⟩ ++ strL tx ++ ⟨#[34]⟩ := by apply ByteArray.ext; apply Array.ext'; simp [strL]
  have HE := Lib.hid (And.intro E3 (And.intro E4 E5))
  obtain ⟨t, ht⟩ : ∃ t, strL tx = t := ⟨_, rfl⟩
  have HT := Lib.hid ht
  rw [ht] at hsz HE
  rw [ht]
  clear E3 E4 E5 ht
  by_cases k3 : k = 3
  · subst k3
    go_enter Tryz.func66, Tryz.ntmps66
    go_wp2_with fail
    go_ret
    exact ⟨by show _ = Ending.returned (.string (strL (36 :: tx))); rw [HE.out.1]; rfl, rfl⟩
  by_cases k4 : k = 4
  · subst k4
    go_enter Tryz.func66, Tryz.ntmps66
    go_wp2_with fail
    go_ret
    exact ⟨by show _ = Ending.returned (.string (strL (39 :: (tx ++ [39])))); rw [HE.out.2.1]; rfl, rfl⟩
  by_cases k5 : k = 5
  · subst k5
    go_enter Tryz.func66, Tryz.ntmps66
    go_wp2_with fail
    go_ret
    exact ⟨by show _ = Ending.returned (.string (strL (34 :: (tx ++ [34])))); rw [HE.out.2.2]; rfl, rfl⟩
  have i3 : ¬ (k : Int) = 3 := by omega
  have i4 : ¬ (k : Int) = 4 := by omega
  have i5 : ¬ (k : Int) = 5 := by omega
  have hc : covO ⟨k, tx, 0⟩ = tx := by unfold covO; simp [k3, k4, k5]
  have HC := Lib.hid hc
  clear k3 k4 k5 hc
  go_enter Tryz.func66, Tryz.ntmps66
  go_wp2_with fail
  go_ret
  exact ⟨by rw [HC.out, HT.out]; rfl, rfl⟩
end Go.Proofs.YtfpdgdacifiejaaGreat

namespace Go.Proofs.YtfpdgdacifiejaaGreat
open Go.RowKit Go.Maps

/-- A text may be, as a label's method says. -/
def LabC (fid : FuncId) (tx : List UInt8) : Prop := ∀ w : World, Calls Tryz.prog fid #[.string (strL tx)] w fun e w' => e = .returned (.bool true) ∧ Kept [] w w'
theorem tkc_lex {k : Nat} {tx : List UInt8} (h : TkC ⟨(k : Int), tx⟩) : lxW (covO ⟨k, tx, 0⟩) = [⟨k, tx, 0⟩] ∧ lxE (covO ⟨k, tx, 0⟩) = 0 ∧ lxA (covO ⟨k, tx, 0⟩) = 0 ∧ (covO ⟨k, tx, 0⟩).length ≤ 65536 := by
  obtain ⟨⟨j, hj, hw⟩, hl⟩ := h
  have hjk : j = k := by simp only at hj; omega
  subst hjk
  have hc : covT ⟨(j : Int), tx⟩ = covO ⟨j, tx, 0⟩ := by unfold covT; simp
  rw [hc] at hl
  have e := lex_alone hw
  unfold lxW lxE lxA
  have hn : ¬ 65536 < (covO ⟨j, tx, 0⟩).length := by omega
  rw [if_neg hn, if_neg hn, if_neg hn, e]
  exact ⟨rfl, rfl, rfl, hl⟩
set_option maxRecDepth 100000 in
set_option maxHeartbeats 4000000 in
theorem pis_any (k : Nat) (tx : List UInt8) (w : World) (h : TkC ⟨(k : Int), tx⟩) :
    Calls Tryz.prog 121 #[.string (strL tx), .int .i64 (k : Int)] w fun e w' => e = .returned (.bool true) ∧ Kept [] w w' := by
  obtain ⟨h1, h2, h3, h4⟩ := tkc_lex h
  have htl : tx.length ≤ 70368744177664 := by have := h.len; simp only at this; omega
  have HCV := Lib.hid (pcovered_any k tx w htl)
  obtain ⟨C, hC⟩ : ∃ C, covO ⟨k, tx, 0⟩ = C := ⟨_, rfl⟩
  rw [hC] at h1 h2 h3 h4 HCV
  have HLX := Lib.hid (lex_any (strL C) w (by rw [strL_size]; omega))
  have HQ := Lib.hid (And.intro h1 (And.intro h2 h3))
  clear h h1 h2 h3 h4 htl hC
  go_enter Tryz.func121, Tryz.ntmps121
  go_wp2_with fail
  refine HCV.out.mono ?_
  rintro e w1 ⟨rfl, rfl⟩
  go_wp2_with fail
  refine HLX.out.mono ?_
  rintro e w2 ⟨vw, rfl, hws, hk2⟩
  have hb : bl (strL C) = C := by show (strL C).data.toList = C; simp [strL]
  rw [hb, HQ.out.1] at hws
  rw [hb, HQ.out.2.1, HQ.out.2.2]
  have HK2 := Lib.hid hk2
  obtain ⟨ao, cap, rfl, hcap, hc63, _, hcell⟩ := hws.es.open
  obtain ⟨b, o, rfl, hbb, hc⟩ := hcell (by simp)
  obtain ⟨c0, c1, _⟩ := hc 0 (by simp)
  have d0 : w2.cell? ⟨b, o, none⟩ = some (.int .i64 (k : Int)) := c0
  have d1 : w2.cell? ⟨b, o + 1, none⟩ = some (.string (strL tx)) := c1
  rw [show [(⟨k, tx, 0⟩ : Wd)].length = 1 from rfl] at hcap ⊢
  clear hb hk2 hws hcell hc c0 c1 hbb
  go_wp2_with fail
  go_ret
  exact ⟨rfl, HK2.out⟩
set_option maxRecDepth 100000 in
theorem plKind_any (tx : List UInt8) (h : TkC ⟨2, tx⟩) : LabC 100 tx := by
  intro w
  have HP := Lib.hid (show Calls Tryz.prog 121 #[.string (strL tx), .int .i64 2] w _ from pis_any 2 tx w h)
  clear h
  go_enter Tryz.func100, Tryz.ntmps100
  go_wp2_with fail
  refine HP.out.mono ?_
  rintro e w2 ⟨rfl, hk⟩
  have HK := Lib.hid hk
  clear hk
  go_wp2_with fail
  go_ret
  exact ⟨rfl, HK.out⟩
set_option maxRecDepth 100000 in
theorem plVariable_any (tx : List UInt8) (h : TkC ⟨3, tx⟩) : LabC 92 tx := by
  intro w
  have HP := Lib.hid (show Calls Tryz.prog 121 #[.string (strL tx), .int .i64 3] w _ from pis_any 3 tx w h)
  clear h
  go_enter Tryz.func92, Tryz.ntmps92
  go_wp2_with fail
  refine HP.out.mono ?_
  rintro e w2 ⟨rfl, hk⟩
  have HK := Lib.hid hk
  clear hk
  go_wp2_with fail
  go_ret
  exact ⟨rfl, HK.out⟩
set_option maxRecDepth 100000 in
theorem plText_any (tx : List UInt8) (h : TkC ⟨4, tx⟩) : LabC 126 tx := by
  intro w
  have HP := Lib.hid (show Calls Tryz.prog 121 #[.string (strL tx), .int .i64 4] w _ from pis_any 4 tx w h)
  clear h
  go_enter Tryz.func126, Tryz.ntmps126
  go_wp2_with fail
  refine HP.out.mono ?_
  rintro e w2 ⟨rfl, hk⟩
  have HK := Lib.hid hk
  clear hk
  go_wp2_with fail
  go_ret
  exact ⟨rfl, HK.out⟩
set_option maxRecDepth 100000 in
theorem plMixed_any (tx : List UInt8) (h : TkC ⟨5, tx⟩) : LabC 127 tx := by
  intro w
  have HP := Lib.hid (show Calls Tryz.prog 121 #[.string (strL tx), .int .i64 5] w _ from pis_any 5 tx w h)
  clear h
  go_enter Tryz.func127, Tryz.ntmps127
  go_wp2_with fail
  refine HP.out.mono ?_
  rintro e w2 ⟨rfl, hk⟩
  have HK := Lib.hid hk
  clear hk
  go_wp2_with fail
  go_ret
  exact ⟨rfl, HK.out⟩
set_option maxRecDepth 100000 in
theorem plNumber_any (tx : List UInt8) (h : TkC ⟨6, tx⟩) : LabC 128 tx := by
  intro w
  have HP := Lib.hid (show Calls Tryz.prog 121 #[.string (strL tx), .int .i64 6] w _ from pis_any 6 tx w h)
  clear h
  go_enter Tryz.func128, Tryz.ntmps128
  go_wp2_with fail
  refine HP.out.mono ?_
  rintro e w2 ⟨rfl, hk⟩
  have HK := Lib.hid hk
  clear hk
  go_wp2_with fail
  go_ret
  exact ⟨rfl, HK.out⟩
set_option maxRecDepth 100000 in
theorem plName_any (tx : List UInt8) (hn : isNm ⟨1, tx⟩ = true) (h : TkC ⟨1, tx⟩) : LabC 90 tx := by
  intro w
  have hkb : keyB tx = false := by
    have := nm_split [⟨1, tx⟩]
    rw [show tkB isNm [(⟨1, tx⟩ : Tok)] = isNm ⟨1, tx⟩ from rfl, hn] at this
    simpa [hdK, hdT] using this
  have hky := key12 tx w
  rw [hkb] at hky
  have HKY := Lib.hid hky
  have HP := Lib.hid (show Calls Tryz.prog 121 #[.string (strL tx), .int .i64 1] w _ from pis_any 1 tx w h)
  clear h hn hkb hky
  go_enter Tryz.func90, Tryz.ntmps90
  go_wp2_with fail
  refine HKY.out.mono ?_
  rintro e w1 ⟨rfl, rfl⟩
  go_wp2_with fail
  refine HP.out.mono ?_
  rintro e w2 ⟨rfl, hk⟩
  have HK := Lib.hid hk
  clear hk
  go_wp2_with fail
  go_ret
  exact ⟨rfl, HK.out⟩
set_option maxRecDepth 100000 in
theorem plAttr_any (tx : List UInt8) (hn : isPl ⟨1, tx⟩ = true) (h : TkC ⟨1, tx⟩) : LabC 98 tx := by
  intro w
  have hkb : decide ((58 : UInt8) ∈ tx) = false := by
    unfold isPl at hn
    simpa using hn
  have hky := colon12 tx w
  rw [hkb] at hky
  have HKY := Lib.hid hky
  have HP := Lib.hid (show Calls Tryz.prog 121 #[.string (strL tx), .int .i64 1] w _ from pis_any 1 tx w h)
  clear h hn hkb hky
  go_enter Tryz.func98, Tryz.ntmps98
  go_wp2_with fail
  refine HKY.out.mono ?_
  rintro e w1 ⟨rfl, rfl⟩
  go_wp2_with fail
  refine HP.out.mono ?_
  rintro e w2 ⟨rfl, hk⟩
  have HK := Lib.hid hk
  clear hk
  go_wp2_with fail
  go_ret
  exact ⟨rfl, HK.out⟩
set_option maxRecDepth 100000 in
theorem plNone_any : LabC 88 [] := by
  intro w
  rw [show strL [] = ⟨#[]⟩ from rfl]
  go_enter Tryz.func88, Tryz.ntmps88
  go_wp2_with fail
  go_ret
  exact ⟨rfl, Kept.refl _ _⟩
set_option maxRecDepth 100000 in
theorem plArrow_any (tx : List UInt8) (h : tx = [45, 62] ∨ tx = [126, 62]) : LabC 101 tx := by
  intro w
  rcases h with rfl | rfl
  · rw [show strL [45, 62] = ⟨#[45, 62]⟩ from rfl]
    go_enter Tryz.func101, Tryz.ntmps101
    go_wp2_with fail
    go_ret
    exact ⟨rfl, Kept.refl _ _⟩
  · rw [show strL [126, 62] = ⟨#[126, 62]⟩ from rfl]
    go_enter Tryz.func101, Tryz.ntmps101
    go_wp2_with fail
    go_ret
    exact ⟨rfl, Kept.refl _ _⟩
set_option maxRecDepth 100000 in
theorem plOperator_any (tx : List UInt8) (h : tx ∈ opsT) : LabC 129 tx := by
  intro w
  unfold opsT at h
  simp only [List.mem_cons, List.not_mem_nil, or_false] at h
  rcases h with rfl | rfl | rfl | rfl
  · rw [show strL [61, 61] = ⟨#[61, 61]⟩ from rfl]
    go_enter Tryz.func129, Tryz.ntmps129
    go_wp2_with fail
    go_ret
    exact ⟨rfl, Kept.refl _ _⟩
  · rw [show strL [33, 61] = ⟨#[33, 61]⟩ from rfl]
    go_enter Tryz.func129, Tryz.ntmps129
    go_wp2_with fail
    go_ret
    exact ⟨rfl, Kept.refl _ _⟩
  · rw [show strL [97, 110, 100] = ⟨#[97, 110, 100]⟩ from rfl]
    go_enter Tryz.func129, Tryz.ntmps129
    go_wp2_with fail
    go_ret
    exact ⟨rfl, Kept.refl _ _⟩
  · rw [show strL [111, 114] = ⟨#[111, 114]⟩ from rfl]
    go_enter Tryz.func129, Tryz.ntmps129
    go_wp2_with fail
    go_ret
    exact ⟨rfl, Kept.refl _ _⟩
end Go.Proofs.YtfpdgdacifiejaaGreat

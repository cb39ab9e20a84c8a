/-
  Layer 13: the document's examples, over what Print and Check answer.
  Conditions: those that each theorem states.
  Layer 13: the program's Print, of a manifest's tree; Check of no nodes.
  Conditions: those that each theorem states.
  Layer 11: rows of words held against one another; a word as it stands in a text; blanks and comments.
  Conditions: those that each theorem states.
  Layer 13: PrinterOnce, over what Parse and Print answer.
  Conditions: those that each theorem states.
-/
import Derived.Test.YtfpdgdacifiejaaGreatWBack
import Derived.Test.YtfpdgdacifiejaaGreatURLex
import Derived.Test.YtfpdgdacifiejaaGreatWPrn
import Derived.Test.YtfpdgdacifiejaaGreatWBlock
import Derived.Test.YtfpdgdacifiejaaGreatUMem
import Derived.Test.YtfpdgdacifiejaaGreatUReach
namespace Go.Proofs.YtfpdgdacifiejaaGreat
open Go.RowKit Go.Maps

/-- Check of no nodes. -/
def ChZ : Prop := ∀ w : World, Calls Tryz.prog 14 #[.agg #[.slice none 0 0]] w fun e w' => e = .returned (.int .i64 120) ∧ Kept [] w w'
theorem KsIs.keptP {w w' : World} {v a : Value} {l : List Nat} {P : Nat} {t : TypeId} {ao : Option Addr} {n c : Nat} (h : KsIs w v l) (ha : a = .slice ao n c) (hr : w.heap[P]? = some (.cells #[a] t)) (hk : Kept [P] w w') : KsIs w' v l := by
  obtain ⟨o1, cap, h1, h2, h3, h4⟩ := h
  refine ⟨o1, cap, h1, h2, h3, fun h0 => ?_⟩
  obtain ⟨b, o, rfl, hb, hc⟩ := h4 h0
  have hbP : b ≠ P := by
    rintro rfl
    have e := hc 0 h0
    rw [cell_of_row _ _ _ _ _ _ hr, ha] at e
    rcases Nat.eq_zero_or_pos (o + 0) with ho | ho
    · rw [ho] at e
      injection e with e
      cases e
    · rw [Array.getElem?_eq_none (by simp; omega)] at e
      cases e
  exact ⟨b, o, rfl, Nat.lt_of_lt_of_le hb hk.size, fun k hkl => (hk.cell (p := ⟨b, o + k, none⟩) hb (by simpa using hbP)).trans (hc k hkl)⟩
theorem NdIs.keptP {w w' : World} {v a : Value} {l : List Nod} {P : Nat} {t : TypeId} {ao : Option Addr} {n c : Nat} (h : NdIs w v l) (ha : a = .slice ao n c) (hr : w.heap[P]? = some (.cells #[a] t)) (hk : Kept [P] w w') : NdIs w' v l := by
  obtain ⟨o1, cap, h1, h2, h3, h4⟩ := h
  refine ⟨o1, cap, h1, h2, h3, fun h0 => ?_⟩
  obtain ⟨b, o, rfl, hb, hc⟩ := h4 h0
  have hbP : b ≠ P := by
    rintro rfl
    obtain ⟨_, e, _⟩ := hc 0 h0
    rw [cell_of_row _ _ _ _ _ _ hr, Array.getElem?_eq_none (by simp)] at e
    cases e
  refine ⟨b, o, rfl, Nat.lt_of_lt_of_le hb hk.size, fun k hkl => ?_⟩
  obtain ⟨c0, c1, lv, c2, c3⟩ := hc k hkl
  exact ⟨(hk.cell (p := ⟨b, o + k * 3, none⟩) hb (by simpa using hbP)).trans c0, (hk.cell (p := ⟨b, o + k * 3 + 1, none⟩) hb (by simpa using hbP)).trans c1, lv, (hk.cell (p := ⟨b, o + k * 3 + 2, none⟩) hb (by simpa using hbP)).trans c2, c3.keptP ha hr hk⟩
set_option maxRecDepth 100000 in
set_option maxHeartbeats 4000000 in
theorem parena_any (S : ByteArray) (ns : List Nod) (n : Nat) (w : World) (hs : S.size ≤ 9223372036854775807) (hw : ∀ t ∈ (lxW (bl S)).map tkW, t.tx.length ≤ 4611686018427387904) (hp : (parO ((lxW (bl S)).map tkW)).1 = ns) (hn : ns.length = n) :
    Calls Tryz.prog 13 #[.string S] w fun e w' => ∃ ao cap, e = .returned (.agg #[.slice ao n cap]) ∧ NdIs w' (.slice ao n cap) ns ∧ Kept [] w w' := by
  obtain ⟨w1, hw1⟩ : ∃ x, w.alloc (.cells #[.slice none 0 0] 29) = x := ⟨_, rfl⟩
  obtain ⟨P, hP⟩ : ∃ x, w.heap.size = x := ⟨_, rfl⟩
  have H1 : Hid (Kept [] w w1 ∧ w1.heap[P]? = some (.cells #[.slice none 0 0] 29)) := by
    rw [← hw1, ← hP]
    exact ⟨Kept.alloc _ _ _, heap_alloc_last _ _⟩
  have HPP := Lib.hid hP
  have HL := Lib.hid (rlex_any S w1 hs)
  obtain ⟨T, hT⟩ : ∃ T, (lxW (bl S)).map tkW = T := ⟨_, rfl⟩
  rw [hT] at hw hp
  have HT := Lib.hid hT
  have HW := Lib.hid hw
  have HNS := Lib.hid (And.intro hp hn)
  clear hs hw hp hn hT
  go_enter Tryz.func13, Tryz.ntmps13
  go_wp2_with fail
  clear hw1 hP
  refine HL.out.mono ?_
  rintro e w2 ⟨vw, rfl, hws, hk2⟩
  have H2 : Hid (TkIs w2 vw T ∧ Kept [] w1 w2) := ⟨by rw [← HT.out]; exact hws.es.tk, hk2⟩
  obtain ⟨la, hla⟩ : ∃ x, lxA (bl S) = x := ⟨_, rfl⟩
  obtain ⟨le, hle⟩ : ∃ x, lxE (bl S) = x := ⟨_, rfl⟩
  rw [hla, hle]
  have HPA := Lib.hid (rparse_pc vw T w2 H2.out.1 HW.out)
  clear hla hle hws hk2
  go_wp2_with fail
  refine HPA.out.mono ?_
  rintro e w3 ⟨va, rfl, hnd, hk3⟩
  rw [HNS.out.1] at hnd
  obtain ⟨ao, cap, hva, hrest⟩ := id hnd
  rw [HNS.out.2] at hva
  subst hva
  obtain ⟨pa, hpa⟩ : ∃ n, (parO T).2.1 = n := ⟨_, rfl⟩
  obtain ⟨pe, hpe⟩ : ∃ n, (parO T).2.2 = n := ⟨_, rfl⟩
  rw [hpa, hpe]
  have H3 : Hid (NdIs w3 (.slice ao n cap) ns ∧ Kept [] w1 w3) := ⟨hnd, H2.out.2.trans hk3⟩
  clear hnd hk3 hpa hpe hrest
  obtain ⟨w4, hw4⟩ : ∃ x, w3.alloc (.cells #[.slice ao n cap] 29) = x := ⟨_, rfl⟩
  obtain ⟨Q, hQ⟩ : ∃ x, w3.heap.size = x := ⟨_, rfl⟩
  have H4 : Hid (Kept [] w3 w4 ∧ w4.heap[Q]? = some (.cells #[.slice ao n cap] 29)) := by
    rw [← hw4, ← hQ]
    exact ⟨Kept.alloc _ _ _, heap_alloc_last _ _⟩
  have HK4 : Hid (Kept [] w1 w4) := H3.out.2.trans H4.out.1
  have hrowP := HK4.out.heap (by simp) H1.out.2
  have HRP := Lib.hid hrowP
  have c0 : w4.cell? ⟨P, 0, none⟩ = some (.slice none 0 0) := cell_of_row _ _ 0 _ _ _ hrowP
  have f0 : ∀ q, w4.frozen? ⟨P, q, none⟩ = false := fun q => frozen_of_row _ _ q _ _ hrowP
  have d0 : w4.cell? ⟨Q, 0, none⟩ = some (.slice ao n cap) := cell_of_row _ _ 0 _ _ _ H4.out.2
  have hz := Lib.hid (row_setJ hrowP 0 (.slice ao n cap))
  have HF : Hid (NdIs (w4.setCell ⟨P, 0, none⟩ (.slice ao n cap)) (.slice ao n cap) ns ∧ Kept [] w (w4.setCell ⟨P, 0, none⟩ (.slice ao n cap))) := by
    have hkp : Kept [P] w4 (w4.setCell ⟨P, 0, none⟩ (.slice ao n cap)) := Kept.setCell _ _ _ _ (by simp)
    exact ⟨(H3.out.1.kept H4.out.1).keptP rfl HRP.out hkp, (H1.out.1.trans HK4.out).into hkp (by have := HPP.out; simp; omega)⟩
  clear hrowP
  go_wp2_with fail
  refine bodyPost_ret_by (results_cell_row rfl _ _ P 29 _ (0, 0) _ rfl hz.out Tryz.underlying29 rfl (by kernel_rfl)) rfl ⟨ao, cap, rfl, HF.out⟩
def X1 : List UInt8 := [105, 102, 32, 36, 120, 61, 61, 49, 32, 97, 110, 100, 32, 33, 36, 121, 123, 105, 110, 99, 108, 117, 100, 101, 32, 97, 125]
def X2 : List UInt8 := [102, 105, 108, 101, 123, 39, 47, 97, 39, 58, 109, 111, 100, 101, 61, 62, 39, 48, 54, 48, 48, 39, 125]
def Y1 : List UInt8 := [105, 102, 32, 40, 40, 36, 120, 32, 61, 61, 32, 49, 41, 32, 97, 110, 100, 32, 33, 36, 121, 41, 32, 123, 10, 32, 32, 105, 110, 99, 108, 117, 100, 101, 32, 97, 10, 125, 10]
def Y2 : List UInt8 := [102, 105, 108, 101, 32, 123, 32, 39, 47, 97, 39, 58, 32, 109, 111, 100, 101, 32, 61, 62, 32, 39, 48, 54, 48, 48, 39, 32, 125, 10]
def D1 : SlT := .cons (.cond (.op [97, 110, 100] (.op [61, 61] (.leaf 16 [120]) (.leaf 15 [49])) (.neg (.leaf 16 [121]))) (.cons (.incl [97]) .nil)) .nil
def D2 : SlT := .cons (.res [102, 105, 108, 101] (.leaf 13 [47, 97]) [([109, 111, 100, 101], .leaf 13 [48, 54, 48, 48])]) .nil
set_option maxRecDepth 100000 in
theorem xp1 : parO ((lxW X1).map tkW) = (topL D1, 0, 0) := by kernel_rfl
set_option maxRecDepth 100000 in
theorem xp2 : parO ((lxW X2).map tkW) = (topL D2, 0, 0) := by kernel_rfl
set_option maxRecDepth 100000 in
theorem xt1 : D1.txt [] = Y1 := by kernel_rfl
set_option maxRecDepth 100000 in
theorem xt2 : D2.txt [] = Y2 := by kernel_rfl
set_option maxRecDepth 100000 in
theorem xl1 : (lxW X1).map tkW = [⟨1, [105, 102]⟩, ⟨3, [120]⟩, ⟨7, [61, 61]⟩, ⟨6, [49]⟩, ⟨1, [97, 110, 100]⟩, ⟨7, [33]⟩, ⟨3, [121]⟩, ⟨7, [123]⟩, ⟨1, [105, 110, 99, 108, 117, 100, 101]⟩, ⟨1, [97]⟩, ⟨7, [125]⟩] := by kernel_rfl
set_option maxRecDepth 100000 in
theorem xl2 : (lxW X2).map tkW = [⟨1, [102, 105, 108, 101]⟩, ⟨7, [123]⟩, ⟨4, [47, 97]⟩, ⟨7, [58]⟩, ⟨1, [109, 111, 100, 101]⟩, ⟨7, [61, 62]⟩, ⟨4, [48, 54, 48, 48]⟩, ⟨7, [125]⟩] := by kernel_rfl
theorem ok1 : D1.Ok TkC := by
  have h := lxW_tk X1
  rw [xl1] at h
  exact ⟨⟨⟨by decide, ⟨by decide, ⟨by omega, h _ (by simp [leafK])⟩, ⟨by omega, h _ (by simp [leafK])⟩⟩, ⟨by omega, h _ (by simp [leafK])⟩⟩, ⟨⟨by decide, h _ (by simp)⟩, trivial⟩⟩, trivial⟩
theorem ok2 : D2.Ok TkC := by
  have h := lxW_tk X2
  rw [xl2] at h
  refine ⟨⟨by decide, h _ (by simp), ⟨by omega, h _ (by simp [leafK])⟩, fun a ha => ?_⟩, trivial⟩
  simp at ha
  subst ha
  exact ⟨by decide, h _ (by simp), ⟨by omega, h _ (by simp [leafK])⟩⟩
theorem dp1 : depN (topL D1) = 5 := by kernel_rfl
theorem dp2 : depN (topL D2) = 4 := by kernel_rfl
theorem tl1 : (topL D1).length = 10 := by kernel_rfl
theorem tl2 : (topL D2).length = 5 := by kernel_rfl
set_option maxRecDepth 100000 in
set_option maxHeartbeats 4000000 in
theorem pshown_any (hpr : PrC) (hch : ChZ) : ShP := by
  intro w
  have HPR := Lib.hid hpr
  have HCH := Lib.hid hch
  have L1 := Lib.hid (fun w => parena_any ⟨#[105, 102, 32, 36, 120, 61, 61, 49, 32, 97, 110, 100, 32, 33, 36, 121, 123, 105, 110, 99, 108, 117, 100, 101, 32, 97, 125]⟩ (topL D1) (topL D1).length w (by decide) (by rw [show bl ⟨#[105, 102, 32, 36, 120, 61, 61, 49, 32, 97, 110, 100, 32, 33, 36, 121, 123, 105, 110, 99, 108, 117, 100, 101, 32, 97, 125]⟩ = X1 from rfl, xl1]; decide) (by rw [show bl ⟨#[105, 102, 32, 36, 120, 61, 61, 49, 32, 97, 110, 100, 32, 33, 36, 121, 123, 105, 110, 99, 108, 117, 100, 101, 32, 97, 125]⟩ = X1 from rfl, xp1]) rfl)
  have L2 := Lib.hid (fun w => parena_any ⟨#[102, 105, 108, 101, 123, 39, 47, 97, 39, 58, 109, 111, 100, 101, 61, 62, 39, 48, 54, 48, 48, 39, 125]⟩ (topL D2) (topL D2).length w (by decide) (by rw [show bl ⟨#[102, 105, 108, 101, 123, 39, 47, 97, 39, 58, 109, 111, 100, 101, 61, 62, 39, 48, 54, 48, 48, 39, 125]⟩ = X2 from rfl, xl2]; decide) (by rw [show bl ⟨#[102, 105, 108, 101, 123, 39, 47, 97, 39, 58, 109, 111, 100, 101, 61, 62, 39, 48, 54, 48, 48, 39, 125]⟩ = X2 from rfl, xp2]) rfl)
  simp only [tl1] at L1
  simp only [tl2] at L2
  have e1 : strL (prtO D1) = ⟨#[105, 102, 32, 40, 40, 36, 120, 32, 61, 61, 32, 49, 41, 32, 97, 110, 100, 32, 33, 36, 121, 41, 32, 123, 10, 32, 32, 105, 110, 99, 108, 117, 100, 101, 32, 97, 10, 125, 10]⟩ := by unfold prtO; rw [xt1]; rfl
  have g1 : prtE D1 = 0 := by unfold prtE; rw [xt1]; rfl
  have e2 : strL (prtO D2) = ⟨#[102, 105, 108, 101, 32, 123, 32, 39, 47, 97, 39, 58, 32, 109, 111, 100, 101, 32, 61, 62, 32, 39, 48, 54, 48, 48, 39, 32, 125, 10]⟩ := by unfold prtO; rw [xt2]; rfl
  have g2 : prtE D2 = 0 := by unfold prtE; rw [xt2]; rfl
  have HE := Lib.hid (And.intro e1 (And.intro g1 (And.intro e2 g2)))
  clear hpr hch e1 g1 e2 g2
  go_enter Tryz.func6, Tryz.ntmps6
  go_wp2_with fail
  refine (L1.out _).mono ?_
  rintro e w1 ⟨a1, c1, rfl, hn, hk⟩
  have HP1 := Lib.hid (HPR.out (.slice a1 10 c1) D1 w1 ok1 (by rw [tl1]; omega) (by rw [dp1]; omega) hn)
  rw [HE.out.1, HE.out.2.1] at HP1
  have HK1 : Hid (Kept [] w w1) := (Kept.refl _ _).trans hk
  clear hn hk
  go_wp2_with fail
  refine HP1.out.mono ?_
  rintro e w2 ⟨rfl, hk⟩
  have HQ1 : Hid (Kept [] w w2) := HK1.out.trans hk
  clear hk
  go_wp2_with fail
  refine (L2.out _).mono ?_
  rintro e w3 ⟨a2, c2, rfl, hn, hk⟩
  have HP2 := Lib.hid (HPR.out (.slice a2 5 c2) D2 w3 ok2 (by rw [tl2]; omega) (by rw [dp2]; omega) hn)
  rw [HE.out.2.2.1, HE.out.2.2.2] at HP2
  have HK2 : Hid (Kept [] w w3) := HQ1.out.trans hk
  clear hn hk
  go_wp2_with fail
  refine HP2.out.mono ?_
  rintro e w4 ⟨rfl, hk⟩
  have HQ2 : Hid (Kept [] w w4) := HK2.out.trans hk
  clear hk
  go_wp2_with fail
  refine (HCH.out _).mono ?_
  rintro e w5 ⟨rfl, hk⟩
  have HF : Hid (Kept [] w w5) := HQ2.out.trans hk
  clear hk
  go_wp2_with fail
  go_ret
  exact ⟨rfl, HF.out⟩
end Go.Proofs.YtfpdgdacifiejaaGreat

namespace Go.Proofs.YtfpdgdacifiejaaGreat
open Go.RowKit Go.Maps

set_option maxRecDepth 100000 in
set_option maxHeartbeats 4000000 in
theorem pCheck_none (v : Value) (w : World) (h : NdIs w v []) :
    Calls Tryz.prog 14 #[.agg #[v]] w fun e w' => e = .returned (.int .i64 120) ∧ Kept [] w w' := by
  have HORD := Lib.hid (fun wx hx => (pinOrder_any v [] wx hx (fun i hi => by simp at hi) (by simp)))
  have HNS := Lib.hid h
  obtain ⟨na, nc, rfl, _⟩ := h
  rw [show ([] : List Nod).length = 0 from rfl] at HORD HNS ⊢
  obtain ⟨w1, hw1⟩ : ∃ w1, w.alloc (.cells #[.slice na 0 nc] 29) = w1 := ⟨_, rfl⟩
  have H1 : Hid (Kept [] w w1) := by rw [← hw1]; exact Kept.alloc _ _ _
  have a0 : w1.cell? ⟨w.heap.size, 0, none⟩ = some (.slice na 0 nc) := by rw [← hw1]; exact cell_of_row _ _ 0 _ _ _ (heap_alloc_last _ _)
  have HP : Hid (Calls Tryz.prog 28 #[.slice na 0 nc] w1 fun e w' => e = .returned (.bool false) ∧ Kept [] w1 w') := (HORD.out w1 (HNS.out.kept H1.out)).mono fun e w' ⟨he, hk⟩ => ⟨by rw [he]; rfl, hk⟩
  go_enter Tryz.func14, Tryz.ntmps14
  go_wp2_with fail
  refine HP.out.mono ?_
  rintro e w2 ⟨rfl, hk2⟩
  have H2 : Hid (Kept [] w w2) := H1.out.trans hk2
  clear hk2 a0 hw1
  go_wp2_with fail
  go_ret
  exact ⟨rfl, H2.out⟩
theorem pch_z : ChZ := fun w => pCheck_none _ w ⟨none, 0, rfl, by simp, by omega, fun h => by simp at h⟩
theorem ahS0 : ahS 0 = [] := rfl
/-- What there is of a manifest's statements, in a world in which it lies. -/
theorem top_pcs {W : World} {nv : Value} {b : SlT} (h : NdIs W nv (topL b)) (ho : b.Ok TkC) (h1 : (topL b).length ≤ 1024) : PCs W nv 1024 (b.idx 0) (b.ls.map fun s bl => s.txt (ahS bl)) := by
  have hin : InN (topL b) 0 (b.lay 0 ++ [⟨1, [], b.idx 0⟩]) := InN.self _
  rw [topL_len] at h1
  exact SlT.pct h b 0 1024 hin.left ho (by omega)
set_option maxRecDepth 100000 in
set_option maxHeartbeats 8000000 in
theorem ppr_c : PrC := by
  intro v b w ho h1 h2 h
  have HCK := Lib.hid (fun wx (hk : Kept [] w wx) => pCheck_good v b wx ho h1 h2 (h.kept hk))
  have hin : InN (topL b) 0 (b.lay 0 ++ [⟨1, [], b.idx 0⟩]) := InN.self _
  have hlast : (topL b)[b.size]? = some ⟨1, [], b.idx 0⟩ := by
    have := (hin.right (b.len 0)).one
    rwa [Nat.zero_add] at this
  obtain ⟨n, hn⟩ : ∃ n, b.size = n := ⟨_, rfl⟩
  have hlen : (topL b).length = n + 1 := by rw [topL_len, hn]
  rw [hn] at hlast
  obtain ⟨hnl, hlast⟩ := List.getElem?_eq_some_iff.1 hlast
  have HNS := Lib.hid h
  have HPC := Lib.hid (fun (W : World) (hk : Kept [] w W) => top_pcs (h.kept hk) ho h1)
  have HTL := Lib.hid (top_long ho h1)
  obtain ⟨na, nc, rfl, hnc, hn63, hnat⟩ := h
  obtain ⟨nb, no, rfl, hnb, hc⟩ := hnat (by omega)
  obtain ⟨e0, e1, lv, e2, hks⟩ := hc n hnl
  rw [hlast] at e0 e1 hks
  rw [hlen] at hnc HNS HCK HPC ⊢
  have HNB := Lib.hid hnb
  have HE := Lib.hid (show w.cell? ⟨nb, no + n * 3, none⟩ = some (.int .i64 1) ∧ w.cell? ⟨nb, no + n * 3 + 1, none⟩ = some (.string ⟨#[]⟩) ∧ w.cell? ⟨nb, no + n * 3 + 2, none⟩ = some lv from ⟨e0, e1, e2⟩)
  have HKS : Hid (KsIs w lv (b.idx 0)) := hks
  obtain ⟨la, m, lc, hlv⟩ : ∃ a m c, lv = .slice a m c := by obtain ⟨a, c, e, _⟩ := hks; exact ⟨a, _, c, e⟩
  subst hlv
  obtain ⟨w1, hw1⟩ : ∃ w1, w.alloc (.cells #[.slice (some ⟨nb, no, none⟩) (n + 1) nc] 29) = w1 := ⟨_, rfl⟩
  have H1 : Hid (Kept [] w w1 ∧ w1.heap[w.heap.size]? = some (.cells #[.slice (some ⟨nb, no, none⟩) (n + 1) nc] 29)) := by
    rw [← hw1]
    exact ⟨Kept.alloc _ _ _, heap_alloc_last _ _⟩
  have a1 : w1.cell? ⟨w.heap.size, 0, none⟩ = some (.slice (some ⟨nb, no, none⟩) (n + 1) nc) := cell_of_row _ _ 0 _ _ _ H1.out.2
  have hw : IntKind.i64.wrap (((n + 1 : Nat) : Int) - 1) = (n : Int) := by rw [IntKind.wrap_i64]; omega
  have hnn : n < n + 1 := by omega
  clear hnat hc hn hlen hlast hin e0 e1 e2 hks hnb h1 h2 ho hnl
  go_enter Tryz.func9, Tryz.ntmps9
  go_wp2_with fail
  refine (HCK.out w1 H1.out.1).mono ?_
  rintro e w2 ⟨rfl, hk2⟩
  have H2 : Hid (Kept [] w w2 ∧ Kept [] w1 w2) := ⟨H1.out.1.trans hk2, hk2⟩
  have a2 : w2.cell? ⟨w.heap.size, 0, none⟩ = some (.slice (some ⟨nb, no, none⟩) (n + 1) nc) := cell_of_row _ _ 0 _ _ _ (hk2.heap (by simp) H1.out.2)
  have f0 := (H2.out.1.cell (p := ⟨nb, no + n * 3, none⟩) HNB.out (by simp)).trans HE.out.1
  have f1 := (H2.out.1.cell (p := ⟨nb, no + n * 3 + 1, none⟩) HNB.out (by simp)).trans HE.out.2.1
  have f2 := (H2.out.1.cell (p := ⟨nb, no + n * 3 + 2, none⟩) HNB.out (by simp)).trans HE.out.2.2
  obtain ⟨w3, hw3⟩ : ∃ w3, w2.alloc (.cells #[.int .i64 1, .string ⟨#[]⟩, .slice la m lc] 41) = w3 := ⟨_, rfl⟩
  have H3 : Hid (Kept [] w w3 ∧ w3.heap[w2.heap.size]? = some (.cells #[.int .i64 ((1 : Nat) : Int), .string (strL []), .slice la m lc] 41)) := by
    rw [← hw3]
    exact ⟨H2.out.1.trans (Kept.alloc _ _ _), heap_alloc_last _ _⟩
  have r3 : w3.heap[w.heap.size]? = some (.cells #[.slice (some ⟨nb, no, none⟩) (n + 1) nc] 29) := by rw [← hw3]; exact (Kept.alloc [] w2 _).heap (by simp) (hk2.heap (by simp) H1.out.2)
  have a3 : w3.cell? ⟨w.heap.size, 0, none⟩ = some (.slice (some ⟨nb, no, none⟩) (n + 1) nc) := cell_of_row _ _ 0 _ _ _ r3
  clear hk2 a1 hw1 r3
  have HTX : Hid (endsT ((b.ls.map fun s bl => s.txt (ahS bl)).map fun f : Nat → List UInt8 => f 0) = b.txt []) := by
    show _ = _
    rw [List.map_map, ← ends_txt]
    rfl
  have HLD := Lib.hid (plaid_any (.slice (some ⟨nb, no, none⟩) (n + 1) nc) (topL b) (b.txt []) w3 22 #[.pointer (some ⟨w2.heap.size, 0, none⟩)] enters_pPrint1 (HNS.out.kept H3.out.1) (by have := HTL.out; omega)
    (fun p wx hp hkx hs => by
      have := pPrint1_any w3 (.slice (some ⟨nb, no, none⟩) (n + 1) nc) 1024 (b.idx 0) _ (.slice la m lc) (HKS.out.kept H3.out.1) (HPC.out w3 H3.out.1) 1 [] w2.heap.size (by omega) H3.out.2 (by rw [HTX.out]; have := HTL.out; omega) p wx hp hkx hs
      rw [HTX.out] at this
      exact this))
  go_wp2_with fail
  refine HLD.out.mono ?_
  rintro e w4 ⟨rfl, hk4⟩
  have H4 : Hid (Kept [] w w4) := H3.out.1.trans hk4
  have hsz : (strL (b.txt [])).size = (b.txt []).length := strL_size _
  have HPO : Hid (prtO b = (if 65536 < (b.txt []).length then [] else b.txt []) ∧ prtE b = (if 65536 < (b.txt []).length then 5 else 0)) := ⟨rfl, rfl⟩
  obtain ⟨X, hX⟩ : ∃ X, b.txt [] = X := ⟨_, rfl⟩
  rw [hX] at hsz HPO ⊢
  obtain ⟨t, ht⟩ : ∃ t, strL X = t := ⟨_, rfl⟩
  rw [ht] at hsz ⊢
  have HT := Lib.hid ht
  clear hk4 f0 f1 f2 a2 a3 hw3 hX ht
  by_cases hc : 65536 < X.length
  · have hci : (65536 : Int) < (t.size : Int) := by omega
    rw [if_pos hc, if_pos hc] at HPO
    clear hsz hc
    go_wp2_with fail
    go_ret2
    exact ⟨by rw [HPO.out.1, HPO.out.2]; rfl, H4.out⟩
  · have hci : ¬ (65536 : Int) < (t.size : Int) := by omega
    rw [if_neg hc, if_neg hc] at HPO
    clear hsz hc
    go_wp2_with fail
    go_ret2
    exact ⟨by rw [HPO.out.1, HPO.out.2, HT.out]; rfl, H4.out⟩
theorem psh_p : ShP := pshown_any ppr_c pch_z
end Go.Proofs.YtfpdgdacifiejaaGreat

namespace Go.Proofs.YtfpdgdacifiejaaGreat
open Go.RowKit Go.Maps

set_option maxHeartbeats 4000000 in
theorem text11_any (x : Wd) (w : World) (hl : x.tx.length ≤ 1000000) :
    Calls Tryz.prog 11 #[.agg #[.int .i64 (x.kd : Int), .string (strL x.tx), .int .i64 (x.at' : Int)]] w fun e w' => e = .returned (.string (strL (covO x))) ∧ Kept [] w w' := by
  obtain ⟨kd, tx, at'⟩ := x
  simp only at hl ⊢
  have hsz : (strL tx).size ≤ 1000000 := by rw [strL_size]; exact hl
  obtain ⟨S, hS⟩ : ∃ S, strL tx = S := ⟨_, rfl⟩
  have HS := Lib.hid hS
  rw [hS] at hsz ⊢
  by_cases c3 : kd = 3
  · subst c3
    have HC : Hid (strL (covO ⟨3, tx, at'⟩) = ⟨#[36]⟩ ++ S) := by show _ = _; rw [← hS]; apply bl_eq; simp [bl, strL, covO]
    clear hS
    go_enter Tryz.func11, Tryz.ntmps11
    go_wp2_with fail
    go_ret
    exact ⟨by rw [HC.out]; rfl, Kept.alloc _ _ _⟩
  by_cases c4 : kd = 4
  · subst c4
    have HC : Hid (strL (covO ⟨4, tx, at'⟩) = ⟨#[39]⟩ ++ S ++ ⟨#[39]⟩) := by show _ = _; rw [← hS]; apply bl_eq; simp [bl, strL, covO]
    clear hS
    go_enter Tryz.func11, Tryz.ntmps11
    go_wp2_with fail
    go_ret
    exact ⟨by rw [HC.out]; rfl, Kept.alloc _ _ _⟩
  by_cases c5 : kd = 5
  · subst c5
    have HC : Hid (strL (covO ⟨5, tx, at'⟩) = ⟨#[34]⟩ ++ S ++ ⟨#[34]⟩) := by show _ = _; rw [← hS]; apply bl_eq; simp [bl, strL, covO]
    clear hS
    go_enter Tryz.func11, Tryz.ntmps11
    go_wp2_with fail
    go_ret
    exact ⟨by rw [HC.out]; rfl, Kept.alloc _ _ _⟩
  · have HC : Hid (strL (covO ⟨kd, tx, at'⟩) = S) := by show _ = _; rw [← hS]; simp [covO, c3, c4, c5]
    have d3 : ((kd : Int) == 3) = false := by simp; omega
    have d4 : ((kd : Int) == 4) = false := by simp; omega
    have d5 : ((kd : Int) == 5) = false := by simp; omega
    clear hS c3 c4 c5
    go_enter Tryz.func11, Tryz.ntmps11
    go_wp2_with fail
    go_ret
    exact ⟨by rw [HC.out]; rfl, Kept.alloc _ _ _⟩

theorem blk_step {S : ByteArray} {k : Nat} (h : k < S.size) (com : Bool) : blkB com ((bl S).drop k) =
    if S[k] = 10 then blkB false ((bl S).drop (k + 1)) else if com then blkB true ((bl S).drop (k + 1)) else if S[k] = 35 then blkB true ((bl S).drop (k + 1)) else if S[k] = 9 ∨ S[k] = 13 ∨ S[k] = 32 then blkB false ((bl S).drop (k + 1)) else false := by
  have := List.drop_eq_getElem_cons (l := bl S) (i := k) (by rw [bl_len]; exact h)
  rw [this]
  rfl
theorem byte_lit {c d : UInt8} {x : Int} (hc : (c.toNat : Int) = x) (n : Int) (hd : (d.toNat : Int) = n) : (x == n) = decide (c = d) := by
  rw [beqI, ← hc, ← hd]
  exact decide_eq_decide.2 byte_eq.symm

end Go.Proofs.YtfpdgdacifiejaaGreat

namespace Go.Proofs.YtfpdgdacifiejaaGreat
open Go.RowKit Go.Maps

theorem lex_txW (l : List UInt8) (n : Nat) : ∀ w ∈ (lexL l n).1, w.tx.length ≤ l.length := by
  by_cases h : l = []
  · subst h; simp [lexL_nil]
  by_cases h0 : (pcO l).sz = 0
  · simp [lexL_err h h0]
  · have hl : l.length ≠ 0 := by simpa using h
    have ih := lex_txW (l.drop (pcO l).sz) (n + (pcO l).sz)
    simp only [List.length_drop] at ih
    by_cases hk : (pcO l).kd = 0
    · rw [lexL_skip h (by omega) hk]
      intro w hw
      have := ih w hw
      omega
    · rw [lexL_word h (by omega) hk]
      intro w hw
      rcases List.mem_cons.1 hw with rfl | hw
      · simp [txO]
        omega
      · have := ih w hw
        omega
termination_by l.length
decreasing_by simp; omega
theorem lxW_tx (L : List UInt8) : ∀ x ∈ lxW L, x.tx.length ≤ 65536 := by
  intro x hx
  unfold lxW at hx
  split at hx
  · simp at hx
  · split at hx
    · have := lex_txW L 0 x hx
      omega
    · simp at hx
theorem cov_leW (x : Wd) : (covO x).length ≤ x.tx.length + 2 := by
  unfold covO
  repeat' split
  all_goals simp
/-- Words with blanks and comments between. -/
def wideO : List Wd → List UInt8
  | [] => []
  | x :: l => 9 :: (covO x ++ ([32, 35, 32, 120, 10] ++ wideO l))
theorem wide_snoc : ∀ (l : List Wd) (x : Wd), wideO (l ++ [x]) = wideO l ++ 9 :: (covO x ++ [32, 35, 32, 120, 10])
  | [], x => by simp [wideO]
  | y :: l, x => by simp [wideO, wide_snoc l x]
theorem wide_take {L : List Wd} {i : Nat} (h : i < L.length) : wideO (L.take (i + 1)) = wideO (L.take i) ++ 9 :: (covO L[i] ++ [32, 35, 32, 120, 10]) := by
  rw [List.take_succ_eq_append_getElem h, wide_snoc]
theorem wide_len {m : Nat} : ∀ (l : List Wd), (∀ w ∈ l, w.tx.length ≤ m) → (wideO l).length ≤ l.length * (m + 8)
  | [], _ => by simp [wideO]
  | x :: l, h => by
    have h1 := wide_len l (fun w hw => h w (by simp [hw]))
    have h2 := cov_leW x
    have h3 := h x (by simp)
    simp only [wideO, List.length_append, List.length_cons, Nat.succ_mul, List.length_nil]
    omega
theorem Lx.note : Lx [32, 35, 32, 120, 10] [] AnyR := fun rest n _ => by
  refine ⟨[], rfl, ?_⟩
  have h1 : ∀ k, lexL [32, 35, 32, 120] k = ([], none) := fun k => by
    rw [lex_wh 32 rfl, lex_note [32, 120] (by simp)]
  have h2 := lex_app [32, 35, 32, 120] rest n (by rw [h1])
  rw [h1] at h2
  show lexL ([32, 35, 32, 120] ++ 10 :: rest) n = _
  rw [h2, lex_lf]
  rfl
theorem cov_tk (x : Wd) : covT (tkW x) = covO x := by
  unfold covT tkW
  simp only [Int.toNat_natCast]
  unfold covO
  rfl
theorem wide_lx : ∀ (L : List Wd), (∀ t ∈ L.map tkW, TkOk t) → Lx (wideO L) (L.map tkW) AnyR
  | [], _ => Lx.nil
  | x :: l, h => by
    have ih := wide_lx l (fun t ht => h t (by simp at ht ⊢; right; exact ht))
    have h1 : Lx (covO x) [tkW x] GS := by
      rw [← cov_tk]
      exact Lx.sep (h (tkW x) (by simp))
    have h2 : Lx ([32, 35, 32, 120, 10] ++ wideO l) ([] ++ l.map tkW) AnyR := Lx.app Lx.note ih (fun _ _ => trivial)
    have h3 : Lx (covO x ++ ([32, 35, 32, 120, 10] ++ wideO l)) ([tkW x] ++ ([] ++ l.map tkW)) AnyR := Lx.app h1 h2 (fun r _ => gs_cons sep32 _)
    exact Lx.app (x := [9]) (ws := []) (Lx.blank rfl) h3 (fun _ _ => trivial)
theorem wide_lex {L : List Wd} (h : ∀ t ∈ L.map tkW, TkOk t) : (lexL (wideO L) 0).2 = none ∧ (lexL (wideO L) 0).1.map tkW = L.map tkW := by
  obtain ⟨W, h1, h2⟩ := wide_lx L h [] 0 trivial
  rw [List.append_nil, lexL_nil] at h2
  rw [h2]
  refine ⟨rfl, ?_⟩
  show (W ++ []).map tkW = _
  rw [List.append_nil]
  exact h1
set_option maxRecDepth 100000 in
set_option maxHeartbeats 8000000 in
theorem once_walk (hsh : ShP) (hp : ParC) (hpr : PrC) (S : ByteArray) (w : World) (hs : S.size ≤ 9223372036854775807) : Calls Tryz.prog 4 #[.string S] w fun e w' => e = .returned (.bool true) ∧ Kept [] w w' := by
  have HSH := Lib.hid hsh
  have HPC := Lib.hid hp
  have HPR := Lib.hid hpr
  have HSZ := Lib.hid hs
  clear hsh hp hpr hs
  go_enter Tryz.func4, Tryz.ntmps4
  go_wp2_with fail
  refine (HSH.out w).mono ?_
  rintro e w1 ⟨rfl, hk1⟩
  have HK1 := Lib.hid hk1
  clear hk1
  go_wp2_with fail
  refine (lex_any S w1 HSZ.out).mono ?_
  rintro e w2 ⟨vw, rfl, hws, hk2⟩
  obtain ⟨la, hla⟩ : ∃ x, lxA (bl S) = x := ⟨_, rfl⟩
  obtain ⟨le, hle⟩ : ∃ x, lxE (bl S) = x := ⟨_, rfl⟩
  rw [hla, hle]
  have HTK : Hid (∀ t ∈ (lxW (bl S)).map tkW, TkC t) := lxW_tk _
  have HTX : Hid (∀ x ∈ lxW (bl S), x.tx.length ≤ 65536) := lxW_tx _
  obtain ⟨L, hL⟩ : ∃ L, lxW (bl S) = L := ⟨_, rfl⟩
  rw [hL] at HTK HTX hws
  have H2 := Lib.hid (show WsIs w2 vw L ∧ Kept [] w w2 from ⟨hws.es, HK1.out.trans hk2⟩)
  obtain ⟨n, hn⟩ : ∃ n, L.length = n := ⟨_, rfl⟩
  have HN := Lib.hid hn
  obtain ⟨wo, wc, hvw, hwc, hwc2, _, hcl⟩ := H2.out.1.open
  have HCL := Lib.hid hcl
  clear hcl
  rw [hn] at hvw hwc
  subst hvw
  have HPA := Lib.hid (HPC.out _ (L.map tkW) w2 H2.out.1.tk)
  clear hla hle hL hws hk2 hn
  go_wp2_with fail
  refine HPA.out.mono ?_
  rintro e w3 ⟨va, rfl, hnd, hk3⟩
  obtain ⟨pa, hpa⟩ : ∃ n, (parO (L.map tkW)).2.1 = n := ⟨_, rfl⟩
  obtain ⟨pe, hpe⟩ : ∃ n, (parO (L.map tkW)).2.2 = n := ⟨_, rfl⟩
  obtain ⟨ns, hns⟩ : ∃ n, (parO (L.map tkW)).1 = n := ⟨_, rfl⟩
  rw [hns] at hnd
  rw [hpa, hpe]
  have HPE := Lib.hid (show (parO (L.map tkW)).1 = ns ∧ (parO (L.map tkW)).2.2 = pe from ⟨hns, hpe⟩)
  have HND := Lib.hid hnd
  have hval : ∃ ao cap, va = .slice ao ns.length cap := by
    obtain ⟨ao, cap, h, _⟩ := hnd
    exact ⟨ao, cap, h⟩
  obtain ⟨ao, cap, hva⟩ := hval
  obtain ⟨nn, hnn⟩ : ∃ n, ns.length = n := ⟨_, rfl⟩
  rw [hnn] at hva
  subst hva
  have H3 : Hid (Kept [] w2 w3) := hk3
  obtain ⟨w4, hw4⟩ : ∃ w4, w3.alloc (.cells #[.slice ao nn cap] 29) = w4 := ⟨_, rfl⟩
  obtain ⟨P, hP⟩ : ∃ P, w3.heap.size = P := ⟨_, rfl⟩
  have H4 : Hid (ArAt w4 P ao nn cap ns ∧ Kept [] w2 w4) := by
    rw [← hw4, ← hP]
    exact ⟨⟨hnn, heap_alloc_last _ _, HND.out.kept (Kept.alloc _ _ _)⟩, H3.out.trans (Kept.alloc _ _ _)⟩
  clear hns hpa hpe hnn hk3 hnd
  by_cases hle : le = 0
  case neg =>
    have hlei : ((le : Int) == 0) = false := by simpa using hle
    have hlej : ¬ (le : Int) = 0 := by omega
    go_wp2_with fail
    go_ret
    exact ⟨rfl, H2.out.2.trans H4.out.2⟩
  subst hle
  by_cases hpe : pe = 0
  case neg =>
    have hpei : ((pe : Int) == 0) = false := by simpa using hpe
    have hpej : ¬ (pe : Int) = 0 := by omega
    go_wp2_with fail
    go_ret
    exact ⟨rfl, H2.out.2.trans H4.out.2⟩
  subst hpe
  obtain ⟨b, hb⟩ := back_all HPE.out.2 HTK.out
  have HB := Lib.hid hb
  have HNS : Hid (ns = topL b) := by show _ = _; rw [← HPE.out.1, hb.2.2.2.1]
  obtain ⟨N, hNm⟩ : ∃ N, min n 3000 = N := ⟨_, rfl⟩
  have HNM : Hid (N ≤ n ∧ N ≤ 3000 ∧ (N = n ∨ N = 3000)) := by show _ ∧ _ ∧ _; omega
  clear hb hNm
  go_wp2_with fail
  clear hw4 hP
  go_loopw [10, 11] (fun sj si wr => ∃ (i : Nat) (J : ByteArray), sj = .string J ∧ si = .int .i64 i ∧ i ≤ N ∧ Hid (bl J = wideO (L.take i) ∧ Kept [] w4 wr)) (fun _ si _ => n - (intOf si).toNat)
  case atStart => exact ⟨0, _, rfl, rfl, by omega, rfl, Kept.refl _ _⟩
  case round =>
    obtain ⟨i, J, rfl, rfl, hi, HS⟩ := hrel
    have hJl : J.size ≤ 1000000000 := by
      have h1 := wide_len (m := 65536) (L.take i) (fun x hx => HTX.out x (List.mem_of_mem_take hx))
      rw [← HS.out.1, bl_len, List.length_take] at h1
      have h2 := HNM.out
      have h3 : min i L.length ≤ 3000 := by omega
      have h4 := Nat.mul_le_mul_right (65536 + 8) h3
      omega
    obtain ⟨bt, hbt⟩ : ∃ b, decide (i < N) = b := ⟨_, rfl⟩
    have HBT := Lib.hid hbt
    clear hbt
    go_upto_region 8 with (fail)
    go_cut [53] (fun sv wx => sv = .bool bt ∧ wr = wx)
    case first =>
      have h2 := HNM.out
      by_cases hin : i < n
      · have hini : (i : Int) < (n : Int) := by omega
        by_cases h20 : (i : Int) < 3000
        · have hb : bt = true := by rw [← HBT.out]; exact decide_eq_true (by omega)
          subst hb
          clear h2
          go_wp2_with fail
          go_meet
          exact ⟨rfl, rfl⟩
        · have hb : bt = false := by rw [← HBT.out]; exact decide_eq_false (by omega)
          subst hb
          clear h2
          go_wp2_with fail
          go_meet
          exact ⟨rfl, rfl⟩
      · have hb : bt = false := by rw [← HBT.out]; exact decide_eq_false (by omega)
        subst hb
        clear h2
        go_wp2_with fail
        go_meet
        exact ⟨rfl, rfl⟩
    case rest =>
    obtain ⟨rfl, rfl⟩ := hcut
    cases bt
    case true =>
      have hiN : i < N := of_decide_eq_true HBT.out
      have hin : i < n := by have := HNM.out; omega
      have hil : i < L.length := by rw [HN.out]; exact hin
      obtain ⟨b1, o1, rfl, hb1, hc1⟩ := HCL.out (by omega)
      obtain ⟨z0, z1, z2⟩ := hc1 i hil
      have hkk := H4.out.2.trans HS.out.2
      have y0 := (hkk.cell (p := ⟨b1, o1 + i * 3, none⟩) hb1 (by simp)).trans z0
      have y1 := (hkk.cell (p := ⟨b1, o1 + i * 3 + 1, none⟩) hb1 (by simp)).trans z1
      have y2 := (hkk.cell (p := ⟨b1, o1 + i * 3 + 2, none⟩) hb1 (by simp)).trans z2
      clear z0 z1 z2 hc1 hkk
      obtain ⟨x, hx⟩ : ∃ x, L[i] = x := ⟨_, rfl⟩
      rw [hx] at y0 y1 y2
      have hxl : x.tx.length ≤ 65536 := by rw [← hx]; exact HTX.out _ (List.getElem_mem hil)
      obtain ⟨C, hC⟩ : ∃ C, strL (covO x) = C := ⟨_, rfl⟩
      have hCl : C.size ≤ 1000000 := by rw [← hC, strL_size]; have := cov_leW x; omega
      have HTT : Hid (∀ wx, Calls Tryz.prog 11 #[.agg #[.int .i64 (x.kd : Int), .string (strL x.tx), .int .i64 (x.at' : Int)]] wx fun e w' => e = .returned (.string C) ∧ Kept [] wx w') := fun wx => by
        have := text11_any x wx (by omega)
        rw [hC] at this
        exact this
      have HJN : Hid (bl (J ++ ⟨#[9]⟩ ++ C ++ ⟨#[32, 35, 32, 120, 10]⟩) = wideO (L.take (i + 1))) := by
        show _ = _
        rw [wide_take hil, hx, ← HS.out.1, ← hC]
        simp [bl, strL]
      clear hx hxl hC
      go_wp2_with fail
      refine (HTT.out _).mono ?_
      rintro e2 w5 ⟨rfl, hk5⟩
      have HK5 : Hid (Kept [] w4 w5) := HS.out.2.trans hk5
      clear hk5
      go_wp2_with fail
      go_roundw
      case rel => exact ⟨i + 1, _, rfl, by go_num, by omega, HJN.out, HK5.out⟩
      case measure => simp [intOf]; omega
    case false =>
      have hiN : i = N := by have := of_decide_eq_false HBT.out; omega
      subst hiN
      have HKR : Hid (Kept [] w wr) := H2.out.2.trans (H4.out.2.trans HS.out.2)
      by_cases hmany : (3000 : Int) < (n : Int)
      · go_wp2_with fail
        go_ret
        exact ⟨rfl, HKR.out⟩
      by_cases hbig : (65536 : Int) < (J.size : Int)
      · go_wp2_with fail
        go_ret
        exact ⟨rfl, HKR.out⟩
      have hin : i = n := by have := HNM.out; omega
      have HJA : Hid (bl J = wideO L) := by
        show _ = _
        rw [HS.out.1, List.take_of_length_le (by rw [HN.out]; omega)]
      have HWL := Lib.hid (wide_lex fun t ht => (HTK.out t ht).ok)
      have HLX : Hid (lxW (bl J) = (lexL (wideO L) 0).1 ∧ lxE (bl J) = 0) := by
        show _ ∧ _
        have := bl_len J
        rw [HJA.out] at this ⊢
        exact lx_of HWL.out.1 (by omega)
      have HPZ : Hid (parO ((lxW (bl J)).map tkW) = (topL b, 0, 0)) := by show _ = _; rw [HLX.out.1, HWL.out.2]; exact HB.out.2.2.2.1
      have HLJ := Lib.hid (lex_any J wr (by omega))
      have HAR := Lib.hid (H4.out.1.keep HS.out.2)
      clear hin
      go_wp2_with fail
      refine HLJ.out.mono ?_
      rintro e w6 ⟨vx, rfl, hwx, hk6⟩
      have HW6 : Hid (TkIs w6 vx ((lxW (bl J)).map tkW)) := hwx.es.tk
      have H6 : Hid (ArAt w6 P ao nn cap ns ∧ Kept [] w w6) := ⟨HAR.out.keep hk6, HKR.out.trans hk6⟩
      rw [HLX.out.2]
      obtain ⟨la2, hla2⟩ : ∃ x, lxA (bl J) = x := ⟨_, rfl⟩
      rw [hla2]
      have HPA2 := Lib.hid (HPC.out vx _ w6 HW6.out)
      unfold ParOut at HPA2
      rw [HPZ.out] at HPA2
      clear hwx hk6 hla2
      go_wp2_with fail
      refine HPA2.out.mono ?_
      rintro e w7 ⟨vb, rfl, hnb, hk7⟩
      obtain ⟨bo, bcap, hvb, hbrest⟩ := id hnb
      have hlen : (topL b).length = nn := by rw [← HNS.out]; exact H4.out.1.1
      rw [hlen] at hvb
      subst hvb
      have HNB := Lib.hid hnb
      obtain ⟨w8, hw8⟩ : ∃ x, w7.alloc (.cells #[.slice bo nn bcap] 29) = x := ⟨_, rfl⟩
      obtain ⟨Q, hQ⟩ : ∃ x, w7.heap.size = x := ⟨_, rfl⟩
      have H8 : Hid (ArAt w8 P ao nn cap ns ∧ ArAt w8 Q bo nn bcap ns ∧ Kept [] w w8) := by
        have hk8 : Kept [] w7 w8 := by rw [← hw8]; exact Kept.alloc _ _ _
        refine ⟨(H6.out.1.keep hk7).keep hk8, ⟨by rw [HNS.out]; exact hlen, by rw [← hw8, ← hQ]; exact heap_alloc_last _ _, ?_⟩, (H6.out.2.trans hk7).trans hk8⟩
        rw [HNS.out]
        exact HNB.out.kept hk8
      have a8 := H8.out.1.cell
      have HP8 := Lib.hid (HPR.out (.slice ao nn cap) b w8 HB.out.1 HB.out.2.1 HB.out.2.2.1 (by rw [← HNS.out]; exact H8.out.1.2.2))
      obtain ⟨pt, hpt⟩ : ∃ t, prtO b = t := ⟨_, rfl⟩
      obtain ⟨pg, hpg⟩ : ∃ t, prtE b = t := ⟨_, rfl⟩
      have HPT := Lib.hid (And.intro hpt hpg)
      rw [hpt, hpg] at HP8
      clear hnb hk7 hbrest hlen hpt hpg
      go_wp2_with fail
      clear a8 hw8 hQ
      refine HP8.out.mono ?_
      rintro e w9 ⟨rfl, hk9⟩
      have H9 : Hid (ArAt w9 Q bo nn bcap ns ∧ Kept [] w w9) := ⟨H8.out.2.1.keep hk9, H8.out.2.2.trans hk9⟩
      have b9 := H9.out.1.cell
      have HP9 := Lib.hid (HPR.out (.slice bo nn bcap) b w9 HB.out.1 HB.out.2.1 HB.out.2.2.1 (by rw [← HNS.out]; exact H9.out.1.2.2))
      rw [HPT.out.1, HPT.out.2] at HP9
      clear hk9
      go_wp2_with fail
      clear b9
      refine HP9.out.mono ?_
      rintro e w10 ⟨rfl, hk10⟩
      have H10 : Hid (Kept [] w w10) := H9.out.2.trans hk10
      clear hk10
      go_wp2_with fail
      go_ret
      exact ⟨rfl, H10.out⟩
end Go.Proofs.YtfpdgdacifiejaaGreat

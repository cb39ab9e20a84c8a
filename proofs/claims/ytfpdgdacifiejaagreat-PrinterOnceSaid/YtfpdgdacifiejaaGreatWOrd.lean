/-
  Layer 13: all nodes of a tree are as their rules ask.
  Conditions: those that each theorem states.
  Layer 13: how deep a tree is: the printer's depth.
  Conditions: those that the theorem states.
  Layer 13: nodes that stand in order: the program's inOrder.
  Conditions: those that each theorem states.
-/
import Derived.Test.YtfpdgdacifiejaaGreatWSnd
import Derived.Test.YtfpdgdacifiejaaGreatVDepP
import Derived.Test.YtfpdgdacifiejaaGreatVPar
import Derived.Test.YtfpdgdacifiejaaGreatWVal
import Derived.Test.YtfpdgdacifiejaaGreatULex
import Derived.Test.YtfpdgdacifiejaaGreatWShelf
import Derived.BigQuiet
namespace Go.Proofs.YtfpdgdacifiejaaGreat
open Go.RowKit Go.Maps

theorem enters_plNone : Enters Tryz.prog 88 := enters_of Tryz.func88 (by kernel_rfl) rfl
theorem enters_plName : Enters Tryz.prog 90 := enters_of Tryz.func90 (by kernel_rfl) rfl
theorem enters_plVariable : Enters Tryz.prog 92 := enters_of Tryz.func92 (by kernel_rfl) rfl
theorem enters_plAttr : Enters Tryz.prog 98 := enters_of Tryz.func98 (by kernel_rfl) rfl
theorem enters_plKind : Enters Tryz.prog 100 := enters_of Tryz.func100 (by kernel_rfl) rfl
theorem enters_plArrow : Enters Tryz.prog 101 := enters_of Tryz.func101 (by kernel_rfl) rfl
theorem enters_plText : Enters Tryz.prog 126 := enters_of Tryz.func126 (by kernel_rfl) rfl
theorem enters_plMixed : Enters Tryz.prog 127 := enters_of Tryz.func127 (by kernel_rfl) rfl
theorem enters_plNumber : Enters Tryz.prog 128 := enters_of Tryz.func128 (by kernel_rfl) rfl
theorem enters_plOperator : Enters Tryz.prog 129 := enters_of Tryz.func129 (by kernel_rfl) rfl
theorem enters_pkStatements : Enters Tryz.prog 89 := enters_of Tryz.func89 (by kernel_rfl) rfl
theorem enters_pkDeclaration : Enters Tryz.prog 91 := enters_of Tryz.func91 (by kernel_rfl) rfl
theorem enters_pkParam : Enters Tryz.prog 93 := enters_of Tryz.func93 (by kernel_rfl) rfl
theorem enters_pkNone : Enters Tryz.prog 94 := enters_of Tryz.func94 (by kernel_rfl) rfl
theorem enters_pkValue : Enters Tryz.prog 95 := enters_of Tryz.func95 (by kernel_rfl) rfl
theorem enters_pkCondition : Enters Tryz.prog 96 := enters_of Tryz.func96 (by kernel_rfl) rfl
theorem enters_pkResource : Enters Tryz.prog 97 := enters_of Tryz.func97 (by kernel_rfl) rfl
theorem enters_pkChain : Enters Tryz.prog 99 := enters_of Tryz.func99 (by kernel_rfl) rfl
theorem enters_pkOperands : Enters Tryz.prog 130 := enters_of Tryz.func130 (by kernel_rfl) rfl

/-- What is known of all nodes. -/
structure NsOk (ns : List Nod) : Prop where
  few : ∀ (k : Nat) (nd : Nod), ns[k]? = some nd → nd.ks.length ≤ 5000
  kids : ∀ (k : Nat) (nd : Nod), ns[k]? = some nd → ∀ x ∈ nd.ks, x < ns.length
def AllOk (ns : List Nod) (a b : Nat) : Prop := ∀ (k : Nat) (nd : Nod), a ≤ k → k < b → ns[k]? = some nd → ∃ lab bel, NodOk ns nd lab bel
theorem AllOk.nil (ns : List Nod) (a : Nat) : AllOk ns a a := fun k nd h1 h2 => by omega
theorem AllOk.app {ns : List Nod} {a b c : Nat} (h : AllOk ns a b) (k : AllOk ns b c) : AllOk ns a c := fun i nd h1 h2 h3 => by
  by_cases hb : i < b
  · exact h i nd h1 hb h3
  · exact k i nd (by omega) h2 h3
theorem AllOk.cast {ns : List Nod} {a b c d : Nat} (h : AllOk ns a b) (h1 : a = c) (h2 : b = d) : AllOk ns c d := h1 ▸ h2 ▸ h
theorem aok_one {ns : List Nod} (hz : NsOk ns) {k : Nat} {nd : Nod} (h : ns[k]? = some nd) {lab bel : FuncId} (hr : RuleC 57 nd.kd lab bel) (el : Enters Tryz.prog lab) (eb : Enters Tryz.prog bel) (hl : LabC lab nd.tx) (hb : BelC bel (nd.ks.map (kdN ns))) : AllOk ns k (k + 1) := fun i nd' h1 h2 h3 => by
  have : i = k := by omega
  subst this
  rw [h] at h3
  injection h3 with h3
  subst h3
  exact ⟨lab, bel, hr, hl, hb, el, eb, hz.few _ _ h, hz.kids _ _ h⟩
theorem kd_at {ns : List Nod} {k : Nat} {nd : Nod} (h : ns[k]? = some nd) : kdN ns k = nd.kd := by unfold kdN; rw [h]; rfl
def IsVal (k : Nat) : Prop := 13 ≤ k ∧ k ≤ 20
theorem VT.aok {ns : List Nod} (hz : NsOk ns) : ∀ (t : VT) (n : Nat), InN ns n (t.lay n) → t.Ok TkC → AllOk ns n (n + t.size) ∧ IsVal (kdN ns (n + t.size - 1))
  | .leaf k tx, n, h, ho => by
    have h1 := h.one
    have hk := kd_at h1
    rcases ho.1 with rfl | rfl | rfl | rfl
    · exact ⟨aok_one hz h1 pruleOf_13 enters_plText enters_pkNone (plText_any tx ho.2) pkNone_any, by rw [show n + VT.size _ - 1 = n by rfl, hk]; unfold IsVal; simp⟩
    · exact ⟨aok_one hz h1 pruleOf_14 enters_plMixed enters_pkNone (plMixed_any tx ho.2) pkNone_any, by rw [show n + VT.size _ - 1 = n by rfl, hk]; unfold IsVal; simp⟩
    · exact ⟨aok_one hz h1 pruleOf_15 enters_plNumber enters_pkNone (plNumber_any tx ho.2) pkNone_any, by rw [show n + VT.size _ - 1 = n by rfl, hk]; unfold IsVal; simp⟩
    · exact ⟨aok_one hz h1 pruleOf_16 enters_plVariable enters_pkNone (plVariable_any tx ho.2) pkNone_any, by rw [show n + VT.size _ - 1 = n by rfl, hk]; unfold IsVal; simp⟩
  | .tf b, n, h, _ => by
    have h1 := h.one
    have hk := kd_at h1
    cases b
    · exact ⟨aok_one hz h1 pruleOf_18 enters_plNone enters_pkNone plNone_any pkNone_any, by rw [show n + VT.size _ - 1 = n by rfl, hk]; unfold IsVal; simp⟩
    · exact ⟨aok_one hz h1 pruleOf_17 enters_plNone enters_pkNone plNone_any pkNone_any, by rw [show n + VT.size _ - 1 = n by rfl, hk]; unfold IsVal; simp⟩
  | .neg v, n, h, ho => by
    have hv := VT.aok hz v n h.left ho
    have h1 := (h.right (v.len n)).one
    have hk := kd_at h1
    exact ⟨hv.1.app (aok_one hz h1 pruleOf_20 enters_plNone enters_pkValue plNone_any (pkValue_any _ hv.2)), by rw [show n + (VT.neg v).size - 1 = n + v.size by rfl, hk]; unfold IsVal; simp⟩
  | .op tx a b, n, h, ho => by
    have ha := VT.aok hz a n h.left ho.2.1
    have hr := h.right (a.len n)
    have hb := VT.aok hz b (n + a.size) hr.left ho.2.2
    have h1 := (hr.right (b.len _)).one
    have hk := kd_at h1
    refine ⟨((ha.1.app hb.1).app (aok_one hz h1 pruleOf_19 enters_plOperator enters_pkOperands (plOperator_any tx ho.1) (pkOperands_any _ _ ha.2 hb.2))).cast rfl (by simp [VT.size]; omega), ?_⟩
    rw [show n + (VT.op tx a b).size - 1 = n + a.size + b.size by simp [VT.size]; omega, hk]
    unfold IsVal; simp
theorem PmT.aok {ns : List Nod} (hz : NsOk ns) (p : PmT) (n : Nat) (h : InN ns n (p.lay n)) (ho : PmT.Ok TkC p) : AllOk ns n (n + p.size) ∧ kdN ns (n + p.size - 1) = 4 := by
  obtain ⟨tx, o⟩ := p
  cases o with
  | none => exact ⟨aok_one hz h.one pruleOf_4 enters_plVariable enters_pkParam (plVariable_any tx ho.1) pkParam_none, kd_at h.one⟩
  | some v =>
    have h : InN ns n (v.lay n ++ [⟨4, tx, [n + v.size - 1]⟩]) := h
    have hv := VT.aok hz v n h.left (ho.2 v rfl)
    have h1 := (h.right (v.len n)).one
    exact ⟨hv.1.app (aok_one hz h1 pruleOf_4 enters_plVariable enters_pkParam (plVariable_any tx ho.1) (pkParam_one _ hv.2)), kd_at h1⟩
theorem AtT.aok {ns : List Nod} (hz : NsOk ns) (p : AtT) (n : Nat) (h : InN ns n (p.lay n)) (ho : AtT.Ok TkC p) : AllOk ns n (n + p.size) ∧ kdN ns (n + p.size - 1) = 9 := by
  have h : InN ns n (p.2.lay n ++ [⟨9, p.1, [n + p.2.size - 1]⟩]) := h
  have hv := VT.aok hz p.2 n h.left ho.2.2
  have h1 := (h.right (p.2.len n)).one
  exact ⟨hv.1.app (aok_one hz h1 pruleOf_9 enters_plAttr enters_pkValue (plAttr_any p.1 ho.1 ho.2.1) (pkValue_any _ hv.2)), kd_at h1⟩
theorem rf_aok {ns : List Nod} (hz : NsOk ns) (p : AtT) (n : Nat) (h : InN ns n (rfLay p n)) (ho : rfOk TkC p) : AllOk ns n (n + p.size) ∧ kdN ns (n + p.size - 1) = 11 := by
  have h : InN ns n (p.2.lay n ++ [⟨11, p.1, [n + p.2.size - 1]⟩]) := h
  have hv := VT.aok hz p.2 n h.left ho.2
  have h1 := (h.right (p.2.len n)).one
  exact ⟨hv.1.app (aok_one hz h1 pruleOf_11 enters_plKind enters_pkValue (plKind_any p.1 ho.1) (pkValue_any _ hv.2)), kd_at h1⟩
theorem lay_aok {α : Type} {ns : List Nod} {lay : α → Nat → List Nod} {sz : α → Nat} {Ok : α → Prop} {K : Nat} (hlen : ∀ a n, (lay a n).length = sz a) (hp : ∀ a n, InN ns n (lay a n) → Ok a → AllOk ns n (n + sz a) ∧ kdN ns (n + sz a - 1) = K) :
    ∀ (l : List α) (n : Nat), InN ns n (layL lay sz l n) → (∀ a ∈ l, Ok a) → AllOk ns n (n + szL sz l) ∧ ∀ x ∈ (idxL sz l n).map (kdN ns), x = K
  | [], n, _, _ => ⟨AllOk.nil ns n, by simp [idxL]⟩
  | a :: r, n, h, ho => by
    have h1 := hp a n h.left (ho a (by simp))
    have h2 := lay_aok hlen hp r (n + sz a) (h.right (hlen a n)) fun b hb => ho b (by simp [hb])
    refine ⟨(h1.1.app h2.1).cast rfl (by simp [szL]; omega), fun x hx => ?_⟩
    simp only [idxL, List.map_cons, List.mem_cons] at hx
    rcases hx with rfl | hx
    · exact h1.2
    · exact h2.2 x hx
/-- Refs and arrows. -/
def altL : Nat → List Nat
  | 0 => []
  | m + 1 => 12 :: 11 :: altL m
theorem altL_len : ∀ m, (altL m).length = 2 * m
  | 0 => rfl
  | m + 1 => by simp [altL, altL_len m]; omega
theorem altL_get : ∀ (m j : Nat) (h : j < (altL m).length), (altL m)[j] = if j % 2 = 0 then 12 else 11
  | m + 1, 0, _ => rfl
  | m + 1, 1, _ => rfl
  | m + 1, j + 2, h => by
    have := altL_get m j (by simp [altL] at h; omega)
    simp only [altL, List.getElem_cons_succ, this]
    rw [show (j + 2) % 2 = j % 2 by omega]
theorem ars_aok {ns : List Nod} (hz : NsOk ns) : ∀ (l : List ArT) (n : Nat), InN ns n (layL arLay arSz l n) → (∀ a ∈ l, arOk TkC a) → AllOk ns n (n + szL arSz l) ∧ (arIx l n).map (kdN ns) = altL l.length
  | [], n, _, _ => ⟨AllOk.nil ns n, rfl⟩
  | a :: r, n, h, ho => by
    have h1 : InN ns n (⟨12, a.1, []⟩ :: rfLay a.2 (n + 1)) := h.left
    have ha := ho a (by simp)
    have g1 := aok_one hz h1.one pruleOf_12 enters_plArrow enters_pkNone (plArrow_any a.1 ha.1) pkNone_any
    have g2 := rf_aok hz a.2 (n + 1) h1.tail ha.2
    have g3 := ars_aok hz r (n + arSz a) (h.right (ar_len a n)) fun b hb => ho b (by simp [hb])
    refine ⟨((g1.app g2.1).app (g3.1.cast (by simp [arSz]; omega) rfl)).cast rfl (by simp [szL, arSz]; omega), ?_⟩
    simp only [arIx, List.map_cons, List.length_cons, altL, g3.2]
    rw [kd_at h1.one, show n + a.2.size = n + 1 + a.2.size - 1 by omega, g2.2]
def IsSt (k : Nat) : Prop := k = 2 ∨ k = 3 ∨ k = 5 ∨ k = 6 ∨ k = 7 ∨ k = 8 ∨ k = 10
theorem blk_aok {ns : List Nod} (hz : NsOk ns) {b : SlT} {n : Nat} (h : ∀ x ∈ (b.idx n).map (kdN ns), IsSt x) (h1 : ns[n + b.size]? = some ⟨1, [], b.idx n⟩) : AllOk ns (n + b.size) (n + b.size + 1) ∧ kdN ns (n + b.size) = 1 :=
  ⟨aok_one hz h1 pruleOf_1 enters_plNone enters_pkStatements plNone_any (pkStatements_any _ h), kd_at h1⟩
mutual
theorem StT.aok {ns : List Nod} (hz : NsOk ns) : ∀ (t : StT) (n : Nat), InN ns n (t.lay n) → t.Ok TkC → AllOk ns n (n + t.size) ∧ IsSt (kdN ns (n + t.size - 1))
  | .decl k tx ps b, n, h, ho => by
    have hps := lay_aok PmT.len (fun a m ha hoa => PmT.aok hz a m ha hoa) ps n h.left ho.2.2.2.1
    have hr := h.right (layL_len PmT.len ps n)
    have hb := SlT.aok hz b _ hr.left ho.2.2.2.2
    have hr2 := hr.right (b.len _)
    have hbk := blk_aok hz hb.2 hr2.one
    have h1 := hr2.tail.one
    have hix : n + (StT.decl k tx ps b).size - 1 = n + szL PmT.size ps + b.size + 1 := by simp [StT.size]; omega
    have hbel : BelC 91 ((idxL PmT.size ps n ++ [n + szL PmT.size ps + b.size]).map (kdN ns)) := by
      rw [List.map_append, List.map_singleton, hbk.2]
      exact pkDeclaration_any _ hps.2
    rw [hix, kd_at h1]
    rcases ho.1 with rfl | rfl
    · exact ⟨(((hps.1.app hb.1).app hbk.1).app (aok_one hz h1 pruleOf_2 enters_plName enters_pkDeclaration (plName_any tx ho.2.1 ho.2.2.1) hbel)).cast rfl (by simp [StT.size]; omega), by unfold IsSt; simp⟩
    · exact ⟨(((hps.1.app hb.1).app hbk.1).app (aok_one hz h1 pruleOf_3 enters_plName enters_pkDeclaration (plName_any tx ho.2.1 ho.2.2.1) hbel)).cast rfl (by simp [StT.size]; omega), by unfold IsSt; simp⟩
  | .incl tx, n, h, ho => ⟨aok_one hz h.one pruleOf_5 enters_plName enters_pkNone (plName_any tx ho.1 ho.2) pkNone_any, by rw [show n + (StT.incl tx).size - 1 = n by rfl, kd_at h.one]; unfold IsSt; simp⟩
  | .set tx v, n, h, ho => by
    have hv := VT.aok hz v n h.left ho.2
    have h1 := (h.right (v.len n)).one
    refine ⟨(hv.1.app (aok_one hz h1 pruleOf_6 enters_plVariable enters_pkValue (plVariable_any tx ho.1) (pkValue_any _ hv.2))).cast rfl (by simp [StT.size]; omega), ?_⟩
    rw [show n + (StT.set tx v).size - 1 = n + v.size by rfl, kd_at h1]; unfold IsSt; simp
  | .cond v b, n, h, ho => by
    have hv := VT.aok hz v n h.left ho.1
    have hr := h.right (v.len n)
    have hb := SlT.aok hz b _ hr.left ho.2
    have hr2 := hr.right (b.len _)
    have hbk := blk_aok hz hb.2 hr2.one
    have h1 := hr2.tail.one
    have hbel : BelC 96 ([n + v.size - 1, n + v.size + b.size].map (kdN ns)) := by
      simp only [List.map_cons, List.map_nil, hbk.2]
      exact pkCondition_any _ _ hv.2 (.inl rfl)
    refine ⟨(((hv.1.app hb.1).app hbk.1).app (aok_one hz h1 pruleOf_7 enters_plNone enters_pkCondition plNone_any hbel)).cast rfl (by simp [StT.size]; omega), ?_⟩
    rw [show n + (StT.cond v b).size - 1 = n + v.size + b.size + 1 by simp [StT.size]; omega, kd_at h1]; unfold IsSt; simp
  | .condE v b e, n, h, ho => by
    have hv := VT.aok hz v n h.left ho.1
    have hr := h.right (v.len n)
    have hb := SlT.aok hz b _ hr.left ho.2.1
    have hr2 := hr.right (b.len _)
    have hbk := blk_aok hz hb.2 hr2.one
    have hr3 := hr2.tail
    have he := SlT.aok hz e _ hr3.left ho.2.2
    have hr4 := hr3.right (e.len _)
    have hek := blk_aok hz he.2 hr4.one
    have h1 := hr4.tail.one
    have hbel : BelC 96 ([n + v.size - 1, n + v.size + b.size, n + v.size + b.size + 1 + e.size].map (kdN ns)) := by
      simp only [List.map_cons, List.map_nil, hbk.2, hek.2]
      exact pkCondition_any _ _ hv.2 (.inr rfl)
    refine ⟨(((((hv.1.app hb.1).app hbk.1).app he.1).app hek.1).app (aok_one hz h1 pruleOf_7 enters_plNone enters_pkCondition plNone_any hbel)).cast rfl (by simp [StT.size]; omega), ?_⟩
    rw [show n + (StT.condE v b e).size - 1 = n + v.size + b.size + 1 + e.size + 1 by simp [StT.size]; omega, kd_at h1]; unfold IsSt; simp
  | .res tx v ats, n, h, ho => by
    have hv := VT.aok hz v n h.left ho.2.2.1
    have hr := h.right (v.len n)
    have hats := lay_aok AtT.len (fun a m ha hoa => AtT.aok hz a m ha hoa) ats _ hr.left ho.2.2.2
    have h1 := (hr.right (layL_len AtT.len ats _)).one
    refine ⟨((hv.1.app hats.1).app (aok_one hz h1 pruleOf_8 enters_plName enters_pkResource (plName_any tx ho.1 ho.2.1) (pkResource_any _ _ hv.2 hats.2))).cast rfl (by simp [StT.size]; omega), ?_⟩
    rw [show n + (StT.res tx v ats).size - 1 = n + v.size + szL AtT.size ats by simp [StT.size]; omega, kd_at h1]; unfold IsSt; simp
  | .chain r l, n, h, ho => by
    have hv := rf_aok hz r n h.left ho.1
    have hr := h.right (rf_len r n)
    have hl := ars_aok hz l _ hr.left ho.2.2
    have h1 := (hr.right (layL_len ar_len l _)).one
    have hll : 0 < l.length := List.length_pos_iff.2 ho.2.1
    have hbel : BelC 99 (((n + r.size - 1) :: arIx l (n + r.size)).map (kdN ns)) := by
      simp only [List.map_cons, hv.2, hl.2]
      refine pkChain_any _ (l.length - 1) (by rw [List.length_cons, altL_len]; omega) fun j hj => ?_
      cases j with
      | zero => rfl
      | succ j =>
        rw [List.getElem_cons_succ, altL_get]
        by_cases hm : j % 2 = 0
        · rw [if_pos hm, if_pos (by omega)]
        · rw [if_neg hm, if_neg (by omega)]
    refine ⟨((hv.1.app hl.1).app (aok_one hz h1 pruleOf_10 enters_plNone enters_pkChain plNone_any hbel)).cast rfl (by simp [StT.size]; omega), ?_⟩
    rw [show n + (StT.chain r l).size - 1 = n + r.size + szL arSz l by simp [StT.size]; omega, kd_at h1]; unfold IsSt; simp
theorem SlT.aok {ns : List Nod} (hz : NsOk ns) : ∀ (b : SlT) (n : Nat), InN ns n (b.lay n) → b.Ok TkC → AllOk ns n (n + b.size) ∧ ∀ x ∈ (b.idx n).map (kdN ns), IsSt x
  | .nil, n, _, _ => ⟨AllOk.nil ns n, by simp [SlT.idx]⟩
  | .cons s l, n, h, ho => by
    have h1 := StT.aok hz s n h.left ho.1
    have h2 := SlT.aok hz l (n + s.size) (h.right (s.len n)) ho.2
    refine ⟨(h1.1.app h2.1).cast rfl (by simp [SlT.size]; omega), fun x hx => ?_⟩
    simp only [SlT.idx, List.map_cons, List.mem_cons] at hx
    rcases hx with rfl | hx
    · exact h1.2
    · exact h2.2 x hx
end
/-- A manifest's nodes are all so. -/
theorem top_aok {b : SlT} (hz : NsOk (topL b)) (ho : b.Ok TkC) : AllOk (topL b) 0 (topL b).length := by
  have h : InN (topL b) 0 (b.lay 0 ++ [⟨1, [], b.idx 0⟩]) := InN.self _
  have hb := SlT.aok hz b 0 h.left ho
  have h1 := (h.right (b.len 0)).one
  have hbk := blk_aok hz hb.2 h1
  exact (hb.1.app hbk.1).cast rfl (by rw [topL_len]; omega)
end Go.Proofs.YtfpdgdacifiejaaGreat

namespace Go.Proofs.YtfpdgdacifiejaaGreat
open Go.RowKit Go.Maps

set_option maxRecDepth 100000 in
set_option maxHeartbeats 8000000 in
theorem pdepth_any (v : Value) (ns : List Nod) (n : Nat) (w : World) (hl : ns.length = n + 1) (hn : n ≤ 5000) (hs : Seg ns 0 (n + 1) [n]) (h : NdIs w v ns) :
    Calls Tryz.prog 29 #[v] w fun e w' => e = .returned (.int .i64 (depN ns : Int)) ∧ Kept [] w w' := by
  obtain ⟨ao, cap, rfl, hcap, hc63, hcell⟩ := h
  rw [hl] at hcap ⊢
  obtain ⟨b, o, rfl, hb, hc⟩ := hcell (by omega)
  obtain ⟨w1, hw1⟩ : ∃ w1, w.alloc (.cells (nvA (List.replicate (n + 1) 0)) 3) = w1 := ⟨_, rfl⟩
  have hmk := run_make_ints (P := Tryz.prog) w 39 3 Tryz.underlying39 (by kernel_rfl) (n + 1) (by omega)
  rw [hw1] at hmk
  have H1 : Hid (DpSt w w.heap.size (List.replicate (n + 1) 0) w1) := ⟨by rw [← hw1]; exact heap_alloc_last _ _, by rw [← hw1]; exact Kept.alloc _ _ _, Nat.le_refl _⟩
  obtain ⟨gd, hgd⟩ : ∃ g, w.heap.size = g := ⟨_, rfl⟩
  rw [hgd] at hmk H1
  have HC := Lib.hid (And.intro hb hc)
  have HKD : Hid (∀ i (hi : i < ns.length), ∀ x ∈ ns[i].ks, x < i) := fun i hi x hx => (hs.kids i (by omega) (by omega) x (by unfold kidsN; rw [List.getElem?_eq_getElem hi]; exact hx)).2
  have HFIN := Lib.hid (dep_last hs hl)
  have HDL : Hid (∀ i, i ≤ n + 1 → (depsN (ns.take i) []).length = i) := fun i hi => by rw [depsN_len]; simp; omega
  obtain ⟨N, hN⟩ : ∃ N, n + 1 = N := ⟨_, rfl⟩
  have HN : Hid (n + 1 = N ∧ ns.length = N) := ⟨hN, by omega⟩
  rw [hN] at hmk H1 hcap HDL
  rw [hN]
  have hN5 : N ≤ 5001 := by omega
  clear hc hl hs hw1 hgd hb hN hcell
  go_enter Tryz.func29, Tryz.ntmps29
  go_wp2_with fail
  go_loopw [13] (fun si wr => ∃ i : Nat, si = .int .i64 i ∧ i ≤ N ∧ Hid (DpSt w gd (depsN (ns.take i) [] ++ List.replicate (N - i) 0) wr)) (fun si _ => N - (intOf si).toNat)
  case atStart => exact ⟨0, rfl, by omega, Lib.hid (by simpa [depsN] using H1.out)⟩
  case round =>
    obtain ⟨i, rfl, hi, HS⟩ := hrel
    clear H1 hmk
    by_cases hlt : i < N
    · have hil : i < ns.length := by have := HN.out; omega
      obtain ⟨e0, e1, lv, e2, hks⟩ := HC.out.2 i hil
      have HDi := Lib.hid (depsN_take ns i hil)
      have HKi := Lib.hid (HKD.out i hil)
      obtain ⟨nd, hnd⟩ : ∃ nd, ns[i] = nd := ⟨_, rfl⟩
      rw [hnd] at e0 e1 hks HDi HKi
      obtain ⟨la, lc, rfl, hlc, hl63, hlat⟩ := hks
      have HLAT := Lib.hid hlat
      obtain ⟨m, hm⟩ : ∃ m, nd.ks.length = m := ⟨_, rfl⟩
      have HM := Lib.hid hm
      rw [hm] at e2 hlc
      obtain ⟨pre, hpre⟩ : ∃ pre, depsN (ns.take i) [] = pre := ⟨_, rfl⟩
      have HPR2 := Lib.hid hpre
      have HPRE : Hid (pre.length = i) := by rw [← hpre]; exact HDL.out i hi
      rw [hpre] at HS HDi
      have hz : N - i = (N - i - 1) + 1 := by omega
      rw [hz, List.replicate_succ] at HS
      have f0 := (HS.out.kept.cell (p := ⟨b, o + i * 3, none⟩) HC.out.1 (by simp)).trans e0
      have f1 := (HS.out.kept.cell (p := ⟨b, o + i * 3 + 1, none⟩) HC.out.1 (by simp)).trans e1
      have f2 := (HS.out.kept.cell (p := ⟨b, o + i * 3 + 2, none⟩) HC.out.1 (by simp)).trans e2
      obtain ⟨kd, hkd⟩ : ∃ k, nd.kd = k := ⟨_, rfl⟩
      obtain ⟨tx, htx⟩ : ∃ t, strL nd.tx = t := ⟨_, rfl⟩
      rw [hkd] at f0
      rw [htx] at f1
      obtain ⟨w2, hw2⟩ : ∃ w2, wr.alloc (.cells #[.int .i64 (kd : Int), .string tx, .slice la m lc] 41) = w2 := ⟨_, rfl⟩
      have hk2 : Kept [] wr w2 := by rw [← hw2]; exact Kept.alloc _ _ _
      have g2 : w2.cell? ⟨wr.heap.size, 2, none⟩ = some (.slice la m lc) := by rw [← hw2]; exact cell_of_row _ _ 2 _ _ _ (heap_alloc_last _ _)
      have H2 : Hid (DpSt w gd (pre ++ 0 :: List.replicate (N - i - 1) 0) w2) := HS.out.keep hk2
      clear e0 e1 e2 hnd hlat hm hpre hz hkd htx hk2
      go_wp2_with fail
      clear f0 f1 f2 g2 hw2
      go_loopw [21] (fun sk wx => ∃ k : Nat, sk = .int .i64 k ∧ k ≤ m ∧ Hid (DpSt w gd (pre ++ ((nd.ks.take k).map fun x => pre.getD x 0).foldl max 0 :: List.replicate (N - i - 1) 0) wx)) (fun sk _ => m - (intOf sk).toNat)
      case atStart => exact ⟨0, rfl, by omega, Lib.hid (by simpa using H2.out)⟩
      case round =>
        obtain ⟨k, rfl, hk, HQ⟩ := hrel
        clear H2
        have HZB : Hid (((nd.ks.take k).map fun x => pre.getD x 0).foldl max 0 ≤ 5001) := by
          show _ ≤ _
          have h1 := dpF_le (x := ⟨0, [], nd.ks.take k⟩) (d := pre) (n := 5000) (fun y hy => by
            have h2 := depsN_le (ns.take i) [] (by simp) y (by rw [HPR2.out]; exact hy)
            have := HPRE.out
            simp at h2
            omega)
          unfold dpF at h1
          simp only at h1
          omega
        obtain ⟨z, hz⟩ : ∃ z, ((nd.ks.take k).map fun x => pre.getD x 0).foldl max 0 = z := ⟨_, rfl⟩
        by_cases hkm : k < m
        · have hkl : k < nd.ks.length := by rw [HM.out]; exact hkm
          obtain ⟨b2, o2, rfl, hb2, hc2⟩ := HLAT.out (by omega)
          have y0 := hc2 k hkl
          have HX := Lib.hid (HKi.out _ (List.getElem_mem hkl))
          have HNX : Hid (((nd.ks.take (k + 1)).map fun x => pre.getD x 0).foldl max 0 = max z (pre.getD nd.ks[k] 0)) := by
            show _ = _
            rw [List.take_add_one, List.getElem?_eq_getElem hkl, Option.toList_some, List.map_append, List.map_singleton, foldl_snoc, hz]
          obtain ⟨x, hx⟩ : ∃ x, nd.ks[k] = x := ⟨_, rfl⟩
          rw [hx] at y0 HX HNX
          rw [hz] at HQ
          have hxi := HX.out
          have hxN : x < N := by omega
          have y1 := (HQ.out.kept.cell (p := ⟨b2, o2 + k, none⟩) hb2 (by simp)).trans y0
          obtain ⟨y, hy⟩ : ∃ y, pre.getD x 0 = y := ⟨_, rfl⟩
          rw [hy] at HNX
          obtain ⟨mx, hmx⟩ : ∃ mx, max z y = mx := ⟨_, rfl⟩
          rw [hmx] at HNX
          have hmi : max (z : Int) (y : Int) = (mx : Int) := by omega
          have HROW := Lib.hid HQ.out
          have hpl := HPRE.out
          have z0 : ∀ w', Kept [] wr.drew w' → w'.cell? ⟨gd, i, none⟩ = some (.int .i64 (z : Int)) := fun w' hk' => by
            have := ((HROW.out.keep (Kept.drew _ _)).keep hk').cell i (by simp; omega)
            rw [this]
            simp [List.getElem_append_right, hpl]
          have z1 : ∀ w', Kept [] wr.drew w' → w'.cell? ⟨gd, x, none⟩ = some (.int .i64 (y : Int)) := fun w' hk' => by
            have := ((HROW.out.keep (Kept.drew _ _)).keep hk').cell x (by simp; omega)
            rw [this, ← hy, List.getD_eq_getElem?_getD, List.getElem?_eq_getElem (by omega)]
            simp [List.getElem_append_left, hpl, hxi]
          have HN2 : Hid (DpSt w gd (pre ++ mx :: List.replicate (N - i - 1) 0) (wr.setCell ⟨gd, i, none⟩ (.int .i64 (mx : Int))).drew) := by
            have := (HROW.out.set i mx).keep (Kept.drew _ _)
            rwa [List.set_append_right _ _ (by omega), hpl, Nat.sub_self, List.set_cons_zero] at this
          have HHMX := Lib.hid hmi
          clear hz hc2 hx hy hmx y0 hb2 hpl
          go_wp2_with fail
          refine wp_region_ordZ (R := (Kept [])) 12 [(true, 0), (true, 1), (true, 2), (true, 3), (true, 4), (true, 5), (true, 6), (true, 7), (true, 8), (true, 9), (true, 10), (true, 11)] (fun _ => Kept.refl _ _) (fun _ _ _ h k => h.trans k) (by kernel_rfl) (fun _ _ d _ _ h => by cases d <;> exact h) (by kernel_rfl) rfl (by decide) (by kernel_rfl) (by kernel_rfl) ?_
          simp only [named, List.getD_cons_zero, List.getD_cons_succ]
          repeat (first | (apply wpR_take; (case hw => rfl); (case hv => intro w' hk; go_simp; with_reducible rfl); simp only [Act.put, List.setIfInBounds_toArray, List.set_cons_zero, List.set_cons_succ]) | (refine wpR_pass (by rfl) ?_; simp only [Act.put, List.setIfInBounds_toArray, List.set_cons_zero, List.set_cons_succ]))
          clear z0 z1
          refine wpR_nil ?_; refine lastQ_go rfl ?_
          have zz : wr.cell? ⟨gd, i, none⟩ = some (.int .i64 (z : Int)) := by
            rw [HROW.out.cell i (by simp; have := HPRE.out; omega)]
            simp [List.getElem_append_right, HPRE.out]
          have ff : ∀ q, wr.frozen? ⟨gd, q, none⟩ = false := fun q => frozen_of_row _ _ q _ _ HROW.out.row
          go_simp
          clear zz ff
          go_wp2_with fail
          go_roundw
          case rel => exact ⟨k + 1, by go_num, by omega, Lib.hid (by rw [HNX.out]; exact HN2.out)⟩
          case measure => simp [intOf]; omega
        · have hkm2 : k = m := by omega
          have HN3 : Hid (DpSt w gd (pre ++ (z + 1) :: List.replicate (N - i - 1) 0) (wr.setCell ⟨gd, i, none⟩ (.int .i64 ((z : Int) + 1)))) := by
            have := HQ.out.set i (z + 1)
            rw [hz, List.set_append_right _ _ (by have := HPRE.out; omega), HPRE.out, Nat.sub_self, List.set_cons_zero] at this
            exact this
          have HNE : Hid (depsN (ns.take (i + 1)) [] ++ List.replicate (N - (i + 1)) 0 = pre ++ (z + 1) :: List.replicate (N - i - 1) 0) := by
            show _ = _
            rw [HDi.out, List.append_assoc]
            unfold dpF
            rw [show nd.ks = nd.ks.take k by rw [hkm2, ← HM.out, List.take_length], hz, Nat.sub_sub]
            rfl
          rw [hz] at HQ
          have zz : wr.cell? ⟨gd, i, none⟩ = some (.int .i64 (z : Int)) := by
            rw [HQ.out.cell i (by simp; have := HPRE.out; omega)]
            simp [List.getElem_append_right, HPRE.out]
          have ff : ∀ q, wr.frozen? ⟨gd, q, none⟩ = false := fun q => frozen_of_row _ _ q _ _ HQ.out.row
          have hwr : IntKind.i64.wrap ((z : Int) + 1) = (z : Int) + 1 := by
            rw [IntKind.wrap_i64]
            have : z ≤ 5001 := by
              have := HZB.out
              rw [hz] at this
              exact this
            omega
          have hki : ¬ (k : Int) < (m : Int) := by omega
          clear hz hkm hkm2
          go_wp2_with fail
          go_roundw
          case rel => exact ⟨i + 1, by go_num, by omega, Lib.hid (by rw [HNE.out]; exact HN3.out)⟩
          case measure => simp [intOf]; omega
    · have hiN : i = N := by omega
      have HE : Hid (DpSt w gd (depsN ns []) wr) := by
        have := HS.out
        rw [hiN, Nat.sub_self, List.take_of_length_le (by have := HN.out; omega)] at this
        exact Lib.hid (by simpa using this)
      have hdl : (depsN ns []).length = N := by rw [depsN_len]; have := HN.out; simp; omega
      have zz : wr.cell? ⟨gd, n, none⟩ = some (.int .i64 ((depN ns : Nat) : Int)) := by
        have hn : n < (depsN ns []).length := by have := HN.out; omega
        rw [HE.out.cell n hn, ← HFIN.out, List.getD_eq_getElem?_getD, List.getElem?_eq_getElem hn]
        rfl
      have hsub : IntKind.i64.wrap ((N : Int) - 1) = (n : Int) := by rw [IntKind.wrap_i64]; have := HN.out; omega
      have hnN : n < N := by have := HN.out; omega
      have hii : ¬ (i : Int) < (N : Int) := by omega
      clear hiN hdl
      go_wp2_with fail
      go_ret
      exact ⟨rfl, HE.out.kept⟩
end Go.Proofs.YtfpdgdacifiejaaGreat

namespace Go.Proofs.YtfpdgdacifiejaaGreat
open Go.RowKit Go.Maps Go.Shelf

/-- Those below none yet, behind i nodes. -/
def ordE (ns : List Nod) : Nat → List Nat
  | 0 => []
  | i + 1 => (ordE ns i).take ((ordE ns i).length - (kidsN ns i).length) ++ [i]
theorem Seg.ord {ns : List Nod} {a b : Nat} {l : List Nat} (h : Seg ns a b l) : ordE ns b = ordE ns a ++ l ∧ ∀ i, a ≤ i → i < b → ∃ pre, ordE ns i = pre ++ kidsN ns i := by
  induction h with
  | nil a => exact ⟨by simp, fun i h1 h2 => by omega⟩
  | @snoc a c b l ks nd h1 h2 h3 h4 ih1 ih2 =>
    have hk : kidsN ns b = ks := by unfold kidsN; rw [h3]; exact h4
    have e : ordE ns b = (ordE ns a ++ l) ++ ks := by rw [ih2.1, ih1.1]
    refine ⟨?_, fun i hi hb => ?_⟩
    · show (ordE ns b).take ((ordE ns b).length - (kidsN ns b).length) ++ [b] = _
      rw [hk, e, List.length_append, Nat.add_sub_cancel, List.take_left, List.append_assoc]
    · by_cases hc : i < c
      · exact ih1.2 i hi hc
      · by_cases hib : i < b
        · exact ih2.2 i (by omega) hib
        · have : i = b := by omega
          subst this
          exact ⟨ordE ns a ++ l, by rw [hk, e]⟩
theorem ordE_le (ns : List Nod) : ∀ i, (ordE ns i).length ≤ i
  | 0 => by simp [ordE]
  | i + 1 => by
    have := ordE_le ns i
    simp only [ordE, List.length_append, List.length_take, List.length_cons, List.length_nil]
    omega
/-- A row of the call's own, cut. -/
theorem OwnJ.cut {base : Nat} {w : World} {ao : Option Addr} {n cap : Nat} {l : List Nat} (h : OwnJ base w (.slice ao n cap) l) {k : Nat} (hk : k ≤ l.length) : OwnJ base w (.slice ao k cap) (l.take k) := by
  have hlen : (l.take k).length = k := by rw [List.length_take]; omega
  obtain ⟨h1, ⟨e, h2⟩ | ⟨g, c, cur, e, hb, hg, hc1, hc2, hcs, htk⟩⟩ := h
  · have hk0 : k = 0 := by omega
    injection e with e1 e2 e3
    subst e1 e3 hk0
    exact OwnJ.nil base w
  · injection e with e1 e2 e3
    subst e1 e3
    refine ⟨by rw [hlen]; simp [iv, nJ]; omega, .inr ⟨g, cap, cur, by rw [hlen], hb, hg, by omega, hc2, hcs, ?_⟩⟩
    rw [hlen, Nat.mul_one]
    rw [Nat.mul_one] at htk
    have : cur.toList.take k = (cur.toList.take l.length).take k := by rw [List.take_take, Nat.min_eq_left hk]
    rw [this, htk]
    simp [iv, nJ, List.map_take]
theorem pequal_same (w : World) (va vb : Value) (l : List Nat) (ha : KsIs w va l) (hb : KsIs w vb l) :
    Calls Tryz.prog 56 #[va, vb] w fun e w' => e = .returned (.bool true) ∧ ∃ q, w' = w.drewN q := by
  obtain ⟨aa, ca, rfl, ha1, ha2, ha3⟩ := ha
  obtain ⟨ab, cb, rfl, hb1, hb2, hb3⟩ := hb
  by_cases h0 : l.length = 0
  · rw [h0]
    refine (Any.slices_Equal_int_empty Tryz.lays111 aa ab ca 0 cb w (by omega)).mono fun e w' ⟨he, hw⟩ => ⟨he, 0, hw⟩
  · obtain ⟨b1, o1, rfl, _, hc1⟩ := ha3 (by omega)
    obtain ⟨b2, o2, rfl, _, hc2⟩ := hb3 (by omega)
    have hgd : ∀ j, j < (nJ l).length → (nJ l).getD j 0 = ((l.getD j 0 : Nat) : Int) := fun j hj => by
      rw [nJ_length] at hj
      simp [nJ, List.getD_eq_getElem?_getD, hj]
    refine (Any.slices_Equal_int Tryz.lays111 b1 o1 l.length ca b2 o2 l.length cb (nJ l) (nJ l) w (by rw [nJ_length]; omega) (by rw [nJ_length]; omega) (by omega) (by omega) (fun j hj => ?_) (fun j hj => ?_)).mono fun e w' ⟨he, hw⟩ => ⟨by rw [he, beq_self_eq_true], hw⟩
    · rw [hgd j hj]
      rw [nJ_length] at hj
      rw [hc1 j hj]
      simp [List.getD_eq_getElem?_getD, hj]
    · rw [hgd j hj]
      rw [nJ_length] at hj
      rw [hc2 j hj]
      simp [List.getD_eq_getElem?_getD, hj]
theorem sliced_from {base : Nat} {w : World} {ao : Option Addr} {cap : Nat} {pre ks : List Nat} (h : OwnJ base w (.slice ao (pre.length + ks.length) cap) (pre ++ ks)) : KsIs w (sliced ao pre.length (pre.length + ks.length) cap 1) ks := by
  obtain ⟨a, c, e, h1, h2, h3⟩ := h.ks
  injection e with e1 e2 e3
  subst e1 e3
  simp only [List.length_append] at h1 h3
  unfold sliced
  refine ⟨_, cap - pre.length, by rw [Nat.add_sub_cancel_left], by omega, by omega, fun h0 => ?_⟩
  obtain ⟨b, o, rfl, hb, hc⟩ := h3 (by omega)
  refine ⟨b, o + pre.length, ?_, hb, fun j hj => ?_⟩
  · rw [if_neg (by omega)]
    simp [Addr.add]
  · have := hc (pre.length + j) (by omega)
    rw [List.getElem_append_right (by omega)] at this
    simpa [Nat.add_assoc] using this
theorem sliced_to {base : Nat} {w : World} {ao : Option Addr} {n cap : Nat} {pre ks : List Nat} (h : OwnJ base w (.slice ao n cap) (pre ++ ks)) : OwnJ base w (sliced ao 0 pre.length cap 1) pre := by
  have := h.cut (k := pre.length) (by simp)
  rw [List.take_left] at this
  unfold sliced
  have e : (if cap = 0 then ao else ao.map fun x => x.add (0 * 1)) = ao := by
    split
    · rfl
    · cases ao with
      | none => rfl
      | some a => simp [Addr.add]
  rw [e]
  exact this
theorem sliceJ_from (w : World) (ea : Option Addr) (L ec q : Nat) (h : q ≤ L) : (Instr.sliceAt 39 (.slice ea L ec) (some (.int .i64 (q : Int))) none none).run Tryz.prog w = .ok (sliced ea q L ec 1) w := by
  have ht : Tryz.prog.underlying 39 = some (.slice (Tryz.prog.elem 39)) := by kernel_rfl
  have hz : (sizeOf (Tryz.prog.elem 39)).run Tryz.prog w = .ok 1 w := by kernel_rfl
  rw [run_sliceAt_slice w _ _ _ _ _ ht, run_slice_l w _ ea L ec ht .i64 q (by omega) (by omega), hz]
  rfl
theorem sliceJ_to (w : World) (ea : Option Addr) (L ec q : Nat) (h : q ≤ ec) : (Instr.sliceAt 39 (.slice ea L ec) none (some (.int .i64 (q : Int))) none).run Tryz.prog w = .ok (sliced ea 0 q ec 1) w := by
  have ht : Tryz.prog.underlying 39 = some (.slice (Tryz.prog.elem 39)) := by kernel_rfl
  have hz : (sizeOf (Tryz.prog.elem 39)).run Tryz.prog w = .ok 1 w := by kernel_rfl
  rw [run_sliceAt_slice w _ _ _ _ _ ht, run_slice_h w _ ea L ec ht .i64 q (by omega) (by omega), hz]
  rfl
set_option maxRecDepth 100000 in
set_option maxHeartbeats 8000000 in
theorem pinOrder_any (v : Value) (ns : List Nod) (w : World) (h : NdIs w v ns) (hs : ∀ i, i < ns.length → ∃ pre, ordE ns i = pre ++ kidsN ns i) (hl : ns.length ≤ 5000) :
    Calls Tryz.prog 28 #[v] w fun e w' => e = .returned (.bool (decide ((ordE ns ns.length).length = 1))) ∧ Kept [] w w' := by
  obtain ⟨ao, cap, rfl, hcap, hc63, hcell⟩ := h
  obtain ⟨N, hN⟩ : ∃ N, ns.length = N := ⟨_, rfl⟩
  have HN := Lib.hid hN
  have HC := Lib.hid hcell
  have HS := Lib.hid hs
  rw [hN] at hcap hl ⊢
  clear hcell hs hN
  go_enter Tryz.func28, Tryz.ntmps28
  go_wp2_with fail
  go_loopw [3, 9] (fun sv si wr => ∃ i : Nat, si = .int .i64 i ∧ i ≤ N ∧ Hid (OwnJ w.heap.size wr sv (ordE ns i) ∧ Kept [] w wr)) (fun _ si _ => N - (intOf si).toNat)
  case atStart => exact ⟨0, rfl, by omega, Lib.hid ⟨OwnJ.nil _ _, Kept.refl _ _⟩⟩
  case round =>
    obtain ⟨i, rfl, hi, HI⟩ := hrel
    obtain ⟨ea, ec, rfl⟩ := HI.out.1.slice
    have HEL : Hid ((ordE ns i).length ≤ i) := ordE_le ns i
    by_cases hlt : i < N
    · have hil : i < ns.length := by have := HN.out; omega
      obtain ⟨b, o, rfl, hb, hc⟩ := HC.out (by omega)
      obtain ⟨e0, e1, lv, e2, hks⟩ := hc i hil
      obtain ⟨pre, hpre⟩ := HS.out i hil
      have hkd : kidsN ns i = ns[i].ks := by unfold kidsN; rw [List.getElem?_eq_getElem hil]
      have HNX : Hid (ordE ns (i + 1) = pre ++ [i]) := by
        show (ordE ns i).take ((ordE ns i).length - (kidsN ns i).length) ++ [i] = _
        rw [hpre, List.length_append, Nat.add_sub_cancel, List.take_left]
      rw [hkd] at hpre
      obtain ⟨nd, hnd⟩ : ∃ nd, ns[i] = nd := ⟨_, rfl⟩
      rw [hnd] at e0 e1 hks hpre
      obtain ⟨E, hE⟩ : ∃ E, ordE ns i = E := ⟨_, rfl⟩
      rw [hE] at hpre HI HEL ⊢
      subst hpre
      have f0 := (HI.out.2.cell (p := ⟨b, o + i * 3, none⟩) hb (by simp)).trans e0
      have f1 := (HI.out.2.cell (p := ⟨b, o + i * 3 + 1, none⟩) hb (by simp)).trans e1
      have f2 := (HI.out.2.cell (p := ⟨b, o + i * 3 + 2, none⟩) hb (by simp)).trans e2
      obtain ⟨la, lc, rfl, hlc, hl63, hlat⟩ := hks
      have HKS : Hid (KsIs w (.slice la nd.ks.length lc) nd.ks) := ⟨la, lc, rfl, hlc, hl63, hlat⟩
      obtain ⟨m, hm⟩ : ∃ m, nd.ks.length = m := ⟨_, rfl⟩
      obtain ⟨q, hq⟩ : ∃ q, pre.length = q := ⟨_, rfl⟩
      have hlen : (pre ++ nd.ks).length = q + m := by rw [List.length_append, hq, hm]
      obtain ⟨L, hL⟩ : ∃ L, q + m = L := ⟨_, rfl⟩
      rw [hlen, hL] at HI HEL ⊢
      rw [hm] at HKS f2
      obtain ⟨tx, htx⟩ : ∃ t, strL nd.tx = t := ⟨_, rfl⟩
      rw [htx] at f1
      obtain ⟨w2, hw2⟩ : ∃ w2, wr.alloc (.cells #[.int .i64 (nd.kd : Int), .string tx, .slice la m lc] 41) = w2 := ⟨_, rfl⟩
      have hk2 : Kept [] wr w2 := by rw [← hw2]; exact Kept.alloc _ _ _
      have g2 : w2.cell? ⟨wr.heap.size, 2, none⟩ = some (.slice la m lc) := by rw [← hw2]; exact cell_of_row _ _ 2 _ _ _ (heap_alloc_last _ _)
      have hH2 : OwnJ w.heap.size w2 (.slice ea L ec) (pre ++ nd.ks) := HI.out.1.kept hk2
      have HF : Hid (KsIs w2 (sliced ea q L ec 1) nd.ks) := by
        have := sliced_from (pre := pre) (ks := nd.ks) (w := w2) (base := w.heap.size) (ao := ea) (cap := ec) (by rw [hq, hm, hL]; exact hH2)
        rw [hq, hm, hL] at this
        exact this
      have HTO : Hid (OwnJ w.heap.size w2 (sliced ea 0 q ec 1) pre) := by
        have := sliced_to hH2
        rw [hq] at this
        exact this
      have HEQ : Hid (∀ n, Calls Tryz.prog 56 #[sliced ea q L ec 1, .slice la m lc] (w2.drewN n) fun e w' => e = .returned (.bool true) ∧ ∃ q, w' = (w2.drewN n).drewN q) := fun n =>
        pequal_same (w2.drewN n) _ _ nd.ks (HF.out.kept (Kept.drewN _ _ _)) ((HKS.out.kept (HI.out.2.trans hk2)).kept (Kept.drewN _ _ _))
      have hLi : L ≤ 5000 := by have := HEL.out; omega
      have hwr : IntKind.i64.wrap ((L : Int) - (m : Int)) = (q : Int) := by rw [IntKind.wrap_i64]; omega
      have hqn : decide ((q : Int) < 0) = false := decide_eq_false (by omega)
      have hLc : L ≤ ec := by
        obtain ⟨_, _, e, hh, _⟩ := hH2.ks
        injection e with _ e2 e3
        rw [hlen, hL, ← e3] at hh
        exact hh
      obtain ⟨va, hva⟩ : ∃ va, sliced ea q L ec 1 = va := ⟨_, rfl⟩
      obtain ⟨vb, hvb⟩ : ∃ vb, sliced ea 0 q ec 1 = vb := ⟨_, rfl⟩
      have hsl : ∀ w', (Instr.sliceAt 39 (.slice ea L ec) (some (.int .i64 (q : Int))) none none).run Tryz.prog w' = .ok va w' := fun w' => by
        rw [← hva]
        exact sliceJ_from w' ea L ec q (by omega)
      have hsl2 : ∀ w', (Instr.sliceAt 39 (.slice ea L ec) none (some (.int .i64 (q : Int))) none).run Tryz.prog w' = .ok vb w' := fun w' => by
        rw [← hvb]
        exact sliceJ_to w' ea L ec q (by omega)
      rw [hva] at HF HEQ
      rw [hvb] at HTO
      have hk2' := Lib.hid hk2
      have HPL : Hid (pre.length ≤ 5000) := by show _ ≤ _; omega
      clear e0 e1 e2 hnd hE hlat hlc hl63 hm hq hlen hL htx hk2 hH2 hva hvb hkd hc
      go_wp2_with fail
      go_quiet ((go_at_call 56; exact Calls.quiet_of (HEQ.out _)))
      generalize hw3 : World.drewN _ _ = w3
      have hk3 : Kept [] w2 w3 := by rw [← hw3]; exact Kept.drewN _ _ _
      obtain ⟨w4, hw4⟩ : ∃ w4, w3.alloc (.cells #[.int .i64 (i : Int)] 3) = w4 := ⟨_, rfl⟩
      have hk4 : Kept [] w3 w4 := by rw [← hw4]; exact Kept.alloc _ _ _
      have h4 : w4.heap[w3.heap.size]? = some (.cells #[.int .i64 (i : Int)] 3) := by rw [← hw4]; exact heap_alloc_last _ _
      have HK24 : Hid (Kept [] wr w4 ∧ Kept [] w wr) := ⟨(hk2'.out.trans hk3).trans hk4, HI.out.2⟩
      obtain ⟨v5, w5, hrun, hown, hk5, hor⟩ := own_app elemJ 39 w4 w.heap.size vb pre.length (iv (nJ pre)) ((HTO.out.kept hk3).kept hk4) ⟨w3.heap.size, 0, none⟩ 1 1 (iv (nJ [i])) rfl
        (fun j u hu => by
          rw [Addr.add_mid, Nat.zero_add, cell_of_row _ _ j _ _ _ h4]
          simpa [iv, nJ] using hu) (iv_one _) (by unfold maxLen; have := HPL.out; omega) (by have := HPL.out; omega) (Nat.le_trans HK24.out.2.size HK24.out.1.size)
      have HRUN := Lib.hid hrun
      have H5 : Hid (OwnJ w.heap.size w5 v5 (ordE ns (i + 1)) ∧ Kept [] w w5) := by
        refine ⟨?_, (HK24.out.2.trans HK24.out.1).into hk5 fun k hk => ?_⟩
        · rw [HNX.out]
          unfold OwnJ
          rw [List.length_append, show iv (nJ (pre ++ [i])) = iv (nJ pre) ++ iv (nJ [i]) by simp [iv, nJ]]
          exact hown
        · exact (HTO.out.blk k (by simpa using hk)).1
      obtain ⟨va5, vc5, hv5⟩ := H5.out.1.slice
      rw [hv5] at HRUN H5
      clear hw3 hk3 hk4 h4 hrun hown hk5 hor hv5 g2 hsl hw2
      go_wp2_with (at_builtin; refine wpList_append_run rfl _ _ 39 rfl _ _ _ rfl rfl HRUN.out ?_)
      go_roundw
      case rel => exact ⟨i + 1, by go_num, by omega, H5⟩
      case measure => simp [intOf]; omega
    · have hiN : i = N := by omega
      subst hiN
      have hii : ¬ (i : Int) < (i : Int) := by omega
      go_wp2_with fail
      go_ret
      exact ⟨retB (by rw [Bool.eq_iff_iff, beq_iff_eq, decide_eq_true_iff]; omega), HI.out.2⟩
end Go.Proofs.YtfpdgdacifiejaaGreat

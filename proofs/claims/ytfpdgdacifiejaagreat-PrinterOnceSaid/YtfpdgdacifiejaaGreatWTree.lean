/-
  Layer 13: a tree's nodes, laid on a page, are its text.
  Conditions: those that each theorem states.
-/
import Derived.Test.YtfpdgdacifiejaaGreatVDepP
import Derived.Test.YtfpdgdacifiejaaGreatWNd
namespace Go.Proofs.YtfpdgdacifiejaaGreat
open Go.RowKit Go.Maps

theorem PCt.eq {W : World} {nv : Value} {d i j : Nat} {f g : Nat → List UInt8} (h : PCt W nv d i f) (hi : i = j) (e : ∀ bl, f bl = g bl) : PCt W nv d j g := by
  have : f = g := funext e
  rw [← this, ← hi]
  exact h
theorem VT.pct {W : World} {nv : Value} {ns : List Nod} (hns : NdIs W nv ns) : ∀ (t : VT) (n d : Nat), InN ns n (t.lay n) → t.Ok TkC → PCt W nv d (n + t.size - 1) fun _ => t.txt
  | .leaf k tx, n, d, h, ho => by
    have h1 := h.one
    have hl : tx.length ≤ 1000000 := by have := ho.2.len; simp only at this; omega
    rcases ho.1 with rfl | rfl | rfl | rfl
    · exact (pnode_leaf13 W nv ns hns d n tx [] h1 hl).eq rfl fun _ => by simp [leafX, VT.txt]
    · exact (pnode_leaf14 W nv ns hns d n tx [] h1 hl).eq rfl fun _ => by simp [leafX, VT.txt]
    · exact (pnode_leaf15 W nv ns hns d n tx [] h1 hl).eq rfl fun _ => by simp [leafX, VT.txt]
    · exact (pnode_leaf16 W nv ns hns d n tx [] h1 hl).eq rfl fun _ => by simp [leafX, VT.txt]
  | .tf b, n, d, h, _ => by
    have h1 := h.one
    cases b
    · exact (pnode_leaf18 W nv ns hns d n [] [] h1 (by simp)).eq rfl fun _ => by simp [leafX, VT.txt]
    · exact (pnode_leaf17 W nv ns hns d n [] [] h1 (by simp)).eq rfl fun _ => by simp [leafX, VT.txt]
  | .neg v, n, d, h, ho => by
    have hv := VT.pct hns v n d h.left ho
    exact (pnode_not W nv ns hns d (n + v.size) [] _ _ (h.right (v.len n)).one hv).eq (by simp [VT.size]) fun _ => by simp [VT.txt]
  | .op tx a b, n, d, h, ho => by
    have ha := VT.pct hns a n d h.left ho.2.1
    have hr := h.right (a.len n)
    have hb := VT.pct hns b (n + a.size) d hr.left ho.2.2
    have h1 := (hr.right (b.len _)).one
    have hl : tx.length ≤ 1000000 := by
      have := ho.1
      unfold opsT at this
      simp at this
      rcases this with rfl | rfl | rfl | rfl <;> simp
    exact (pnode_op W nv ns hns d _ tx _ _ h1 (.cons ha (.cons hb .nil)) hl).eq (by simp [VT.size]; omega) fun _ => by simp [joinT, VT.txt]
theorem PmT.pct {W : World} {nv : Value} {ns : List Nod} (hns : NdIs W nv ns) (p : PmT) (n d : Nat) (h : InN ns n (p.lay n)) (ho : PmT.Ok TkC p) : PCt W nv d (n + p.size - 1) fun _ => p.txt := by
  obtain ⟨tx, o⟩ := p
  cases o with
  | none => exact (pnode_param0 W nv ns hns d n tx h.one).eq rfl fun _ => by simp [PmT.txt]
  | some v =>
    have h : InN ns n (v.lay n ++ [⟨4, tx, [n + v.size - 1]⟩]) := h
    have hv := VT.pct hns v n d h.left (ho.2 v rfl)
    exact (pnode_param1 W nv ns hns d _ tx _ _ (h.right (v.len n)).one hv).eq (by simp [PmT.size]) fun _ => by simp [PmT.txt]
theorem AtT.pct {W : World} {nv : Value} {ns : List Nod} (hns : NdIs W nv ns) (p : AtT) (n d : Nat) (h : InN ns n (p.lay n)) (ho : AtT.Ok TkC p) : PCt W nv d (n + p.size - 1) fun _ => p.txt := by
  have h : InN ns n (p.2.lay n ++ [⟨9, p.1, [n + p.2.size - 1]⟩]) := h
  have hv := VT.pct hns p.2 n d h.left ho.2.2
  exact (pnode_attr W nv ns hns d _ p.1 _ _ (h.right (p.2.len n)).one hv).eq (by simp [AtT.size]) fun _ => by simp [AtT.txt]
theorem rf_pct {W : World} {nv : Value} {ns : List Nod} (hns : NdIs W nv ns) (p : AtT) (n d : Nat) (h : InN ns n (rfLay p n)) (ho : rfOk TkC p) : PCt W nv d (n + p.size - 1) fun _ => rfTxt p := by
  have h : InN ns n (p.2.lay n ++ [⟨11, p.1, [n + p.2.size - 1]⟩]) := h
  have hv := VT.pct hns p.2 n d h.left ho.2
  exact (pnode_ref W nv ns hns d _ p.1 _ _ (h.right (p.2.len n)).one hv).eq (by simp [AtT.size]) fun _ => by simp [rfTxt]
theorem lay_pcs {W : World} {nv : Value} {ns : List Nod} {α : Type} {lay : α → Nat → List Nod} {sz : α → Nat} {tx : α → List UInt8} {Ok : α → Prop} (hlen : ∀ a n, (lay a n).length = sz a) (d : Nat) (hp : ∀ a n, InN ns n (lay a n) → Ok a → PCt W nv d (n + sz a - 1) fun _ => tx a) :
    ∀ (l : List α) (n : Nat), InN ns n (layL lay sz l n) → (∀ a ∈ l, Ok a) → PCs W nv d (idxL sz l n) (l.map fun a _ => tx a)
  | [], _, _, _ => .nil
  | a :: r, n, h, ho => .cons (hp a n h.left (ho a (by simp))) (lay_pcs hlen d hp r (n + sz a) (h.right (hlen a n)) fun b hb => ho b (by simp [hb]))
theorem ars_pcs {W : World} {nv : Value} {ns : List Nod} (hns : NdIs W nv ns) (d : Nat) : ∀ (l : List ArT) (n : Nat), InN ns n (layL arLay arSz l n) → (∀ a ∈ l, arOk TkC a) → PCs W nv d (arIx l n) (l.flatMap fun a => [fun _ => a.1, fun _ => rfTxt a.2])
  | [], _, _, _ => .nil
  | a :: r, n, h, ho => by
    have h1 : InN ns n (⟨12, a.1, []⟩ :: rfLay a.2 (n + 1)) := h.left
    have ha := ho a (by simp)
    have hl : a.1.length ≤ 1000000 := by rcases ha.1 with e | e <;> rw [e] <;> simp
    have g1 : PCt W nv d n fun _ => a.1 := (pnode_leaf12 W nv ns hns d n a.1 [] h1.one hl).eq rfl fun _ => by simp [leafX]
    have g2 : PCt W nv d (n + a.2.size) fun _ => rfTxt a.2 := (rf_pct hns a.2 (n + 1) d h1.tail ha.2).eq (by omega) fun _ => rfl
    exact .cons g1 (.cons g2 (ars_pcs hns d r (n + arSz a) (h.right (ar_len a n)) fun b hb => ho b (by simp [hb])))
theorem sepX_join : ∀ l : List (List UInt8), sepX l = joinT [44, 32] l
  | [] => rfl
  | [a] => rfl
  | a :: b :: r => by
    have := sepX_join (b :: r)
    simp only [sepX, joinT, this]
    rfl
theorem atsX_join : ∀ l : List (List UInt8), l ≠ [] → atsX l = 32 :: joinT [44, 32] l
  | [], h => absurd rfl h
  | [a], _ => rfl
  | a :: b :: r, _ => by
    have := atsX_join (b :: r) (by simp)
    simp only [atsX, joinT, this]
    rfl
theorem chain_join (a : List UInt8) : ∀ l : List ArT, joinT [32] (a :: l.flatMap fun x => [x.1, rfTxt x.2]) = a ++ (l.map arTxt).flatten
  | [] => by simp [joinT]
  | x :: r => by
    have := chain_join (rfTxt x.2) r
    simp only [List.flatMap_cons, List.cons_append, List.nil_append] at this ⊢
    simp only [joinT, this, List.map_cons, List.flatten_cons, arTxt]
    simp
theorem ahS_succ (bl : Nat) : ahS (bl + 1) = ahS bl ++ [32, 32] := by
  unfold ahS
  show _ = _ ++ List.replicate 2 32
  rw [List.replicate_append_replicate, Nat.mul_add]
theorem lines_join (ah : List UInt8) : ∀ b : SlT, linesT ah (b.ls.map fun s => s.txt ah) ++ [10] = 10 :: b.txt ah
  | .nil => rfl
  | .cons s l => by
    have := lines_join ah l
    simp only [SlT.ls, List.map_cons, linesT, SlT.txt, List.cons_append, List.append_assoc, this]
/-- A block's text. -/
def blkX (b : SlT) (ah : List UInt8) : List UInt8 := 123 :: 10 :: (b.txt (ah ++ [32, 32]) ++ (ah ++ [125]))
theorem blk_join (b : SlT) (bl : Nat) : [123] ++ (linesT (ahS (bl + 1)) ((b.ls.map fun s bl => s.txt (ahS bl)).map fun f : Nat → List UInt8 => f (bl + 1)) ++ ((10 :: ahS bl) ++ [125])) = blkX b (ahS bl) := by
  have := lines_join (ahS (bl + 1)) b
  rw [List.map_map]
  show [123] ++ (linesT (ahS (bl + 1)) (b.ls.map fun s => s.txt (ahS (bl + 1))) ++ ((10 :: ahS bl) ++ [125])) = _
  rw [show (10 :: ahS bl) ++ [125] = [10] ++ (ahS bl ++ [125]) by rfl, ← List.append_assoc (linesT _ _), this, ahS_succ]
  rfl
theorem blk_pct {W : World} {nv : Value} {ns : List Nod} (hns : NdIs W nv ns) {b : SlT} {n d : Nat} (h : PCs W nv d (b.idx n) (b.ls.map fun s bl => s.txt (ahS bl))) (h1 : ns[n + b.size]? = some ⟨1, [], b.idx n⟩) : PCt W nv (d + 1) (n + b.size) fun bl => blkX b (ahS bl) :=
  (pnode_block W nv ns hns d (n + b.size) [] _ _ h1 h).eq rfl fun bl => blk_join b bl
mutual
theorem StT.pct {W : World} {nv : Value} {ns : List Nod} (hns : NdIs W nv ns) : ∀ (t : StT) (n d : Nat), InN ns n (t.lay n) → t.Ok TkC → t.size ≤ d → PCt W nv d (n + t.size - 1) fun bl => t.txt (ahS bl)
  | .decl k tx ps b, n, d, h, ho, hd => by
    have hps := lay_pcs (tx := PmT.txt) PmT.len d (fun a m ha hoa => PmT.pct hns a m d ha hoa) ps n h.left ho.2.2.2.1
    have hr := h.right (layL_len PmT.len ps n)
    obtain ⟨d', rfl⟩ : ∃ d', d = d' + 1 := ⟨d - 1, by simp [StT.size] at hd; omega⟩
    have hb := SlT.pct hns b _ d' hr.left ho.2.2.2.2 (by simp [StT.size] at hd; omega)
    have hr2 := hr.right (b.len _)
    have hbk := blk_pct hns hb hr2.one
    have h1 := hr2.tail.one
    have hix : n + szL PmT.size ps + b.size + 1 = n + (StT.decl k tx ps b).size - 1 := by simp [StT.size]; omega
    by_cases hp : ps = []
    · subst hp
      rcases ho.1 with rfl | rfl
      · exact (pnode_class0 W nv ns hns (d' + 1) _ tx _ _ h1 hbk).eq hix fun bl => by simp [StT.txt, psTxt, kClass, blkX]
      · exact (pnode_define0 W nv ns hns (d' + 1) _ tx _ _ h1 hbk).eq hix fun bl => by simp [StT.txt, psTxt, kDefine, blkX]
    · have hne : idxL PmT.size ps n ≠ [] := by
        cases ps with
        | nil => exact absurd rfl hp
        | cons a r => simp [idxL]
      have hj : ∀ bl, joinT [44, 32] ((ps.map fun a (_ : Nat) => PmT.txt a).map fun f : Nat → List UInt8 => f bl) = sepX (ps.map PmT.txt) := fun bl => by
        rw [sepX_join, List.map_map]
        rfl
      rcases ho.1 with rfl | rfl
      · exact (pnode_class1 W nv ns hns (d' + 1) _ tx _ _ _ _ h1 hne hbk hps).eq hix fun bl => by rw [hj]; simp [StT.txt, psTxt, kClass, blkX, hp]
      · exact (pnode_define1 W nv ns hns (d' + 1) _ tx _ _ _ _ h1 hne hbk hps).eq hix fun bl => by rw [hj]; simp [StT.txt, psTxt, kDefine, blkX, hp]
  | .incl tx, n, d, h, _, _ => (pnode_include W nv ns hns d n tx [] h.one).eq rfl fun bl => by simp [StT.txt, kInclude]
  | .set tx v, n, d, h, ho, _ => by
    have hv := VT.pct hns v n d h.left ho.2
    exact (pnode_set1 W nv ns hns d _ tx _ _ (h.right (v.len n)).one hv).eq (by simp [StT.size]) fun bl => by simp [StT.txt]
  | .cond v b, n, d, h, ho, hd => by
    obtain ⟨d', rfl⟩ : ∃ d', d = d' + 1 := ⟨d - 1, by simp [StT.size] at hd; omega⟩
    have hv := VT.pct hns v n (d' + 1) h.left ho.1
    have hr := h.right (v.len n)
    have hb := SlT.pct hns b _ d' hr.left ho.2 (by simp [StT.size] at hd; omega)
    have hr2 := hr.right (b.len _)
    have hbk := blk_pct hns hb hr2.one
    exact (pnode_if W nv ns hns (d' + 1) _ [] _ _ _ _ hr2.tail.one (by simp) hv (.cons hbk .nil)).eq (by simp [StT.size]; omega) fun bl => by simp [StT.txt, kIf, joinT, blkX]
  | .condE v b e, n, d, h, ho, hd => by
    obtain ⟨d', rfl⟩ : ∃ d', d = d' + 1 := ⟨d - 1, by simp [StT.size] at hd; omega⟩
    have hv := VT.pct hns v n (d' + 1) h.left ho.1
    have hr := h.right (v.len n)
    have hb := SlT.pct hns b _ d' hr.left ho.2.1 (by simp [StT.size] at hd; omega)
    have hr2 := hr.right (b.len _)
    have hbk := blk_pct hns hb hr2.one
    have hr3 := hr2.tail
    have he := SlT.pct hns e _ d' hr3.left ho.2.2 (by simp [StT.size] at hd; omega)
    have hr4 := hr3.right (e.len _)
    have hek := blk_pct hns he hr4.one
    exact (pnode_if W nv ns hns (d' + 1) _ [] _ _ _ _ hr4.tail.one (by simp) hv (.cons hbk (.cons hek .nil))).eq (by simp [StT.size]; omega) fun bl => by simp [StT.txt, kIf, kElse, joinT, blkX]
  | .res tx v ats, n, d, h, ho, _ => by
    have hv := VT.pct hns v n d h.left ho.2.2.1
    have hr := h.right (v.len n)
    have hats := lay_pcs (tx := AtT.txt) AtT.len d (fun a m ha hoa => AtT.pct hns a m d ha hoa) ats _ hr.left ho.2.2.2
    have h1 := (hr.right (layL_len AtT.len ats _)).one
    have hix : n + v.size + szL AtT.size ats = n + (StT.res tx v ats).size - 1 := by simp [StT.size]; omega
    by_cases ha : ats = []
    · subst ha
      exact (pnode_res0 W nv ns hns d _ tx _ _ h1 hv).eq hix fun bl => by simp [StT.txt, atsX]
    · have hne : idxL AtT.size ats (n + v.size) ≠ [] := by
        cases ats with
        | nil => exact absurd rfl ha
        | cons a r => simp [idxL]
      have hj : ∀ bl, joinT [44, 32] ((ats.map fun a (_ : Nat) => AtT.txt a).map fun f : Nat → List UInt8 => f bl) = joinT [44, 32] (ats.map AtT.txt) := fun bl => by
        rw [List.map_map]
        rfl
      exact (pnode_res1 W nv ns hns d _ tx _ _ _ _ h1 hne hv hats).eq hix fun bl => by rw [hj]; simp [StT.txt, atsX_join _ (show ats.map AtT.txt ≠ [] by simpa using ha)]
  | .chain r l, n, d, h, ho, _ => by
    have hv := rf_pct hns r n d h.left ho.1
    have hr := h.right (rf_len r n)
    have hl := ars_pcs hns d l _ hr.left ho.2.2
    have h1 := (hr.right (layL_len ar_len l _)).one
    refine (pnode_chain W nv ns hns d _ [] _ _ h1 (.cons hv hl)).eq (by simp [StT.size]; omega) fun bl => ?_
    rw [List.append_nil, List.map_cons, List.map_flatMap]
    exact chain_join (rfTxt r) l
theorem SlT.pct {W : World} {nv : Value} {ns : List Nod} (hns : NdIs W nv ns) : ∀ (b : SlT) (n d : Nat), InN ns n (b.lay n) → b.Ok TkC → b.size ≤ d → PCs W nv d (b.idx n) (b.ls.map fun s bl => s.txt (ahS bl))
  | .nil, _, _, _, _, _ => .nil
  | .cons s l, n, d, h, ho, hd => .cons (StT.pct hns s n d h.left ho.1 (by simp [SlT.size] at hd; omega)) (SlT.pct hns l (n + s.size) d (h.right (s.len n)) ho.2 (by simp [SlT.size] at hd; omega))
end
end Go.Proofs.YtfpdgdacifiejaaGreat

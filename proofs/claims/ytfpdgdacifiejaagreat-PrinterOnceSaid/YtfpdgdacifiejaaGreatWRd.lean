/-
  Layer 13: statements as trees: how their nodes stand, their words as they are printed; what is read is a tree. No program text.
  Conditions: those that each theorem states.
  Layer 13: what is read as a statement, or as a manifest, is a tree. No program text.
  Conditions: those that each theorem states.
-/
import Derived.Test.YtfpdgdacifiejaaGreatWVal
namespace Go.Proofs.YtfpdgdacifiejaaGreat

/- Rows of parts. -/
def layL {α : Type} (lay : α → Nat → List Nod) (sz : α → Nat) : List α → Nat → List Nod
  | [], _ => []
  | a :: r, n => lay a n ++ layL lay sz r (n + sz a)
def idxL {α : Type} (sz : α → Nat) : List α → Nat → List Nat
  | [], _ => []
  | a :: r, n => (n + sz a - 1) :: idxL sz r (n + sz a)
def szL {α : Type} (sz : α → Nat) : List α → Nat
  | [] => 0
  | a :: r => sz a + szL sz r
theorem layL_len {α : Type} {lay : α → Nat → List Nod} {sz : α → Nat} (h : ∀ a n, (lay a n).length = sz a) : ∀ l n, (layL lay sz l n).length = szL sz l
  | [], _ => rfl
  | a :: r, n => by simp [layL, szL, h a n, layL_len h r]
theorem layL_app {α : Type} (lay : α → Nat → List Nod) (sz : α → Nat) : ∀ (l m : List α) (n : Nat), layL lay sz (l ++ m) n = layL lay sz l n ++ layL lay sz m (n + szL sz l)
  | [], m, n => by simp [layL, szL]
  | a :: r, m, n => by simp [layL, szL, layL_app lay sz r m, Nat.add_assoc]
theorem idxL_app {α : Type} (sz : α → Nat) : ∀ (l m : List α) (n : Nat), idxL sz (l ++ m) n = idxL sz l n ++ idxL sz m (n + szL sz l)
  | [], m, n => by simp [idxL, szL]
  | a :: r, m, n => by simp [idxL, szL, idxL_app sz r m, Nat.add_assoc]
theorem szL_app {α : Type} (sz : α → Nat) : ∀ (l m : List α), szL sz (l ++ m) = szL sz l + szL sz m
  | [], m => by simp [szL]
  | a :: r, m => by simp [szL, szL_app sz r m, Nat.add_assoc]
def sepW : List (List Tok) → List Tok
  | [] => []
  | [a] => a
  | a :: b :: r => a ++ (sgT 44 :: sepW (b :: r))

theorem Lc.paramF12 (n : Nat) : Lc (paramF n) := (Lc.must _).bind fun _ => Lc.ifT (fun _ => (Lc.value n).bind fun _ => Lc.node _ _ _) (Lc.node _ _ _)
theorem Lc.attrF12 (n : Nat) : Lc (attrF n) := (Lc.must _).bind fun _ => (Lc.must _).bind fun _ => (Lc.value n).bind fun _ => Lc.node _ _ _
theorem Lc.refF12 (n : Nat) : Lc (refF n) := (Lc.must _).bind fun t => Lc.refOf n t
theorem Lc.listR12 {part : Prs Nat} (h : Lc part) (e : List UInt8) : ∀ k l, Lc (listR part e k l)
  | 0, _ => Lc.fail
  | k + 1, _ => h.bind fun _ => Lc.ifT (fun _ => Lc.listR12 h e k _) ((Lc.must _).bind fun _ => Lc.prt _)
theorem Lc.listF12 {part : Prs Nat} (h : Lc part) (e : List UInt8) (n : Nat) : Lc (listF part e n) := Lc.ifT (fun _ => Lc.prt _) (Lc.listR12 h e n _)
/- A param, an attr, a ref. -/
abbrev PmT := List UInt8 × Option VT
def PmT.lay (p : PmT) (n : Nat) : List Nod := match p.2 with
  | none => [⟨4, p.1, []⟩]
  | some v => v.lay n ++ [⟨4, p.1, [n + v.size - 1]⟩]
def PmT.size (p : PmT) : Nat := match p.2 with
  | none => 1
  | some v => v.size + 1
def PmT.ws (p : PmT) : List Tok := match p.2 with
  | none => [⟨3, p.1⟩]
  | some v => ⟨3, p.1⟩ :: sgT 61 :: v.ws
def PmT.Ok (P : Tok → Prop) (p : PmT) : Prop := P ⟨3, p.1⟩ ∧ ∀ v, p.2 = some v → v.Ok P
abbrev AtT := List UInt8 × VT
def AtT.lay (p : AtT) (n : Nat) : List Nod := p.2.lay n ++ [⟨9, p.1, [n + p.2.size - 1]⟩]
def AtT.size (p : AtT) : Nat := p.2.size + 1
def AtT.ws (p : AtT) : List Tok := ⟨1, p.1⟩ :: ⟨7, [61, 62]⟩ :: p.2.ws
def AtT.Ok (P : Tok → Prop) (p : AtT) : Prop := isPl ⟨1, p.1⟩ = true ∧ P ⟨1, p.1⟩ ∧ p.2.Ok P
def rfLay (p : AtT) (n : Nat) : List Nod := p.2.lay n ++ [⟨11, p.1, [n + p.2.size - 1]⟩]
def rfWs (p : AtT) : List Tok := ⟨2, p.1⟩ :: sgT 91 :: (p.2.ws ++ [sgT 93])
def rfOk (P : Tok → Prop) (p : AtT) : Prop := P ⟨2, p.1⟩ ∧ p.2.Ok P
theorem PmT.len (p : PmT) (n : Nat) : (p.lay n).length = p.size := by
  obtain ⟨x, o⟩ := p
  cases o <;> simp [PmT.lay, PmT.size, VT.len]
theorem AtT.len (p : AtT) (n : Nat) : (p.lay n).length = p.size := by simp [AtT.lay, AtT.size, VT.len]
theorem rf_len (p : AtT) (n : Nat) : (rfLay p n).length = p.size := by simp [rfLay, AtT.size, VT.len]
/-- An arrow and the ref behind it. -/
abbrev ArT := List UInt8 × AtT
def arLay (p : ArT) (n : Nat) : List Nod := ⟨12, p.1, []⟩ :: rfLay p.2 (n + 1)
def arSz (p : ArT) : Nat := p.2.size + 1
def arWs (p : ArT) : List Tok := ⟨7, p.1⟩ :: rfWs p.2
def arOk (P : Tok → Prop) (p : ArT) : Prop := (p.1 = [45, 62] ∨ p.1 = [126, 62]) ∧ rfOk P p.2
def arIx : List ArT → Nat → List Nat
  | [], _ => []
  | a :: r, n => n :: (n + a.2.size) :: arIx r (n + arSz a)
theorem ar_len (p : ArT) (n : Nat) : (arLay p n).length = arSz p := by simp [arLay, arSz, rf_len]
theorem arIx_app : ∀ (l m : List ArT) (n : Nat), arIx (l ++ m) n = arIx l n ++ arIx m (n + szL arSz l)
  | [], m, n => by simp [arIx, szL]
  | a :: r, m, n => by simp [arIx, szL, arIx_app r m, Nat.add_assoc]

mutual
/-- A statement. -/
inductive StT where
  | decl (k : Nat) (tx : List UInt8) (ps : List PmT) (b : SlT)
  | incl (tx : List UInt8)
  | set (tx : List UInt8) (v : VT)
  | cond (v : VT) (b : SlT)
  | condE (v : VT) (b e : SlT)
  | res (tx : List UInt8) (v : VT) (ats : List AtT)
  | chain (r : AtT) (l : List ArT)
/-- Statements. -/
inductive SlT where
  | nil
  | cons (s : StT) (l : SlT)
end
mutual
def StT.size : StT → Nat
  | .decl _ _ ps b => szL PmT.size ps + (b.size + 1) + 1
  | .incl _ => 1
  | .set _ v => v.size + 1
  | .cond v b => v.size + (b.size + 1) + 1
  | .condE v b e => v.size + (b.size + 1) + (e.size + 1) + 1
  | .res _ v ats => v.size + szL AtT.size ats + 1
  | .chain r l => r.size + szL arSz l + 1
def SlT.size : SlT → Nat
  | .nil => 0
  | .cons s l => s.size + l.size
end
def SlT.idx : SlT → Nat → List Nat
  | .nil, _ => []
  | .cons s l, n => (n + s.size - 1) :: l.idx (n + s.size)
mutual
def StT.lay : StT → Nat → List Nod
  | .decl k tx ps b, n => layL PmT.lay PmT.size ps n ++ (b.lay (n + szL PmT.size ps) ++ [⟨1, [], b.idx (n + szL PmT.size ps)⟩, ⟨k, tx, idxL PmT.size ps n ++ [n + szL PmT.size ps + b.size]⟩])
  | .incl tx, _ => [⟨5, tx, []⟩]
  | .set tx v, n => v.lay n ++ [⟨6, tx, [n + v.size - 1]⟩]
  | .cond v b, n => v.lay n ++ (b.lay (n + v.size) ++ [⟨1, [], b.idx (n + v.size)⟩, ⟨7, [], [n + v.size - 1, n + v.size + b.size]⟩])
  | .condE v b e, n => v.lay n ++ (b.lay (n + v.size) ++ (⟨1, [], b.idx (n + v.size)⟩ :: (e.lay (n + v.size + b.size + 1) ++ [⟨1, [], e.idx (n + v.size + b.size + 1)⟩, ⟨7, [], [n + v.size - 1, n + v.size + b.size, n + v.size + b.size + 1 + e.size]⟩])))
  | .res tx v ats, n => v.lay n ++ (layL AtT.lay AtT.size ats (n + v.size) ++ [⟨8, tx, (n + v.size - 1) :: idxL AtT.size ats (n + v.size)⟩])
  | .chain r l, n => rfLay r n ++ (layL arLay arSz l (n + r.size) ++ [⟨10, [], (n + r.size - 1) :: arIx l (n + r.size)⟩])
def SlT.lay : SlT → Nat → List Nod
  | .nil, _ => []
  | .cons s l, n => s.lay n ++ l.lay (n + s.size)
end
mutual
theorem StT.len : ∀ (t : StT) (n : Nat), (t.lay n).length = t.size
  | .decl _ _ ps b, n => by simp [StT.lay, StT.size, layL_len PmT.len, b.len]; omega
  | .incl _, _ => rfl
  | .set _ v, n => by simp [StT.lay, StT.size, v.len]
  | .cond v b, n => by simp [StT.lay, StT.size, v.len, b.len]; omega
  | .condE v b e, n => by simp [StT.lay, StT.size, v.len, b.len, e.len]; omega
  | .res _ v ats, n => by simp [StT.lay, StT.size, v.len, layL_len AtT.len]; omega
  | .chain r l, n => by simp [StT.lay, StT.size, rf_len, layL_len ar_len]; omega
theorem SlT.len : ∀ (l : SlT) (n : Nat), (l.lay n).length = l.size
  | .nil, _ => rfl
  | .cons s l, n => by simp [SlT.lay, SlT.size, s.len, l.len]
end
def kwT (t : List UInt8) : Tok := ⟨1, t⟩
def kClass : List UInt8 := [99, 108, 97, 115, 115]
def kDefine : List UInt8 := [100, 101, 102, 105, 110, 101]
def kInclude : List UInt8 := [105, 110, 99, 108, 117, 100, 101]
def kIf : List UInt8 := [105, 102]
def kElse : List UInt8 := [101, 108, 115, 101]
def psWs (ps : List PmT) : List Tok := if ps = [] then [] else sgT 40 :: (sepW (ps.map PmT.ws) ++ [sgT 41])
mutual
def StT.ws : StT → List Tok
  | .decl k tx ps b => kwT (if k = 2 then kClass else kDefine) :: ⟨1, tx⟩ :: (psWs ps ++ (sgT 123 :: (b.ws ++ [sgT 125])))
  | .incl tx => [kwT kInclude, ⟨1, tx⟩]
  | .set tx v => ⟨3, tx⟩ :: sgT 61 :: v.ws
  | .cond v b => kwT kIf :: (v.ws ++ (sgT 123 :: (b.ws ++ [sgT 125])))
  | .condE v b e => kwT kIf :: (v.ws ++ (sgT 123 :: (b.ws ++ (sgT 125 :: kwT kElse :: sgT 123 :: (e.ws ++ [sgT 125])))))
  | .res tx v ats => ⟨1, tx⟩ :: sgT 123 :: (v.ws ++ (sgT 58 :: (sepW (ats.map AtT.ws) ++ [sgT 125])))
  | .chain r l => rfWs r ++ (l.map arWs).flatten
def SlT.ws : SlT → List Tok
  | .nil => []
  | .cons s l => s.ws ++ l.ws
end
mutual
def StT.Ok (P : Tok → Prop) : StT → Prop
  | .decl k tx ps b => (k = 2 ∨ k = 3) ∧ isNm ⟨1, tx⟩ = true ∧ P ⟨1, tx⟩ ∧ (∀ p ∈ ps, PmT.Ok P p) ∧ b.Ok P
  | .incl tx => isNm ⟨1, tx⟩ = true ∧ P ⟨1, tx⟩
  | .set tx v => P ⟨3, tx⟩ ∧ v.Ok P
  | .cond v b => v.Ok P ∧ b.Ok P
  | .condE v b e => v.Ok P ∧ b.Ok P ∧ e.Ok P
  | .res tx v ats => isNm ⟨1, tx⟩ = true ∧ P ⟨1, tx⟩ ∧ v.Ok P ∧ ∀ a ∈ ats, AtT.Ok P a
  | .chain r l => rfOk P r ∧ l ≠ [] ∧ ∀ a ∈ l, arOk P a
def SlT.Ok (P : Tok → Prop) : SlT → Prop
  | .nil => True
  | .cons s l => s.Ok P ∧ l.Ok P
end

/- What is read is a tree. -/
/-- A part is read as a tree of its sort. -/
def RdA {α : Type} (P : Tok → Prop) (f : Prs Nat) (Ok : α → Prop) (lay : α → Nat → List Nod) (sz : α → Nat) : Prop := ∀ s s' x, f s = .ok s' x → (∀ w ∈ s.r, P w) → ∃ t : α, Ok t ∧ s'.ns = s.ns ++ lay t s.ns.length ∧ x + 1 = s.ns.length + sz t
theorem listR_rd {α : Type} {P : Tok → Prop} {part : Prs Nat} {Ok : α → Prop} {lay : α → Nat → List Nod} {sz : α → Nat} (hr : RdA P part Ok lay sz) (hl : Lc part) (hlen : ∀ a n, (lay a n).length = sz a) (e : List UInt8) :
    ∀ (k : Nat) (l : List Nat) (s s' : PSt) (r : List Nat), listR part e k l s = .ok s' r → (∀ w ∈ s.r, P w) → ∃ ats : List α, (∀ a ∈ ats, Ok a) ∧ s'.ns = s.ns ++ layL lay sz ats s.ns.length ∧ r = l ++ idxL sz ats s.ns.length
  | 0, _, _, _, _, h, _ => by cases h
  | k + 1, l, s, s', r, h, hw => by
    obtain ⟨s1, x, h1, h2⟩ := bind_get h
    obtain ⟨t, g1, g2, g3⟩ := hr _ _ _ h1 hw
    have hl1 : s1.ns.length = s.ns.length + sz t := by rw [g2, List.length_append, hlen]
    have hx : x = s.ns.length + sz t - 1 := by omega
    rcases ifT_ok h2 with ⟨w, r1, h3, h4, h5⟩ | ⟨_, h5⟩
    · obtain ⟨ats, f1, f2, f3⟩ := listR_rd hr hl hlen e k (l ++ [x]) ⟨r1, s1.ns⟩ s' r h5 (fun w' hm => Lc.sub (s' := s1) hl h1 hw w' (by rw [h3]; simp [hm]))
      refine ⟨t :: ats, by simpa using ⟨g1, f1⟩, ?_, ?_⟩
      · rw [f2]
        simp only [layL]
        rw [hl1, g2, List.append_assoc]
      · rw [f3]
        simp only [idxL]
        rw [hl1, hx, List.append_assoc]
        rfl
    · obtain ⟨s2, u, h6, h7⟩ := bind_get h5
      obtain ⟨w, r2, _, _, _, rfl⟩ := must_get h6
      unfold prt at h7
      injection h7 with h8 h9
      subst h8 h9
      refine ⟨[t], by simpa using g1, ?_, ?_⟩
      · show s1.ns = _
        rw [g2]
        simp [layL]
      · rw [hx]
        simp [idxL]
theorem listF_rd {α : Type} {P : Tok → Prop} {part : Prs Nat} {Ok : α → Prop} {lay : α → Nat → List Nod} {sz : α → Nat} (hr : RdA P part Ok lay sz) (hl : Lc part) (hlen : ∀ a n, (lay a n).length = sz a) (e : List UInt8) (n : Nat) (s s' : PSt) (r : List Nat) (h : listF part e n s = .ok s' r) (hw : ∀ w ∈ s.r, P w) :
    ∃ ats : List α, (∀ a ∈ ats, Ok a) ∧ s'.ns = s.ns ++ layL lay sz ats s.ns.length ∧ r = idxL sz ats s.ns.length := by
  rcases ifT_ok h with ⟨w, r1, h3, h4, h5⟩ | ⟨_, h5⟩
  · unfold prt at h5
    injection h5 with h8 h9
    subst h8 h9
    exact ⟨[], by simp, by simp [layL], rfl⟩
  · obtain ⟨ats, f1, f2, f3⟩ := listR_rd hr hl hlen e n [] s s' r h5 hw
    exact ⟨ats, f1, f2, by simpa using f3⟩
theorem param_rd (P : Tok → Prop) (n : Nat) : RdA P (paramF n) (PmT.Ok P) PmT.lay PmT.size := by
  intro s s' x h hw
  obtain ⟨s1, tx, h1, h2⟩ := bind_get h
  obtain ⟨t, r, h3, h4, rfl, rfl⟩ := must_get h1
  have hk : t.kd = 3 := of_decide_eq_true h4
  have hpt : P ⟨3, t.tx⟩ := by have := hw t (by rw [h3]; simp); rwa [show t = ⟨3, t.tx⟩ by rw [← hk]] at this
  rcases ifT_ok h2 with ⟨w, r1, h5, h6, h7⟩ | ⟨_, h7⟩
  · obtain ⟨s2, y, h8, h9⟩ := bind_get h7
    obtain ⟨rfl, rfl⟩ := node_get h9
    obtain ⟨v, g1, g2, g3⟩ := value_rd P n _ _ _ h8 (fun w' hm => hw w' (by rw [h3]; simp only [List.mem_cons]; right; simp only at h5; rw [h5]; simp [hm]))
    simp only at g2 g3
    refine ⟨(t.tx, some v), ⟨hpt, fun v' hv => by cases hv; exact g1⟩, ?_, ?_⟩
    · show s2.ns ++ _ = _
      rw [g2, List.append_assoc, show y = s.ns.length + v.size - 1 by omega]
      rfl
    · rw [g2, List.length_append, v.len]
      rfl
  · obtain ⟨rfl, rfl⟩ := node_get h7
    exact ⟨(t.tx, none), ⟨hpt, fun v' hv => by cases hv⟩, rfl, rfl⟩
theorem attr_rd (P : Tok → Prop) (n : Nat) : RdA P (attrF n) (AtT.Ok P) AtT.lay AtT.size := by
  intro s s' x h hw
  obtain ⟨s1, tx, h1, h2⟩ := bind_get h
  obtain ⟨t, r, h3, h4, rfl, rfl⟩ := must_get h1
  obtain ⟨s2, u, h5, h6⟩ := bind_get h2
  obtain ⟨w, r1, h7, _, _, rfl⟩ := must_get h5
  obtain ⟨s3, y, h8, h9⟩ := bind_get h6
  obtain ⟨rfl, rfl⟩ := node_get h9
  have hk : t.kd = 1 := by unfold isPl at h4; simp at h4; exact h4.1
  have ht : t = ⟨1, t.tx⟩ := by rw [← hk]
  obtain ⟨v, g1, g2, g3⟩ := value_rd P n _ _ _ h8 (fun w' hm => hw w' (by rw [h3]; simp only [List.mem_cons]; right; simp only at h7; rw [h7]; simp [hm]))
  simp only at g2 g3
  refine ⟨(t.tx, v), ⟨by rw [ht] at h4; exact h4, by have := hw t (by rw [h3]; simp); rwa [ht] at this, g1⟩, ?_, ?_⟩
  · show s3.ns ++ _ = _
    rw [g2, List.append_assoc, show y = s.ns.length + v.size - 1 by omega]
    rfl
  · rw [g2, List.length_append, v.len]
    rfl
theorem ref_rd (P : Tok → Prop) (n : Nat) : RdA P (refF n) (rfOk P) rfLay AtT.size := by
  intro s s' x h hw
  obtain ⟨s1, tx, h1, h2⟩ := bind_get h
  obtain ⟨t, r, h3, h4, rfl, rfl⟩ := must_get h1
  unfold refOf at h2
  obtain ⟨s2, u, h5, h6⟩ := bind_get h2
  obtain ⟨w, r1, h7, _, _, rfl⟩ := must_get h5
  obtain ⟨s3, y, h8, h9⟩ := bind_get h6
  obtain ⟨s4, u2, h10, h11⟩ := bind_get h9
  obtain ⟨w2, r2, h12, _, _, rfl⟩ := must_get h10
  obtain ⟨rfl, rfl⟩ := node_get h11
  have hk : t.kd = 2 := of_decide_eq_true h4
  have ht : t = ⟨2, t.tx⟩ := by rw [← hk]
  obtain ⟨v, g1, g2, g3⟩ := value_rd P n _ _ _ h8 (fun w' hm => hw w' (by rw [h3]; simp only [List.mem_cons]; right; simp only at h7; rw [h7]; simp [hm]))
  simp only at g2 g3
  refine ⟨(t.tx, v), ⟨by have := hw t (by rw [h3]; simp); rwa [ht] at this, g1⟩, ?_, ?_⟩
  · show s3.ns ++ _ = _
    rw [g2, List.append_assoc, show y = s.ns.length + v.size - 1 by omega]
    rfl
  · show s3.ns.length + 1 = _
    rw [g2, List.length_append, v.len]
    rfl
end Go.Proofs.YtfpdgdacifiejaaGreat

namespace Go.Proofs.YtfpdgdacifiejaaGreat

theorem stmts_rd {P : Tok → Prop} {st : Prs Nat} (hr : RdA P st (StT.Ok P) StT.lay StT.size) (hl : Lc st) :
    ∀ (k : Nat) (l : List Nat) (s s' : PSt) (r : List Nat), stmts st k l s = .ok s' r → (∀ w ∈ s.r, P w) → ∃ b : SlT, b.Ok P ∧ s'.ns = s.ns ++ b.lay s.ns.length ∧ r = l ++ b.idx s.ns.length
  | 0, _, _, _, _, h, _ => by cases h
  | k + 1, l, s, s', r, h, hw => by
    rcases ifT_ok h with ⟨w, r1, h3, h4, h5⟩ | ⟨_, h5⟩
    · unfold prt at h5
      injection h5 with h8 h9
      subst h8 h9
      exact ⟨.nil, trivial, by simp [SlT.lay], by simp [SlT.idx]⟩
    · obtain ⟨s1, x, h6, h7⟩ := bind_get h5
      obtain ⟨t, g1, g2, g3⟩ := hr _ _ _ h6 hw
      have hl1 : s1.ns.length = s.ns.length + t.size := by rw [g2, List.length_append, t.len]
      have hx : x = s.ns.length + t.size - 1 := by omega
      obtain ⟨b, f1, f2, f3⟩ := stmts_rd hr hl k (l ++ [x]) s1 s' r h7 (hl.sub h6 hw)
      refine ⟨.cons t b, ⟨g1, f1⟩, ?_, ?_⟩
      · rw [f2, hl1, g2, List.append_assoc]
        rfl
      · rw [f3, hl1, hx, List.append_assoc]
        rfl
theorem block_rd {P : Tok → Prop} {st : Prs Nat} (hr : RdA P st (StT.Ok P) StT.lay StT.size) (hl : Lc st) (n : Nat) (s s' : PSt) (x : Nat) (h : blockOf n st s = .ok s' x) (hw : ∀ w ∈ s.r, P w) :
    ∃ b : SlT, b.Ok P ∧ s'.ns = s.ns ++ (b.lay s.ns.length ++ [⟨1, [], b.idx s.ns.length⟩]) ∧ x = s.ns.length + b.size := by
  obtain ⟨s1, u, h1, h2⟩ := bind_get h
  obtain ⟨t, r, h3, _, _, rfl⟩ := must_get h1
  obtain ⟨s2, l, h4, h5⟩ := bind_get h2
  obtain ⟨rfl, rfl⟩ := node_get h5
  obtain ⟨b, f1, f2, f3⟩ := stmts_rd hr hl n [] _ _ _ h4 (fun w hm => hw w (by rw [h3]; simp [hm]))
  simp only at f2 f3
  refine ⟨b, f1, ?_, ?_⟩
  · show s2.ns ++ _ = _
    rw [f2, f3, List.append_assoc]
    rfl
  · rw [f2, List.length_append, b.len]
theorem value_zero : ∀ s, value 0 s = .err s.r := fun _ => rfl
theorem chR_rd {P : Tok → Prop} {n : Nat} : ∀ (k : Nat) (l : List Nat) (s s' : PSt) (x : Nat), chR n k l s = .ok s' x → (∀ w ∈ s.r, P w) →
    ∃ ars : List ArT, (∀ a ∈ ars, arOk P a) ∧ s'.ns = s.ns ++ (layL arLay arSz ars s.ns.length ++ [⟨10, [], l ++ arIx ars s.ns.length⟩]) ∧ x = s.ns.length + szL arSz ars := by
  intro k
  induction k with
  | zero =>
    intro l s s' x h hw
    rcases ifT_ok h with ⟨w, r1, h3, h4, h5⟩ | ⟨_, h5⟩
    · cases h5
    · obtain ⟨rfl, rfl⟩ := node_get h5
      exact ⟨[], by simp, by simp [layL, arIx], by simp [szL]⟩
  | succ k ih =>
    intro l s s' x h hw
    cases hb : tkB isAw s.r with
    | false =>
      unfold chR at h
      rw [ifT_f hb] at h
      obtain ⟨rfl, rfl⟩ := node_get h
      exact ⟨[], by simp, by simp [layL, arIx], by simp [szL]⟩
    | true =>
      rw [chR_yes hb] at h
      obtain ⟨s1, y, h1, h2⟩ := bind_get h
      obtain ⟨s0, tx, h3, h4⟩ := bind_get h1
      obtain ⟨t, r, h5, h6, rfl, rfl⟩ := must_get h3
      obtain ⟨rfl, rfl⟩ := node_get h4
      obtain ⟨s2, q, h7, h8⟩ := bind_get h2
      have hw1 : ∀ w ∈ r, P w := fun w hm => hw w (by rw [h5]; simp [hm])
      obtain ⟨rf, g1, g2, g3⟩ := ref_rd P n _ _ _ h7 hw1
      simp only [List.length_append, List.length_singleton] at g2 g3
      have haw : t.tx = [45, 62] ∨ t.tx = [126, 62] := by
        unfold isAw isSg at h6
        simp at h6
        rcases h6 with ⟨_, e⟩ | ⟨_, e⟩
        · exact .inl e
        · exact .inr e
      obtain ⟨ars, f1, f2, f3⟩ := ih _ _ _ _ h8 (Lc.sub (s := ⟨r, s.ns ++ [⟨12, t.tx, []⟩]⟩) (s' := s2) (Lc.refF12 n) h7 hw1)
      have hl2 : s2.ns.length = s.ns.length + arSz (t.tx, rf) := by
        rw [g2, List.length_append, rf_len]
        simp [arSz]
        omega
      refine ⟨(t.tx, rf) :: ars, List.forall_mem_cons.2 ⟨⟨haw, g1⟩, f1⟩, ?_, ?_⟩
      · rw [f2, hl2, g2]
        have e1 : q = s.ns.length + rf.size := by omega
        simp only [layL, arLay, arIx, e1, List.append_assoc, List.cons_append, List.nil_append]
      · rw [f3, hl2]
        simp only [szL]
        omega
theorem stmt_rd (P : Tok → Prop) : ∀ n, RdA P (stmtF n) (StT.Ok P) StT.lay StT.size
  | 0 => fun s s' x h => by cases h
  | n + 1 => fun s s' x h hw => by
    have ih := stmt_rd P n
    have blk := fun s s' x => block_rd ih (Lc.stmt n) n s s' x
    by_cases h3 : hdK s.r = 3
    · rw [stmt_var h3] at h
      obtain ⟨s1, tx, h1, h2⟩ := bind_get h
      obtain ⟨t, r, h5, h4, rfl, rfl⟩ := must_get h1
      obtain ⟨s2, u, h6, h7⟩ := bind_get h2
      obtain ⟨w, r1, h8, _, _, rfl⟩ := must_get h6
      obtain ⟨s3, y, h9, h10⟩ := bind_get h7
      obtain ⟨rfl, rfl⟩ := node_get h10
      have hk : t.kd = 3 := of_decide_eq_true h4
      have hpt : P ⟨3, t.tx⟩ := by have := hw t (by rw [h5]; simp); rwa [show t = ⟨3, t.tx⟩ by rw [← hk]] at this
      obtain ⟨v, g1, g2, g3⟩ := value_rd P n _ _ _ h9 (fun w' hm => hw w' (by rw [h5]; simp only [List.mem_cons]; right; simp only at h8; rw [h8]; simp [hm]))
      simp only at g2 g3
      refine ⟨.set t.tx v, ⟨hpt, g1⟩, ?_, ?_⟩
      · show s3.ns ++ _ = _
        rw [g2, List.append_assoc, show y = s.ns.length + v.size - 1 by omega]
        rfl
      · show s3.ns.length + 1 = _
        rw [g2, List.length_append, v.len]
        rfl
    by_cases h2k : hdK s.r = 2
    · rw [stmt_type h2k] at h
      unfold chainF at h
      cases n with
      | zero =>
        exfalso
        obtain ⟨s1, tx, _, h2⟩ := bind_get h
        obtain ⟨s2, y, h4, _⟩ := bind_get h2
        obtain ⟨s3, u, _, h6⟩ := bind_get h4
        obtain ⟨s4, v, h7, _⟩ := bind_get h6
        rw [value_zero] at h7
        cases h7
      | succ k =>
        rw [chain_eq (k + 1) k rfl] at h
        obtain ⟨s1, y, h1, h2⟩ := bind_get h
        obtain ⟨s2, z, h4, h5⟩ := bind_get h2
        obtain ⟨s3, q, h6, h7⟩ := bind_get h5
        obtain ⟨r0, g1, g2, g3⟩ := ref_rd P (k + 1) _ _ _ h1 hw
        have hw1 := Lc.sub (Lc.refF12 (k + 1)) h1 hw
        obtain ⟨s0, tx, i3, i4⟩ := bind_get h4
        obtain ⟨t, r, i5, i6, rfl, rfl⟩ := must_get i3
        obtain ⟨rfl, rfl⟩ := node_get i4
        have haw : t.tx = [45, 62] ∨ t.tx = [126, 62] := by
          unfold isAw isSg at i6
          simp at i6
          rcases i6 with ⟨_, e⟩ | ⟨_, e⟩
          · exact .inl e
          · exact .inr e
        have hw2 : ∀ w ∈ r, P w := fun w hm => hw1 w (by rw [i5]; simp [hm])
        obtain ⟨rf, e1, e2, e3⟩ := ref_rd P (k + 1) _ _ _ h6 hw2
        simp only [List.length_append, List.length_singleton] at e2 e3
        obtain ⟨ars, f1, f2, f3⟩ := chR_rd k _ _ _ _ h7 (Lc.sub (s := ⟨r, s1.ns ++ [⟨12, t.tx, []⟩]⟩) (s' := s3) (Lc.refF12 (k + 1)) h6 hw2)
        have hl1 : s1.ns.length = s.ns.length + r0.size := by rw [g2, List.length_append, rf_len]
        have hl3 : s3.ns.length = s.ns.length + r0.size + arSz (t.tx, rf) := by
          rw [e2, List.length_append, rf_len]
          simp [arSz, hl1]
          omega
        refine ⟨.chain r0 ((t.tx, rf) :: ars), ⟨g1, by simp, List.forall_mem_cons.2 ⟨⟨haw, e1⟩, f1⟩⟩, ?_, ?_⟩
        · rw [f2, hl3, e2, hl1, g2]
          have q1 : y = s.ns.length + r0.size - 1 := by omega
          have q2 : q = s.ns.length + r0.size + rf.size := by omega
          simp only [StT.lay, layL, arLay, arIx, q1, q2, List.append_assoc, List.cons_append, List.nil_append]
        · rw [f3, hl3]
          simp only [StT.size, szL]
          omega
    by_cases h1k : hdK s.r = 1
    · obtain ⟨t, r, hr⟩ : ∃ t r, s.r = t :: r := by
        cases hq : s.r with
        | nil => rw [hq] at h1k; simp [hdK] at h1k
        | cons t r => exact ⟨t, r, rfl⟩
      have hws : ∀ w ∈ r, P w := fun w hm => hw w (by rw [hr]; simp [hm])
      have decl : ∀ k, (k = 2 ∨ k = 3) → classy n (stmtF n) k ⟨s.r.tail, s.ns⟩ = .ok s' x → ∃ t : StT, t.Ok P ∧ s'.ns = s.ns ++ t.lay s.ns.length ∧ x + 1 = s.ns.length + t.size := by
        intro k hk hc
        rw [hr] at hc
        simp only [List.tail_cons] at hc
        unfold classy at hc
        rw [params_eq] at hc
        obtain ⟨s1, tx, a1, a2⟩ := bind_get hc
        obtain ⟨u, r1, a3, a4, rfl, rfl⟩ := must_get a1
        simp only at a3
        obtain ⟨s2, ps, a5, a6⟩ := bind_get a2
        obtain ⟨s3, y, a7, a8⟩ := bind_get a6
        obtain ⟨rfl, rfl⟩ := node_get a8
        have hw1 : ∀ w ∈ r1, P w := fun w hm => hws w (by rw [a3]; simp [hm])
        have hku : u.kd = 1 := by unfold isNm at a4; simp at a4; exact a4.1
        have hu : u = ⟨1, u.tx⟩ := by rw [← hku]
        have hpu : P ⟨1, u.tx⟩ := by have := hws u (by rw [a3]; simp); rwa [hu] at this
        have hps : ∃ pl : List PmT, (∀ p ∈ pl, PmT.Ok P p) ∧ s2.ns = s.ns ++ layL PmT.lay PmT.size pl s.ns.length ∧ ps = idxL PmT.size pl s.ns.length ∧ ∀ w ∈ s2.r, P w := by
          rcases ifT_ok a5 with ⟨w, r2, b1, _, b2⟩ | ⟨_, b2⟩
          · simp only at b1
            have hw2 : ∀ w ∈ r2, P w := fun w hm => hw1 w (by rw [b1]; simp [hm])
            obtain ⟨pl, c1, c2, c3⟩ := listF_rd (param_rd P n) (Lc.paramF12 n) PmT.len [41] n _ _ _ b2 hw2
            exact ⟨pl, c1, c2, c3, Lc.sub (s := ⟨r2, s.ns⟩) (s' := s2) (Lc.listF12 (Lc.paramF12 n) [41] n) b2 hw2⟩
          · unfold prt at b2
            injection b2 with b3 b4
            subst b3 b4
            exact ⟨[], by simp, by simp [layL], rfl, hw1⟩
        obtain ⟨pl, c1, c2, c3, c4⟩ := hps
        obtain ⟨b, d1, d2, d3⟩ := blk _ _ _ a7 c4
        have hl2 : s2.ns.length = s.ns.length + szL PmT.size pl := by rw [c2, List.length_append, layL_len PmT.len]
        refine ⟨.decl k u.tx pl b, ⟨hk, by rw [hu] at a4; exact a4, hpu, c1, d1⟩, ?_, ?_⟩
        · show s3.ns ++ _ = _
          rw [d2, c3, d3, hl2, c2]
          simp only [StT.lay, List.append_assoc, List.cons_append, List.nil_append]
        · show s3.ns.length + 1 = _
          rw [d2]
          simp only [List.length_append, b.len, hl2, List.length_singleton, StT.size]
          omega
      by_cases t1 : hdT s.r = [99, 108, 97, 115, 115]
      · rw [stmt_class h1k t1] at h
        exact decl 2 (.inl rfl) h
      by_cases t2 : hdT s.r = [100, 101, 102, 105, 110, 101]
      · rw [stmt_define h1k t2] at h
        exact decl 3 (.inr rfl) h
      by_cases t3 : hdT s.r = [105, 110, 99, 108, 117, 100, 101]
      · rw [stmt_include h1k t3, hr] at h
        obtain ⟨s1, tx, a1, a2⟩ := bind_get h
        obtain ⟨u, r1, a3, a4, rfl, rfl⟩ := must_get a1
        simp only [List.tail_cons] at a3
        obtain ⟨rfl, rfl⟩ := node_get a2
        have hku : u.kd = 1 := by unfold isNm at a4; simp at a4; exact a4.1
        have hu : u = ⟨1, u.tx⟩ := by rw [← hku]
        exact ⟨.incl u.tx, ⟨by rw [hu] at a4; exact a4, by have := hws u (by rw [a3]; simp); rwa [hu] at this⟩, rfl, rfl⟩
      by_cases t4 : hdT s.r = [105, 102]
      · rw [stmt_if h1k t4, hr] at h
        unfold ifOf at h
        obtain ⟨s1, y, a1, a2⟩ := bind_get h
        obtain ⟨v, g1, g2, g3⟩ := value_rd P n _ _ _ a1 hws
        have hw1 := Lc.sub (s := ⟨r, s.ns⟩) (s' := s1) (Lc.value n) a1 hws
        obtain ⟨s2, z, a3, a4⟩ := bind_get a2
        obtain ⟨b, d1, d2, d3⟩ := blk _ _ _ a3 hw1
        have hw2 := Lc.sub (Lc.blockOf n (Lc.stmt n)) a3 hw1
        simp only at g2 g3
        have hl1 : s1.ns.length = s.ns.length + v.size := by rw [g2, List.length_append, v.len]
        have hy : y = s.ns.length + v.size - 1 := by omega
        have hl2 : s2.ns.length = s.ns.length + v.size + b.size + 1 := by
          rw [d2]
          simp only [List.length_append, b.len, hl1, List.length_singleton]
          omega
        rcases ifT_ok a4 with ⟨w, r2, b1, _, b2⟩ | ⟨_, b2⟩
        · obtain ⟨s3, q, a5, a6⟩ := bind_get b2
          obtain ⟨rfl, rfl⟩ := node_get a6
          obtain ⟨e, e1, e2, e3⟩ := blk _ _ _ a5 (fun w hm => hw2 w (by rw [b1]; simp [hm]))
          simp only at e2 e3
          refine ⟨.condE v b e, ⟨g1, d1, e1⟩, ?_, ?_⟩
          · show s3.ns ++ _ = _
            rw [e2, e3, hl2, d2, d3, hl1, g2, hy]
            simp only [StT.lay, List.append_assoc, List.cons_append, List.nil_append]
          · show s3.ns.length + 1 = _
            rw [e2]
            simp only [List.length_append, e.len, hl2, List.length_singleton, StT.size]
            omega
        · obtain ⟨rfl, rfl⟩ := node_get b2
          refine ⟨.cond v b, ⟨g1, d1⟩, ?_, ?_⟩
          · show s2.ns ++ _ = _
            rw [d2, d3, hl1, g2, hy]
            simp only [StT.lay, List.append_assoc, List.cons_append, List.nil_append]
          · show s2.ns.length + 1 = _
            rw [hl2]
            simp only [StT.size]
            omega
      rw [stmt_res h1k t1 t2 t3 t4] at h
      unfold resF at h
      obtain ⟨s1, tx, a1, a2⟩ := bind_get h
      obtain ⟨u, r1, a3, a4, rfl, rfl⟩ := must_get a1
      rw [resOf_eq] at a2
      obtain ⟨s2, _, a5, a6⟩ := bind_get a2
      obtain ⟨w2, r2, a7, _, _, rfl⟩ := must_get a5
      obtain ⟨s3, y, a8, a9⟩ := bind_get a6
      simp only at a7
      have hw1 : ∀ w ∈ r2, P w := fun w hm => hw w (by rw [a3]; simp only [List.mem_cons]; right; rw [a7]; simp [hm])
      obtain ⟨v, g1, g2, g3⟩ := value_rd P n _ _ _ a8 hw1
      have hw3 := Lc.sub (s := ⟨r2, s.ns⟩) (s' := s3) (Lc.value n) a8 hw1
      obtain ⟨s4, _, b1, b2⟩ := bind_get a9
      obtain ⟨w4, r4, b3, _, _, rfl⟩ := must_get b1
      obtain ⟨s5, l, b4, b5⟩ := bind_get b2
      obtain ⟨rfl, rfl⟩ := node_get b5
      obtain ⟨atl, c1, c2, c3⟩ := listF_rd (attr_rd P n) (Lc.attrF12 n) AtT.len [125] n _ _ _ b4 (fun w hm => hw3 w (by rw [b3]; simp [hm]))
      simp only at g2 g3 c2 c3
      have hku : u.kd = 1 := by unfold isNm at a4; simp at a4; exact a4.1
      have hu : u = ⟨1, u.tx⟩ := by rw [← hku]
      have hl3 : s3.ns.length = s.ns.length + v.size := by rw [g2, List.length_append, v.len]
      refine ⟨.res u.tx v atl, ⟨by rw [hu] at a4; exact a4, by have := hw u (by rw [a3]; simp); rwa [hu] at this, g1, c1⟩, ?_, ?_⟩
      · show s5.ns ++ _ = _
        rw [c2, c3, hl3, g2, show y = s.ns.length + v.size - 1 by omega]
        simp only [StT.lay, List.append_assoc, List.cons_append, List.nil_append]
      · show s5.ns.length + 1 = _
        rw [c2]
        simp only [List.length_append, layL_len AtT.len, hl3, StT.size]
        omega
    · rw [stmt_none h1k h2k h3] at h
      cases h
/-- What is read as a manifest. -/
theorem top_rd (P : Tok → Prop) {st : Prs Nat} (hr : RdA P st (StT.Ok P) StT.lay StT.size) (hl : Lc st) : ∀ (k : Nat) (l : List Nat) (s s' : PSt) (x : Nat), topF st k l s = .ok s' x → (∀ w ∈ s.r, P w) →
    ∃ b : SlT, b.Ok P ∧ s'.ns = s.ns ++ (b.lay s.ns.length ++ [⟨1, [], l ++ b.idx s.ns.length⟩])
  | 0, _, _, _, _, h, _ => by cases h
  | k + 1, l, s, s', x, h, hw => by
    obtain ⟨sr, ns⟩ := s
    cases sr with
    | nil =>
      rw [topF_nil] at h
      obtain ⟨rfl, rfl⟩ := node_get h
      exact ⟨.nil, trivial, by simp [SlT.lay, SlT.idx]⟩
    | cons t r =>
      rw [topF_cons _ _ _ _ _ (by simp)] at h
      obtain ⟨s1, y, h1, h2⟩ := bind_get h
      obtain ⟨t', g1, g2, g3⟩ := hr _ _ _ h1 hw
      obtain ⟨b, f1, f2⟩ := top_rd P hr hl k (l ++ [y]) s1 s' x h2 (Lc.sub (s := ⟨t :: r, ns⟩) (s' := s1) hl h1 hw)
      simp only at g2 g3
      have hl1 : s1.ns.length = ns.length + t'.size := by rw [g2, List.length_append, t'.len]
      refine ⟨.cons t' b, ⟨g1, f1⟩, ?_⟩
      rw [f2, hl1, g2, show y = ns.length + t'.size - 1 by omega]
      simp only [SlT.lay, SlT.idx, List.append_assoc, List.cons_append, List.nil_append]
/-- A manifest's nodes. -/
def topL (b : SlT) : List Nod := b.lay 0 ++ [⟨1, [], b.idx 0⟩]
theorem par_tree (P : Tok → Prop) {l : List Tok} (h : (parO l).2.2 = 0) (hw : ∀ w ∈ l, P w) : ∃ b : SlT, b.Ok P ∧ (parO l).1 = topL b ∧ (topL b).length ≤ 1024 ∧ depN (topL b) ≤ 32 := by
  unfold parO at h ⊢
  split at h
  · cases h
  · rename_i hlen
    rw [if_neg hlen]
    cases ht : topF (stmtF 5000) 5000 [] ⟨l, []⟩ with
    | err r => rw [ht] at h; cases h
    | ok s x =>
      rw [ht] at h
      simp only at h ⊢
      split at h
      · cases h
      · rename_i hb
        rw [if_neg hb]
        obtain ⟨b, f1, f2⟩ := top_rd P (stmt_rd P 5000) (Lc.stmt 5000) 5000 [] _ _ _ ht hw
        have : s.ns = topL b := by rw [f2]; rfl
        rw [this] at hb ⊢
        exact ⟨b, f1, rfl, by omega, by omega⟩
end Go.Proofs.YtfpdgdacifiejaaGreat

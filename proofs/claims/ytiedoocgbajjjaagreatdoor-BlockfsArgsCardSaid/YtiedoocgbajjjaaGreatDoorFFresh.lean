/-
  Layer 4: what edits leave of a tree: a tree that may be, with no slot and no block that it had not. No program text.
  Conditions: those that each theorem states.
  Layer 4: how much is fresh in a tree behind edits. No program text.
  Conditions: those that each theorem states.
-/
import Derived.Test.YtiedoocgbajjjaaGreatDoorFCln
import Derived.Test.YtiedoocgbajjjaaGreatDoorFPath
namespace Go.Proofs.YtiedoocgbajjjaaGreatDoor
open Go.RowKit Go.Maps
set_option maxRecDepth 100000

mutual
/-- A tree's records, one behind the other. -/
def PTr.recs : PTr → List NRec
  | .node r ks => r :: ks.recs
def PKs.recs : PKs → List NRec
  | .nil => []
  | .cons _ t k => t.recs ++ k.recs
end
theorem recs_ks (t : PTr) : t.recs = t.rc :: t.ks.recs := by cases t; rfl

/-- Records beside those that they come of: nothing has a slot or a block that it had not. -/
inductive Al : List NRec → List NRec → Prop
  | nil : Al [] []
  | chg {r r' : NRec} {l l' : List NRec} : r'.slot = r.slot → r'.blocks = r.blocks → r'.more = r.more → Al l l' → Al (r :: l) (r' :: l')
  | del {r : NRec} {l l' : List NRec} : Al l l' → Al (r :: l) l'
  | new {x : NRec} {l l' : List NRec} : x.slot = 0 → x.blocks = [] → x.more = 0 → Al l l' → Al l (x :: l')
theorem Al.refl : ∀ l : List NRec, Al l l
  | [] => .nil
  | _ :: l => .chg rfl rfl rfl (Al.refl l)
theorem Al.append {a a' b b' : List NRec} (h : Al a a') (g : Al b b') : Al (a ++ b) (a' ++ b') := by
  induction h with
  | nil => exact g
  | chg h1 h2 h3 _ ih => exact .chg h1 h2 h3 ih
  | del _ ih => exact .del ih
  | new h1 h2 h3 _ ih => exact .new h1 h2 h3 ih
theorem Al.none : ∀ l : List NRec, Al l []
  | [] => .nil
  | _ :: l => .del (Al.none l)
def NRec.blk (r : NRec) : List Nat := r.blocks ++ if 0 < r.more then [r.more] else []
def slotsR (l : List NRec) : List Nat := (l.map NRec.slot).filter fun s => decide (s ≠ 0)
def blksR (l : List NRec) : List Nat := l.flatMap NRec.blk
theorem Al.slots {l l' : List NRec} (h : Al l l') : (slotsR l').Sublist (slotsR l) := by
  induction h with
  | nil => exact List.Sublist.refl _
  | @chg r r' _ _ h1 _ _ _ ih =>
    unfold slotsR at ih ⊢
    simp only [List.map_cons, h1, List.filter_cons]
    split
    · exact ih.cons_cons _
    · exact ih
  | @del r _ _ _ ih =>
    unfold slotsR at ih ⊢
    simp only [List.map_cons, List.filter_cons]
    split
    · exact ih.cons _
    · exact ih
  | @new x _ _ h1 _ _ _ ih =>
    unfold slotsR at ih ⊢
    simpa [h1] using ih
theorem Al.blks {l l' : List NRec} (h : Al l l') : (blksR l').Sublist (blksR l) := by
  induction h with
  | nil => exact List.Sublist.refl _
  | @chg r r' _ _ _ h2 h3 _ ih =>
    have : r'.blk = r.blk := by unfold NRec.blk; rw [h2, h3]
    unfold blksR at ih ⊢
    simp only [List.flatMap_cons, this]
    exact (List.Sublist.refl _).append ih
  | del _ ih =>
    unfold blksR at ih ⊢
    simp only [List.flatMap_cons]
    exact ih.trans (List.sublist_append_right _ _)
  | @new x _ _ _ h2 h3 _ ih =>
    have : x.blk = [] := by unfold NRec.blk; rw [h2, h3]; rfl
    unfold blksR at ih ⊢
    simpa [this] using ih
theorem al_set : ∀ {k : PKs} {s : List UInt8} {x u : PTr}, k.get s = some x → Al x.recs u.recs → Al k.recs (k.set s u).recs
  | .cons s' t k, s, x, u, hg, h => by
    simp only [PKs.get] at hg
    simp only [PKs.set]
    split at hg
    · rename_i e
      injection hg with hg
      rw [if_pos e, hg]
      exact h.append (Al.refl _)
    · rename_i e
      rw [if_neg e]
      exact (Al.refl _).append (al_set hg h)
theorem al_ins : ∀ {k : PKs} {s : List UInt8} {x : PTr}, Al [] x.recs → Al k.recs (k.ins s x).recs
  | .nil, s, x, h => by simpa [PKs.ins, PKs.recs] using h
  | .cons s' t k, s, x, h => by
    simp only [PKs.ins]
    split
    · exact h.append (Al.refl _)
    · exact (Al.refl _).append (al_ins h)
theorem al_del : ∀ (k : PKs) (s : List UInt8), Al k.recs (k.del s).recs
  | .nil, _ => .nil
  | .cons s' t k, s => by
    simp only [PKs.del]
    split
    · exact (Al.none _).append (al_del k s)
    · exact (Al.refl _).append (al_del k s)
theorem al_put : ∀ (ns : List (List UInt8)) {t p u : PTr}, (folP t ns).2 = some p → Al p.recs u.recs → Al t.recs (t.putP ns u).recs
  | [], t, p, u, hf, h => by
    simp only [folP, Option.some.injEq] at hf
    subst hf
    exact h
  | s :: l, t, p, u, hf, h => by
    simp only [folP] at hf
    split at hf
    · cases hg : t.ks.get s with
      | none => rw [hg] at hf; cases hf
      | some x =>
        rw [hg] at hf
        simp only [PTr.putP, hg, PTr.recs]
        rw [recs_ks t]
        exact .chg rfl rfl rfl (al_set hg (al_put l hf h))
    · cases hf
theorem al_node {r r' : NRec} {k k' : PKs} (h1 : r'.slot = r.slot) (h2 : r'.blocks = r.blocks) (h3 : r'.more = r.more) (h : Al k.recs k'.recs) : Al (PTr.node r k).recs (PTr.node r' k').recs := .chg h1 h2 h3 h
theorem al_editP (p : PTr) (s : List UInt8) (kind mode : Int) (L : List UInt8) : Al p.recs (p.put s kind mode L).2.recs := by
  obtain ⟨r, k⟩ := p
  unfold PTr.put
  cases hg : (PTr.node r k).ks.get s with
  | some u =>
    simp only
    split
    · refine al_node rfl rfl rfl (al_set hg ?_)
      rw [recs_ks u]
      exact .chg rfl rfl rfl (Al.refl _)
    · exact Al.refl _
  | none =>
    simp only
    split
    · exact Al.refl _
    · exact al_node rfl rfl rfl (al_ins (.new rfl rfl rfl .nil))
theorem al_editE (p : PTr) (s : List UInt8) (kind mode : Int) (L : List UInt8) : Al p.recs (p.editE s kind mode L).2.recs := by
  unfold PTr.editE
  split
  · exact al_editP _ _ _ _ _
  split
  · exact al_editP _ _ _ _ _
  split
  · split
    · exact Al.refl _
    · exact al_editP _ _ _ _ _
  split
  · obtain ⟨r, k⟩ := p
    unfold PTr.setM
    cases hg : (PTr.node r k).ks.get s with
    | some u =>
      simp only
      split
      · exact Al.refl _
      · refine al_node rfl rfl rfl (al_set hg ?_)
        rw [recs_ks u]
        exact .chg rfl rfl rfl (Al.refl _)
    | none => exact Al.refl _
  · obtain ⟨r, k⟩ := p
    unfold PTr.dropP
    cases hg : (PTr.node r k).ks.get s with
    | some u => exact al_node rfl rfl rfl (al_del k s)
    | none => exact Al.refl _
theorem al_edit (t : PTr) (kind mode : Int) (path L : List UInt8) : Al t.recs (t.edit kind mode path L).2.recs := by
  unfold PTr.edit
  split
  · exact Al.refl _
  cases hp : pathO path with
  | none => exact Al.refl _
  | some ns =>
    simp only
    cases hl : ns.getLast? with
    | none =>
      obtain ⟨r, k⟩ := t
      simp only [PTr.editR]
      split
      · exact Al.refl _
      split
      · exact Al.refl _
      · exact al_node rfl rfl rfl (Al.refl _)
    | some s =>
      simp only
      obtain ⟨c, o, hf⟩ : ∃ c o, folP t ns.dropLast = (c, o) := ⟨_, _, rfl⟩
      rw [hf]
      cases o with
      | none => exact Al.refl _
      | some p =>
        simp only
        split
        · exact al_put _ (by rw [hf]) (al_editE p s kind mode L)
        · exact Al.refl _

/-- The root keeps its slot, and its kind. -/
theorem put_head : ∀ (ns : List (List UInt8)) {t p u : PTr}, (folP t ns).2 = some p → u.rc.slot = p.rc.slot → u.rc.kind = p.rc.kind → (t.putP ns u).rc.slot = t.rc.slot ∧ (t.putP ns u).rc.kind = t.rc.kind
  | [], t, p, u, hf, h, hk => by
    simp only [folP, Option.some.injEq] at hf
    subst hf
    exact ⟨h, hk⟩
  | s :: l, t, p, u, hf, h, _ => by
    simp only [PTr.putP]
    cases t.ks.get s <;> exact ⟨rfl, rfl⟩
theorem editE_head (p : PTr) (s : List UInt8) (kind mode : Int) (L : List UInt8) : (p.editE s kind mode L).2.rc.slot = p.rc.slot ∧ (p.editE s kind mode L).2.rc.kind = p.rc.kind := by
  have hput : ∀ k m L, (p.put s k m L).2.rc.slot = p.rc.slot ∧ (p.put s k m L).2.rc.kind = p.rc.kind := fun k m L => by
    unfold PTr.put
    cases p.ks.get s with
    | some u => simp only; split <;> exact ⟨rfl, rfl⟩
    | none => simp only; split <;> exact ⟨rfl, rfl⟩
  unfold PTr.editE
  split
  · exact hput _ _ _
  split
  · exact hput _ _ _
  split
  · split
    · exact ⟨rfl, rfl⟩
    · exact hput _ _ _
  split
  · unfold PTr.setM
    cases p.ks.get s with
    | some u => simp only; split <;> exact ⟨rfl, rfl⟩
    | none => exact ⟨rfl, rfl⟩
  · unfold PTr.dropP
    cases p.ks.get s <;> exact ⟨rfl, rfl⟩
theorem edit_head (t : PTr) (kind mode : Int) (path L : List UInt8) : (t.edit kind mode path L).2.rc.slot = t.rc.slot ∧ (t.edit kind mode path L).2.rc.kind = t.rc.kind := by
  unfold PTr.edit
  split
  · exact ⟨rfl, rfl⟩
  cases pathO path with
  | none => exact ⟨rfl, rfl⟩
  | some ns =>
    simp only
    cases ns.getLast? with
    | none =>
      simp only [PTr.editR]
      split
      · exact ⟨rfl, rfl⟩
      split <;> exact ⟨rfl, rfl⟩
    | some s =>
      simp only
      obtain ⟨c, o, hf⟩ : ∃ c o, folP t ns.dropLast = (c, o) := ⟨_, _, rfl⟩
      rw [hf]
      cases o with
      | none => exact ⟨rfl, rfl⟩
      | some p =>
        simp only
        split
        · exact put_head _ (by rw [hf]) (editE_head p s kind mode L).1 (editE_head p s kind mode L).2
        · exact ⟨rfl, rfl⟩

/-- A node that may be. -/
def NRec.fine (r : NRec) : Prop := (r.kind = 1 ∨ r.kind = 2 ∨ r.kind = 3) ∧ (0 ≤ r.mode ∧ r.mode ≤ 4095) ∧ r.bytes.length ≤ 2432 ∧ (r.kind = 2 → r.bytes = []) ∧ (r.kind = 3 → r.mode = 0 ∧ r.bytes.length ≤ 120)
mutual
def PTr.fine : PTr → Prop
  | .node r ks => r.fine ∧ ks.len ≤ 16 ∧ (r.kind ≠ 2 → ks = .nil) ∧ ks.fine
def PKs.fine : PKs → Prop
  | .nil => True
  | .cons s t k => nameB s = true ∧ t.fine ∧ k.fine
end
theorem fine_get : ∀ {k : PKs} {s : List UInt8} {x : PTr}, k.fine → k.get s = some x → x.fine
  | .cons s' t k, s, x, h, hg => by
    simp only [PKs.get] at hg
    split at hg
    · injection hg with hg
      rw [← hg]; exact h.2.1
    · exact fine_get h.2.2 hg
theorem fine_set : ∀ {k : PKs} {s : List UInt8} {u : PTr}, k.fine → u.fine → (k.set s u).fine ∧ (k.set s u).len = k.len
  | .nil, _, _, h, _ => ⟨h, rfl⟩
  | .cons s' t k, s, u, h, hu => by
    simp only [PKs.set]
    split
    · exact ⟨⟨h.1, hu, h.2.2⟩, rfl⟩
    · have := fine_set (s := s) h.2.2 hu
      exact ⟨⟨h.1, h.2.1, this.1⟩, by simp [PKs.len, this.2]⟩
theorem fine_ins : ∀ {k : PKs} {s : List UInt8} {u : PTr}, k.fine → nameB s = true → u.fine → (k.ins s u).fine ∧ (k.ins s u).len = k.len + 1
  | .nil, _, _, _, hs, hu => ⟨⟨hs, hu, trivial⟩, rfl⟩
  | .cons s' t k, s, u, h, hs, hu => by
    simp only [PKs.ins]
    split
    · exact ⟨⟨hs, hu, h⟩, rfl⟩
    · have := fine_ins h.2.2 hs hu
      exact ⟨⟨h.1, h.2.1, this.1⟩, by simp [PKs.len, this.2]⟩
theorem fine_del : ∀ {k : PKs} (s : List UInt8), k.fine → (k.del s).fine ∧ (k.del s).len ≤ k.len
  | .nil, _, h => ⟨h, Nat.le_refl _⟩
  | .cons s' t k, s, h => by
    have := fine_del s h.2.2
    simp only [PKs.del]
    split
    · exact ⟨this.1, by simp [PKs.len]; omega⟩
    · exact ⟨⟨h.1, h.2.1, this.1⟩, by simp [PKs.len]; omega⟩
theorem fine_put : ∀ (ns : List (List UInt8)) {t p u : PTr}, t.fine → (folP t ns).2 = some p → (p.fine → u.fine) → (t.putP ns u).fine
  | [], t, p, u, h, hf, hu => by
    simp only [folP, Option.some.injEq] at hf
    subst hf
    exact hu h
  | s :: l, t, p, u, h, hf, hu => by
    obtain ⟨r, k⟩ := t
    simp only [folP] at hf
    split at hf
    · rename_i hk
      cases hg : (PTr.node r k).ks.get s with
      | none => rw [hg] at hf; cases hf
      | some x =>
        rw [hg] at hf
        simp only [PTr.putP, hg]
        have := fine_set (s := s) h.2.2.2 (fine_put l (fine_get h.2.2.2 hg) hf hu)
        exact ⟨h.1, Nat.le_trans (Nat.le_of_eq this.2) h.2.1, fun hh => absurd hk hh, this.1⟩
    · cases hf
theorem fine_putE {p : PTr} {s : List UInt8} {kind mode : Int} {L : List UInt8} (h : p.fine) (hk : p.rc.kind = 2) (hs : nameB s = true) (hx : (NRec.mk kind mode L 0 [] 0 false).fine) : (p.put s kind mode L).2.fine := by
  obtain ⟨r, k⟩ := p
  unfold PTr.put
  cases hg : (PTr.node r k).ks.get s with
  | some u =>
    simp only
    split
    · rename_i e
      obtain ⟨ru, ku⟩ := u
      have hu := fine_get h.2.2.2 hg
      have e' : ru.kind = kind := e
      have hr : ({ ru with mode := mode, bytes := L, fresh := ru.fresh || !decide (ru.bytes = L) } : NRec).fine := by
        subst e'
        exact hx
      have := fine_set (s := s) (u := .node { ru with mode := mode, bytes := L, fresh := ru.fresh || !decide (ru.bytes = L) } ku) h.2.2.2 ⟨hr, hu.2.1, hu.2.2.1, hu.2.2.2⟩
      exact ⟨h.1, Nat.le_trans (Nat.le_of_eq this.2) h.2.1, fun hh => absurd hk hh, this.1⟩
    · exact h
  | none =>
    simp only
    split
    · exact h
    · rename_i h16
      have := fine_ins (s := s) (u := .node ⟨kind, mode, L, 0, [], 0, !decide ([] = L)⟩ .nil) h.2.2.2 hs ⟨hx, by simp [PKs.len], fun _ => rfl, trivial⟩
      have hl : k.len ≤ 16 := h.2.1
      have hl2 : ¬ k.len = 16 := h16
      exact ⟨h.1, Nat.le_trans (Nat.le_of_eq this.2) (by omega), fun hh => absurd hk hh, this.1⟩
theorem fine_editE {p : PTr} {s : List UInt8} {kind mode : Int} {L : List UInt8} (h : p.fine) (hk : p.rc.kind = 2) (hs : nameB s = true) (hL : kind = 1 ∨ kind = 3 → L.length ≤ 2432) (hm : soundB kind mode = true) : (p.editE s kind mode L).2.fine := by
  have hmode : kind = 1 ∨ kind = 2 ∨ kind = 4 → 0 ≤ mode ∧ mode ≤ 4095 := fun hh => by
    unfold soundB at hm
    rw [if_pos hh] at hm
    exact of_decide_eq_true hm
  unfold PTr.editE
  split
  · rename_i e
    exact fine_putE h hk hs ⟨.inl rfl, hmode (.inl e), hL (.inl e), fun e => by simp at e, fun e => by simp at e⟩
  split
  · rename_i e
    exact fine_putE h hk hs ⟨.inr (.inl rfl), hmode (.inr (.inl e)), by simp, fun _ => rfl, fun e => by simp at e⟩
  split
  · rename_i e3
    split
    · exact h
    · exact fine_putE h hk hs ⟨.inr (.inr rfl), ⟨Int.le_refl _, by show (0 : Int) ≤ 4095; omega⟩, hL (.inr e3), fun e => by simp at e, fun _ => ⟨rfl, by show L.length ≤ 120; omega⟩⟩
  split
  · rename_i e4
    obtain ⟨r, k⟩ := p
    unfold PTr.setM
    cases hg : (PTr.node r k).ks.get s with
    | some u =>
      simp only
      split
      · exact h
      · rename_i h3
        obtain ⟨ru, ku⟩ := u
        have hu := fine_get h.2.2.2 hg
        have h3' : ¬ ru.kind = 3 := h3
        have := fine_set (s := s) (u := .node { ru with mode := mode } ku) h.2.2.2 ⟨⟨hu.1.1, hmode (.inr (.inr e4)), hu.1.2.2.1, hu.1.2.2.2.1, fun e => absurd e h3'⟩, hu.2.1, hu.2.2.1, hu.2.2.2⟩
        exact ⟨h.1, Nat.le_trans (Nat.le_of_eq this.2) h.2.1, fun hh => absurd hk hh, this.1⟩
    | none => exact h
  · obtain ⟨r, k⟩ := p
    unfold PTr.dropP
    cases hg : (PTr.node r k).ks.get s with
    | some u =>
      have := fine_del s h.2.2.2
      exact ⟨h.1, Nat.le_trans this.2 h.2.1, fun hh => absurd hk hh, this.1⟩
    | none => exact h
theorem fine_edit {t : PTr} {kind mode : Int} {path L : List UInt8} (h : t.fine) (hL : kind = 1 ∨ kind = 3 → L.length ≤ 2432) (hroot : t.rc.kind = 2) : (t.edit kind mode path L).2.fine := by
  unfold PTr.edit
  split
  · exact h
  rename_i hm
  have hm : soundB kind mode = true := by simpa using hm
  cases hp : pathO path with
  | none => exact h
  | some ns =>
    simp only
    cases hl : ns.getLast? with
    | none =>
      obtain ⟨r, k⟩ := t
      have hr : r.kind = 2 := hroot
      simp only [PTr.editR]
      split
      · exact h
      split
      · exact h
      · rename_i h1 h5
        have hmode : 0 ≤ mode ∧ mode ≤ 4095 := by
          unfold soundB at hm
          split at hm
          · exact of_decide_eq_true hm
          · have := of_decide_eq_true hm; omega
        exact ⟨⟨h.1.1, hmode, h.1.2.2.1, h.1.2.2.2.1, fun e => by have e' : r.kind = 3 := e; omega⟩, h.2.1, h.2.2.1, h.2.2.2⟩
    | some s =>
      simp only
      have hs : nameB s = true := (path_parts hp).2 s (List.mem_of_getLast? hl)
      obtain ⟨c, o, hf⟩ : ∃ c o, folP t ns.dropLast = (c, o) := ⟨_, _, rfl⟩
      rw [hf]
      cases o with
      | none => exact h
      | some p =>
        simp only
        split
        · rename_i hk
          exact fine_put _ h (by rw [hf]) (fun hp => fine_editE hp hk hs hL hm)
        · exact h
end Go.Proofs.YtiedoocgbajjjaaGreatDoor

namespace Go.Proofs.YtiedoocgbajjjaaGreatDoor
open Go.RowKit Go.Maps
set_option maxRecDepth 100000

/-- A sum over records. -/
def muL (f : NRec → Nat) (l : List NRec) : Nat := (l.map f).sum
theorem muL_app (f : NRec → Nat) (l m : List NRec) : muL f (l ++ m) = muL f l + muL f m := by simp [muL, List.sum_append]
theorem muL_cons (f : NRec → Nat) (r : NRec) (l : List NRec) : muL f (r :: l) = f r + muL f l := rfl
theorem mu_set (f : NRec → Nat) : ∀ {k : PKs} {s : List UInt8} {x u : PTr}, k.get s = some x → muL f (k.set s u).recs + muL f x.recs = muL f k.recs + muL f u.recs
  | .cons s' t k, s, x, u, hg => by
    simp only [PKs.get] at hg
    simp only [PKs.set]
    split at hg
    · rename_i e
      injection hg with hg
      rw [if_pos e, hg]
      simp only [PKs.recs, muL_app]
      omega
    · rename_i e
      rw [if_neg e]
      have := mu_set f (u := u) hg
      simp only [PKs.recs, muL_app]
      omega
theorem mu_ins (f : NRec → Nat) : ∀ (k : PKs) (s : List UInt8) (u : PTr), muL f (k.ins s u).recs = muL f k.recs + muL f u.recs
  | .nil, s, u => by simp only [PKs.ins, PKs.recs, muL_app]; omega
  | .cons s' t k, s, u => by
    have := mu_ins f k s u
    simp only [PKs.ins]
    split <;> simp only [PKs.recs, muL_app] <;> omega
theorem mu_del (f : NRec → Nat) : ∀ (k : PKs) (s : List UInt8), muL f (k.del s).recs ≤ muL f k.recs
  | .nil, _ => Nat.le_refl _
  | .cons s' t k, s => by
    have := mu_del f k s
    simp only [PKs.del]
    split <;> simp only [PKs.recs, muL_app] <;> omega
theorem mu_put (f : NRec → Nat) : ∀ (ns : List (List UInt8)) {t p u : PTr}, (folP t ns).2 = some p → muL f (t.putP ns u).recs + muL f p.recs = muL f t.recs + muL f u.recs
  | [], t, p, u, hf => by
    simp only [folP, Option.some.injEq] at hf
    subst hf
    simp only [PTr.putP]
    omega
  | s :: l, t, p, u, hf => by
    simp only [folP] at hf
    split at hf
    · cases hg : t.ks.get s with
      | none => rw [hg] at hf; cases hf
      | some x =>
        rw [hg] at hf
        have h1 := mu_put f l (u := u) hf
        have h2 := mu_set f (u := x.putP l u) hg
        simp only [PTr.putP, hg, PTr.recs]
        rw [recs_ks t, muL_cons, muL_cons]
        omega
    · cases hf
/-- What is fresh: directories; others; the others' bytes. -/
def fD (r : NRec) : Nat := if r.fresh = true ∧ r.kind = 2 then 1 else 0
def fF (r : NRec) : Nat := if r.fresh = true ∧ r.kind ≠ 2 then 1 else 0
def fB (r : NRec) : Nat := if r.fresh = true ∧ r.kind ≠ 2 then r.bytes.length else 0
/-- What an edit adds to them. -/
def edF (kind : Int) : Nat := if kind = 1 ∨ kind = 3 then 1 else 0
def edB (kind : Int) (L : List UInt8) : Nat := if kind = 1 ∨ kind = 3 then L.length else 0
def Adds (a b : Nat) (l l' : List NRec) : Prop := muL fD l' ≤ muL fD l + 1 ∧ muL fF l' ≤ muL fF l + a ∧ muL fB l' ≤ muL fB l + b
theorem Adds.same (a b : Nat) (l : List NRec) : Adds a b l l := ⟨by omega, by omega, by omega⟩
theorem adds_put {p : PTr} {s : List UInt8} {kind mode : Int} {L : List UInt8} (hk : p.rc.kind = 2) (h2 : kind = 2 → L = []) : Adds (if kind = 2 then 0 else 1) (if kind = 2 then 0 else L.length) p.recs (p.put s kind mode L).2.recs := by
  unfold PTr.put
  cases hg : p.ks.get s with
  | some u =>
    simp only
    by_cases e : u.rc.kind = kind
    · rw [if_pos e]
      obtain ⟨u', hu'⟩ : ∃ u', ({ u.rc with mode := mode, bytes := L, fresh := u.rc.fresh || !decide (u.rc.bytes = L) } : NRec) = u' := ⟨_, rfl⟩
      rw [hu']
      have hk2 : u'.kind = kind := by rw [← hu']; exact e
      have hb2 : u'.bytes = L := by rw [← hu']
      have m := fun f => mu_set f (u := .node u' u.ks) hg
      simp only [recs_ks u, PTr.recs, muL_cons] at m
      simp only [Adds, recs_ks p, PTr.recs, muL_cons]
      refine ⟨?_, ?_, ?_⟩
      · have := m fD
        have a1 : fD u' ≤ 1 := by unfold fD; split <;> omega
        omega
      · have := m fF
        have a1 : fF u' ≤ if kind = 2 then 0 else 1 := by
          unfold fF
          by_cases h : kind = 2
          · simp [h, hk2]
          · rw [if_neg h]; split <;> omega
        omega
      · have := m fB
        have a1 : fB u' ≤ if kind = 2 then 0 else L.length := by
          unfold fB
          by_cases h : kind = 2
          · simp [h, hk2]
          · rw [if_neg h]; split <;> simp [hb2]
        omega
    · rw [if_neg e]; exact Adds.same _ _ _
  | none =>
    simp only
    by_cases h16 : p.ks.len = 16
    · rw [if_pos h16]; exact Adds.same _ _ _
    · rw [if_neg h16]
      obtain ⟨r', hr'⟩ : ∃ r', ({ p.rc with fresh := true } : NRec) = r' := ⟨_, rfl⟩
      rw [hr']
      have hk2 : r'.kind = 2 := by rw [← hr']; exact hk
      have m := fun f => mu_ins f p.ks s (.node ⟨kind, mode, L, 0, [], 0, !decide ([] = L)⟩ .nil)
      simp only [PTr.recs, PKs.recs, muL_cons] at m
      have z : ∀ f, muL f [] = 0 := fun _ => rfl
      simp only [z] at m
      simp only [Adds, recs_ks p, PTr.recs, muL_cons]
      refine ⟨?_, ?_, ?_⟩
      · have := m fD
        have a1 : fD ⟨kind, mode, L, 0, [], 0, !decide ([] = L)⟩ = 0 := by
          unfold fD
          by_cases h : kind = 2
          · simp [h2 h]
          · simp [h]
        have a2 : fD r' ≤ 1 := by unfold fD; split <;> omega
        omega
      · have := m fF
        have a1 : fF ⟨kind, mode, L, 0, [], 0, !decide ([] = L)⟩ ≤ if kind = 2 then 0 else 1 := by
          unfold fF
          by_cases h : kind = 2
          · simp [h]
          · rw [if_neg h]; split <;> omega
        have a2 : fF r' = 0 := by simp [fF, hk2]
        omega
      · have := m fB
        have a1 : fB ⟨kind, mode, L, 0, [], 0, !decide ([] = L)⟩ ≤ if kind = 2 then 0 else L.length := by
          unfold fB
          by_cases h : kind = 2
          · simp [h]
          · rw [if_neg h]; split <;> simp
        have a2 : fB r' = 0 := by simp [fB, hk2]
        omega
theorem adds_editE {p : PTr} {s : List UInt8} {kind mode : Int} {L : List UInt8} (hk : p.rc.kind = 2) : Adds (edF kind) (edB kind L) p.recs (p.editE s kind mode L).2.recs := by
  unfold PTr.editE
  by_cases e1 : kind = 1
  · rw [if_pos e1]
    have := adds_put (p := p) (s := s) (kind := 1) (mode := mode) (L := L) hk (fun e => by cases e)
    simpa [edF, edB, e1] using this
  rw [if_neg e1]
  by_cases e2 : kind = 2
  · rw [if_pos e2]
    have := adds_put (p := p) (s := s) (kind := 2) (mode := mode) (L := []) hk (fun _ => rfl)
    simpa [edF, edB, e2] using this
  rw [if_neg e2]
  by_cases e3 : kind = 3
  · rw [if_pos e3]
    by_cases hl : 120 < L.length
    · rw [if_pos hl]; exact Adds.same _ _ _
    · rw [if_neg hl]
      have := adds_put (p := p) (s := s) (kind := 3) (mode := 0) (L := L) hk (fun e => by cases e)
      simpa [edF, edB, e3] using this
  rw [if_neg e3]
  by_cases e4 : kind = 4
  · rw [if_pos e4]
    unfold PTr.setM
    cases hg : p.ks.get s with
    | some u =>
      simp only
      by_cases h3 : u.rc.kind = 3
      · rw [if_pos h3]; exact Adds.same _ _ _
      · rw [if_neg h3]
        obtain ⟨u', hu'⟩ : ∃ u', ({ u.rc with mode := mode } : NRec) = u' := ⟨_, rfl⟩
        rw [hu']
        have e5 : fD u' = fD u.rc ∧ fF u' = fF u.rc ∧ fB u' = fB u.rc := by rw [← hu']; exact ⟨rfl, rfl, rfl⟩
        have m := fun f => mu_set f (u := .node u' u.ks) hg
        simp only [recs_ks u, PTr.recs, muL_cons] at m
        have m1 := m fD
        have m2 := m fF
        have m3 := m fB
        simp only [Adds, recs_ks p, PTr.recs, muL_cons]
        exact ⟨by omega, by omega, by omega⟩
    | none => exact Adds.same _ _ _
  · rw [if_neg e4]
    unfold PTr.dropP
    cases hg : p.ks.get s with
    | some u =>
      obtain ⟨r', hr'⟩ : ∃ r', ({ p.rc with fresh := true } : NRec) = r' := ⟨_, rfl⟩
      simp only
      rw [hr']
      have hk2 : r'.kind = 2 := by rw [← hr']; exact hk
      have m := fun f => mu_del f p.ks s
      have a1 : fD r' ≤ 1 := by unfold fD; split <;> omega
      have a2 : fF r' = 0 := by simp [fF, hk2]
      have a3 : fB r' = 0 := by simp [fB, hk2]
      have m1 := m fD
      have m2 := m fF
      have m3 := m fB
      simp only [Adds, recs_ks p, PTr.recs, muL_cons]
      exact ⟨by omega, by omega, by omega⟩
    | none => exact Adds.same _ _ _
theorem adds_edit (t : PTr) (kind mode : Int) (path L : List UInt8) : Adds (edF kind) (edB kind L) t.recs (t.edit kind mode path L).2.recs := by
  unfold PTr.edit
  split
  · exact Adds.same _ _ _
  cases pathO path with
  | none => exact Adds.same _ _ _
  | some ns =>
    simp only
    cases ns.getLast? with
    | none =>
      obtain ⟨r, k⟩ := t
      simp only [PTr.editR]
      split
      · exact Adds.same _ _ _
      split
      · exact Adds.same _ _ _
      · have e1 : fD { r with mode := mode } = fD r ∧ fF { r with mode := mode } = fF r ∧ fB { r with mode := mode } = fB r := ⟨rfl, rfl, rfl⟩
        simp only [Adds, PTr.recs, muL_cons, PTr.rc, PTr.ks, e1.1, e1.2.1, e1.2.2]
        exact ⟨by omega, by omega, by omega⟩
    | some s =>
      simp only
      obtain ⟨c, o, hf⟩ : ∃ c o, folP t ns.dropLast = (c, o) := ⟨_, _, rfl⟩
      rw [hf]
      cases o with
      | none => exact Adds.same _ _ _
      | some p =>
        simp only
        split
        · rename_i hk
          have hf2 : (folP t ns.dropLast).2 = some p := by rw [hf]
          have m := fun f => mu_put f ns.dropLast (u := (p.editE s kind mode L).2) hf2
          obtain ⟨a1, a2, a3⟩ := adds_editE (s := s) (kind := kind) (mode := mode) (L := L) hk
          have m1 := m fD
          have m2 := m fF
          have m3 := m fB
          show muL fD (t.putP ns.dropLast (p.editE s kind mode L).2).recs ≤ _ ∧ muL fF (t.putP ns.dropLast (p.editE s kind mode L).2).recs ≤ _ ∧ muL fB (t.putP ns.dropLast (p.editE s kind mode L).2).recs ≤ _
          exact ⟨by omega, by omega, by omega⟩
        · exact Adds.same _ _ _
mutual
theorem plain_mu (t : PTr) : muL fD t.plain.recs = 0 ∧ muL fF t.plain.recs = 0 ∧ muL fB t.plain.recs = 0 := by
  match t with
  | .node r k =>
    have := plain_muK k
    simp only [PTr.plain, PTr.recs, muL_cons]
    simp [fD, fF, fB, this.1, this.2.1, this.2.2]
theorem plain_muK (k : PKs) : muL fD k.plain.recs = 0 ∧ muL fF k.plain.recs = 0 ∧ muL fB k.plain.recs = 0 := by
  match k with
  | .nil => exact ⟨rfl, rfl, rfl⟩
  | .cons s t k =>
    have h1 := plain_mu t
    have h2 := plain_muK k
    simp [PKs.plain, PKs.recs, muL_app, h1.1, h1.2.1, h1.2.2, h2.1, h2.2.1, h2.2.2]
end
mutual
theorem plain_al (t : PTr) : Al t.recs t.plain.recs := by
  match t with
  | .node r k => exact .chg rfl rfl rfl (plain_alK k)
theorem plain_alK (k : PKs) : Al k.recs k.plain.recs := by
  match k with
  | .nil => exact .nil
  | .cons s t k => exact (plain_al t).append (plain_alK k)
end
mutual
theorem plain_fine {t : PTr} (h : t.fine) : t.plain.fine := by
  match t, h with
  | .node r k, h =>
    have hl : k.plain.len = k.len := plain_len k
    exact ⟨h.1, by rw [hl]; exact h.2.1, fun hh => by rw [h.2.2.1 hh]; rfl, plain_fineK h.2.2.2⟩
theorem plain_fineK {k : PKs} (h : k.fine) : k.plain.fine := by
  match k, h with
  | .nil, _ => trivial
  | .cons s t k, h => exact ⟨h.1, plain_fine h.2.1, plain_fineK h.2.2⟩
theorem plain_len (k : PKs) : k.plain.len = k.len := by
  match k with
  | .nil => rfl
  | .cons s t k => simp [PKs.plain, PKs.len, plain_len k]
end
theorem Al.few {l l' : List NRec} (h : Al l l') (B : Nat) (hl : ∀ r ∈ l, r.blocks.length ≤ B) : ∀ r ∈ l', r.blocks.length ≤ B := by
  induction h with
  | nil => exact hl
  | @chg r r' _ _ _ h2 _ _ ih =>
    intro x hx
    rcases List.mem_cons.1 hx with rfl | hx
    · rw [h2]; exact hl r (by simp)
    · exact ih (fun y hy => hl y (by simp [hy])) x hx
  | del _ ih => exact ih (fun y hy => hl y (by simp [hy]))
  | @new x _ _ _ h2 _ _ ih =>
    intro y hy
    rcases List.mem_cons.1 hy with rfl | hy
    · rw [h2]; simp
    · exact ih hl y hy
/-- A row of edits, one behind the other, up to the first that is refused. -/
structure EdP where
  kind : Int
  mode : Int
  path : List UInt8
  bytes : List UInt8
def PTr.edits : PTr → List EdP → Int × PTr
  | t, [] => (0, t)
  | t, x :: l => if (t.edit x.kind x.mode x.path x.bytes).1 = 0 then (t.edit x.kind x.mode x.path x.bytes).2.edits l else t.edit x.kind x.mode x.path x.bytes
theorem edits_few (B : Nat) : ∀ (l : List EdP) (t : PTr), (∀ r ∈ t.recs, r.blocks.length ≤ B) → ∀ r ∈ (t.edits l).2.recs, r.blocks.length ≤ B
  | [], _, h => h
  | x :: l, t, h => by
    have h1 := (al_edit t x.kind x.mode x.path x.bytes).few B h
    simp only [PTr.edits]
    split
    · exact edits_few B l _ h1
    · exact h1
def edsB : List EdP → Nat
  | [] => 0
  | x :: l => edB x.kind x.bytes + edsB l
theorem edits_all : ∀ (l : List EdP) (t : PTr), t.fine → t.rc.kind = 2 → (∀ x ∈ l, x.kind = 1 ∨ x.kind = 3 → x.bytes.length ≤ 2432) →
    (t.edits l).2.fine ∧ (t.edits l).2.rc.kind = 2 ∧ (t.edits l).2.rc.slot = t.rc.slot ∧ (slotsR (t.edits l).2.recs).Sublist (slotsR t.recs) ∧ (blksR (t.edits l).2.recs).Sublist (blksR t.recs) ∧
      muL fD (t.edits l).2.recs ≤ muL fD t.recs + l.length ∧ muL fF (t.edits l).2.recs ≤ muL fF t.recs + l.length ∧ muL fB (t.edits l).2.recs ≤ muL fB t.recs + edsB l
  | [], t, h, hr, _ => ⟨h, hr, rfl, List.Sublist.refl _, List.Sublist.refl _, by simp [PTr.edits], by simp [PTr.edits], by simp [PTr.edits, edsB]⟩
  | x :: l, t, h, hr, hb => by
    have h1 := fine_edit (t := t) (kind := x.kind) (mode := x.mode) (path := x.path) h (hb x (by simp)) hr
    have h2 := edit_head t x.kind x.mode x.path x.bytes
    have h3 := al_edit t x.kind x.mode x.path x.bytes
    obtain ⟨a1, a2, a3⟩ := adds_edit t x.kind x.mode x.path x.bytes
    have ef : edF x.kind ≤ 1 := by unfold edF; split <;> omega
    simp only [PTr.edits, edsB, List.length_cons]
    split
    · obtain ⟨i1, i2, i3, i4, i5, i6, i7, i8⟩ := edits_all l (t.edit x.kind x.mode x.path x.bytes).2 h1 (h2.2.trans hr) (fun y hy => hb y (by simp [hy]))
      exact ⟨i1, i2, i3.trans h2.1, i4.trans h3.slots, i5.trans h3.blks, by omega, by omega, by omega⟩
    · exact ⟨h1, h2.2.trans hr, h2.1, h3.slots, h3.blks, by omega, by omega, by omega⟩
end Go.Proofs.YtiedoocgbajjjaaGreatDoor

/-
  Layer 13: statements as a list; words that a text may hold; what may be, may be by less. No program text.
  Conditions: those that each theorem states.
-/
import Derived.Test.YtfpdgdacifiejaaGreatWTop
namespace Go.Proofs.YtfpdgdacifiejaaGreat

def SlT.ls : SlT → List StT
  | .nil => []
  | .cons s l => s :: l.ls
/-- A word that a text may hold. -/
def TkC (t : Tok) : Prop := TkOk t ∧ (covT t).length ≤ 65536
theorem TkC.ok {t : Tok} (h : TkC t) : TkOk t := h.1
theorem cov_ge (t : Tok) : t.tx.length ≤ (covT t).length := by
  unfold covT covO
  split
  · simp
  · split
    · simp; omega
    · split
      · simp; omega
      · exact Nat.le_refl _
theorem TkC.len {t : Tok} (h : TkC t) : t.tx.length ≤ 65536 := Nat.le_trans (cov_ge t) h.2
theorem VT.okm {P Q : Tok → Prop} (hpq : ∀ t, P t → Q t) : ∀ (t : VT), t.Ok P → t.Ok Q
  | .leaf _ _, h => ⟨h.1, hpq _ h.2⟩
  | .tf _, _ => trivial
  | .neg v, h => VT.okm hpq v h
  | .op _ a b, h => ⟨h.1, VT.okm hpq a h.2.1, VT.okm hpq b h.2.2⟩
theorem PmT.okm {P Q : Tok → Prop} (hpq : ∀ t, P t → Q t) (p : PmT) (h : PmT.Ok P p) : PmT.Ok Q p := ⟨hpq _ h.1, fun v hv => VT.okm hpq v (h.2 v hv)⟩
theorem AtT.okm {P Q : Tok → Prop} (hpq : ∀ t, P t → Q t) (p : AtT) (h : AtT.Ok P p) : AtT.Ok Q p := ⟨h.1, hpq _ h.2.1, VT.okm hpq _ h.2.2⟩
theorem rf_okm {P Q : Tok → Prop} (hpq : ∀ t, P t → Q t) (p : AtT) (h : rfOk P p) : rfOk Q p := ⟨hpq _ h.1, VT.okm hpq _ h.2⟩
theorem ar_okm {P Q : Tok → Prop} (hpq : ∀ t, P t → Q t) (p : ArT) (h : arOk P p) : arOk Q p := ⟨h.1, rf_okm hpq _ h.2⟩
mutual
theorem StT.okm {P Q : Tok → Prop} (hpq : ∀ t, P t → Q t) : ∀ (t : StT), t.Ok P → t.Ok Q
  | .decl _ _ _ b, h => ⟨h.1, h.2.1, hpq _ h.2.2.1, fun p hp => PmT.okm hpq p (h.2.2.2.1 p hp), SlT.okm hpq b h.2.2.2.2⟩
  | .incl _, h => ⟨h.1, hpq _ h.2⟩
  | .set _ v, h => ⟨hpq _ h.1, VT.okm hpq v h.2⟩
  | .cond v b, h => ⟨VT.okm hpq v h.1, SlT.okm hpq b h.2⟩
  | .condE v b e, h => ⟨VT.okm hpq v h.1, SlT.okm hpq b h.2.1, SlT.okm hpq e h.2.2⟩
  | .res _ v _, h => ⟨h.1, hpq _ h.2.1, VT.okm hpq v h.2.2.1, fun a ha => AtT.okm hpq a (h.2.2.2 a ha)⟩
  | .chain r _, h => ⟨rf_okm hpq r h.1, h.2.1, fun a ha => ar_okm hpq a (h.2.2 a ha)⟩
theorem SlT.okm {P Q : Tok → Prop} (hpq : ∀ t, P t → Q t) : ∀ (t : SlT), t.Ok P → t.Ok Q
  | .nil, _ => trivial
  | .cons s l, h => ⟨StT.okm hpq s h.1, SlT.okm hpq l h.2⟩
end
/-- The words of a text are no longer than it. -/
theorem lex_short : ∀ (k : Nat) (l : List UInt8) (n : Nat), l.length ≤ k → ∀ u ∈ (lexL l n).1, (covO u).length ≤ l.length
  | 0, l, n, h, u, hu => by
    have : l = [] := List.eq_nil_of_length_eq_zero (by omega)
    subst this
    rw [lexL_nil] at hu
    simp at hu
  | k + 1, l, n, h, u, hu => by
    by_cases h0 : l = []
    · subst h0
      rw [lexL_nil] at hu
      simp at hu
    have hl : 0 < l.length := List.length_pos_iff.2 h0
    by_cases hz : (pcO l).sz = 0
    · rw [lexL_err h0 hz] at hu
      simp at hu
    have hz' : 0 < (pcO l).sz := by omega
    have hd : (l.drop (pcO l).sz).length ≤ k := by rw [List.length_drop]; omega
    by_cases hk : (pcO l).kd = 0
    · rw [lexL_skip h0 hz' hk] at hu
      have := lex_short k _ _ hd u hu
      rw [List.length_drop] at this
      omega
    · rw [lexL_word h0 hz' hk] at hu
      rcases List.mem_cons.1 hu with rfl | hu
      · have e := cov_take l h0 hz' hk n
        rw [e, List.length_take]
        omega
      · have := lex_short k _ _ hd u hu
        rw [List.length_drop] at this
        omega
theorem lxW_tkc (L : List UInt8) : ∀ w ∈ ((lexL L 0).1.map tkW), L.length ≤ 65536 → TkC w := by
  intro w hw hl
  refine ⟨lex_tk L 0 w hw, ?_⟩
  obtain ⟨u, hu, rfl⟩ := List.mem_map.1 hw
  have := lex_short L.length L 0 (Nat.le_refl _) u hu
  have e : covT (tkW u) = covO u := by
    unfold covT tkW
    simp only [Int.toNat_natCast]
    rfl
  rw [e]
  omega
end Go.Proofs.YtfpdgdacifiejaaGreat

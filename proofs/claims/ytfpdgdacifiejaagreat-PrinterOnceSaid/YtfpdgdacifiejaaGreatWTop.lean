/-
  Layer 13: a manifest that was read, printed, cut and read again is the same. No program text.
  Conditions: those that each theorem states.
-/
import Derived.Test.YtfpdgdacifiejaaGreatWLex
namespace Go.Proofs.YtfpdgdacifiejaaGreat

theorem sep_few {α : Type} {ws : α → List Tok} {sz : α → Nat} (h : ∀ a, (ws a).length + 1 ≤ 4 * sz a) : ∀ l : List α, (sepW (l.map ws)).length ≤ 4 * szL sz l
  | [] => by simp [sepW]
  | [a] => by have := h a; simp [sepW, szL]; omega
  | a :: b :: r => by
    have := h a
    have := sep_few h (b :: r)
    simp [sepW, szL] at this ⊢
    omega
theorem pm_few (p : PmT) : p.ws.length + 1 ≤ 4 * p.size := by
  obtain ⟨x, o⟩ := p
  cases o with
  | none => simp [PmT.ws, PmT.size]
  | some v => have := v.few; simp [PmT.ws, PmT.size]; omega
theorem at_few (p : AtT) : p.ws.length + 1 ≤ 4 * p.size := by
  have := p.2.few
  simp [AtT.ws, AtT.size]
  omega
theorem rf_few (p : AtT) : (rfWs p).length ≤ 4 * p.size := by
  have := p.2.few
  simp [rfWs, AtT.size]
  omega
theorem ars_few : ∀ l : List ArT, ((l.map arWs).flatten).length ≤ 4 * szL arSz l
  | [] => by simp
  | a :: l => by
    have := ars_few l
    have := rf_few a.2
    simp only [List.map_cons, List.flatten_cons, List.length_append, szL, arSz, arWs, List.length_cons] at *
    omega
mutual
theorem StT.few : ∀ t : StT, t.ws.length ≤ 4 * t.size
  | .decl k tx ps b => by
    have h1 := b.few
    have h2 := sep_few pm_few ps
    have h3 : (psWs ps).length ≤ 4 * szL PmT.size ps + 2 := by
      unfold psWs
      split
      · simp
      · simp; omega
    simp [StT.ws, StT.size]
    omega
  | .incl tx => by simp [StT.ws, StT.size]
  | .set tx v => by have := v.few; simp [StT.ws, StT.size]; omega
  | .cond v b => by have := v.few; have := b.few; simp [StT.ws, StT.size]; omega
  | .condE v b e => by have := v.few; have := b.few; have := e.few; simp [StT.ws, StT.size]; omega
  | .res tx v ats => by
    have := v.few
    have := sep_few at_few ats
    simp [StT.ws, StT.size]
    omega
  | .chain r l => by
    have h1 := rf_few r
    have h2 := ars_few l
    simp only [StT.ws, StT.size, List.length_append]
    omega
theorem SlT.few : ∀ b : SlT, b.ws.length ≤ 4 * b.size
  | .nil => by simp [SlT.ws]
  | .cons s l => by have := s.few; have := l.few; simp [SlT.ws, SlT.size]; omega
end
theorem topL_len (b : SlT) : (topL b).length = b.size + 1 := by simp [topL, b.len]
/-- A tree's words are read as that tree. -/
theorem par_back {P : Tok → Prop} {b : SlT} (h : b.Ok P) (h1 : (topL b).length ≤ 1024) (h2 : depN (topL b) ≤ 32) : parO b.ws = (topL b, 0, 0) := by
  have hf := b.few
  rw [topL_len] at h1
  have ht := top_back (P := P) 5000 b 5000 [] [] h (by omega) (by omega)
  unfold parO
  rw [if_neg (by omega), ht]
  simp only [List.nil_append, List.length_nil]
  have e : b.lay 0 ++ [(⟨1, [], b.idx 0⟩ : Nod)] = topL b := rfl
  rw [e, if_neg (by rw [topL_len]; omega)]
/-- Read, printed, cut, read again. -/
theorem print_back {l : List Tok} (h : (parO l).2.2 = 0) (hw : ∀ w ∈ l, TkOk w) :
    ∃ b : SlT, b.Ok TkOk ∧ (parO l).1 = topL b ∧ (lexL (b.txt []) 0).2 = none ∧ parO ((lexL (b.txt []) 0).1.map tkW) = (topL b, 0, 0) := by
  obtain ⟨b, h1, h2, h3, h4⟩ := par_tree TkOk h hw
  obtain ⟨h5, h6⟩ := top_lx b h1
  exact ⟨b, h1, h2, h5, by rw [h6]; exact par_back h1 h3 h4⟩
/-- The words of a text are such. -/
theorem lex_tk (l : List UInt8) (n : Nat) : ∀ w ∈ ((lexL l n).1.map tkW), TkOk w := by
  intro w hw
  obtain ⟨u, hu, rfl⟩ := List.mem_map.1 hw
  exact ⟨u.kd, rfl, lex_wok l n u hu⟩
end Go.Proofs.YtfpdgdacifiejaaGreat

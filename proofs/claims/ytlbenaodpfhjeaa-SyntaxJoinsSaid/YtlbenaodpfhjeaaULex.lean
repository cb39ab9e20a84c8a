/-
  Layer 11: the program's Lex.
  Conditions: those that each theorem states.
-/
import Derived.Test.YtlbenaodpfhjeaaUPc
import Derived.Test.YtlbenaodpfhjeaaUMem
import Derived.Test.YtlbenaodpfhjeaaPReg
import Derived.Test.YtlbenaodpfhjeaaZReg
import Derived.Test.YtlbenaodpfhjeaaSKit
import Derived.Deep.DeepCutAuto
import Derived.OwnWalk
namespace Go.Proofs.Ytlbenaodpfhjeaa
open Go.RowKit Go.Maps

/-- The words of a text, or none; where it can't go on; the error. -/
def lxW (L : List UInt8) : List Wd := if 65536 < L.length then [] else if (lexL L 0).2 = none then (lexL L 0).1 else []
def lxA (L : List UInt8) : Nat := if 65536 < L.length then 0 else (lexL L 0).2.getD 0
def lxE (L : List UInt8) : Nat := if 65536 < L.length then 5 else if (lexL L 0).2 = none then 0 else 110
def LexOut (L : List UInt8) (w : World) (e : Ending) (w' : World) : Prop :=
  ∃ v, e = .returned (.tuple #[v, .int .i64 (lxA L : Int), .int .i64 (lxE L : Int)]) ∧ OwnW w.heap.size w' v (lxW L) ∧ Kept [] w w'
theorem pc_in (l : List UInt8) (h0 : 0 < (pcO l).sz) : (pcO l).ah + (pcO l).bh ≤ (pcO l).sz ∧ (pcO l).ah ≤ 1 ∧ (pcO l).bh ≤ 1 ∧ (pcO l).kd ≤ 7 := by
  unfold pcO at h0 ⊢
  generalize hdC l = c at *
  have hq : 0 < quoN l → 2 ≤ quoN l := fun h => (quo_end l h).2.1
  by_cases c1 : c = 1
  · subst c1; exact ⟨by simp [cutO], by simp [cutO], by simp [cutO], by simp [cutO]⟩
  by_cases c2 : c = 2
  · subst c2; exact ⟨by simp [cutO], by simp [cutO], by simp [cutO], by simp [cutO]⟩
  by_cases c3 : c = 3
  · subst c3; exact ⟨by simp [cutO], by simp [cutO], by simp [cutO], by simp [cutO]⟩
  by_cases c4 : c = 4
  · subst c4; exact ⟨by simp [cutO], by simp [cutO], by simp [cutO], by simp [cutO]⟩
  by_cases c5 : c = 5
  · subst c5; exact ⟨by simp [cutO], by simp [cutO], by simp [cutO], by simp [cutO]⟩
  by_cases c7 : c = 7
  · subst c7
    simp [cutO] at h0 ⊢
    omega
  by_cases c8 : c = 8
  · subst c8
    simp [cutO] at h0 ⊢
    exact hq h0
  by_cases c9 : c = 9
  · subst c9
    simp [cutO] at h0 ⊢
    exact hq h0
  · exact ⟨by simp [cutO, c1, c2, c3, c4, c5, c7, c8, c9], by simp [cutO, c1, c2, c3, c4, c5, c7, c8, c9], by simp [cutO, c1, c2, c3, c4, c5, c7, c8, c9], by simp [cutO, c1, c2, c3, c4, c5, c7, c8, c9]⟩
/-- A place at which a piece ends. -/
def EdgeAt (S : ByteArray) (e : Nat) : Prop := e = S.size ∨ (∃ h1 : e - 1 < S.size, (S[e - 1]'h1).toNat < 128) ∨ (∃ h1 : e < S.size, (S[e]'h1).toNat < 128)
theorem edge_of (S : ByteArray) (k : Nat) (hk : k < S.size) (h0 : 0 < (pcO ((bl S).drop k)).sz) : k + (pcO ((bl S).drop k)).sz ≤ S.size ∧ EdgeAt S (k + (pcO ((bl S).drop k)).sz) := by
  have hne : (bl S).drop k ≠ [] := by
    intro e
    have := congrArg List.length e
    rw [List.length_drop, bl_len] at this
    simp at this
    omega
  have hle := pc_le _ hne
  have hed := pc_edge _ hne h0
  generalize (pcO ((bl S).drop k)).sz = n at *
  have hlen : ((bl S).drop k).length = S.size - k := by rw [List.length_drop, bl_len]
  rw [hlen] at hle
  refine ⟨by omega, ?_⟩
  unfold EdgeAt
  rcases hed with h | ⟨h1, h2⟩ | ⟨h1, h2⟩
  · left; omega
  · right; left
    refine ⟨by omega, ?_⟩
    rw [List.getElem_drop] at h2
    simp only [show k + (n - 1) = k + n - 1 by omega] at h2
    exact h2
  · right; right
    refine ⟨by omega, ?_⟩
    rw [List.getElem_drop] at h2
    exact h2
/-- How far Lex is: the words so far, and what is left. -/
structure LxSt (S : ByteArray) (k en : Nat) (ws : List Wd) : Prop where
  le : k ≤ en
  top : en ≤ S.size
  edge : k < en → EdgeAt S en
  few : ws.length ≤ en
  all : lexL (bl S) 0 = (ws ++ (lexL ((bl S).drop en) en).1, (lexL ((bl S).drop en) en).2)
theorem LxSt.first (S : ByteArray) : LxSt S 0 0 [] := ⟨Nat.le_refl _, Nat.zero_le _, fun h => absurd h (by omega), Nat.le_refl _, by simp⟩
theorem LxSt.over {S : ByteArray} {k en : Nat} {ws : List Wd} (h : LxSt S k en ws) (hk : k < en) : LxSt S (k + (Utf8.decode S k).2) en ws :=
  ⟨dec_edge S k en hk h.top (h.edge hk), h.top, fun _ => h.edge hk, h.few, h.all⟩
theorem drop_ne {S : ByteArray} {k : Nat} (hk : k < S.size) : (bl S).drop k ≠ [] := by
  intro e
  have := congrArg List.length e
  rw [List.length_drop, bl_len] at this
  simp at this
  omega
theorem LxSt.bad {S : ByteArray} {k : Nat} {ws : List Wd} (h : LxSt S k k ws) (hk : k < S.size) (h0 : (pcO ((bl S).drop k)).sz = 0) : (lexL (bl S) 0).2 = some k := by
  rw [h.all, lexL_err (drop_ne hk) h0]
theorem LxSt.skip {S : ByteArray} {k : Nat} {ws : List Wd} (h : LxSt S k k ws) (hk : k < S.size) (h0 : (pcO ((bl S).drop k)).sz ≠ 0) (hz : (pcO ((bl S).drop k)).kd = 0) : LxSt S (k + (Utf8.decode S k).2) (k + (pcO ((bl S).drop k)).sz) ws := by
  obtain ⟨h1, h2⟩ := edge_of S k hk (by omega)
  refine ⟨dec_edge S k _ (by omega) h1 h2, h1, fun _ => h2, by have := h.few; omega, ?_⟩
  rw [h.all, lexL_skip (drop_ne hk) (by omega) hz, List.drop_drop]
theorem LxSt.word {S : ByteArray} {k : Nat} {ws : List Wd} (h : LxSt S k k ws) (hk : k < S.size) (h0 : (pcO ((bl S).drop k)).sz ≠ 0) (hz : (pcO ((bl S).drop k)).kd ≠ 0) :
    LxSt S (k + (Utf8.decode S k).2) (k + (pcO ((bl S).drop k)).sz) (ws ++ [⟨(pcO ((bl S).drop k)).kd, txO ((bl S).drop k) (pcO ((bl S).drop k)), k⟩]) := by
  obtain ⟨h1, h2⟩ := edge_of S k hk (by omega)
  refine ⟨dec_edge S k _ (by omega) h1 h2, h1, fun _ => h2, by have := h.few; simp; omega, ?_⟩
  rw [h.all, lexL_word (drop_ne hk) (by omega) hz, List.drop_drop]
  simp
theorem LxSt.done {S : ByteArray} {k en : Nat} {ws : List Wd} (h : LxSt S k en ws) (hk : S.size ≤ k) : lexL (bl S) 0 = (ws, none) := by
  have : en = S.size := by have := h.le; have := h.top; omega
  rw [h.all, this, List.drop_of_length_le (by rw [bl_len]; omega), lexL_nil]
  simp
theorem tx_bl (S : ByteArray) (k : Nat) (p : Pc) (hp : p.ah + p.bh ≤ p.sz) : bl (S.extract (k + p.ah) (k + p.sz - p.bh)) = txO ((bl S).drop k) p := by
  rw [bl_ext]
  unfold txO
  rw [List.drop_drop, show k + p.sz - p.bh - (k + p.ah) = p.sz - p.bh - p.ah by omega]
theorem OwnW.iterAt {base : Nat} {w : World} {v : Value} {l : List Wd} (h : OwnW base w v l) {k : Nat} {s : ByteArray} {pos : Nat} (hk : w.heap[k]? = some (.stringIter s pos)) (pos' : Nat) : OwnW base (w.iterAt k s pos') v l := by
  refine ⟨⟨h.1.1, ?_⟩, h.2⟩
  rcases h.1.2 with h0 | ⟨g, cap, cur, hv, hb, hg, rest⟩
  · exact .inl h0
  · refine .inr ⟨g, cap, cur, hv, hb, ?_, rest⟩
    rw [Lib.iterAt_other _ _ _ _ _ (fun e => by subst e; rw [hk] at hg; cases hg)]
    exact hg
theorem OwnW.ne_iter {base : Nat} {w : World} {v : Value} {l : List Wd} (h : OwnW base w v l) {k : Nat} {s : ByteArray} {pos : Nat} (hk : w.heap[k]? = some (.stringIter s pos)) : k ∉ v.ownBlock.toList := by
  rcases h.1.2 with ⟨rfl, _⟩ | ⟨g, cap, cur, rfl, hb, hg, rest⟩
  · simp [Value.ownBlock]
  · intro e
    simp [Value.ownBlock] at e
    subst e
    rw [hk] at hg
    cases hg

end Go.Proofs.Ytlbenaodpfhjeaa

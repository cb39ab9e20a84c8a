/-
  Layer 4: rows of nodes' answers, and of texts, of the call's own.
  Conditions: those that each theorem states.
-/
import Derived.Test.YtiedoocgbajjjaaGreatDoorLProof
namespace Go.Proofs.YtiedoocgbajjjaaGreatDoor
open Go.RowKit Go.Maps
set_option maxRecDepth 100000

structure N3 where
  a : Int
  b : Int
  c : Int
def N3.v (x : N3) : Value := .agg #[.int .i64 x.a, .int .i64 x.b, .int .i64 x.c]
def n3v : List N3 → List Value
  | [] => []
  | x :: l => .int .i64 x.a :: .int .i64 x.b :: .int .i64 x.c :: n3v l
theorem n3v_get : ∀ (l : List N3) (k : Nat) (hk : k < l.length), (n3v l)[3 * k]? = some (.int .i64 l[k].a) ∧ (n3v l)[3 * k + 1]? = some (.int .i64 l[k].b) ∧ (n3v l)[3 * k + 2]? = some (.int .i64 l[k].c)
  | x :: l, 0, _ => ⟨rfl, rfl, rfl⟩
  | x :: l, k + 1, hk => by
    have := n3v_get l k (by simpa using hk)
    rw [show 3 * (k + 1) = 3 * k + 3 by omega, show 3 * k + 3 + 1 = 3 * k + 1 + 3 by omega, show 3 * k + 3 + 2 = 3 * k + 2 + 3 by omega]
    simpa [n3v] using this
theorem n3v_append : ∀ l m : List N3, n3v (l ++ m) = n3v l ++ n3v m
  | [], _ => rfl
  | x :: l, m => by simp [n3v, n3v_append l m]
theorem n3v_one : ∀ (l : List N3), ∀ u ∈ n3v l, u.oneCell' = true
  | [], u, hu => by simp [n3v] at hu
  | x :: l, u, hu => by
    simp only [n3v, List.mem_cons] at hu
    rcases hu with rfl | rfl | rfl | hu
    · rfl
    · rfl
    · rfl
    · exact n3v_one l u hu
theorem elemN3 : ElemOk Tryz.prog 53 48 (.agg #[.int .i64 0, .int .i64 0, .int .i64 0]) 3 24 := ⟨Tryz.underlying53, by kernel_rfl, rfl, by omega⟩
def OwnN3 (base : Nat) (w : World) (v : Value) (l : List N3) : Prop := w.ownsRow base 48 3 v l.length (n3v l)
theorem OwnN3.empty (w : World) (base : Nat) (hb : base ≤ w.heap.size) : OwnN3 base (w.alloc (.cells #[] 48)) (.slice (some ⟨w.heap.size, 0, none⟩) 0 0) [] :=
  ⟨rfl, .inr ⟨w.heap.size, 0, #[], rfl, hb, heap_alloc_last _ _, Nat.le_refl _, by unfold maxLen; omega, rfl, rfl⟩⟩
theorem OwnN3.kept {base : Nat} {w w' : World} {v : Value} {l : List N3} (h : OwnN3 base w v l) {ex : List Nat} (hk : Kept ex w w') (hne : ∀ k, v.ownBlock = some k → k ∉ ex) : OwnN3 base w' v l := owns_kept h hk hne
theorem OwnN3.lt {base : Nat} {w : World} {v : Value} {l : List N3} (h : OwnN3 base w v l) {q : Nat} (hq : v.ownBlock = some q) : base ≤ q ∧ q < w.heap.size := World.ownsRow.lt h q hq
theorem OwnN3.at' {base : Nat} {w : World} {v : Value} {l : List N3} (h : OwnN3 base w v l) : ∃ ao cap, v = .slice ao l.length cap ∧ ∀ k (hk : k < l.length), ∃ b, ao = some ⟨b, 0, none⟩ ∧ b < w.heap.size ∧ base ≤ b ∧
    w.cell? ⟨b, k * 3, none⟩ = some (.int .i64 l[k].a) ∧ w.cell? ⟨b, k * 3 + 1, none⟩ = some (.int .i64 l[k].b) ∧ w.cell? ⟨b, k * 3 + 2, none⟩ = some (.int .i64 l[k].c) := by
  obtain ⟨h1, ⟨rfl, h2⟩ | ⟨g, cap, cur, rfl, hb, hg, hc1, hc2, hcs, htk⟩⟩ := h
  · exact ⟨none, 0, by rw [h2], fun k hk => by omega⟩
  · refine ⟨_, cap, rfl, fun k hk => ⟨g, rfl, (Array.getElem?_eq_some_iff.1 hg).1, hb, ?_⟩⟩
    obtain ⟨e0, e1, e2⟩ := n3v_get l k hk
    have key : ∀ q u, (n3v l)[q]? = some u → w.cell? ⟨g, q, none⟩ = some u := fun q u hu => by
      rw [← htk] at hu
      have hq : q < l.length * 3 := by
        have := (List.getElem?_eq_some_iff.1 hu).1
        simp at this; omega
      rw [List.getElem?_take_of_lt hq] at hu
      rw [cell_of_row w g q _ _ _ hg]
      simpa using hu
    rw [show k * 3 = 3 * k by omega]
    exact ⟨key _ _ e0, key _ _ e1, key _ _ e2⟩
theorem OwnN3.blk {base : Nat} {w : World} {v : Value} {l : List N3} (h : OwnN3 base w v l) {q : Nat} (hq : v.ownBlock = some q) : ∃ cs, w.heap[q]? = some (.cells cs 48) := by
  obtain ⟨h1, ⟨rfl, h2⟩ | ⟨g, cap, cur, rfl, hb, hg, _⟩⟩ := h
  · cases hq
  · injection hq with hq
    subst hq
    exact ⟨_, hg⟩
theorem OwnN3.app {base : Nat} {w : World} {v : Value} {l : List N3} (h : OwnN3 base w v l) (hb : base ≤ w.heap.size) (x : N3) (hl : l.length < 1000) :
    ∃ v' w', (Builtin.append_ #[53, 53] 53 #[v, .slice (some ⟨w.heap.size, 0, none⟩) 1 1]).run Tryz.prog (w.alloc (.cells #[.int .i64 x.a, .int .i64 x.b, .int .i64 x.c] 48)) = .ok v' w' ∧ OwnN3 base w' v' (l ++ [x]) ∧ Kept v.ownBlock.toList w w' := by
  have hs0 : base ≤ (w.alloc (.cells #[.int .i64 x.a, .int .i64 x.b, .int .i64 x.c] 48)).heap.size := by rw [size_alloc]; omega
  obtain ⟨v', w', hrun, ho, hk, hor⟩ := own_app elemN3 53 (w.alloc (.cells #[.int .i64 x.a, .int .i64 x.b, .int .i64 x.c] 48)) base v l.length (n3v l) (World.ownsRow.alloc h _) ⟨w.heap.size, 0, none⟩ 1 1 (n3v [x]) rfl
    (fun j u hu => by
      rw [Addr.add_mid, Nat.zero_add, cell_of_row _ _ j _ _ _ (heap_alloc_last w _)]
      simpa [n3v] using hu) (n3v_one _) (by unfold maxLen; omega) (by omega) hs0
  refine ⟨v', w', hrun, ?_, ((Kept.alloc [] w _).mono (by simp)).trans hk⟩
  show w'.ownsRow _ _ _ _ _ _
  rw [List.length_append, n3v_append]
  exact ho

/-- Texts of the call's own. -/
def OwnTx (base : Nat) (w : World) (v : Value) (l : List (List UInt8)) : Prop := w.ownsRow base 9 1 v l.length (sv l)
theorem OwnTx.empty (w : World) (base : Nat) (hb : base ≤ w.heap.size) : OwnTx base (w.alloc (.cells #[] 9)) (.slice (some ⟨w.heap.size, 0, none⟩) 0 0) [] :=
  ⟨rfl, .inr ⟨w.heap.size, 0, #[], rfl, hb, heap_alloc_last _ _, Nat.le_refl _, by unfold maxLen; omega, rfl, rfl⟩⟩
theorem OwnTx.kept {base : Nat} {w w' : World} {v : Value} {l : List (List UInt8)} (h : OwnTx base w v l) {ex : List Nat} (hk : Kept ex w w') (hne : ∀ k, v.ownBlock = some k → k ∉ ex) : OwnTx base w' v l := owns_kept h hk hne
theorem OwnTx.lt {base : Nat} {w : World} {v : Value} {l : List (List UInt8)} (h : OwnTx base w v l) {q : Nat} (hq : v.ownBlock = some q) : base ≤ q ∧ q < w.heap.size := World.ownsRow.lt h q hq
theorem OwnTx.at' {base : Nat} {w : World} {v : Value} {l : List (List UInt8)} (h : OwnTx base w v l) : ∃ ao cap, v = .slice ao l.length cap ∧ ∀ k (hk : k < l.length), ∃ b, ao = some ⟨b, 0, none⟩ ∧ b < w.heap.size ∧ base ≤ b ∧ w.cell? ⟨b, k, none⟩ = some (.string (strL l[k])) := by
  rcases owns_range h with ⟨g, cap, rfl, hb, hg, _, _, hr⟩ | ⟨rfl, hn, _⟩
  · refine ⟨_, cap, rfl, fun k hk => ⟨g, rfl, hg, hb, ?_⟩⟩
    have := hr k _ (show (sv l)[k]? = some (.string (strL l[k])) by simp [sv, hk])
    simpa using this
  · exact ⟨none, 0, by rw [hn], fun k hk => by omega⟩
theorem OwnTx.blk {base : Nat} {w : World} {v : Value} {l : List (List UInt8)} (h : OwnTx base w v l) {q : Nat} (hq : v.ownBlock = some q) : ∃ cs, w.heap[q]? = some (.cells cs 9) := by
  obtain ⟨h1, ⟨rfl, h2⟩ | ⟨g, cap, cur, rfl, hb, hg, _⟩⟩ := h
  · cases hq
  · injection hq with hq
    subst hq
    exact ⟨_, hg⟩
theorem OwnTx.app {base : Nat} {w : World} {v : Value} {l : List (List UInt8)} (h : OwnTx base w v l) (hb : base ≤ w.heap.size) (x : List UInt8) (hl : l.length < 1000) :
    ∃ v' w', (Builtin.append_ #[44, 44] 44 #[v, .slice (some ⟨w.heap.size, 0, none⟩) 1 1]).run Tryz.prog (w.alloc (.cells #[.string (strL x)] 9)) = .ok v' w' ∧ OwnTx base w' v' (l ++ [x]) ∧ Kept v.ownBlock.toList w w' := by
  have hs0 : base ≤ (w.alloc (.cells #[.string (strL x)] 9)).heap.size := by rw [size_alloc]; omega
  obtain ⟨v', w', hrun, ho, hk, hor⟩ := own_app elemStr 44 (w.alloc (.cells #[.string (strL x)] 9)) base v l.length (sv l) (World.ownsRow.alloc h _) ⟨w.heap.size, 0, none⟩ 1 1 (sv [x]) rfl
    (fun j u hu => by
      rw [Addr.add_mid, Nat.zero_add, cell_of_row _ _ j _ _ _ (heap_alloc_last w _)]
      simpa [sv] using hu) (sv_one _) (by unfold maxLen; omega) (by omega) hs0
  refine ⟨v', w', hrun, ?_, ((Kept.alloc [] w _).mono (by simp)).trans hk⟩
  show w'.ownsRow _ _ _ _ _ _
  have e : sv (l ++ [x]) = sv l ++ sv [x] := by simp [sv]
  rw [List.length_append, e]
  exact ho
theorem sep_rows {base : Nat} {w : World} {v u : Value} {l : List N3} {m : List (List UInt8)} (h : OwnN3 base w v l) (g : OwnTx base w u m) : ∀ q, v.ownBlock = some q → u.ownBlock ≠ some q := fun q h1 h2 => by
  obtain ⟨cs, hc⟩ := h.blk h1
  obtain ⟨cs', hc'⟩ := g.blk h2
  rw [hc] at hc'
  injection hc' with hc'
  injection hc' with _ h3
  exact absurd h3 (by decide)
/-- What Stat answers, as three numbers. -/
def statN (o : Option PTr) : N3 := match o with
  | none => ⟨0, 0, 0⟩
  | some u => ⟨u.rc.kind, u.rc.mode, (u.sizeP : Int)⟩
theorem statN_v (o : Option PTr) : statV o = .agg #[.int .i64 (statN o).a, .int .i64 (statN o).b, .int .i64 (statN o).c] := by
  cases o <;> rfl
theorem statN_eq {o u : Option PTr} (h : statV o = statV u) : statN o = statN u := by
  rw [statN_v, statN_v] at h
  injection h with h
  simp at h
  obtain ⟨a, b, c⟩ := h
  cases hx : statN o
  cases hy : statN u
  rw [hx, hy] at a b c
  simp_all
end Go.Proofs.YtiedoocgbajjjaaGreatDoor

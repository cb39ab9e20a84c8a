/-
  Layer 11: words in memory: slices of words as they are read, and of the call's own.
  Conditions: those that each theorem states.
-/
import Derived.Test.YtfpdgdacifiejaaGreatUPure
namespace Go.Proofs.YtfpdgdacifiejaaGreat
open Go.RowKit Go.Maps

/-- The cells of words. -/
def wcv : List Wd → List Value
  | [] => []
  | x :: l => .int .i64 (x.kd : Int) :: .string (strL x.tx) :: .int .i64 (x.at' : Int) :: wcv l
theorem wcv_length : ∀ l : List Wd, (wcv l).length = 3 * l.length
  | [] => rfl
  | x :: l => by have := wcv_length l; simp [wcv, this]; omega
theorem wcv_get : ∀ (l : List Wd) (k : Nat) (hk : k < l.length), (wcv l)[3 * k]? = some (.int .i64 (l[k].kd : Int)) ∧ (wcv l)[3 * k + 1]? = some (.string (strL l[k].tx)) ∧ (wcv l)[3 * k + 2]? = some (.int .i64 (l[k].at' : Int))
  | x :: l, 0, _ => ⟨rfl, rfl, rfl⟩
  | x :: l, k + 1, hk => by
    have := wcv_get l k (by simpa using hk)
    rw [show 3 * (k + 1) = 3 * k + 3 by omega, show 3 * k + 3 + 1 = 3 * k + 1 + 3 by omega, show 3 * k + 3 + 2 = 3 * k + 2 + 3 by omega]
    simpa [wcv] using this
theorem wcv_append : ∀ l m : List Wd, wcv (l ++ m) = wcv l ++ wcv m
  | [], _ => rfl
  | x :: l, m => by simp [wcv, wcv_append l m]
theorem wcv_one : ∀ (l : List Wd), ∀ u ∈ wcv l, u.oneCell' = true
  | [], u, hu => by simp [wcv] at hu
  | x :: l, u, hu => by
    simp only [wcv, List.mem_cons] at hu
    rcases hu with rfl | rfl | rfl | hu
    · rfl
    · rfl
    · rfl
    · exact wcv_one l u hu
/-- A slice of words: what it reads as. -/
structure WsIs (w : World) (v : Value) (l : List Wd) : Prop where
  val : ∃ ao cap, v = .slice ao l.length cap ∧ l.length ≤ cap ∧ cap ≤ 9223372036854775807 ∧ (ao = none → cap = 0) ∧ (l.length = 0 ∨ ∃ b o, ao = some ⟨b, o, none⟩ ∧ b < w.heap.size ∧ w.rangeAt b o (wcv l))
  len : l.length * 32 ≤ 140737488355328
theorem WsIs.kept {w w' : World} {v : Value} {l : List Wd} (h : WsIs w v l) (hk : Kept [] w w') : WsIs w' v l := by
  obtain ⟨⟨ao, cap, h1, h2, h3, h4, h5⟩, h6⟩ := h
  refine ⟨⟨ao, cap, h1, h2, h3, h4, ?_⟩, h6⟩
  rcases h5 with h5 | ⟨b, o, rfl, hb, hr⟩
  · exact .inl h5
  · exact .inr ⟨b, o, rfl, Nat.lt_of_lt_of_le hb hk.size, hk.range hb (by simp) hr⟩
theorem WsIs.open {w : World} {v : Value} {l : List Wd} (h : WsIs w v l) : ∃ ao cap, v = .slice ao l.length cap ∧ l.length ≤ cap ∧ cap ≤ 9223372036854775807 ∧ (ao = none → cap = 0) ∧
    (0 < l.length → ∃ b o, ao = some ⟨b, o, none⟩ ∧ b < w.heap.size ∧ ∀ k (hk : k < l.length), w.cell? ⟨b, o + k * 3, none⟩ = some (.int .i64 (l[k].kd : Int)) ∧ w.cell? ⟨b, o + k * 3 + 1, none⟩ = some (.string (strL l[k].tx)) ∧ w.cell? ⟨b, o + k * 3 + 2, none⟩ = some (.int .i64 (l[k].at' : Int))) := by
  obtain ⟨ao, cap, h1, h2, h3, h4, h5⟩ := h.val
  refine ⟨ao, cap, h1, h2, h3, h4, fun h0 => ?_⟩
  rcases h5 with h5 | ⟨b, o, rfl, hb, hr⟩
  · omega
  · refine ⟨b, o, rfl, hb, fun k hk => ?_⟩
    obtain ⟨e0, e1, e2⟩ := wcv_get l k hk
    have f0 := hr _ _ e0
    have f1 := hr _ _ e1
    have f2 := hr _ _ e2
    rw [show k * 3 = 3 * k by omega]
    exact ⟨f0, f1, f2⟩
theorem WsIs.nil (w : World) : WsIs w (.slice none 0 0) [] := ⟨⟨none, 0, rfl, by simp, by omega, fun _ => rfl, .inl rfl⟩, by simp⟩
theorem elemWd : ElemOk Tryz.prog 23 38 (.agg #[.int .i64 0, .string ⟨#[]⟩, .int .i64 0]) 3 32 := ⟨Tryz.underlying23, by kernel_rfl, rfl, by omega⟩
/-- Words of the call's own. -/
def OwnW (base : Nat) (w : World) (v : Value) (l : List Wd) : Prop := w.ownsRow base 38 3 v l.length (wcv l) ∧ l.length * 32 ≤ 140737488355328
theorem OwnW.nil (base : Nat) (w : World) : OwnW base w (.slice none 0 0) [] := ⟨World.ownsRow_nil w base _ 3, by simp⟩
theorem OwnW.keptX {base : Nat} {w w' : World} {v : Value} {l : List Wd} (h : OwnW base w v l) {ex : List Nat} (hk : Kept ex w w') (hne : ∀ k, v.ownBlock = some k → k ∉ ex) : OwnW base w' v l := ⟨owns_kept h.1 hk hne, h.2⟩
theorem OwnW.kept {base : Nat} {w w' : World} {v : Value} {l : List Wd} (h : OwnW base w v l) (hk : Kept [] w w') : OwnW base w' v l := h.keptX hk (by simp)
theorem OwnW.blk {base : Nat} {w : World} {v : Value} {l : List Wd} (h : OwnW base w v l) : ∀ q, v.ownBlock = some q → base ≤ q ∧ q < w.heap.size := World.ownsRow.lt h.1
theorem OwnW.es {base : Nat} {w : World} {v : Value} {l : List Wd} (h : OwnW base w v l) : WsIs w v l := by
  obtain ⟨⟨h1, ⟨rfl, h2⟩ | ⟨g, cap, cur, rfl, hb, hg, hc1, hc2, hcs, htk⟩⟩, h4⟩ := h
  · have : l = [] := List.eq_nil_of_length_eq_zero h2
    subst this
    exact WsIs.nil w
  · refine ⟨⟨_, _, rfl, hc1, by unfold maxLen at hc2; omega, fun e => (by cases e), .inr ⟨g, 0, rfl, (Array.getElem?_eq_some_iff.1 hg).1, fun q u hu => ?_⟩⟩, h4⟩
    rw [← htk] at hu
    have hq : q < l.length * 3 := by
      have := (List.getElem?_eq_some_iff.1 hu).1
      simp at this; omega
    rw [List.getElem?_take_of_lt hq] at hu
    rw [Nat.zero_add, cell_of_row w g q _ _ _ hg]
    simpa using hu
theorem OwnW.slice {base : Nat} {w : World} {v : Value} {l : List Wd} (h : OwnW base w v l) : ∃ ao cap, v = .slice ao l.length cap := by
  obtain ⟨ao, cap, h1, _⟩ := h.es.open
  exact ⟨ao, cap, h1⟩
/-- A word that lies in a new block is appended. -/
theorem OwnW.app {base : Nat} {w : World} {v : Value} {l : List Wd} (h : OwnW base w v l) (hb : base ≤ w.heap.size) (x : Wd) (hl : (l.length + 1) * 32 ≤ 140737488355328) :
    ∃ v' w', (Builtin.append_ #[23, 23] 23 #[v, .slice (some ⟨w.heap.size, 0, none⟩) 1 1]).run Tryz.prog (w.alloc (.cells #[.int .i64 (x.kd : Int), .string (strL x.tx), .int .i64 (x.at' : Int)] 38)) = .ok v' w' ∧ OwnW base w' v' (l ++ [x]) ∧ AppB w v w' v' ∧ Kept v.ownBlock.toList (w.alloc (.cells #[.int .i64 (x.kd : Int), .string (strL x.tx), .int .i64 (x.at' : Int)] 38)) w' := by
  have hs0 : base ≤ (w.alloc (.cells #[.int .i64 (x.kd : Int), .string (strL x.tx), .int .i64 (x.at' : Int)] 38)).heap.size := by rw [size_alloc]; omega
  obtain ⟨v', w', hrun, ho, hk, hor⟩ := own_app elemWd 23 (w.alloc (.cells #[.int .i64 (x.kd : Int), .string (strL x.tx), .int .i64 (x.at' : Int)] 38)) base v l.length (wcv l) (World.ownsRow.alloc h.1 _) ⟨w.heap.size, 0, none⟩ 1 1 (wcv [x]) rfl
    (fun j u hu => by
      rw [Addr.add_mid, Nat.zero_add, cell_of_row _ _ j _ _ _ (heap_alloc_last w _)]
      simpa [wcv] using hu) (wcv_one _) (by unfold maxLen; omega) hl hs0
  refine ⟨v', w', hrun, ⟨?_, by simpa using hl⟩, AppB.pre (Kept.alloc [] w _) ⟨hk, ?_⟩, hk⟩
  · rw [List.length_append, wcv_append]
    exact ho
  · rcases hor with e | e
    · exact .inl e
    · exact .inr ⟨_, e, Nat.le_refl _⟩
end Go.Proofs.YtfpdgdacifiejaaGreat

/-
  Edges, as layers 7 and 8 have them: slices of edges as they are read, and of the call's own.
  Conditions: those that each theorem states.
-/
import Derived.Test.YtpdngekolhcndaaTKit
namespace Go.Proofs.Ytpdngekolhcndaa
open Go.RowKit Go.Maps

structure Edg where
  fr : Int
  tw : Int
  nt : Bool
instance : DecidableEq Edg := fun a b => decidable_of_iff (a.fr = b.fr ∧ a.tw = b.tw ∧ a.nt = b.nt) (by cases a; cases b; simp)
/-- The cells of edges. -/
def ecv : List Edg → List Value
  | [] => []
  | x :: l => .int .i64 x.fr :: .int .i64 x.tw :: .bool x.nt :: ecv l
theorem ecv_length : ∀ l : List Edg, (ecv l).length = 3 * l.length
  | [] => rfl
  | x :: l => by have := ecv_length l; simp [ecv, this]; omega
theorem ecv_get : ∀ (l : List Edg) (k : Nat) (hk : k < l.length), (ecv l)[3 * k]? = some (.int .i64 l[k].fr) ∧ (ecv l)[3 * k + 1]? = some (.int .i64 l[k].tw) ∧ (ecv l)[3 * k + 2]? = some (.bool l[k].nt)
  | x :: l, 0, _ => ⟨rfl, rfl, rfl⟩
  | x :: l, k + 1, hk => by
    have := ecv_get l k (by simpa using hk)
    rw [show 3 * (k + 1) = 3 * k + 3 by omega, show 3 * k + 3 + 1 = 3 * k + 1 + 3 by omega, show 3 * k + 3 + 2 = 3 * k + 2 + 3 by omega]
    simpa [ecv] using this
theorem ecv_append : ∀ l m : List Edg, ecv (l ++ m) = ecv l ++ ecv m
  | [], _ => rfl
  | x :: l, m => by simp [ecv, ecv_append l m]
theorem ecv_one : ∀ (l : List Edg), ∀ u ∈ ecv l, u.oneCell' = true
  | [], u, hu => by simp [ecv] at hu
  | x :: l, u, hu => by
    simp only [ecv, List.mem_cons] at hu
    rcases hu with rfl | rfl | rfl | hu
    · rfl
    · rfl
    · rfl
    · exact ecv_one l u hu
/-- A slice of edges: what it reads as. -/
structure EsIs (w : World) (v : Value) (l : List Edg) : Prop where
  val : ∃ ao cap, v = .slice ao l.length cap ∧ l.length ≤ cap ∧ cap ≤ 9223372036854775807 ∧ (ao = none → cap = 0) ∧ (l.length = 0 ∨ ∃ b o, ao = some ⟨b, o, none⟩ ∧ b < w.heap.size ∧ w.rangeAt b o (ecv l))
  len : l.length * 24 ≤ 140737488355328
theorem EsIs.kept {w w' : World} {v : Value} {l : List Edg} (h : EsIs w v l) (hk : Kept [] w w') : EsIs w' v l := by
  obtain ⟨⟨ao, cap, h1, h2, h3, h4, h5⟩, h6⟩ := h
  refine ⟨⟨ao, cap, h1, h2, h3, h4, ?_⟩, h6⟩
  rcases h5 with h5 | ⟨b, o, rfl, hb, hr⟩
  · exact .inl h5
  · exact .inr ⟨b, o, rfl, Nat.lt_of_lt_of_le hb hk.size, hk.range hb (by simp) hr⟩
theorem EsIs.open {w : World} {v : Value} {l : List Edg} (h : EsIs w v l) : ∃ ao cap, v = .slice ao l.length cap ∧ l.length ≤ cap ∧ cap ≤ 9223372036854775807 ∧ (ao = none → cap = 0) ∧
    (0 < l.length → ∃ b o, ao = some ⟨b, o, none⟩ ∧ b < w.heap.size ∧ ∀ k (hk : k < l.length), w.cell? ⟨b, o + k * 3, none⟩ = some (.int .i64 l[k].fr) ∧ w.cell? ⟨b, o + k * 3 + 1, none⟩ = some (.int .i64 l[k].tw) ∧ w.cell? ⟨b, o + k * 3 + 2, none⟩ = some (.bool l[k].nt)) := by
  obtain ⟨ao, cap, h1, h2, h3, h4, h5⟩ := h.val
  refine ⟨ao, cap, h1, h2, h3, h4, fun h0 => ?_⟩
  rcases h5 with h5 | ⟨b, o, rfl, hb, hr⟩
  · omega
  · refine ⟨b, o, rfl, hb, fun k hk => ?_⟩
    obtain ⟨e0, e1, e2⟩ := ecv_get l k hk
    have f0 := hr _ _ e0
    have f1 := hr _ _ e1
    have f2 := hr _ _ e2
    rw [show k * 3 = 3 * k by omega]
    exact ⟨f0, f1, f2⟩
theorem EsIs.nil (w : World) : EsIs w (.slice none 0 0) [] := ⟨⟨none, 0, rfl, by simp, by omega, fun _ => rfl, .inl rfl⟩, by simp⟩
theorem elemEdg : ElemOk Try.prog 22 32 (.agg #[.int .i64 0, .int .i64 0, .bool false]) 3 24 := ⟨Try.underlying22, by kernel_rfl, rfl, by omega⟩
/-- Edges of the call's own. -/
def OwnE (base : Nat) (w : World) (v : Value) (l : List Edg) : Prop := w.ownsRow base 32 3 v l.length (ecv l) ∧ l.length * 24 ≤ 140737488355328
theorem OwnE.nil (base : Nat) (w : World) : OwnE base w (.slice none 0 0) [] := ⟨World.ownsRow_nil w base _ 3, by simp⟩
theorem OwnE.keptX {base : Nat} {w w' : World} {v : Value} {l : List Edg} (h : OwnE base w v l) {ex : List Nat} (hk : Kept ex w w') (hne : ∀ k, v.ownBlock = some k → k ∉ ex) : OwnE base w' v l := ⟨owns_kept h.1 hk hne, h.2⟩
theorem OwnE.kept {base : Nat} {w w' : World} {v : Value} {l : List Edg} (h : OwnE base w v l) (hk : Kept [] w w') : OwnE base w' v l := h.keptX hk (by simp)
theorem OwnE.blk {base : Nat} {w : World} {v : Value} {l : List Edg} (h : OwnE base w v l) : ∀ q, v.ownBlock = some q → base ≤ q ∧ q < w.heap.size := World.ownsRow.lt h.1
theorem OwnE.es {base : Nat} {w : World} {v : Value} {l : List Edg} (h : OwnE base w v l) : EsIs w v l := by
  obtain ⟨⟨h1, ⟨rfl, h2⟩ | ⟨g, cap, cur, rfl, hb, hg, hc1, hc2, hcs, htk⟩⟩, h4⟩ := h
  · have : l = [] := List.eq_nil_of_length_eq_zero h2
    subst this
    exact EsIs.nil w
  · refine ⟨⟨_, _, rfl, hc1, by unfold maxLen at hc2; omega, fun e => (by cases e), .inr ⟨g, 0, rfl, (Array.getElem?_eq_some_iff.1 hg).1, fun q u hu => ?_⟩⟩, h4⟩
    rw [← htk] at hu
    have hq : q < l.length * 3 := by
      have := (List.getElem?_eq_some_iff.1 hu).1
      simp at this; omega
    rw [List.getElem?_take_of_lt hq] at hu
    rw [Nat.zero_add, cell_of_row w g q _ _ _ hg]
    simpa using hu
theorem OwnE.slice {base : Nat} {w : World} {v : Value} {l : List Edg} (h : OwnE base w v l) : ∃ ao cap, v = .slice ao l.length cap := by
  obtain ⟨ao, cap, h1, _⟩ := h.es.open
  exact ⟨ao, cap, h1⟩
/-- An edge that lies in a new block is appended. -/
theorem OwnE.app {base : Nat} {w : World} {v : Value} {l : List Edg} (h : OwnE base w v l) (hb : base ≤ w.heap.size) (x : Edg) (hl : (l.length + 1) * 24 ≤ 140737488355328) :
    ∃ v' w', (Builtin.append_ #[22, 22] 22 #[v, .slice (some ⟨w.heap.size, 0, none⟩) 1 1]).run Try.prog (w.alloc (.cells #[.int .i64 x.fr, .int .i64 x.tw, .bool x.nt] 32)) = .ok v' w' ∧ OwnE base w' v' (l ++ [x]) ∧ AppB w v w' v' ∧ Kept v.ownBlock.toList (w.alloc (.cells #[.int .i64 x.fr, .int .i64 x.tw, .bool x.nt] 32)) w' := by
  have hs0 : base ≤ (w.alloc (.cells #[.int .i64 x.fr, .int .i64 x.tw, .bool x.nt] 32)).heap.size := by rw [size_alloc]; omega
  obtain ⟨v', w', hrun, ho, hk, hor⟩ := own_app elemEdg 22 (w.alloc (.cells #[.int .i64 x.fr, .int .i64 x.tw, .bool x.nt] 32)) base v l.length (ecv l) (World.ownsRow.alloc h.1 _) ⟨w.heap.size, 0, none⟩ 1 1 (ecv [x]) rfl
    (fun j u hu => by
      rw [Addr.add_mid, Nat.zero_add, cell_of_row _ _ j _ _ _ (heap_alloc_last w _)]
      simpa [ecv] using hu) (ecv_one _) (by unfold maxLen; omega) hl hs0
  refine ⟨v', w', hrun, ⟨?_, by simpa using hl⟩, AppB.pre (Kept.alloc [] w _) ⟨hk, ?_⟩, hk⟩
  · rw [List.length_append, ecv_append]
    exact ho
  · rcases hor with e | e
    · exact .inl e
    · exact .inr ⟨_, e, Nat.le_refl _⟩
end Go.Proofs.Ytpdngekolhcndaa

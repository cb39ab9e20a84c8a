/-
  Layer 12: rows of words of any kind, with their places: as they are read, and of the call's own; one row appended to another.
  Conditions: those that each theorem states.
-/
import Derived.Test.YtlbenaodpfhjeaaVMem
import Derived.Laws.AppendOwnNone
namespace Go.Proofs.Ytlbenaodpfhjeaa
open Go.RowKit Go.Maps

structure Tka where
  kd : Int
  tx : List UInt8
  at' : Int
def tkA (x : Tka) : Tok := ⟨x.kd, x.tx⟩
def taW (x : Wd) : Tka := ⟨x.kd, x.tx, x.at'⟩
/-- The cells of words. -/
def tcv : List Tka → List Value
  | [] => []
  | x :: l => .int .i64 x.kd :: .string (strL x.tx) :: .int .i64 x.at' :: tcv l
theorem tcv_length : ∀ l : List Tka, (tcv l).length = 3 * l.length
  | [] => rfl
  | x :: l => by have := tcv_length l; simp [tcv, this]; omega
theorem tcv_get : ∀ (l : List Tka) (k : Nat) (hk : k < l.length), (tcv l)[3 * k]? = some (.int .i64 l[k].kd) ∧ (tcv l)[3 * k + 1]? = some (.string (strL l[k].tx)) ∧ (tcv l)[3 * k + 2]? = some (.int .i64 l[k].at')
  | x :: l, 0, _ => ⟨rfl, rfl, rfl⟩
  | x :: l, k + 1, hk => by
    have := tcv_get l k (by simpa using hk)
    rw [show 3 * (k + 1) = 3 * k + 3 by omega, show 3 * k + 3 + 1 = 3 * k + 1 + 3 by omega, show 3 * k + 3 + 2 = 3 * k + 2 + 3 by omega]
    simpa [tcv] using this
theorem tcv_append : ∀ l m : List Tka, tcv (l ++ m) = tcv l ++ tcv m
  | [], _ => rfl
  | x :: l, m => by simp [tcv, tcv_append l m]
theorem tcv_one : ∀ (l : List Tka), ∀ u ∈ tcv l, u.oneCell' = true
  | [], u, hu => by simp [tcv] at hu
  | x :: l, u, hu => by
    simp only [tcv, List.mem_cons] at hu
    rcases hu with rfl | rfl | rfl | hu
    · rfl
    · rfl
    · rfl
    · exact tcv_one l u hu
/-- A slice of words: what it reads as. -/
structure TaIs (w : World) (v : Value) (l : List Tka) : Prop where
  val : ∃ ao cap, v = .slice ao l.length cap ∧ l.length ≤ cap ∧ cap ≤ 9223372036854775807 ∧ (ao = none → cap = 0) ∧ (l.length = 0 ∨ ∃ b o, ao = some ⟨b, o, none⟩ ∧ b < w.heap.size ∧ w.rangeAt b o (tcv l))
  len : l.length * 32 ≤ 140737488355328
theorem TaIs.kept {w w' : World} {v : Value} {l : List Tka} (h : TaIs w v l) (hk : Kept [] w w') : TaIs w' v l := by
  obtain ⟨⟨ao, cap, h1, h2, h3, h4, h5⟩, h6⟩ := h
  refine ⟨⟨ao, cap, h1, h2, h3, h4, ?_⟩, h6⟩
  rcases h5 with h5 | ⟨b, o, rfl, hb, hr⟩
  · exact .inl h5
  · exact .inr ⟨b, o, rfl, Nat.lt_of_lt_of_le hb hk.size, hk.range hb (by simp) hr⟩
theorem TaIs.open {w : World} {v : Value} {l : List Tka} (h : TaIs w v l) : ∃ ao cap, v = .slice ao l.length cap ∧ l.length ≤ cap ∧ cap ≤ 9223372036854775807 ∧ (ao = none → cap = 0) ∧
    (0 < l.length → ∃ b o, ao = some ⟨b, o, none⟩ ∧ b < w.heap.size ∧ ∀ k (hk : k < l.length), w.cell? ⟨b, o + k * 3, none⟩ = some (.int .i64 l[k].kd) ∧ w.cell? ⟨b, o + k * 3 + 1, none⟩ = some (.string (strL l[k].tx)) ∧ w.cell? ⟨b, o + k * 3 + 2, none⟩ = some (.int .i64 l[k].at')) := by
  obtain ⟨ao, cap, h1, h2, h3, h4, h5⟩ := h.val
  refine ⟨ao, cap, h1, h2, h3, h4, fun h0 => ?_⟩
  rcases h5 with h5 | ⟨b, o, rfl, hb, hr⟩
  · omega
  · refine ⟨b, o, rfl, hb, fun k hk => ?_⟩
    obtain ⟨e0, e1, e2⟩ := tcv_get l k hk
    have f0 := hr _ _ e0
    have f1 := hr _ _ e1
    have f2 := hr _ _ e2
    rw [show k * 3 = 3 * k by omega]
    exact ⟨f0, f1, f2⟩
theorem TaIs.nil (w : World) : TaIs w (.slice none 0 0) [] := ⟨⟨none, 0, rfl, by simp, by omega, fun _ => rfl, .inl rfl⟩, by simp⟩
theorem elemTa : ElemOk Try.prog 29 37 (.agg #[.int .i64 0, .string ⟨#[]⟩, .int .i64 0]) 3 32 := ⟨Try.underlying29, by kernel_rfl, rfl, by omega⟩
/-- Words of the call's own. -/
def OwnTa (base : Nat) (w : World) (v : Value) (l : List Tka) : Prop := w.ownsRow base 37 3 v l.length (tcv l) ∧ l.length * 32 ≤ 140737488355328
theorem OwnTa.nil (base : Nat) (w : World) : OwnTa base w (.slice none 0 0) [] := ⟨World.ownsRow_nil w base _ 3, by simp⟩
theorem OwnTa.keptX {base : Nat} {w w' : World} {v : Value} {l : List Tka} (h : OwnTa base w v l) {ex : List Nat} (hk : Kept ex w w') (hne : ∀ k, v.ownBlock = some k → k ∉ ex) : OwnTa base w' v l := ⟨owns_kept h.1 hk hne, h.2⟩
theorem OwnTa.kept {base : Nat} {w w' : World} {v : Value} {l : List Tka} (h : OwnTa base w v l) (hk : Kept [] w w') : OwnTa base w' v l := h.keptX hk (by simp)
theorem OwnTa.blk {base : Nat} {w : World} {v : Value} {l : List Tka} (h : OwnTa base w v l) : ∀ q, v.ownBlock = some q → base ≤ q ∧ q < w.heap.size := World.ownsRow.lt h.1
theorem OwnTa.es {base : Nat} {w : World} {v : Value} {l : List Tka} (h : OwnTa base w v l) : TaIs w v l := by
  obtain ⟨⟨h1, ⟨rfl, h2⟩ | ⟨g, cap, cur, rfl, hb, hg, hc1, hc2, hcs, htk⟩⟩, h4⟩ := h
  · have : l = [] := List.eq_nil_of_length_eq_zero h2
    subst this
    exact TaIs.nil w
  · refine ⟨⟨_, _, rfl, hc1, by unfold maxLen at hc2; omega, fun e => (by cases e), .inr ⟨g, 0, rfl, (Array.getElem?_eq_some_iff.1 hg).1, fun q u hu => ?_⟩⟩, h4⟩
    rw [← htk] at hu
    have hq : q < l.length * 3 := by
      have := (List.getElem?_eq_some_iff.1 hu).1
      simp at this; omega
    rw [List.getElem?_take_of_lt hq] at hu
    rw [Nat.zero_add, cell_of_row w g q _ _ _ hg]
    simpa using hu
theorem OwnTa.slice {base : Nat} {w : World} {v : Value} {l : List Tka} (h : OwnTa base w v l) : ∃ ao cap, v = .slice ao l.length cap := by
  obtain ⟨ao, cap, h1, _⟩ := h.es.open
  exact ⟨ao, cap, h1⟩
/-- A word that lies in a new block is appended. -/
theorem OwnTa.app {base : Nat} {w : World} {v : Value} {l : List Tka} (h : OwnTa base w v l) (hb : base ≤ w.heap.size) (x : Tka) (hl : (l.length + 1) * 32 ≤ 140737488355328) :
    ∃ v' w', (Builtin.append_ #[29, 29] 29 #[v, .slice (some ⟨w.heap.size, 0, none⟩) 1 1]).run Try.prog (w.alloc (.cells #[.int .i64 x.kd, .string (strL x.tx), .int .i64 x.at'] 37)) = .ok v' w' ∧ OwnTa base w' v' (l ++ [x]) ∧ AppB w v w' v' ∧ Kept v.ownBlock.toList (w.alloc (.cells #[.int .i64 x.kd, .string (strL x.tx), .int .i64 x.at'] 37)) w' := by
  have hs0 : base ≤ (w.alloc (.cells #[.int .i64 x.kd, .string (strL x.tx), .int .i64 x.at'] 37)).heap.size := by rw [size_alloc]; omega
  obtain ⟨v', w', hrun, ho, hk, hor⟩ := own_app elemTa 29 (w.alloc (.cells #[.int .i64 x.kd, .string (strL x.tx), .int .i64 x.at'] 37)) base v l.length (tcv l) (World.ownsRow.alloc h.1 _) ⟨w.heap.size, 0, none⟩ 1 1 (tcv [x]) rfl
    (fun j u hu => by
      rw [Addr.add_mid, Nat.zero_add, cell_of_row _ _ j _ _ _ (heap_alloc_last w _)]
      simpa [tcv] using hu) (tcv_one _) (by unfold maxLen; omega) hl hs0
  refine ⟨v', w', hrun, ⟨?_, by simpa using hl⟩, AppB.pre (Kept.alloc [] w _) ⟨hk, ?_⟩, hk⟩
  · rw [List.length_append, tcv_append]
    exact ho
  · rcases hor with e | e
    · exact .inl e
    · exact .inr ⟨_, e, Nat.le_refl _⟩
theorem OwnTa.appS {base : Nat} {w : World} {v s : Value} {l B : List Tka} (h : OwnTa base w v l) (hb : base ≤ w.heap.size) (hs : TaIs w s B) (hl : (l.length + B.length) * 32 ≤ 140737488355328) :
    ∃ v' w', (Builtin.append_ #[29, 29] 29 #[v, s]).run Try.prog w = .ok v' w' ∧ OwnTa base w' v' (l ++ B) ∧ Kept v.ownBlock.toList w w' ∧ (v'.ownBlock = v.ownBlock ∨ v'.ownBlock = some w.heap.size) := by
  obtain ⟨⟨ao, cap, rfl, hcap, hc63, hnil, hat⟩, _⟩ := hs
  have go : ∀ ad, (∀ j u, (tcv B)[j]? = some u → w.cell? (Addr.add ad j) = some u) → ao = some ad → ∃ v' w', (Builtin.append_ #[29, 29] 29 #[v, .slice ao B.length cap]).run Try.prog w = .ok v' w' ∧ OwnTa base w' v' (l ++ B) ∧ Kept v.ownBlock.toList w w' ∧ (v'.ownBlock = v.ownBlock ∨ v'.ownBlock = some w.heap.size) := by
    rintro ad hsrc rfl
    obtain ⟨v', w', hrun, ho, hk, hor⟩ := own_app elemTa 29 w base v l.length (tcv l) h.1 ad B.length cap (tcv B) (by rw [tcv_length]; omega) hsrc (tcv_one _) (by unfold maxLen; omega) hl hb
    refine ⟨v', w', hrun, ⟨?_, by simpa using hl⟩, hk, hor⟩
    rw [List.length_append, tcv_append]
    exact ho
  rcases hat with h0 | ⟨b, o, rfl, hbl, hr⟩
  · have hB : B = [] := List.eq_nil_of_length_eq_zero h0
    cases ao with
    | some ad => exact go ad (fun j u hu => by rw [hB] at hu; simp [tcv] at hu) rfl
    | none =>
      obtain ⟨i, hi, _, hsz, _⟩ := info_parts elemTa.info
      have hrun := run_append_owned_none (P := Try.prog) (w := w) base 29 29 37 i 3 Try.underlying29 hi v l.length (tcv l) h.1
      rw [hnil rfl, hB, List.append_nil]
      exact ⟨_, _, hrun, h, Kept.refl _ _, .inl rfl⟩
  · exact go ⟨b, o, none⟩ (fun j u hu => by rw [Addr.add_mid]; exact hr j u hu) rfl
theorem OwnTa.empty (w : World) (base : Nat) (hb : base ≤ w.heap.size) : OwnTa base (w.alloc (.cells #[] 37)) (.slice (some ⟨w.heap.size, 0, none⟩) 0 0) [] :=
  ⟨⟨rfl, .inr ⟨w.heap.size, 0, #[], rfl, hb, heap_alloc_last _ _, Nat.le_refl _, by unfold maxLen; omega, rfl, rfl⟩⟩, by simp⟩

theorem TaIs.tk {w : World} {v : Value} {L : List Tka} (h : TaIs w v L) : TkIs w v (L.map tkA) := by
  obtain ⟨ao, cap, h1, h2, h3, _, h4⟩ := h.open
  refine ⟨⟨ao, cap, by rw [List.length_map]; exact h1, by rw [List.length_map]; exact h2, h3, fun h0 => ?_⟩, by rw [List.length_map]; exact h.len⟩
  rw [List.length_map] at h0
  obtain ⟨b, o, rfl, hb, hc⟩ := h4 h0
  refine ⟨b, o, rfl, hb, fun k hk => ?_⟩
  rw [List.length_map] at hk
  obtain ⟨c0, c1, c2⟩ := hc k hk
  rw [List.getElem_map]
  exact ⟨c0, c1, _, c2⟩
theorem tcv_W : ∀ L : List Wd, tcv (L.map taW) = wcv L
  | [] => rfl
  | x :: L => by
    rw [List.map_cons]
    simp only [tcv, wcv, tcv_W L]
    rfl
theorem WsIs.ta {w : World} {v : Value} {L : List Wd} (h : WsIs w v L) : TaIs w v (L.map taW) := by
  obtain ⟨⟨ao, cap, h1, h2, h3, h4, h5⟩, h6⟩ := h
  refine ⟨⟨ao, cap, by rw [List.length_map]; exact h1, by rw [List.length_map]; exact h2, h3, h4, ?_⟩, by rw [List.length_map]; exact h6⟩
  rw [List.length_map, tcv_W]
  exact h5
end Go.Proofs.Ytlbenaodpfhjeaa

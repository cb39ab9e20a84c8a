/-
  Layer 8: one edge more. No walk.
  Conditions: those that each theorem states.
-/
import Derived.Test.YtpdngekolhcndaaGFewP
namespace Go.Proofs.Ytpdngekolhcndaa
open Go.RowKit Go.Maps

theorem adjL_more {L : List Edg} {x y i j : Nat} : adjL (L ++ [⟨(x : Int), (y : Int), false⟩]) i j = true ↔ (adjL L i j = true ∨ (i = x ∧ j = y)) := by
  rw [adjL_iff, adjL_iff]
  constructor
  · rintro ⟨z, hz, e1, e2⟩
    rcases List.mem_append.1 hz with h | h
    · exact .inl ⟨z, h, e1, e2⟩
    · simp at h
      subst h
      simp at e1 e2
      exact .inr ⟨by omega, by omega⟩
  · rintro (⟨z, hz, e⟩ | ⟨rfl, rfl⟩)
    · exact ⟨z, List.mem_append_left _ hz, e⟩
    · exact ⟨_, List.mem_append_right _ (List.mem_singleton.2 rfl), rfl, rfl⟩
theorem gok_more {n : Int} {L : List Edg} (h : GOk n L) {x y : Nat} (hx : (x : Int) < n) (hy : (y : Int) < n) : GOk n (L ++ [⟨(x : Int), (y : Int), false⟩]) := by
  refine ⟨h.1, fun z hz => ?_⟩
  rcases List.mem_append.1 hz with hz | hz
  · exact h.2 z hz
  · simp at hz
    subst hz
    unfold EdOk
    show 0 ≤ (x : Int) ∧ (x : Int) < n ∧ 0 ≤ (y : Int) ∧ (y : Int) < n
    omega
/-- An edge along the order changes nothing; one against it makes a cycle just if one came from its second end to its first. -/
theorem more_is {q : Nat} {L : List Edg} {a : List Nat} (hg : GOk q L) (ha : ordO q (adjL L) = some a) {i k : Nat} (hi : i < a.length) (hk : k < a.length) (hik : i < k) :
    ordE q (L ++ [⟨(a[i] : Int), (a[k] : Int), false⟩]) = 0 ∧ ordE q (L ++ [⟨(a[k] : Int), (a[i] : Int), false⟩]) = (if a[k] ∈ behL q L a[i] then 80 else 0) := by
  obtain ⟨a1, a2, a3, a4, a5⟩ := ordO_some ha
  have hx := a2 _ (List.getElem_mem hi)
  have hy := a2 _ (List.getElem_mem hk)
  have ex : a.idxOf a[i] = i := List.Nodup.idxOf_getElem a1 i hi
  have ey : a.idxOf a[k] = k := List.Nodup.idxOf_getElem a1 k hk
  have hne : a[k] ≠ a[i] := fun e => by rw [e, ex] at ey; omega
  have hg1 := gok_more hg (x := a[i]) (y := a[k]) (by omega) (by omega)
  have hg2 := gok_more hg (x := a[k]) (y := a[i]) (by omega) (by omega)
  constructor
  · refine ordE_rank hg1 (fun i => a.idxOf i) (fun u v hu hv he => ?_)
    rw [Int.toNat_natCast] at hu hv
    rcases adjL_more.1 he with h | ⟨rfl, rfl⟩
    · exact a5 u v hu hv h
    · show a.idxOf a[i] < a.idxOf a[k]
      omega
  · have hbr := back_rank (A := adjL L) (B := adjL (L ++ [⟨(a[k] : Int), (a[i] : Int), false⟩])) (fun i j => adjL_lt hg) a5 hne hx hy (fun i j => adjL_more)
    by_cases hr : a[k] ∈ behL q L a[i]
    · rw [if_pos hr]
      have hr2 := (behL_mem hg (by omega)).1 hr
      refine ordE_noRank hg2 fun f hf => ?_
      rw [Int.toNat_natCast] at hf
      exact hbr.1 ⟨f, hf⟩ hr2
    · rw [if_neg hr]
      have hr2 : ¬ Reach (adjL L) a[i] a[k] := fun h => hr ((behL_mem hg (by omega)).2 h)
      obtain ⟨f, hf⟩ := hbr.2 hr2
      refine ordE_rank hg2 f ?_
      rw [Int.toNat_natCast]
      exact hf
theorem EsIs.keptX {w w' : World} {v : Value} {l : List Edg} (h : EsIs w v l) {ex : List Nat} (hk : Kept ex w w') (hx : ∀ b o n c, v = .slice (some ⟨b, o, none⟩) n c → n ≠ 0 → b ∉ ex) : EsIs w' v l := by
  obtain ⟨⟨ao, cap, h1, h2, h3, h4, h5⟩, h6⟩ := h
  refine ⟨⟨ao, cap, h1, h2, h3, h4, ?_⟩, h6⟩
  by_cases h0 : l.length = 0
  · exact .inl h0
  · rcases h5 with h5 | ⟨b, o, rfl, hb, hr⟩
    · exact .inl h5
    · exact .inr ⟨b, o, rfl, Nat.lt_of_lt_of_le hb hk.size, hk.range hb (hx b o _ _ h1 h0) hr⟩
theorem slice_at {b b' o n c : Nat} {a : Nat} {m k : Nat} (h : Value.slice (some ⟨b, o, none⟩) n c = Value.slice (some ⟨b', a, none⟩) m k) : b = b' := by
  injection h with h1 h2 h3
  injection h1 with h1
  injection h1

/-- The argument's copy with one edge more, as it is made: the edge's block behind the copy's. -/
theorem way_a1 (w3 : World) (sz : Nat) (hsz : w3.heap.size = sz) (L : List Edg) (s : Value) (x : Edg) (hE : EsIs w3 s L) (hl : (L.length + 1) * 24 ≤ 140737488355328) :
    ∃ v3 wb v4 we, (Builtin.append_ #[22, 22] 22 #[.slice (some ⟨sz, 0, none⟩) 0 0, s]).run Try.prog (w3.alloc (.cells #[] 32)) = .ok v3 wb ∧ Kept [sz, sz + 1, sz + 2] (w3.alloc (.cells #[] 32)) wb ∧
      (Builtin.append_ #[22, 22] 22 #[v3, .slice (some ⟨wb.heap.size, 0, none⟩) 1 1]).run Try.prog (wb.alloc (.cells #[.int .i64 x.fr, .int .i64 x.tw, .bool x.nt] 32)) = .ok v4 we ∧ Kept [sz, sz + 1, sz + 2] (wb.alloc (.cells #[.int .i64 x.fr, .int .i64 x.tw, .bool x.nt] 32)) we ∧
      Hid (EsIs we v4 (L ++ [x]) ∧ Kept [] w3 we) := by
  have ho0 := OwnE.empty w3 sz (by omega)
  rw [hsz] at ho0
  have hsa : (w3.alloc (.cells #[] 32)).heap.size = sz + 1 := by rw [size_alloc, hsz]
  obtain ⟨v3, wb, r3, o3, k3, b3⟩ := ho0.appS (by omega) (hE.kept (Kept.alloc [] w3 _)) (by simp; omega)
  have hs3 : sz + 1 ≤ wb.heap.size := by rw [← hsa]; exact k3.size
  obtain ⟨v4, we, r4, o4, a4, k4⟩ := o3.app (by omega) x (by simp; omega)
  have hb3 : ∀ q ∈ v3.ownBlock.toList, q = sz ∨ q = sz + 1 := fun q hq => by
    have hq : v3.ownBlock = some q := by simpa using hq
    rcases b3 with e | e
    · rw [hq] at e; injection e with e; exact .inl e
    · rw [hq, hsa] at e; injection e with e; exact .inr e
  have hw3 : Kept [] w3 wb := (Kept.alloc [] w3 _).into (show Kept [sz] _ _ from k3) (by simp; omega)
  refine ⟨v3, wb, v4, we, r3, (show Kept [sz] _ _ from k3).mono (by simp), r4, k4.mono (fun q hq _ => by rcases hb3 q hq with e | e <;> simp [e]), ?_, ?_⟩
  · have := o4.es; simpa using this
  · exact (hw3.trans (Kept.alloc [] wb _)).into k4 (fun q hq => by rcases hb3 q hq with e | e <;> omega)
/-- As ahead, the edge's own block made ahead of the copy (eb: its block, s0: the empty slice's). -/
theorem way_a2 (w3 wa : World) (sz s0 eb : Nat) (h0 : w3.heap.size = sz) (hsz : wa.heap.size = sz + 2) (L : List Edg) (s : Value) (x : Edg) (hE : EsIs wa s L) (hl : (L.length + 1) * 24 ≤ 140737488355328) (hk0 : Kept [] w3 wa) (hs0 : s0 = sz ∨ s0 = sz + 1) (hne : eb ≠ s0)
    (ho0 : OwnE sz wa (.slice (some ⟨s0, 0, none⟩) 0 0) []) (hx : EsIs wa (.slice (some ⟨eb, 0, none⟩) 1 1) [x]) :
    ∃ v3 wb v4 we, (Builtin.append_ #[22, 22] 22 #[.slice (some ⟨s0, 0, none⟩) 0 0, s]).run Try.prog wa = .ok v3 wb ∧ Kept [sz, sz + 1, sz + 2] wa wb ∧
      (Builtin.append_ #[22, 22] 22 #[v3, .slice (some ⟨eb, 0, none⟩) 1 1]).run Try.prog wb = .ok v4 we ∧ Kept [sz, sz + 1, sz + 2] wb we ∧
      Hid (EsIs we v4 (L ++ [x]) ∧ Kept [] w3 we) := by
  obtain ⟨v3, wb, r3, o3, k3, b3⟩ := ho0.appS (by omega) hE (by simp; omega)
  have k3' : Kept [s0] wa wb := k3
  have hs3 : sz + 2 ≤ wb.heap.size := by rw [← hsz]; exact k3.size
  have hx3 := hx.keptX k3' (fun b o n c e _ => by have := slice_at e; subst this; simpa using hne)
  obtain ⟨v4, we, r4, o4, k4, b4⟩ := o3.appS (by omega) hx3 (by simp; omega)
  have hb3 : ∀ q ∈ v3.ownBlock.toList, q = s0 ∨ q = sz + 2 := fun q hq => by
    have hq : v3.ownBlock = some q := by simpa using hq
    rcases b3 with e | e
    · rw [hq] at e; injection e with e; exact .inl e
    · rw [hq, hsz] at e; injection e with e; exact .inr e
  have hs0' : s0 ∈ [sz, sz + 1, sz + 2] := by rcases hs0 with e | e <;> simp [e]
  refine ⟨v3, wb, v4, we, r3, k3'.mono (fun q hq _ => by simp at hq; rw [hq]; exact hs0'), r4, k4.mono (fun q hq _ => by rcases hb3 q hq with e | e; rw [e]; exact hs0'; simp [e]), ?_, ?_⟩
  · have := o4.es; simpa using this
  · exact (hk0.into k3' (by simp; omega)).into k4 (fun q hq => by rcases hb3 q hq with e | e <;> omega)
end Go.Proofs.Ytpdngekolhcndaa

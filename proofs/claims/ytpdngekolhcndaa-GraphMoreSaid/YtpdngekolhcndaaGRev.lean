/-
  Layer 8: the library's Reverse over numbers; the program's round: a walk against the edges until it is where it was.
  Conditions: those that each theorem states.
-/
import Derived.Test.YtpdngekolhcndaaGInts
import Derived.Test.YtpdngekolhcndaaPReg
namespace Go.Proofs.Ytpdngekolhcndaa
open Go.RowKit Go.Maps

/-- The first k and the last k elements have changed places. -/
def revK (l : List Nat) (k j : Nat) : Nat := if j < k ∨ l.length - k ≤ j then l.getD (l.length - 1 - j) 0 else l.getD j 0
theorem revK_zero (l : List Nat) {j : Nat} (hj : j < l.length) : revK l 0 j = l.getD j 0 := by
  unfold revK
  rw [if_neg (by omega)]
theorem revK_all (l : List Nat) {k j : Nat} (hj : j < l.length) (hk : l.length ≤ 2 * k + 1) : revK l k j = l.reverse.getD j 0 := by
  have e : l.reverse.getD j 0 = l.getD (l.length - 1 - j) 0 := by
    rw [List.getD_eq_getElem?_getD, List.getD_eq_getElem?_getD, List.getElem?_reverse hj]
  rw [e]
  unfold revK
  by_cases h : j < k ∨ l.length - k ≤ j
  · rw [if_pos h]
  · rw [if_neg h, show l.length - 1 - j = j by omega]

theorem revK_next (l : List Nat) {k j : Nat} (hk : 2 * k + 1 < l.length) : revK l (k + 1) j = if j = l.length - 1 - k then revK l k k else if j = k then revK l k (l.length - 1 - k) else revK l k j := by
  unfold revK
  by_cases h1 : j = l.length - 1 - k
  · rw [if_pos h1, if_pos (by omega), if_neg (by omega)]
    congr 1; omega
  · rw [if_neg h1]
    by_cases h2 : j = k
    · rw [if_pos h2, if_pos (by omega), if_neg (by omega), h2]
    · rw [if_neg h2]
      by_cases h3 : j < k ∨ l.length - k ≤ j
      · rw [if_pos h3, if_pos (by omega)]
      · rw [if_neg h3, if_neg (by omega)]
/-- A row that holds these numbers from o on. -/
def RowN (w : World) (g o : Nat) (t : TypeId) (n : Nat) (f : Nat → Nat) : Prop := ∃ C : Array Value, w.heap[g]? = some (.cells C t) ∧ ∀ j, j < n → C[o + j]? = some (.int .i64 (f j : Int))
theorem RowN.kept {w w' : World} {g o : Nat} {t : TypeId} {n : Nat} {f : Nat → Nat} (h : RowN w g o t n f) (hk : Kept [] w w') : RowN w' g o t n f := by
  obtain ⟨C, h1, h2⟩ := h
  exact ⟨C, hk.heap (by simp) h1, h2⟩
theorem RowN.cell {w : World} {g o : Nat} {t : TypeId} {n : Nat} {f : Nat → Nat} (h : RowN w g o t n f) {j : Nat} (hj : j < n) : w.cell? ⟨g, o + j, none⟩ = some (.int .i64 (f j : Int)) := by
  obtain ⟨C, h1, h2⟩ := h
  rw [cell_of_row w g _ _ _ _ h1, h2 j hj]
theorem RowN.ok {w : World} {g o : Nat} {t : TypeId} {n : Nat} {f : Nat → Nat} (h : RowN w g o t n f) (j : Nat) : w.frozen? ⟨g, o + j, none⟩ = false := by
  obtain ⟨C, h1, _⟩ := h
  exact frozen_of_row _ _ _ _ _ h1
theorem RowN.set {w : World} {g o : Nat} {t : TypeId} {n : Nat} {f : Nat → Nat} (h : RowN w g o t n f) (i x : Nat) (hi : i < n) : RowN (w.setCell ⟨g, o + i, none⟩ (.int .i64 (x : Int))) g o t n (fun j => if j = i then x else f j) := by
  obtain ⟨C, h1, h2⟩ := h
  refine ⟨C.setIfInBounds (o + i) (.int .i64 (x : Int)), heap_setCell_same w g _ _ _ _ h1, fun j hj => ?_⟩
  have hlt := (Array.getElem?_eq_some_iff.1 (h2 i hi)).1
  by_cases e : j = i
  · subst e
    simp [hlt]
  · show _ = some (Value.int .i64 ((if j = i then x else f j : Nat) : Int))
    rw [Array.getElem?_setIfInBounds_ne (by omega), if_neg e]
    exact h2 j hj
theorem RowN.congr {w : World} {g o : Nat} {t : TypeId} {n : Nat} {f f' : Nat → Nat} (h : RowN w g o t n f) (e : ∀ j, j < n → f j = f' j) : RowN w g o t n f' := by
  obtain ⟨C, h1, h2⟩ := h
  exact ⟨C, h1, fun j hj => by rw [← e j hj]; exact h2 j hj⟩
structure RevSt (w : World) (g o : Nat) (t : TypeId) (l : List Nat) (k : Nat) (wr : World) : Prop where
  row : RowN wr g o t l.length (revK l k)
  kept : Kept [g] w wr
theorem RevSt.next {w : World} {g o : Nat} {t : TypeId} {l : List Nat} {k : Nat} {wr wd : World} (h : RevSt w g o t l k wr) (hd : Kept [] wr wd) (hk : 2 * k + 1 < l.length) :
    RevSt w g o t l (k + 1) ((wd.setCell ⟨g, o + k, none⟩ (.int .i64 (revK l k (l.length - 1 - k) : Int))).setCell ⟨g, o + (l.length - 1 - k), none⟩ (.int .i64 (revK l k k : Int))) := by
  refine ⟨(((h.row.kept hd).set k _ (by omega)).set (l.length - 1 - k) _ (by omega)).congr fun j hj => ?_, (h.kept.trans (hd.mono (by simp))).trans ((Kept.setCell _ _ _ _ (by simp)).trans (Kept.setCell _ _ _ _ (by simp)))⟩
  rw [revK_next l hk]

set_option maxRecDepth 100000 in
set_option maxHeartbeats 2000000 in
theorem reverse_any (g o cap : Nat) (t : TypeId) (l : List Nat) (w : World) (hr : RowN w g o t l.length (fun j => l.getD j 0)) (hl : l.length ≤ 1000) :
    Calls Try.prog 26 #[.slice (some ⟨g, o, none⟩) l.length cap] w fun e w' => e = .returned (.tuple #[]) ∧ Hid (RowN w' g o t l.length (fun j => l.reverse.getD j 0) ∧ Kept [g] w w') := by
  have HS0 : Hid (RevSt w g o t l 0 w) := ⟨hr.congr fun j hj => (revK_zero l hj).symm, Kept.refl _ _⟩
  obtain ⟨m, hm⟩ : ∃ m, l.length = m := ⟨_, rfl⟩
  have HM := Lib.hid hm
  rw [hm] at hl
  rw [hm]
  clear hr hm
  go_enter Try.func26, Try.ntmps26
  go_wp2_with fail
  go_loopw [2, 3] (fun i j wr => ∃ k : Nat, 2 * k ≤ m + 1 ∧ i = .int .i64 k ∧ j = .int .i64 ((m : Int) - 1 - k) ∧ Hid (RevSt w g o t l k wr)) (fun i _ _ => m - (intOf i).toNat)
  case atStart => exact ⟨0, by omega, rfl, by go_num, HS0⟩
  case round =>
    clear HS0
    obtain ⟨k, hk, rfl, rfl, HS⟩ := hrel
    by_cases hlt : 2 * k + 1 < m
    · obtain ⟨q, hq⟩ : ∃ q, m - 1 - k = q := ⟨_, rfl⟩
      have hqi : (m : Int) - 1 - k = (q : Int) := by omega
      have hql : q < m := by omega
      have hkl : k < m := by omega
      have hkq : (k : Int) < q := by omega
      have hmi : (q : Int) = (m : Int) - 1 - k := by omega
      have HQ := Lib.hid hmi
      obtain ⟨x, hx⟩ : ∃ x, revK l k k = x := ⟨_, rfl⟩
      obtain ⟨y, hy⟩ : ∃ y, revK l k q = y := ⟨_, rfl⟩
      obtain ⟨wd, hwd⟩ : ∃ wd, wr.drew = wd := ⟨_, rfl⟩
      have hkd : Kept [] wr wd := by rw [← hwd]; exact Kept.drew _ _
      have hrd := HS.out.row.kept hkd
      have c0 : wd.cell? ⟨g, o + k, none⟩ = some (.int .i64 x) := by rw [← hx]; exact hrd.cell (by rw [HM.out]; exact hkl)
      have c1 : wd.cell? ⟨g, o + q, none⟩ = some (.int .i64 y) := by rw [← hy]; exact hrd.cell (by rw [HM.out]; exact hql)
      have f0 : wd.frozen? ⟨g, o + k, none⟩ = false := hrd.ok k
      have HNX : Hid (RevSt w g o t l (k + 1) ((wd.setCell ⟨g, o + k, none⟩ (.int .i64 y)).setCell ⟨g, o + q, none⟩ (.int .i64 x))) := by
        have := HS.out.next hkd (by rw [HM.out]; exact hlt)
        rw [HM.out, hq, hx, hy] at this
        exact this
      have h1 := hrd.set k y (by rw [HM.out]; exact hkl)
      have c2 : (wd.setCell ⟨g, o + k, none⟩ (.int .i64 y)).cell? ⟨g, o + q, none⟩ = some (.int .i64 y) := by
        have := h1.cell (j := q) (by rw [HM.out]; exact hql)
        rw [if_neg (by omega), hy] at this
        exact this
      have f2 : (wd.setCell ⟨g, o + k, none⟩ (.int .i64 y)).frozen? ⟨g, o + q, none⟩ = false := h1.ok q
      have HN : Hid (RevSt w g o t l (k + 1) ((wd.setCell ⟨g, o + k, none⟩ (.int .i64 y)).setCell ⟨g, o + q, none⟩ (.int .i64 x))) := HNX.out
      clear h1 HNX hrd hkd hx hy hmi
      rw [hqi]
      clear hqi hq
      go_wp2_with fail
      refine wp_region_plan (R := (Kept [g])) (.take 0 (.take 1 (.take 2 (.take 3 (.take 4 (.take 5 (.take 6 (.take 8 (.take 9 (.take 10 (.two 7 (.one 11 (.take 12 (.one 13 (.take 14 (.one 15 .fin))))) 11 (.one 7 (.take 12 (.one 13 (.take 14 (.one 15 .fin)))))))))))))))) (fun _ => Kept.refl _ _) (fun _ _ _ h k => h.trans k) (by kernel_rfl) (fun _ _ d _ _ h => by cases d <;> exact h) (by kernel_rfl) rfl (by kernel_rfl) ?_
      repeat (first | (apply wpP_take; (case hw => rfl); (case hv => intro w' hk; simp only [List.getD_cons_zero, List.getD_cons_succ]; go_simp; with_reducible rfl); simp only [List.getD_cons_zero, List.getD_cons_succ, Act.put, List.setIfInBounds_toArray, List.set_cons_zero, List.set_cons_succ]) | (refine wpP_pass (by rfl) ?_; simp only [List.getD_cons_zero, List.getD_cons_succ, Act.put, List.setIfInBounds_toArray, List.set_cons_zero, List.set_cons_succ]))
      rw [hwd]
      clear hwd
      refine wpP_two ?_ ?_
      · refine wpP_one (by rfl) (fun K hK => ?_); simp only [List.getD_cons_zero, List.getD_cons_succ]
        go_simp
        refine hK _ _ (Kept.refl _ _) ?_
        clear hK K
        refine wpP_one (by rfl) (fun K hK => ?_); simp only [List.getD_cons_zero, List.getD_cons_succ]
        go_simp
        refine hK _ _ (Kept.refl _ _) ?_
        clear hK K
        repeat (first | (apply wpP_take; (case hw => rfl); (case hv => intro w' hk; simp only [List.getD_cons_zero, List.getD_cons_succ]; go_simp; with_reducible rfl); simp only [List.getD_cons_zero, List.getD_cons_succ, Act.put, List.setIfInBounds_toArray, List.set_cons_zero, List.set_cons_succ]) | (refine wpP_pass (by rfl) ?_; simp only [List.getD_cons_zero, List.getD_cons_succ, Act.put, List.setIfInBounds_toArray, List.set_cons_zero, List.set_cons_succ]))
        refine wpP_one (by rfl) (fun K hK => ?_); simp only [List.getD_cons_zero, List.getD_cons_succ]
        go_simp
        refine hK _ _ (Kept.setCell _ _ _ _ (by simp)) ?_
        clear hK K
        repeat (first | (apply wpP_take; (case hw => rfl); (case hv => intro w' hk; simp only [List.getD_cons_zero, List.getD_cons_succ]; go_simp; with_reducible rfl); simp only [List.getD_cons_zero, List.getD_cons_succ, Act.put, List.setIfInBounds_toArray, List.set_cons_zero, List.set_cons_succ]) | (refine wpP_pass (by rfl) ?_; simp only [List.getD_cons_zero, List.getD_cons_succ, Act.put, List.setIfInBounds_toArray, List.set_cons_zero, List.set_cons_succ]))
        refine wpP_one (by rfl) (fun K hK => ?_); simp only [List.getD_cons_zero, List.getD_cons_succ]
        go_simp
        refine hK _ _ (Kept.setCell _ _ _ _ (by simp)) ?_
        clear hK K
        refine wpP_fin ?_
        clear c0 c1 f0 c2 f2
        go_wp2_with fail
        go_roundw
        case rel => exact ⟨k + 1, by omega, by go_num, by have h := HQ.out; go_num, HN⟩
        case measure => simp [intOf]; omega
      · refine wpP_one (by rfl) (fun K hK => ?_); simp only [List.getD_cons_zero, List.getD_cons_succ]
        go_simp
        refine hK _ _ (Kept.refl _ _) ?_
        clear hK K
        refine wpP_one (by rfl) (fun K hK => ?_); simp only [List.getD_cons_zero, List.getD_cons_succ]
        go_simp
        refine hK _ _ (Kept.refl _ _) ?_
        clear hK K
        repeat (first | (apply wpP_take; (case hw => rfl); (case hv => intro w' hk; simp only [List.getD_cons_zero, List.getD_cons_succ]; go_simp; with_reducible rfl); simp only [List.getD_cons_zero, List.getD_cons_succ, Act.put, List.setIfInBounds_toArray, List.set_cons_zero, List.set_cons_succ]) | (refine wpP_pass (by rfl) ?_; simp only [List.getD_cons_zero, List.getD_cons_succ, Act.put, List.setIfInBounds_toArray, List.set_cons_zero, List.set_cons_succ]))
        refine wpP_one (by rfl) (fun K hK => ?_); simp only [List.getD_cons_zero, List.getD_cons_succ]
        go_simp
        refine hK _ _ (Kept.setCell _ _ _ _ (by simp)) ?_
        clear hK K
        repeat (first | (apply wpP_take; (case hw => rfl); (case hv => intro w' hk; simp only [List.getD_cons_zero, List.getD_cons_succ]; go_simp; with_reducible rfl); simp only [List.getD_cons_zero, List.getD_cons_succ, Act.put, List.setIfInBounds_toArray, List.set_cons_zero, List.set_cons_succ]) | (refine wpP_pass (by rfl) ?_; simp only [List.getD_cons_zero, List.getD_cons_succ, Act.put, List.setIfInBounds_toArray, List.set_cons_zero, List.set_cons_succ]))
        refine wpP_one (by rfl) (fun K hK => ?_); simp only [List.getD_cons_zero, List.getD_cons_succ]
        go_simp
        refine hK _ _ (Kept.setCell _ _ _ _ (by simp)) ?_
        clear hK K
        refine wpP_fin ?_
        clear c0 c1 f0 c2 f2
        go_wp2_with fail
        go_roundw
        case rel => exact ⟨k + 1, by omega, by go_num, by have h := HQ.out; go_num, HN⟩
        case measure => simp [intOf]; omega
    · have HE : Hid (RowN wr g o t l.length (fun j => l.reverse.getD j 0)) := HS.out.row.congr fun j hj => revK_all l hj (by rw [HM.out]; omega)
      have hn : ¬ (k : Int) < (m : Int) - 1 - k := by omega
      go_wp2_with fail
      go_end0
      exact ⟨rfl, by rw [← HM.out]; exact HE.out, HS.out.kept⟩

/-- A function value that tells of a number another one. -/
def FnN (w : World) (v : Value) (S : Nat → Bool) (p : Nat → Nat) : Prop :=
  ∃ f cap, v = .func (.func f) #[] cap ∧ Enters Try.prog f ∧ ∀ w', Kept [] w w' → ∀ i : Nat, S i = true → Calls Try.prog f (#[.int .i64 i] ++ cap) w' fun e w2 => e = .returned (.int .i64 (p i)) ∧ Kept [] w' w2
/-- The walk against the edges. -/
structure WkSt (A : Nat → Nat → Bool) (S : Nat → Bool) (p : Nat → Nat) (W : List Nat) (at_ : Nat) : Prop where
  nodup : W.Nodup
  left : ∀ i ∈ W, S i = true
  cur : S at_ = true
  next : ∀ k (hk : k < W.length), p W[k] = if h : k + 1 < W.length then W[k + 1] else at_
theorem WkSt.init (A : Nat → Nat → Bool) {S : Nat → Bool} (p : Nat → Nat) {s : Nat} (h : S s = true) : WkSt A S p [] s := ⟨List.nodup_nil, fun i hi => (by cases hi), h, fun k hk => absurd hk (by simp)⟩
theorem WkSt.step {A : Nat → Nat → Bool} {S : Nat → Bool} {p : Nat → Nat} {W : List Nat} {a : Nat} (h : WkSt A S p W a) (hn : a ∉ W) (hp : S (p a) = true) : WkSt A S p (W ++ [a]) (p a) := by
  refine ⟨?_, ?_, hp, fun k hk => ?_⟩
  · rw [List.nodup_append]
    refine ⟨h.nodup, by simp, ?_⟩
    intro x hx y hy
    simp at hy
    subst hy
    intro e
    exact hn (e ▸ hx)
  · intro i hi
    rcases List.mem_append.1 hi with hi | hi
    · exact h.left i hi
    · simp at hi; rw [hi]; exact h.cur
  · rw [List.length_append, List.length_singleton] at hk
    by_cases e : k < W.length
    · have := h.next k e
      rw [List.getElem_append_left e, this, dif_pos (show k + 1 < (W ++ [a]).length by rw [List.length_append, List.length_singleton]; omega)]
      by_cases e2 : k + 1 < W.length
      · rw [dif_pos e2, List.getElem_append_left e2]
      · rw [dif_neg e2, List.getElem_append_right (by omega)]
        simp
    · have e2 : k = W.length := by omega
      subst e2
      rw [List.getElem_append_right (Nat.le_refl _), dif_neg (by rw [List.length_append, List.length_singleton]; omega)]
      simp
theorem WkSt.cyc {A : Nat → Nat → Bool} {S : Nat → Bool} {p : Nat → Nat} {W : List Nat} {a : Nat} (h : WkSt A S p W a) (hm : a ∈ W) (hA : ∀ i, S i = true → A (p i) i = true) : Cyc A (W.drop (W.idxOf a)).reverse := by
  have hlt := List.idxOf_lt_length_of_mem hm
  have hat : W[W.idxOf a] = a := List.getElem_idxOf hlt
  obtain ⟨q, hq⟩ : ∃ q, W.idxOf a = q := ⟨_, rfl⟩
  simp only [hq] at hat hlt ⊢
  obtain ⟨C, hC⟩ : ∃ C, W.drop q = C := ⟨_, rfl⟩
  have hl : C.length = W.length - q := by rw [← hC, List.length_drop]
  have hg : ∀ k (hk : k < C.length), C[k] = W[q + k]'(by omega) := fun k hk => by simp [← hC]
  have h0 : C[0]'(by omega) = a := by rw [hg 0 (by omega)]; exact hat
  have hnx : ∀ k (hk : k < C.length), p C[k] = if h : k + 1 < C.length then C[k + 1] else a := fun k hk => by
    rw [hg k hk, h.next (q + k) (by omega)]
    by_cases e : k + 1 < C.length
    · rw [dif_pos e, dif_pos (by omega), hg (k + 1) e]; rfl
    · rw [dif_neg e, dif_neg (by omega)]
  have hS : ∀ k (hk : k < C.length), S C[k] = true := fun k hk => h.left _ (by rw [hg k hk]; exact List.getElem_mem _)
  have hnd : C.Nodup := by rw [← hC]; exact h.nodup.sublist (List.drop_sublist _ _)
  rw [hC]
  refine ⟨by simp; omega, (by unfold List.Nodup; rw [List.pairwise_reverse]; exact hnd.imp fun h => Ne.symm h), fun k hk => ?_⟩
  have hk2 : k < C.length := by simpa using hk
  simp only [List.getElem_reverse, List.length_reverse]
  have key := hA _ (hS ((C.length - 1 - (k + 1) % C.length)) (by have := Nat.mod_lt (k + 1) (show C.length > 0 by omega); omega))
  rw [hnx] at key
  by_cases e : k + 1 < C.length
  · simp only [Nat.mod_eq_of_lt e] at key ⊢
    rw [dif_pos (by omega)] at key
    have e2 : C.length - 1 - (k + 1) + 1 = C.length - 1 - k := by omega
    simp only [e2] at key
    exact key
  · have e1 : k + 1 = C.length := by omega
    have e2 : (k + 1) % C.length = 0 := by rw [e1, Nat.mod_self]
    simp only [e2] at key ⊢
    rw [dif_neg (by omega)] at key
    have e3 : C.length - 1 - k = 0 := by omega
    simp only [e3, h0]
    exact key
end Go.Proofs.Ytpdngekolhcndaa

/-
  A statement whose order Go leaves open and whose last operation (a store, an assignment) waits for all others: the others are walked in an order of the prover's under a relation of worlds that they keep; the last one comes behind them, and need not keep it.
  Conditions: those that the kernel reckons of the region's own list ('ordMixZ'); the relation is reflexive and transitive.
  Layer 11: the program's Lex.
  Conditions: those that each theorem states.
-/
import Derived.Test.YtfpdgdacifiejaaGreatTKit
import Derived.Test.YtfpdgdacifiejaaGreatUPc
import Derived.Test.YtfpdgdacifiejaaGreatUMem
import Derived.Deep.DeepCutAuto
import Derived.OwnWalk
namespace Go.Proofs.YtfpdgdacifiejaaGreat
open Go.RowKit Go.Maps

section
variable {P : Program} {ops : Array Oper} {Q : Exit → Act → World → Prop} {R : World → World → Prop} {S : World → Prop} {md : Region.Mode} {z : Nat}

/-- 'wpAnyH', but behind operation z nothing is asked of the world. -/
def wpAnyZ (P : Program) (md : Region.Mode) (ops : Array Oper) (Q : Exit → Act → World → Prop) (S : World → Prop) (z : Nat) : Nat → Array Bool → Act → World → Prop
  | 0, listed, a, w => Region.ready md ops listed = [] ∧ Q .normal a w
  | fuel + 1, listed, a, w =>
    (Region.ready md ops listed = [] → Q .normal a w) ∧
    ∀ i ∈ Region.ready md ops listed, wpOp P ops Q i (fun a' w' => (i = z ∨ S w') ∧ wpAnyZ P md ops Q S z fuel (listed.setIfInBounds i true) a' w') a w

theorem wpAny_of_Z : ∀ (fuel : Nat) (listed : Array Bool) (a : Act) (w : World), wpAnyZ P md ops Q S z fuel listed a w → wpAny P md ops Q fuel listed a w
  | 0, _, _, _, h => h
  | fuel + 1, _, _, _, h => ⟨h.1, fun i hi => wpOp_mono (fun a' w' h' => wpAny_of_Z fuel _ a' w' h'.2) (h.2 i hi)⟩

theorem wpAnyZ_mono {S S' : World → Prop} (hS : ∀ w, S w → S' w) : ∀ (fuel : Nat) (listed : Array Bool) (a : Act) (w : World), wpAnyZ P md ops Q S z fuel listed a w → wpAnyZ P md ops Q S' z fuel listed a w
  | 0, _, _, _, h => h
  | fuel + 1, _, _, _, h => ⟨h.1, fun i hi => wpOp_mono (fun a' w' h' => ⟨h'.1.imp id (hS _), wpAnyZ_mono hS fuel _ a' w' h'.2⟩) (h.2 i hi)⟩

theorem wpAnyZ_first {i : Nat} {oi oz : Oper} {v : Value} (hi : ops[i]? = some oi) (hz : ops[z]? = some oz) (hwait : ∃ e ∈ oz.after, Region.binds md e = true ∧ e.on = i)
    (hsel : ∀ (j : Nat) (o : Oper) cs b, ops[j]? = some o → o.op ≠ .select cs b)
    (hQ : ∀ c a w, Q (.panic c) (a.put oi.dst v) w → Q (.panic c) a w) :
    ∀ (fuel : Nat) (listed : Array Bool) (a : Act) (w : World),
      (∀ j oj, ops[j]? = some oj → j ≠ i → listed.getD j true = false → (∀ e ∈ oj.after, Region.binds md e = true → e.on ≠ i) → oi.apart ops oj = true) →
      i ∈ Region.ready md ops listed → YieldsIf P ops S oi v a → S w →
      wpAnyZ P md ops Q S z fuel (listed.setIfInBounds i true) (a.put oi.dst v) w → wpAnyZ P md ops Q S z (fuel + 1) listed a w := by
  intro fuel
  induction fuel with
  | zero =>
    intro listed a w _ hr hy hS H
    refine ⟨fun h => (by rw [h] at hr; cases hr), fun j hj => ?_⟩
    by_cases hji : j = i
    · subst hji; exact hy.wpOp hi hS ⟨.inr hS, H⟩
    · have := ready_mono hj hji
      rw [H.1] at this
      cases this
  | succ fuel ih =>
    intro listed a w hfree hr hy hS H
    refine ⟨fun h => (by rw [h] at hr; cases hr), fun j hj => ?_⟩
    by_cases hji : j = i
    · subst hji; exact hy.wpOp hi hS ⟨.inr hS, H⟩
    · have h1 := H.2 j (ready_mono hj hji)
      obtain ⟨hjun, oj, hoj, hall⟩ := mem_ready.1 hj
      have hnot : ∀ e ∈ oj.after, Region.binds md e = true → e.on ≠ i := fun e he hb heq => by
        have h1 := hall e he hb
        have h0 := (mem_ready.1 hr).1
        rw [heq] at h1
        rcases Nat.lt_or_ge i listed.size with h' | h'
        · simp [h'] at h0 h1; rw [h0] at h1; cases h1
        · simp [Array.getElem?_eq_none h'] at h1
      have hjz : j ≠ z := fun e => by
        subst e
        obtain ⟨e, he, hb, ho⟩ := hwait
        have : oj = oz := Option.some.inj (hoj.symm.trans hz)
        subst this
        exact hnot e he hb ho
      have h2 := wpOp_putIf hoj (hfree j oj hoj hji hjun hnot) (fun cs b => hsel i oi cs b hi) (fun cs b => hsel j oj cs b hoj) hQ hy h1
      have hfree' : ∀ k ok, ops[k]? = some ok → k ≠ i → (listed.setIfInBounds j true).getD k true = false →
          (∀ e ∈ ok.after, Region.binds md e = true → e.on ≠ i) → oi.apart ops ok = true := fun k ok hk hki hun hno => by
        refine hfree k ok hk hki ?_ hno
        by_cases hjk : j = k
        · subst hjk; exact hjun
        · rw [getD_set_ne true hjk] at hun; exact hun
      refine wpOp_mono (fun a' w' h3 => ?_) h2
      have hS' : S w' := h3.2.1.resolve_left hjz
      refine ⟨.inr hS', ih (listed.setIfInBounds j true) a' w' hfree' (ready_mono hr (Ne.symm hji)) h3.1 hS' ?_⟩
      rw [Array.setIfInBounds_comm _ _ hji]
      exact h3.2.2

theorem wpAnyZ_take {i : Nat} {oi oz : Oper} {v : Value} {fuel : Nat} {listed : Array Bool} {a : Act} {w : World} (hi : ops[i]? = some oi) (hz : ops[z]? = some oz) (hwait : (oz.after.any fun e => Region.binds md e && e.on == i) = true)
    (hs : Region.noSelect ops = true) (hf : Region.free md ops listed i = true) (hr : (Region.ready md ops listed).contains i = true)
    (hQ : ∀ c a w, Q (.panic c) (a.put oi.dst v) w → Q (.panic c) a w) (hy : YieldsIf P ops S oi v a) (hS : S w)
    (h : wpAnyZ P md ops Q S z fuel (listed.setIfInBounds i true) (a.put oi.dst v) w) : wpAnyZ P md ops Q S z (fuel + 1) listed a w :=
  wpAnyZ_first hi hz (by
    obtain ⟨j, hj, h⟩ := Array.any_eq_true.1 hwait
    simp only [Bool.and_eq_true, beq_iff_eq] at h
    exact ⟨_, Array.getElem_mem hj, h⟩) (Region.noSelect_spec hs) hQ fuel listed a w (Region.free_spec hi hf) (by simpa using hr) hy hS h

/-- What is left when all but the last have come up. -/
def lastQ (P : Program) (ops : Array Oper) (Q : Exit → Act → World → Prop) (o : Oper) : Exit → Act → World → Prop
  | .normal, a, w => if Region.wanted o (yielded ops a.tmps) then o.wp P a w (fun a' w' => Q .normal a' w') Q else Q .normal (a.put o.dst undef) w
  | e, a, w => Q e a w

theorem wp_last {o z : Oper} {a : Act} {w : World} {K K' : Act → World → Prop} (h : ∀ a w, K a w → K' a w)
    (hh : o.wp P a w K (lastQ P ops Q z)) : o.wp P a w K' Q := by
  unfold Oper.wp at *
  generalize (execOp a.eval o).run P w = r at *
  cases r with
  | ok n w' =>
    cases n <;> simp only [Oper.upon] at hh ⊢ <;>
      first
        | exact h _ _ hh
        | exact Calls.mono hh (fun e w'' he => by cases e <;> first | exact h _ _ he | exact he)
        | exact Rows.mono hh (fun _ _ he => h _ _ he)
  | halt x w' => cases x <;> simp only [Oper.upon] at hh ⊢ <;> exact hh

theorem lastQ_go {o : Oper} {a : Act} {w : World} (hw : Region.wanted o (yielded ops a.tmps) = true) (h : o.wp P a w (fun a' w' => Q .normal a' w') Q) : lastQ P ops Q o .normal a w := by
  show (if Region.wanted o (yielded ops a.tmps) then o.wp P a w (fun a' w' => Q .normal a' w') Q else Q .normal (a.put o.dst undef) w)
  rw [if_pos hw]
  exact h

def ordMixZ (md : Region.Mode) (ops : Array Oper) (z : Nat) : List (Bool × Nat) → Array Bool → Bool
  | [], listed => decide (Region.ready md ops listed = [z]) && (Region.ready md ops (listed.setIfInBounds z true)).isEmpty
  | (true, k) :: r, listed => (Region.ready md ops listed).contains k && Region.free md ops listed k && ((ops.getD z default).after.any fun e => Region.binds md e && e.on == k) && ordMixZ md ops z r (listed.setIfInBounds k true)
  | (false, k) :: r, listed => decide (Region.ready md ops listed = [k]) && ordMixZ md ops z r (listed.setIfInBounds k true)

theorem wpAnyZ_of_ord (hrf : ∀ w, R w w) (htr : ∀ a b c, R a b → R b c → R a c) (hs : Region.noSelect ops = true) (hQ : ∀ c a d v w, Q (.panic c) (Act.put a d v) w → Q (.panic c) a w) (hz : z < ops.size) :
    ∀ (is : List (Bool × Nat)) (listed : Array Bool) (a : Act) (w : World), (∀ p ∈ is, p.2 < ops.size) →
    ordMixZ md ops z is listed = true → wpR P ops (lastQ P ops Q (ops.toList.getD z default)) R (named ops.toList is) a w → wpAnyZ P md ops Q (R w) z (is.length + 1) listed a w
  | [], listed, a, w, _, hB, h => by
    simp only [ordMixZ, Bool.and_eq_true, decide_eq_true_eq] at hB
    obtain ⟨hr, hB'⟩ := hB
    have h0 : ops[z]? = some (ops.toList.getD z default) := by simp [hz]
    refine ⟨fun hn => (by rw [hn] at hr; cases hr), fun i hi => ?_⟩
    rw [hr] at hi
    obtain rfl : i = z := by simpa using hi
    have h' : (if Region.wanted (ops.toList.getD i default) (yielded ops a.tmps) then (ops.toList.getD i default).wp P a w (fun a' w' => Q .normal a' w') Q else Q .normal (a.put (ops.toList.getD i default).dst undef) w) := h
    have hd : Region.ready md ops (listed.setIfInBounds i true) = [] := by simpa using hB'
    unfold wpOp
    simp only [h0]
    by_cases hw : Region.wanted (ops.toList.getD i default) (yielded ops a.tmps) = true
    · rw [if_pos hw] at h' ⊢
      exact .inl (Oper.wp_mono (fun a' w' hh => ⟨.inl (by trivial), hd, hh⟩) h')
    · rw [if_neg hw] at h' ⊢
      exact ⟨.inl (by trivial), hd, h'⟩
  | (true, k) :: r, listed, a, w, hl, hB, h => by
    have hk : k < ops.size := hl (true, k) (by simp)
    have h0 : ops[k]? = some (ops.toList.getD k default) := by simp [hk]
    have hz0 : ops[z]? = some (ops.getD z default) := by simp [hz]
    simp only [ordMixZ, Bool.and_eq_true] at hB
    obtain ⟨⟨⟨hr, hf⟩, hwt⟩, hB'⟩ := hB
    simp only [named] at h
    obtain ⟨v, hy, hK⟩ := h
    exact wpAnyZ_take h0 hz0 hwt hs hf hr (fun c a w hh => hQ c a _ _ w hh) hy (hrf _) (wpAnyZ_of_ord hrf htr hs hQ hz r _ _ w (fun p hp => hl p (by simp [hp])) hB' hK)
  | (false, k) :: r, listed, a, w, hl, hB, h => by
    have hk : k < ops.size := hl (false, k) (by simp)
    have h0 : ops[k]? = some (ops.toList.getD k default) := by simp [hk]
    have hl' : ∀ p ∈ r, p.2 < ops.size := fun p hp => hl p (by simp [hp])
    simp only [ordMixZ, Bool.and_eq_true, decide_eq_true_eq] at hB
    obtain ⟨hr, hB'⟩ := hB
    refine ⟨fun hn => (by rw [hn] at hr; cases hr), fun i hi => ?_⟩
    rw [hr] at hi
    obtain rfl : i = k := by simpa using hi
    simp only [named] at h
    unfold wpR at h
    unfold wpOp
    simp only [h0]
    by_cases hw : Region.wanted (ops.toList.getD i default) (yielded ops a.tmps) = true
    · rw [if_pos hw] at h ⊢
      refine .inl (wp_last (fun a' w' hh => ⟨.inr hh.1, ?_⟩) h)
      exact wpAnyZ_mono (fun w'' h2 => htr _ _ _ hh.1 h2) _ _ _ _ (wpAnyZ_of_ord hrf htr hs hQ hz r _ a' w' hl' hB' hh.2)
    · rw [if_neg hw] at h ⊢
      exact ⟨.inr (hrf _), wpAnyZ_of_ord hrf htr hs hQ hz r _ _ w hl' hB' h⟩

/-- THE BEGINNING. is: the order of all but z, and which of them only reads. -/
theorem wp_region_ordZ {id : Nat} {a : Act} {w : World} {l : List Oper} (z : Nat) (is : List (Bool × Nat)) (hrf : ∀ w, R w w) (htr : ∀ a b c, R a b → R b c → R a c) (hm : P.follows .mixedOrders = true) (hQ : ∀ c a d v w, Q (.panic c) (Act.put a d v) w → Q (.panic c) a w)
    (hn : Region.noSelect l.toArray = true) (hk : is.length + 1 = l.length) (hz : z < l.length) (hlt : (is.all fun p => decide (p.2 < l.length)) = true) (hB : ordMixZ .any l.toArray z is (Array.replicate l.toArray.size false) = true)
    (h : wpR P l.toArray (lastQ P l.toArray Q (l.getD z default)) R (named l is) a w.drew) : (Code.region id l.toArray true).wp P Q a w := by
  have := wpAnyZ_of_ord hrf htr (md := .any) hn hQ (by simpa using hz) is _ a w.drew (fun p hp => by
    have := List.all_eq_true.1 hlt p hp
    simpa using this) hB h
  rw [hk] at this
  refine wp_region_any hm ?_
  exact wpAny_of_Z _ _ _ _ this
end

end Go.Proofs.YtfpdgdacifiejaaGreat

namespace Go.Proofs.YtfpdgdacifiejaaGreat
open Go.RowKit Go.Maps
set_option maxRecDepth 100000

/-- The words of a text, or none; where it can't go on; the error. -/
def lxW (L : List UInt8) : List Wd := if 65536 < L.length then [] else if (lexL L 0).2 = none then (lexL L 0).1 else []
def lxA (L : List UInt8) : Nat := if 65536 < L.length then 0 else (lexL L 0).2.getD 0
def lxE (L : List UInt8) : Nat := if 65536 < L.length then 5 else if (lexL L 0).2 = none then 0 else 110
def LexOut (L : List UInt8) (w : World) (e : Ending) (w' : World) : Prop :=
  ∃ v, e = .returned (.tuple #[v, .int .i64 (lxA L : Int), .int .i64 (lxE L : Int)]) ∧ OwnW w.heap.size w' v (lxW L) ∧ Kept [] w w'
theorem pc_in (l : List UInt8) (h0 : 0 < (pcO l).sz) : (pcO l).ah + (pcO l).bh ≤ (pcO l).sz ∧ (pcO l).ah ≤ 1 ∧ (pcO l).bh ≤ 1 ∧ (pcO l).kd ≤ 7 := by
  unfold pcO at h0 ⊢
  generalize hdC l = c at *
  have hq : 0 < quoN l → 2 ≤ quoN l := fun h => (quo_end l h).2.1
  by_cases c1 : c = 1
  · subst c1; exact ⟨by simp [cutO], by simp [cutO], by simp [cutO], by simp [cutO]⟩
  by_cases c2 : c = 2
  · subst c2; exact ⟨by simp [cutO], by simp [cutO], by simp [cutO], by simp [cutO]⟩
  by_cases c3 : c = 3
  · subst c3; exact ⟨by simp [cutO], by simp [cutO], by simp [cutO], by simp [cutO]⟩
  by_cases c4 : c = 4
  · subst c4; exact ⟨by simp [cutO], by simp [cutO], by simp [cutO], by simp [cutO]⟩
  by_cases c5 : c = 5
  · subst c5; exact ⟨by simp [cutO], by simp [cutO], by simp [cutO], by simp [cutO]⟩
  by_cases c7 : c = 7
  · subst c7
    simp [cutO] at h0 ⊢
    omega
  by_cases c8 : c = 8
  · subst c8
    simp [cutO] at h0 ⊢
    exact hq h0
  by_cases c9 : c = 9
  · subst c9
    simp [cutO] at h0 ⊢
    exact hq h0
  · exact ⟨by simp [cutO, c1, c2, c3, c4, c5, c7, c8, c9], by simp [cutO, c1, c2, c3, c4, c5, c7, c8, c9], by simp [cutO, c1, c2, c3, c4, c5, c7, c8, c9], by simp [cutO, c1, c2, c3, c4, c5, c7, c8, c9]⟩
/-- A place at which a piece ends. -/
def EdgeAt (S : ByteArray) (e : Nat) : Prop := e = S.size ∨ (∃ h1 : e - 1 < S.size, (S[e - 1]'h1).toNat < 128) ∨ (∃ h1 : e < S.size, (S[e]'h1).toNat < 128)
theorem edge_of (S : ByteArray) (k : Nat) (hk : k < S.size) (h0 : 0 < (pcO ((bl S).drop k)).sz) : k + (pcO ((bl S).drop k)).sz ≤ S.size ∧ EdgeAt S (k + (pcO ((bl S).drop k)).sz) := by
  have hne : (bl S).drop k ≠ [] := by
    intro e
    have := congrArg List.length e
    rw [List.length_drop, bl_len] at this
    simp at this
    omega
  have hle := pc_le _ hne
  have hed := pc_edge _ hne h0
  generalize (pcO ((bl S).drop k)).sz = n at *
  have hlen : ((bl S).drop k).length = S.size - k := by rw [List.length_drop, bl_len]
  rw [hlen] at hle
  refine ⟨by omega, ?_⟩
  unfold EdgeAt
  rcases hed with h | ⟨h1, h2⟩ | ⟨h1, h2⟩
  · left; omega
  · right; left
    refine ⟨by omega, ?_⟩
    rw [List.getElem_drop] at h2
    simp only [show k + (n - 1) = k + n - 1 by omega] at h2
    exact h2
  · right; right
    refine ⟨by omega, ?_⟩
    rw [List.getElem_drop] at h2
    exact h2
/-- How far Lex is: the words so far, and what is left. -/
structure LxSt (S : ByteArray) (k en : Nat) (ws : List Wd) : Prop where
  le : k ≤ en
  top : en ≤ S.size
  edge : k < en → EdgeAt S en
  few : ws.length ≤ en
  all : lexL (bl S) 0 = (ws ++ (lexL ((bl S).drop en) en).1, (lexL ((bl S).drop en) en).2)
theorem LxSt.first (S : ByteArray) : LxSt S 0 0 [] := ⟨Nat.le_refl _, Nat.zero_le _, fun h => absurd h (by omega), Nat.le_refl _, by simp⟩
theorem LxSt.over {S : ByteArray} {k en : Nat} {ws : List Wd} (h : LxSt S k en ws) (hk : k < en) : LxSt S (k + (Utf8.decode S k).2) en ws :=
  ⟨dec_edge S k en hk h.top (h.edge hk), h.top, fun _ => h.edge hk, h.few, h.all⟩
theorem drop_ne {S : ByteArray} {k : Nat} (hk : k < S.size) : (bl S).drop k ≠ [] := by
  intro e
  have := congrArg List.length e
  rw [List.length_drop, bl_len] at this
  simp at this
  omega
theorem LxSt.bad {S : ByteArray} {k : Nat} {ws : List Wd} (h : LxSt S k k ws) (hk : k < S.size) (h0 : (pcO ((bl S).drop k)).sz = 0) : (lexL (bl S) 0).2 = some k := by
  rw [h.all, lexL_err (drop_ne hk) h0]
theorem LxSt.skip {S : ByteArray} {k : Nat} {ws : List Wd} (h : LxSt S k k ws) (hk : k < S.size) (h0 : (pcO ((bl S).drop k)).sz ≠ 0) (hz : (pcO ((bl S).drop k)).kd = 0) : LxSt S (k + (Utf8.decode S k).2) (k + (pcO ((bl S).drop k)).sz) ws := by
  obtain ⟨h1, h2⟩ := edge_of S k hk (by omega)
  refine ⟨dec_edge S k _ (by omega) h1 h2, h1, fun _ => h2, by have := h.few; omega, ?_⟩
  rw [h.all, lexL_skip (drop_ne hk) (by omega) hz, List.drop_drop]
theorem LxSt.word {S : ByteArray} {k : Nat} {ws : List Wd} (h : LxSt S k k ws) (hk : k < S.size) (h0 : (pcO ((bl S).drop k)).sz ≠ 0) (hz : (pcO ((bl S).drop k)).kd ≠ 0) :
    LxSt S (k + (Utf8.decode S k).2) (k + (pcO ((bl S).drop k)).sz) (ws ++ [⟨(pcO ((bl S).drop k)).kd, txO ((bl S).drop k) (pcO ((bl S).drop k)), k⟩]) := by
  obtain ⟨h1, h2⟩ := edge_of S k hk (by omega)
  refine ⟨dec_edge S k _ (by omega) h1 h2, h1, fun _ => h2, by have := h.few; simp; omega, ?_⟩
  rw [h.all, lexL_word (drop_ne hk) (by omega) hz, List.drop_drop]
  simp
theorem LxSt.done {S : ByteArray} {k en : Nat} {ws : List Wd} (h : LxSt S k en ws) (hk : S.size ≤ k) : lexL (bl S) 0 = (ws, none) := by
  have : en = S.size := by have := h.le; have := h.top; omega
  rw [h.all, this, List.drop_of_length_le (by rw [bl_len]; omega), lexL_nil]
  simp
theorem tx_bl (S : ByteArray) (k : Nat) (p : Pc) (hp : p.ah + p.bh ≤ p.sz) : bl (S.extract (k + p.ah) (k + p.sz - p.bh)) = txO ((bl S).drop k) p := by
  rw [bl_ext]
  unfold txO
  rw [List.drop_drop, show k + p.sz - p.bh - (k + p.ah) = p.sz - p.bh - p.ah by omega]
theorem OwnW.iterAt {base : Nat} {w : World} {v : Value} {l : List Wd} (h : OwnW base w v l) {k : Nat} {s : ByteArray} {pos : Nat} (hk : w.heap[k]? = some (.stringIter s pos)) (pos' : Nat) : OwnW base (w.iterAt k s pos') v l := by
  refine ⟨⟨h.1.1, ?_⟩, h.2⟩
  rcases h.1.2 with h0 | ⟨g, cap, cur, hv, hb, hg, rest⟩
  · exact .inl h0
  · refine .inr ⟨g, cap, cur, hv, hb, ?_, rest⟩
    rw [Lib.iterAt_other _ _ _ _ _ (fun e => by subst e; rw [hk] at hg; cases hg)]
    exact hg
theorem OwnW.ne_row {base : Nat} {w : World} {v : Value} {l : List Wd} (h : OwnW base w v l) {k : Nat} {cs : Array Value} (hk : w.heap[k]? = some (.cells cs 46)) : k ∉ v.ownBlock.toList := by
  rcases h.1.2 with ⟨rfl, _⟩ | ⟨g, cap, cur, rfl, hb, hg, rest⟩
  · simp [Value.ownBlock]
  · intro e
    simp [Value.ownBlock] at e
    subst e
    rw [hk] at hg
    cases hg
theorem OwnW.ne_iter {base : Nat} {w : World} {v : Value} {l : List Wd} (h : OwnW base w v l) {k : Nat} {s : ByteArray} {pos : Nat} (hk : w.heap[k]? = some (.stringIter s pos)) : k ∉ v.ownBlock.toList := by
  rcases h.1.2 with ⟨rfl, _⟩ | ⟨g, cap, cur, rfl, hb, hg, rest⟩
  · simp [Value.ownBlock]
  · intro e
    simp [Value.ownBlock] at e
    subst e
    rw [hk] at hg
    cases hg

set_option maxHeartbeats 8000000 in
theorem lex_any (S : ByteArray) (w : World) (hs : S.size ≤ 9223372036854775807) : Calls Tryz.prog 7 #[.string S] w (LexOut (bl S) w) := by
  by_cases hl : 65536 < S.size
  · have H1 : Hid (lxA (bl S) = 0 ∧ lxE (bl S) = 5 ∧ lxW (bl S) = []) := by
      show _ ∧ _ ∧ _
      unfold lxA lxE lxW
      rw [bl_len, if_pos hl, if_pos hl, if_pos hl]
      exact ⟨rfl, rfl, rfl⟩
    go_enter Tryz.func7, Tryz.ntmps7
    go_wp2_with fail
    go_ret3
    exact ⟨_, by rw [H1.out.1, H1.out.2.1]; rfl, by rw [H1.out.2.2]; exact OwnW.nil _ _, Kept.refl _ _⟩
  · go_enter Tryz.func7, Tryz.ntmps7
    go_wp2_with fail
    go_loopw [2, 5] (fun sl se wr => ∃ (k en : Nat) (ws : List Wd) (v2 : Value), v2 = sl ∧ se = .int .i64 en ∧ wr.heap[w.heap.size]? = some (.stringIter S k) ∧ Hid (LxSt S k en ws ∧ OwnW w.heap.size wr v2 ws ∧ Kept [] w wr)) (fun _ _ wr => S.size - wr.iterPos w.heap.size)
    case atStart => exact ⟨0, 0, [], _, rfl, rfl, World.iter_heap w S 0, LxSt.first S, OwnW.nil _ _, Kept.alloc _ _ _⟩
    case round =>
      obtain ⟨k, en, ws, v2, rfl, rfl, hit, HS⟩ := hrel
      have HPos : Hid (wr.iterPos w.heap.size = k) := iterPos_of hit
      by_cases hlt : k < S.size
      · have hnx : ∀ ty, (Instr.next (.pointer (some ⟨w.heap.size, 0, none⟩)) true ty).run Tryz.prog wr = _ := fun ty => Lib.run_next_any_at wr w.heap.size S k ty hit hlt
        obtain ⟨R, hR⟩ : ∃ R, (Utf8.decode S k).1 = R := ⟨_, rfl⟩
        obtain ⟨K, hK⟩ : ∃ K, (Utf8.decode S k).2 = K := ⟨_, rfl⟩
        have hrl : R < 2147483648 := by have := Lib.rune_le S k; omega
        have HCL : Hid (clsN R = hdC ((bl S).drop k)) := by
          show _ = _
          rw [← hR, dec_cls S k hlt]
          unfold hdC
          rw [List.headD_eq_head?_getD, List.head?_drop, bl_get? S k hlt]
          rfl
        have hK1 : 1 ≤ K := by rw [← hK]; exact Lib.width_pos S k
        rw [hR, hK] at hnx
        have hit2 := Lib.iterAt_heap wr w.heap.size S k (k + K) hit
        have HK2 : Hid (Kept [] w (wr.iterAt w.heap.size S (k + K)) ∧ OwnW w.heap.size (wr.iterAt w.heap.size S (k + K)) v2 ws) := ⟨HS.out.2.2.iterAt (Nat.le_refl _) S _, HS.out.2.1.iterAt hit _⟩
        obtain ⟨W, hWd⟩ : ∃ W, wr.iterAt w.heap.size S (k + K) = W := ⟨_, rfl⟩
        rw [hWd] at hnx hit2 HK2
        have HKK := Lib.hid hK
        clear hWd hK hR hit
        have hen := HS.out.1.le
        have hto := HS.out.1.top
        by_cases hin : k < en
        · have HN : Hid (LxSt S (k + K) en ws) := by have := HS.out.1.over hin; rw [HKK.out] at this; exact this
          go_wp2_with fail
          go_roundw
          case rel => exact ⟨k + K, en, ws, v2, rfl, rfl, hit2, HN.out, HK2.out.2, HK2.out.1⟩
          case measure => rw [HPos.out, iterPos_of hit2]; omega
        · obtain rfl : k = en := by omega
          have HP := Lib.hid (edge_of S k hlt)
          obtain ⟨p, hp⟩ : ∃ p, pcO ((bl S).drop k) = p := ⟨_, rfl⟩
          have HIN : Hid (0 < p.sz → p.ah + p.bh ≤ p.sz ∧ p.ah ≤ 1 ∧ p.bh ≤ 1 ∧ p.kd ≤ 7) := by rw [← hp]; exact pc_in _
          have hsz : p.sz ≤ S.size - k := by have := pc_le _ (drop_ne hlt); rw [hp, List.length_drop, bl_len] at this; exact this
          have HPP := Lib.hid hp
          rw [hp] at HP
          have HCUT : Hid (∀ wx, Calls Tryz.prog 15 #[.string (S.extract k S.size), .int .i64 (clsN R : Int)] wx fun e w' => e = .returned (.agg (pcA p)) ∧ Kept [] wx w') := fun wx => by
            have := cut_any (S.extract k S.size) (clsN R) wx (by rw [size_from]; omega) (by rw [size_from]; omega)
            rw [bl_from, HCL.out, show cutO ((bl S).drop k) (hdC ((bl S).drop k)) = p from hp] at this
            rw [HCL.out]
            exact this
          clear hp
          go_upto_region 8 with (fail)
          go_cut [8] (fun s8 wx => ∃ P, s8 = .pointer (some ⟨P, 0, none⟩) ∧ Hid (Kept [] W wx ∧ W.heap.size ≤ P ∧ wx.heap[P]? = some (.cells (pcA p) 46)))
          case first =>
            have h0k : (k : Int) ≤ (S.size : Int) := by omega
            refine wp_region_plan (R := Imp (Kept [] W)) (.take 0 (.take 1 (.take 2 (.take 3 (.two 4 (.two 5 (.one 6 (.one 7 .fin)) 6 (.one 5 (.one 7 .fin))) 6 (.one 4 (.one 5 (.one 7 .fin)))))))) (fun _ => Imp.refl _ _) (fun _ _ _ h k => Imp.trans h k) (by kernel_rfl) (fun _ _ d _ _ h => by cases d <;> exact h) (by kernel_rfl) rfl (by kernel_rfl) ?_
            repeat (first | (apply wpP_take; (case hw => rfl); (case hv => intro w' hk; simp only [List.getD_cons_zero, List.getD_cons_succ]; go_simp; with_reducible rfl); simp only [List.getD_cons_zero, List.getD_cons_succ, Act.put, List.setIfInBounds_toArray, List.set_cons_zero, List.set_cons_succ]) | (refine wpP_pass (by rfl) ?_; simp only [List.getD_cons_zero, List.getD_cons_succ, Act.put, List.setIfInBounds_toArray, List.set_cons_zero, List.set_cons_succ]))
            refine wpP_two ?_ ?_
            · refine wpP_one (by rfl) (fun K hK => ?_); simp only [List.getD_cons_zero, List.getD_cons_succ]
              go_simp
              refine (classOf_any R _ hrl).mono ?_
              rintro e w2 ⟨rfl, rfl⟩
              refine hK _ _ (fun hh => hh) ?_
              clear hK K
              refine wpP_two ?_ ?_
              · refine wpP_one (by rfl) (fun K hK => ?_); simp only [List.getD_cons_zero, List.getD_cons_succ]
                go_simp
                refine (HCUT.out _).mono ?_
                rintro e w2 ⟨rfl, hk2⟩
                refine hK _ _ (fun hh => hh.trans hk2) ?_
                clear hK K
                refine wpP_one (by rfl) (fun K hK => ?_); simp only [List.getD_cons_zero, List.getD_cons_succ]
                go_simp
                refine hK _ _ (fun hh => hh.trans (Kept.alloc _ _ _)) ?_
                clear hK K
                refine wpP_one (by rfl) (fun K hK => ?_); simp only [List.getD_cons_zero, List.getD_cons_succ]
                have hra : (w2.alloc (.cells #[.int .i64 0, .int .i64 0, .int .i64 0, .int .i64 0] 46)).heap[w2.heap.size]? = some (.cells #[.int .i64 0, .int .i64 0, .int .i64 0, .int .i64 0] 46) := heap_alloc_last _ _
                refine wp_store_cells _ _ _ rfl (w2.heap.size) 46 #[.int .i64 0, .int .i64 0, .int .i64 0, .int .i64 0] (pcA p) rfl rfl hra rfl (by intro v hv; simp [pcA] at hv; rcases hv with rfl | rfl | rfl | rfl <;> rfl) (by kernel_rfl) ?_
                have hsz2 : W.heap.size ≤ w2.heap.size := hk2.size
                have HF : Hid (Kept [] W ((w2.alloc (.cells #[.int .i64 0, .int .i64 0, .int .i64 0, .int .i64 0] 46)).setRow w2.heap.size (pcA p))) := (((Kept.drew _ _).trans hk2).trans (Kept.alloc _ _ _)).into (setRow_kept _ _ _) (by simpa using hsz2)
                refine hK _ _ (fun _ => HF.out) ?_
                clear hK K
                refine wpP_fin ?_
                simp only [Act.put]
                go_wp2_with fail
                go_meet
                exact ⟨_, rfl, HF.out, hsz2, setRow_heap _ _ _ _ _ _ hra⟩
              · refine wpP_one (by rfl) (fun K hK => ?_); simp only [List.getD_cons_zero, List.getD_cons_succ]
                go_simp
                refine hK _ _ (fun hh => hh.trans (Kept.alloc _ _ _)) ?_
                clear hK K
                refine wpP_one (by rfl) (fun K hK => ?_); simp only [List.getD_cons_zero, List.getD_cons_succ]
                go_simp
                refine (HCUT.out _).mono ?_
                rintro e w2 ⟨rfl, hk2⟩
                have hka : Kept [] W (W.drew.alloc (.cells #[.int .i64 0, .int .i64 0, .int .i64 0, .int .i64 0] 46)) := (Kept.drew _ _).trans (Kept.alloc _ _ _)
                refine hK _ _ (fun hh => hh.trans hk2) ?_
                clear hK K
                refine wpP_one (by rfl) (fun K hK => ?_); simp only [List.getD_cons_zero, List.getD_cons_succ]
                have hra : w2.heap[W.heap.size]? = some (.cells #[.int .i64 0, .int .i64 0, .int .i64 0, .int .i64 0] 46) := hk2.heap (by simp) (heap_alloc_last W.drew _)
                refine wp_store_cells _ _ _ rfl (W.heap.size) 46 #[.int .i64 0, .int .i64 0, .int .i64 0, .int .i64 0] (pcA p) rfl rfl hra rfl (by intro v hv; simp [pcA] at hv; rcases hv with rfl | rfl | rfl | rfl <;> rfl) (by kernel_rfl) ?_
                have HF : Hid (Kept [] W (w2.setRow W.heap.size (pcA p))) := (hka.trans hk2).into (setRow_kept _ _ _) (by simp)
                refine hK _ _ (fun _ => HF.out) ?_
                clear hK K
                refine wpP_fin ?_
                simp only [Act.put]
                go_wp2_with fail
                go_meet
                exact ⟨_, rfl, HF.out, Nat.le_refl _, setRow_heap _ _ _ _ _ _ hra⟩
            · refine wpP_one (by rfl) (fun K hK => ?_); simp only [List.getD_cons_zero, List.getD_cons_succ]
              go_simp
              refine hK _ _ (fun hh => hh.trans (Kept.alloc _ _ _)) ?_
              clear hK K
              refine wpP_one (by rfl) (fun K hK => ?_); simp only [List.getD_cons_zero, List.getD_cons_succ]
              go_simp
              refine (classOf_any R _ hrl).mono ?_
              rintro e w2 ⟨rfl, rfl⟩
              refine hK _ _ (fun hh => hh) ?_
              clear hK K
              refine wpP_one (by rfl) (fun K hK => ?_); simp only [List.getD_cons_zero, List.getD_cons_succ]
              go_simp
              refine (HCUT.out _).mono ?_
              rintro e w2 ⟨rfl, hk2⟩
              have hka : Kept [] W (W.drew.alloc (.cells #[.int .i64 0, .int .i64 0, .int .i64 0, .int .i64 0] 46)) := (Kept.drew _ _).trans (Kept.alloc _ _ _)
              refine hK _ _ (fun hh => hh.trans hk2) ?_
              clear hK K
              refine wpP_one (by rfl) (fun K hK => ?_); simp only [List.getD_cons_zero, List.getD_cons_succ]
              have hra : w2.heap[W.heap.size]? = some (.cells #[.int .i64 0, .int .i64 0, .int .i64 0, .int .i64 0] 46) := hk2.heap (by simp) (heap_alloc_last W.drew _)
              refine wp_store_cells _ _ _ rfl (W.heap.size) 46 #[.int .i64 0, .int .i64 0, .int .i64 0, .int .i64 0] (pcA p) rfl rfl hra rfl (by intro v hv; simp [pcA] at hv; rcases hv with rfl | rfl | rfl | rfl <;> rfl) (by kernel_rfl) ?_
              have HF : Hid (Kept [] W (w2.setRow W.heap.size (pcA p))) := (hka.trans hk2).into (setRow_kept _ _ _) (by simp)
              refine hK _ _ (fun _ => HF.out) ?_
              clear hK K
              refine wpP_fin ?_
              simp only [Act.put]
              go_wp2_with fail
              go_meet
              exact ⟨_, rfl, HF.out, Nat.le_refl _, setRow_heap _ _ _ _ _ _ hra⟩
          case rest =>
          obtain ⟨P, rfl, HI⟩ := hcut
          obtain ⟨wy, rfl⟩ : ∃ wy, wy = wc := ⟨_, rfl⟩
          obtain ⟨zk, hzk⟩ : ∃ n, p.kd = n := ⟨_, rfl⟩
          obtain ⟨zs, hzs⟩ : ∃ n, p.sz = n := ⟨_, rfl⟩
          obtain ⟨za, hza⟩ : ∃ n, p.ah = n := ⟨_, rfl⟩
          obtain ⟨zb, hzb⟩ : ∃ n, p.bh = n := ⟨_, rfl⟩
          have HZ := Lib.hid (show p.kd = zk ∧ p.sz = zs ∧ p.ah = za ∧ p.bh = zb from ⟨hzk, hzs, hza, hzb⟩)
          have HROW : Hid (wy.heap[P]? = some (.cells #[.int .i64 (zk : Int), .int .i64 (zs : Int), .int .i64 (za : Int), .int .i64 (zb : Int)] 46)) := by
            have := HI.out.2.2
            unfold pcA at this
            rw [hzk, hzs, hza, hzb] at this
            exact this
          rw [hzs] at hsz
          have HBD : Hid (0 < zs → za + zb ≤ zs ∧ za ≤ 1 ∧ zb ≤ 1 ∧ zk ≤ 7) := by
            have := HIN.out
            rw [hzk, hzs, hza, hzb] at this
            exact this
          clear hzk hzs hza hzb
          obtain ⟨c0, c1, c2, c3, _, _, _, _⟩ := four_cells HROW.out
          have HKY : Hid (Kept [] w wy ∧ OwnW w.heap.size wy v2 ws) := ⟨HK2.out.1.trans HI.out.1, HK2.out.2.kept HI.out.1⟩
          have HPN : Hid (w.heap.size < P) := by
            have h1 := HK2.out.1.size
            have h2 := HI.out.2.1
            have h3 := (Array.getElem?_eq_some_iff.1 hit2).1
            show _ < _
            omega
          have HIT : Hid (wy.heap[w.heap.size]? = some (.stringIter S (k + K))) := HI.out.1.heap (by simp) hit2
          by_cases h0 : zs = 0
          · have H1 : Hid (lxA (bl S) = k ∧ lxE (bl S) = 110 ∧ lxW (bl S) = []) := by
              have := HS.out.1.bad hlt (by rw [HPP.out, HZ.out.2.1]; exact h0)
              show _ ∧ _ ∧ _
              unfold lxA lxE lxW
              rw [bl_len, if_neg hl, if_neg hl, if_neg hl, this]
              exact ⟨rfl, rfl, rfl⟩
            subst h0
            go_wp2_with fail
            go_ret3
            exact ⟨_, by rw [H1.out.1, H1.out.2.1]; rfl, by rw [H1.out.2.2]; exact OwnW.nil _ _, HKY.out.1⟩
          · have hzi : ¬ (zs : Int) = 0 := by omega
            by_cases hk0 : zk = 0
            · have HN : Hid (LxSt S (k + K) (k + zs) ws) := by
                have := HS.out.1.skip hlt (by rw [HPP.out, HZ.out.2.1]; exact h0) (by rw [HPP.out, HZ.out.1]; exact hk0)
                rw [HPP.out, HKK.out, HZ.out.2.1] at this
                exact this
              subst hk0
              go_wp2_with fail
              go_roundw
              case rel => exact ⟨k + K, k + zs, ws, v2, rfl, by go_num, HIT.out, HN.out, HKY.out.2, HKY.out.1⟩
              case measure => rw [HPos.out, iterPos_of HIT.out]; omega
            · have hki : ¬ (zk : Int) = 0 := by omega
              obtain ⟨b1, b2, b3, b4⟩ := HBD.out (by omega)
              obtain ⟨wd, hwd⟩ : ∃ wd : Wd, wd = ⟨zk, txO ((bl S).drop k) p, k⟩ := ⟨_, rfl⟩
              have HN : Hid (LxSt S (k + K) (k + zs) (ws ++ [wd])) := by
                have := HS.out.1.word hlt (by rw [HPP.out, HZ.out.2.1]; exact h0) (by rw [HPP.out, HZ.out.1]; exact hk0)
                rw [HPP.out, HKK.out, HZ.out.1, HZ.out.2.1, ← hwd] at this
                exact this
              have HTX : Hid (strL wd.tx = S.extract (k + za) (k + zs - zb)) := by
                show _ = _
                have := tx_bl S k p (by rw [HZ.out.2.1, HZ.out.2.2.1, HZ.out.2.2.2]; exact b1)
                rw [HZ.out.2.1, HZ.out.2.2.1, HZ.out.2.2.2] at this
                rw [hwd]
                show strL (txO _ _) = _
                rw [← this]
                rfl
              have hfew := HS.out.1.few
              obtain ⟨v3, w3, hrun, hown3, _, hk3⟩ := (HKY.out.2.kept (Kept.drew [] wy)).app (show w.heap.size ≤ wy.drew.heap.size from HKY.out.1.size) wd (by omega)
              have HKD : Hid (wd.kd = zk ∧ wd.at' = k) := by rw [hwd]; exact ⟨rfl, rfl⟩
              rw [HKD.out.1, HKD.out.2, HTX.out] at hrun hk3
              have HRUN := Lib.hid hrun
              have HOW := Lib.hid hown3
              have HK3 := Lib.hid hk3
              obtain ⟨PP, hPP⟩ : ∃ PP : World → Prop, PP = fun w' => w'.heap[P]? = some (.cells #[.int .i64 (zk : Int), .int .i64 (zs : Int), .int .i64 (za : Int), .int .i64 (zb : Int)] 46) := ⟨_, rfl⟩
              have HPI : Hid (PP wy.drew) := by show PP _; rw [hPP]; exact HROW.out
              have HPE : Hid (∀ w', PP w' → w'.heap[P]? = some (.cells #[.int .i64 (zk : Int), .int .i64 (zs : Int), .int .i64 (za : Int), .int .i64 (zb : Int)] 46)) := by intro w' h; rw [hPP] at h; exact h
              have HPB : Hid (∀ w', w'.heap[P]? = some (.cells #[.int .i64 (zk : Int), .int .i64 (zs : Int), .int .i64 (za : Int), .int .i64 (zb : Int)] 46) → PP w') := by intro w' h; rw [hPP]; exact h
              have y0 : ∀ w', Imp PP wy.drew w' → w'.cell? ⟨P, 0, none⟩ = some (.int .i64 (zk : Int)) := fun w' hk => cell_of_row _ _ 0 _ _ _ (HPE.out w' (hk HPI.out))
              have y2 : ∀ w', Imp PP wy.drew w' → w'.cell? ⟨P, 2, none⟩ = some (.int .i64 (za : Int)) := fun w' hk => cell_of_row _ _ 2 _ _ _ (HPE.out w' (hk HPI.out))
              have y3 : ∀ w', Imp PP wy.drew w' → w'.cell? ⟨P, 3, none⟩ = some (.int .i64 (zb : Int)) := fun w' hk => cell_of_row _ _ 3 _ _ _ (HPE.out w' (hk HPI.out))
              obtain ⟨lo, hlo⟩ : ∃ lo, k + za = lo := ⟨_, rfl⟩
              obtain ⟨hi, hhi⟩ : ∃ hi, k + zs - zb = hi := ⟨_, rfl⟩
              have e1 : IntKind.i64.wrap ((k : Int) + (za : Int)) = (lo : Int) := by rw [IntKind.wrap_i64]; omega
              have e2 : IntKind.i64.wrap ((k : Int) + (zs : Int) - (zb : Int)) = (hi : Int) := by rw [IntKind.wrap_i64]; omega
              have e3 : lo ≤ hi := by omega
              have e4 : hi ≤ S.size := by omega
              rw [hlo, hhi] at HRUN HK3
              clear hPP hwd hrun hown3 hk3 hlo hhi HTX
              go_wp2_with fail
              clear c0 c1 c2 c3
              refine wp_region_ordR (R := Imp (PP)) [(true, 0), (true, 1), (true, 2), (true, 3), (true, 4), (true, 5), (true, 6), (true, 7), (true, 8), (true, 9), (true, 10), (true, 11), (true, 12), (true, 13), (true, 14), (false, 15), (false, 16), (true, 17)] (fun _ => Imp.refl _ _) (fun _ _ _ h k => Imp.trans h k) (by kernel_rfl) (fun _ _ d _ _ h => by cases d <;> exact h) (by kernel_rfl) rfl (by kernel_rfl) (by kernel_rfl) ?_
              simp only [named, List.getD_cons_zero, List.getD_cons_succ]
              repeat (first | (apply wpR_take; (case hw => rfl); (case hv => intro w' hk; go_simp; with_reducible rfl); simp only [Act.put, List.setIfInBounds_toArray, List.set_cons_zero, List.set_cons_succ]) | (refine wpR_pass (by rfl) ?_; simp only [Act.put, List.setIfInBounds_toArray, List.set_cons_zero, List.set_cons_succ]))
              clear y0 y2 y3
              have HNP : Hid (P ∉ v2.ownBlock.toList ∧ w.heap.size ∉ v2.ownBlock.toList) := ⟨HKY.out.2.ne_row HROW.out, HKY.out.2.ne_iter HIT.out⟩
              have HR3 : Hid (w3.heap[P]? = some (.cells #[.int .i64 (zk : Int), .int .i64 (zs : Int), .int .i64 (za : Int), .int .i64 (zb : Int)] 46)) := HK3.out.heap HNP.out.1 ((Kept.alloc [] _ _).heap (by simp) (show wy.drew.heap[P]? = _ from HROW.out))
              have HT3 : Hid (w3.heap[w.heap.size]? = some (.stringIter S (k + K))) := HK3.out.heap HNP.out.2 ((Kept.alloc [] _ _).heap (by simp) (show wy.drew.heap[w.heap.size]? = _ from HIT.out))
              have HKW : Hid (Kept [] w w3) := ((HKY.out.1.trans (Kept.drew _ _)).trans (Kept.alloc _ _ _)).into HK3.out (fun q hq => by
                have := (HKY.out.2.blk q (by simpa using hq)).1
                exact this)
              refine wpR_force (by rfl) (fun K hK => ?_)
              go_simp
              refine hK _ _ (fun _ => HPB.out _ ((Kept.alloc [] _ _).heap (by simp) (show wy.drew.heap[P]? = _ from HROW.out))) ?_
              clear hK K
              refine wpR_force (by rfl) (fun K hK => ?_)
              refine wp_append_run _ _ _ rfl _ _ _ rfl rfl HRUN.out ?_
              refine hK _ _ (fun _ => HPB.out _ HR3.out) ?_
              clear hK K
              repeat (first | (apply wpR_take; (case hw => rfl); (case hv => intro w' hk; go_simp; with_reducible rfl); simp only [Act.put, List.setIfInBounds_toArray, List.set_cons_zero, List.set_cons_succ]) | (refine wpR_pass (by rfl) ?_; simp only [Act.put, List.setIfInBounds_toArray, List.set_cons_zero, List.set_cons_succ]))
              refine wpR_nil ?_
              go_wp2_with fail
              go_roundw
              case rel => exact ⟨k + K, k + zs, ws ++ [wd], v3, rfl, by go_num, HT3.out, HN.out, HOW.out, HKW.out⟩
              case measure => rw [HPos.out, iterPos_of HT3.out]; omega
      · have hnx : ∀ ty, (Instr.next (.pointer (some ⟨w.heap.size, 0, none⟩)) true ty).run Tryz.prog wr = _ := fun ty => Lib.run_next_end_at wr w.heap.size S k ty hit hlt
        have H1 : Hid (lxA (bl S) = 0 ∧ lxE (bl S) = 0 ∧ lxW (bl S) = ws) := by
          have := HS.out.1.done (by omega)
          show _ ∧ _ ∧ _
          unfold lxA lxE lxW
          rw [bl_len, if_neg hl, if_neg hl, if_neg hl, this]
          exact ⟨rfl, rfl, rfl⟩
        go_wp2_with fail
        go_ret3
        exact ⟨_, by rw [H1.out.1, H1.out.2.1]; rfl, by rw [H1.out.2.2]; exact HS.out.2.1, HS.out.2.2⟩
end Go.Proofs.YtfpdgdacifiejaaGreat

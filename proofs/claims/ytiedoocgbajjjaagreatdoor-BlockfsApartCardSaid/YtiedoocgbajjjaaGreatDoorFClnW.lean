/-
  A statement whose order Go leaves open and whose last operation (a store, an assignment) waits for all others: the others are walked in an order of the prover's under a relation of worlds that they keep; the last one comes behind them, and need not keep it.
  Conditions: those that the kernel reckons of the region's own list ('ordMixZ'); the relation is reflexive and transitive.
  Layer 4: clone.
  Conditions: those that each theorem states.
-/
import Derived.Test.YtiedoocgbajjjaaGreatDoorTKit
import Derived.Test.YtiedoocgbajjjaaGreatDoorFCln
import Derived.Laws.IdiomRangeMap
namespace Go.Proofs.YtiedoocgbajjjaaGreatDoor
open Go.RowKit Go.Maps
set_option maxRecDepth 100000

section
variable {P : Program} {ops : Array Oper} {Q : Exit → Act → World → Prop} {R : World → World → Prop} {S : World → Prop} {md : Region.Mode} {z : Nat}

/-- 'wpAnyH', but behind operation z nothing is asked of the world. -/
def wpAnyZ (P : Program) (md : Region.Mode) (ops : Array Oper) (Q : Exit → Act → World → Prop) (S : World → Prop) (z : Nat) : Nat → Array Bool → Act → World → Prop
  | 0, listed, a, w => Region.ready md ops listed = [] ∧ Q .normal a w
  | fuel + 1, listed, a, w =>
    (Region.ready md ops listed = [] → Q .normal a w) ∧
    ∀ i ∈ Region.ready md ops listed, wpOp P ops Q i (fun a' w' => (i = z ∨ S w') ∧ wpAnyZ P md ops Q S z fuel (listed.setIfInBounds i true) a' w') a w

theorem wpAny_of_Z : ∀ (fuel : Nat) (listed : Array Bool) (a : Act) (w : World), wpAnyZ P md ops Q S z fuel listed a w → wpAny P md ops Q fuel listed a w
  | 0, _, _, _, h => h
  | fuel + 1, _, _, _, h => ⟨h.1, fun i hi => wpOp_mono (fun a' w' h' => wpAny_of_Z fuel _ a' w' h'.2) (h.2 i hi)⟩

theorem wpAnyZ_mono {S S' : World → Prop} (hS : ∀ w, S w → S' w) : ∀ (fuel : Nat) (listed : Array Bool) (a : Act) (w : World), wpAnyZ P md ops Q S z fuel listed a w → wpAnyZ P md ops Q S' z fuel listed a w
  | 0, _, _, _, h => h
  | fuel + 1, _, _, _, h => ⟨h.1, fun i hi => wpOp_mono (fun a' w' h' => ⟨h'.1.imp id (hS _), wpAnyZ_mono hS fuel _ a' w' h'.2⟩) (h.2 i hi)⟩

theorem wpAnyZ_first {i : Nat} {oi oz : Oper} {v : Value} (hi : ops[i]? = some oi) (hz : ops[z]? = some oz) (hwait : ∃ e ∈ oz.after, Region.binds md e = true ∧ e.on = i)
    (hsel : ∀ (j : Nat) (o : Oper) cs b, ops[j]? = some o → o.op ≠ .select cs b)
    (hQ : ∀ c a w, Q (.panic c) (a.put oi.dst v) w → Q (.panic c) a w) :
    ∀ (fuel : Nat) (listed : Array Bool) (a : Act) (w : World),
      (∀ j oj, ops[j]? = some oj → j ≠ i → listed.getD j true = false → (∀ e ∈ oj.after, Region.binds md e = true → e.on ≠ i) → oi.apart ops oj = true) →
      i ∈ Region.ready md ops listed → YieldsIf P ops S oi v a → S w →
      wpAnyZ P md ops Q S z fuel (listed.setIfInBounds i true) (a.put oi.dst v) w → wpAnyZ P md ops Q S z (fuel + 1) listed a w := by
  intro fuel
  induction fuel with
  | zero =>
    intro listed a w _ hr hy hS H
    refine ⟨fun h => (by rw [h] at hr; cases hr), fun j hj => ?_⟩
    by_cases hji : j = i
    · subst hji; exact hy.wpOp hi hS ⟨.inr hS, H⟩
    · have := ready_mono hj hji
      rw [H.1] at this
      cases this
  | succ fuel ih =>
    intro listed a w hfree hr hy hS H
    refine ⟨fun h => (by rw [h] at hr; cases hr), fun j hj => ?_⟩
    by_cases hji : j = i
    · subst hji; exact hy.wpOp hi hS ⟨.inr hS, H⟩
    · have h1 := H.2 j (ready_mono hj hji)
      obtain ⟨hjun, oj, hoj, hall⟩ := mem_ready.1 hj
      have hnot : ∀ e ∈ oj.after, Region.binds md e = true → e.on ≠ i := fun e he hb heq => by
        have h1 := hall e he hb
        have h0 := (mem_ready.1 hr).1
        rw [heq] at h1
        rcases Nat.lt_or_ge i listed.size with h' | h'
        · simp [h'] at h0 h1; rw [h0] at h1; cases h1
        · simp [Array.getElem?_eq_none h'] at h1
      have hjz : j ≠ z := fun e => by
        subst e
        obtain ⟨e, he, hb, ho⟩ := hwait
        have : oj = oz := Option.some.inj (hoj.symm.trans hz)
        subst this
        exact hnot e he hb ho
      have h2 := wpOp_putIf hoj (hfree j oj hoj hji hjun hnot) (fun cs b => hsel i oi cs b hi) (fun cs b => hsel j oj cs b hoj) hQ hy h1
      have hfree' : ∀ k ok, ops[k]? = some ok → k ≠ i → (listed.setIfInBounds j true).getD k true = false →
          (∀ e ∈ ok.after, Region.binds md e = true → e.on ≠ i) → oi.apart ops ok = true := fun k ok hk hki hun hno => by
        refine hfree k ok hk hki ?_ hno
        by_cases hjk : j = k
        · subst hjk; exact hjun
        · rw [getD_set_ne true hjk] at hun; exact hun
      refine wpOp_mono (fun a' w' h3 => ?_) h2
      have hS' : S w' := h3.2.1.resolve_left hjz
      refine ⟨.inr hS', ih (listed.setIfInBounds j true) a' w' hfree' (ready_mono hr (Ne.symm hji)) h3.1 hS' ?_⟩
      rw [Array.setIfInBounds_comm _ _ hji]
      exact h3.2.2

theorem wpAnyZ_take {i : Nat} {oi oz : Oper} {v : Value} {fuel : Nat} {listed : Array Bool} {a : Act} {w : World} (hi : ops[i]? = some oi) (hz : ops[z]? = some oz) (hwait : (oz.after.any fun e => Region.binds md e && e.on == i) = true)
    (hs : Region.noSelect ops = true) (hf : Region.free md ops listed i = true) (hr : (Region.ready md ops listed).contains i = true)
    (hQ : ∀ c a w, Q (.panic c) (a.put oi.dst v) w → Q (.panic c) a w) (hy : YieldsIf P ops S oi v a) (hS : S w)
    (h : wpAnyZ P md ops Q S z fuel (listed.setIfInBounds i true) (a.put oi.dst v) w) : wpAnyZ P md ops Q S z (fuel + 1) listed a w :=
  wpAnyZ_first hi hz (by
    obtain ⟨j, hj, h⟩ := Array.any_eq_true.1 hwait
    simp only [Bool.and_eq_true, beq_iff_eq] at h
    exact ⟨_, Array.getElem_mem hj, h⟩) (Region.noSelect_spec hs) hQ fuel listed a w (Region.free_spec hi hf) (by simpa using hr) hy hS h

/-- What is left when all but the last have come up. -/
def lastQ (P : Program) (ops : Array Oper) (Q : Exit → Act → World → Prop) (o : Oper) : Exit → Act → World → Prop
  | .normal, a, w => if Region.wanted o (yielded ops a.tmps) then o.wp P a w (fun a' w' => Q .normal a' w') Q else Q .normal (a.put o.dst undef) w
  | e, a, w => Q e a w

theorem wp_last {o z : Oper} {a : Act} {w : World} {K K' : Act → World → Prop} (h : ∀ a w, K a w → K' a w)
    (hh : o.wp P a w K (lastQ P ops Q z)) : o.wp P a w K' Q := by
  unfold Oper.wp at *
  generalize (execOp a.eval o).run P w = r at *
  cases r with
  | ok n w' =>
    cases n <;> simp only [Oper.upon] at hh ⊢ <;>
      first
        | exact h _ _ hh
        | exact Calls.mono hh (fun e w'' he => by cases e <;> first | exact h _ _ he | exact he)
        | exact Rows.mono hh (fun _ _ he => h _ _ he)
  | halt x w' => cases x <;> simp only [Oper.upon] at hh ⊢ <;> exact hh

theorem lastQ_go {o : Oper} {a : Act} {w : World} (hw : Region.wanted o (yielded ops a.tmps) = true) (h : o.wp P a w (fun a' w' => Q .normal a' w') Q) : lastQ P ops Q o .normal a w := by
  show (if Region.wanted o (yielded ops a.tmps) then o.wp P a w (fun a' w' => Q .normal a' w') Q else Q .normal (a.put o.dst undef) w)
  rw [if_pos hw]
  exact h

def ordMixZ (md : Region.Mode) (ops : Array Oper) (z : Nat) : List (Bool × Nat) → Array Bool → Bool
  | [], listed => decide (Region.ready md ops listed = [z]) && (Region.ready md ops (listed.setIfInBounds z true)).isEmpty
  | (true, k) :: r, listed => (Region.ready md ops listed).contains k && Region.free md ops listed k && ((ops.getD z default).after.any fun e => Region.binds md e && e.on == k) && ordMixZ md ops z r (listed.setIfInBounds k true)
  | (false, k) :: r, listed => decide (Region.ready md ops listed = [k]) && ordMixZ md ops z r (listed.setIfInBounds k true)

theorem wpAnyZ_of_ord (hrf : ∀ w, R w w) (htr : ∀ a b c, R a b → R b c → R a c) (hs : Region.noSelect ops = true) (hQ : ∀ c a d v w, Q (.panic c) (Act.put a d v) w → Q (.panic c) a w) (hz : z < ops.size) :
    ∀ (is : List (Bool × Nat)) (listed : Array Bool) (a : Act) (w : World), (∀ p ∈ is, p.2 < ops.size) →
    ordMixZ md ops z is listed = true → wpR P ops (lastQ P ops Q (ops.toList.getD z default)) R (named ops.toList is) a w → wpAnyZ P md ops Q (R w) z (is.length + 1) listed a w
  | [], listed, a, w, _, hB, h => by
    simp only [ordMixZ, Bool.and_eq_true, decide_eq_true_eq] at hB
    obtain ⟨hr, hB'⟩ := hB
    have h0 : ops[z]? = some (ops.toList.getD z default) := by simp [hz]
    refine ⟨fun hn => (by rw [hn] at hr; cases hr), fun i hi => ?_⟩
    rw [hr] at hi
    obtain rfl : i = z := by simpa using hi
    have h' : (if Region.wanted (ops.toList.getD i default) (yielded ops a.tmps) then (ops.toList.getD i default).wp P a w (fun a' w' => Q .normal a' w') Q else Q .normal (a.put (ops.toList.getD i default).dst undef) w) := h
    have hd : Region.ready md ops (listed.setIfInBounds i true) = [] := by simpa using hB'
    unfold wpOp
    simp only [h0]
    by_cases hw : Region.wanted (ops.toList.getD i default) (yielded ops a.tmps) = true
    · rw [if_pos hw] at h' ⊢
      exact .inl (Oper.wp_mono (fun a' w' hh => ⟨.inl (by trivial), hd, hh⟩) h')
    · rw [if_neg hw] at h' ⊢
      exact ⟨.inl (by trivial), hd, h'⟩
  | (true, k) :: r, listed, a, w, hl, hB, h => by
    have hk : k < ops.size := hl (true, k) (by simp)
    have h0 : ops[k]? = some (ops.toList.getD k default) := by simp [hk]
    have hz0 : ops[z]? = some (ops.getD z default) := by simp [hz]
    simp only [ordMixZ, Bool.and_eq_true] at hB
    obtain ⟨⟨⟨hr, hf⟩, hwt⟩, hB'⟩ := hB
    simp only [named] at h
    obtain ⟨v, hy, hK⟩ := h
    exact wpAnyZ_take h0 hz0 hwt hs hf hr (fun c a w hh => hQ c a _ _ w hh) hy (hrf _) (wpAnyZ_of_ord hrf htr hs hQ hz r _ _ w (fun p hp => hl p (by simp [hp])) hB' hK)
  | (false, k) :: r, listed, a, w, hl, hB, h => by
    have hk : k < ops.size := hl (false, k) (by simp)
    have h0 : ops[k]? = some (ops.toList.getD k default) := by simp [hk]
    have hl' : ∀ p ∈ r, p.2 < ops.size := fun p hp => hl p (by simp [hp])
    simp only [ordMixZ, Bool.and_eq_true, decide_eq_true_eq] at hB
    obtain ⟨hr, hB'⟩ := hB
    refine ⟨fun hn => (by rw [hn] at hr; cases hr), fun i hi => ?_⟩
    rw [hr] at hi
    obtain rfl : i = k := by simpa using hi
    simp only [named] at h
    unfold wpR at h
    unfold wpOp
    simp only [h0]
    by_cases hw : Region.wanted (ops.toList.getD i default) (yielded ops a.tmps) = true
    · rw [if_pos hw] at h ⊢
      refine .inl (wp_last (fun a' w' hh => ⟨.inr hh.1, ?_⟩) h)
      exact wpAnyZ_mono (fun w'' h2 => htr _ _ _ hh.1 h2) _ _ _ _ (wpAnyZ_of_ord hrf htr hs hQ hz r _ a' w' hl' hB' hh.2)
    · rw [if_neg hw] at h ⊢
      exact ⟨.inr (hrf _), wpAnyZ_of_ord hrf htr hs hQ hz r _ _ w hl' hB' h⟩

/-- THE BEGINNING. is: the order of all but z, and which of them only reads. -/
theorem wp_region_ordZ {id : Nat} {a : Act} {w : World} {l : List Oper} (z : Nat) (is : List (Bool × Nat)) (hrf : ∀ w, R w w) (htr : ∀ a b c, R a b → R b c → R a c) (hm : P.follows .mixedOrders = true) (hQ : ∀ c a d v w, Q (.panic c) (Act.put a d v) w → Q (.panic c) a w)
    (hn : Region.noSelect l.toArray = true) (hk : is.length + 1 = l.length) (hz : z < l.length) (hlt : (is.all fun p => decide (p.2 < l.length)) = true) (hB : ordMixZ .any l.toArray z is (Array.replicate l.toArray.size false) = true)
    (h : wpR P l.toArray (lastQ P l.toArray Q (l.getD z default)) R (named l is) a w.drew) : (Code.region id l.toArray true).wp P Q a w := by
  have := wpAnyZ_of_ord hrf htr (md := .any) hn hQ (by simpa using hz) is _ a w.drew (fun p hp => by
    have := List.all_eq_true.1 hlt p hp
    simpa using this) hB h
  rw [hk] at this
  refine wp_region_any hm ?_
  exact wpAny_of_Z _ _ _ _ this
end

end Go.Proofs.YtiedoocgbajjjaaGreatDoor

namespace Go.Proofs.YtiedoocgbajjjaaGreatDoor
open Go.RowKit Go.Maps
set_option maxRecDepth 100000

mutual
/-- No node of the tree has more than 1000 blocks. -/
def ATr.few : ATr → Prop
  | .node _ _ _ _ r ks => r.blocks.length ≤ 1000 ∧ ks.few
def AKs.few : AKs → Prop
  | .nil => True
  | .cons _ t k => t.few ∧ k.few
end
theorem AKs.few_get : ∀ {k : AKs} {s : List UInt8} {x : ATr}, k.few → k.get s = some x → x.few
  | .cons s' t k, s, x, h, hg => by
    simp only [AKs.get] at hg
    split at hg
    · injection hg with hg; subst hg; exact h.1
    · exact AKs.few_get h.2 hg
theorem AKs.small_get : ∀ {k : AKs} {s : List UInt8} {x : ATr}, k.small → k.get s = some x → x.small
  | .cons s' t k, s, x, h, hg => by
    simp only [AKs.get] at hg
    split at hg
    · injection hg with hg; subst hg; exact h.1
    · exact AKs.small_get h.2 hg
theorem AKs.ht_of_get : ∀ {k : AKs} {s : List UInt8} {x : ATr}, k.get s = some x → x.ht ≤ k.ht
  | .cons s' t k, s, x, hg => by
    simp only [AKs.get] at hg
    simp only [AKs.ht]
    split at hg
    · injection hg with hg; subst hg; omega
    · have := AKs.ht_of_get hg; omega
theorem KsOk.name {w : World} : ∀ {k : AKs} {s : List UInt8} {x : ATr}, KsOk w k → k.get s = some x → s.length ≤ 28
  | .cons s' t k, s, x, h, hg => by
    simp only [AKs.get] at hg
    split at hg
    · rename_i e; subst e; exact h.1
    · exact KsOk.name h.2.2 hg
def mapP (w : World) (k : Int) : Option Nat → Prop
  | some b => k = 2 ∧ KMap w b []
  | none => k ≠ 2
theorem MTr.leaf {base : Nat} {w : World} {a : Nat} {m : Option Nat} {va vb : Value} {r : NRec} (hrow : w.heap[a]? = some (.cells (nodeRow m va vb r) 100)) (hbytes : BytesIs w va r.bytes ∧ r.bytes.length ≤ 2432) (hown : w.ownsRow base 3 1 vb r.blocks.length (iv (natI r.blocks))) (hl : r.blocks.length ≤ 100000)
    (hm : mapP w r.kind m) (ha : base ≤ a) (hmb : ∀ b, m = some b → base ≤ b ∧ b ≠ a) (hv : ∀ q, vb.ownBlock = some q → q ≠ a ∧ m ≠ some q) : MTr base w (.node a m va vb r .nil) := by
  refine ⟨⟨hrow, hbytes, nums_own hown hl, ?_, trivial⟩, ⟨ha, fun b e => (hmb b e).1, hown, trivial⟩, ?_⟩
  · cases m with
    | none => exact ⟨hm, rfl⟩
    | some b => exact hm
  · simp only [ATr.foot, AKs.foot, List.append_nil]
    cases m with
    | none =>
      cases hq : vb.ownBlock with
      | none => simp
      | some q => have := (hv q hq).1; simp; omega
    | some b =>
      have h1 := (hmb b rfl).2
      cases hq : vb.ownBlock with
      | none => simp; omega
      | some q =>
        have h2 := hv q hq
        have h3 : b ≠ q := fun e => h2.2 (by rw [e])
        simp
        omega
theorem KRng.left_eq {w : World} {m r : Nat} {l : List Kid} {S : List UInt8 → Bool} {cnt : Nat} (h : KRng w m r l S cnt) : w.rangeLeft m r = cnt := by
  obtain ⟨n, left, _, hr, _⟩ := h
  exact hr.left_eq
theorem KRng.noBytes {w : World} {m r : Nat} {l : List Kid} {S : List UInt8 → Bool} {cnt : Nat} (h : KRng w m r l S cnt) : NoBytes w r ∧ r < w.heap.size := by
  obtain ⟨n, left, _, ⟨es, clock, since, seen, c0, h1, h2, h3, h4, h5, h6⟩, _⟩ := h
  exact ⟨fun cs fr hh => (by rw [h5] at hh; cases hh), (Array.getElem?_eq_some_iff.1 h5).1⟩
theorem MTr.frameI {base : Nat} {w w' : World} {t : ATr} {q : Nat} (h : MTr base w t) (hk : Kept [q] w w') (hq : q ∉ t.foot) (hn : NoBytes w q) : MTr base w' t := by
  have hf := TrOk.frame hk (fun b hb => by simp at hb; rw [hb]; exact hn) h.ok h.own (fun b hb => by simp at hb; rw [hb]; exact hq)
  exact ⟨hf.1, hf.2, h.nodup⟩
theorem PKs.get_ins : ∀ {k : PKs} {s : List UInt8} {x : PTr}, k.get s = none → ∀ z, (k.ins s x).get z = if z = s then some x else k.get z
  | .nil, s, x, _, z => by
    simp only [PKs.ins, PKs.get]
    by_cases e : s = z
    · simp [e]
    · simp [e, Ne.symm e]
  | .cons s' t k, s, x, h, z => by
    simp only [PKs.get] at h
    split at h
    · cases h
    · rename_i hne
      simp only [PKs.ins]
      split
      · simp only [PKs.get]
        by_cases e : s = z
        · simp [e]
        · simp [e, Ne.symm e]
      · simp only [PKs.get]
        rw [PKs.get_ins h z]
        by_cases e : z = s
        · subst e; simp [hne]
        · simp [e]
theorem AKs.ins_len (k : AKs) (s : List UInt8) (x : ATr) : (k.ins s x).kids.length = k.kids.length + 1 := by
  have : ∀ (l : List Kid) (p : Kid), (kins p l).length = l.length + 1 := fun l p => by
    induction l with
    | nil => rfl
    | cons y l ih =>
      simp only [kins]
      split
      · simp
      · simp [ih]
  rw [AKs.kids_ins, this]

set_option maxRecDepth 100000 in
set_option maxHeartbeats 4000000 in
theorem nclone_any : ∀ (n : Nat) (t : ATr) (w : World), t.ht ≤ n → TrOk w t → t.small → t.few →
    Calls Tryz.prog 45 #[.pointer (some ⟨t.addr, 0, none⟩)] w fun e w' => ∃ c : ATr, e = .returned (.pointer (some ⟨c.addr, 0, none⟩)) ∧ Hid (Kept [] w w' ∧ MTr w.heap.size w' c ∧ c.er = t.er.plain)
  | 0, t, _, h, _, _, _ => by rw [t.ht_ks] at h; omega
  | n + 1, t, w, hht, hT, hsm, hfew => by
    obtain ⟨a, m, va, vb, r, ks⟩ := t
    obtain ⟨vo, vn, vc, hva⟩ : ∃ vo vn vc, va = .slice vo vn vc := by
      rcases hT.2.1.1.1 with ⟨b, o, cap, rfl, _⟩ | ⟨rfl, _⟩ <;> exact ⟨_, _, _, rfl⟩
    obtain ⟨bo, bn, bc, hvb⟩ : ∃ bo bn bc, vb = .slice bo bn bc := by
      obtain ⟨ao, cap, rfl, _⟩ := hT.2.2.1
      exact ⟨_, _, _, rfl⟩
    subst hva hvb
    have HT := Lib.hid hT
    have HSM := Lib.hid hsm
    have HFW := Lib.hid hfew
    have HHT : Hid (ks.ht ≤ n) := by show _ ≤ _; rw [ATr.ht_ks] at hht; simp only [ATr.ks] at hht; omega
    have hrow := hT.1
    have HROW := Lib.hid hrow
    have c0 : w.cell? ⟨a, 0, none⟩ = some (.int .i64 r.kind) := cell_of_row _ _ 0 _ _ _ hrow
    have c1 : w.cell? ⟨a, 1, none⟩ = some (.int .i64 r.mode) := cell_of_row _ _ 1 _ _ _ hrow
    have HLT : Hid (a < w.heap.size) := (Array.getElem?_eq_some_iff.1 hrow).1
    obtain ⟨C, hC⟩ : ∃ C, w.heap.size = C := ⟨_, rfl⟩
    have HC := Lib.hid hC
    clear hT hsm hfew hht hrow hC
    show Calls Tryz.prog 45 #[.pointer (some ⟨a, 0, none⟩)] w _
    go_enter Tryz.func45, Tryz.ntmps45
    go_wp2_with fail
    refine wp_region_still_tail 8 (by kernel_rfl) (by kernel_rfl) ?_
    simp only [List.take_succ_cons, List.take_zero, List.drop_succ_cons, List.drop_zero]
    still_step
    still_step
    still_step
    still_step
    still_step
    still_step
    still_step
    still_step
    refine wpStill_nil ?_
    clear c0 c1
    go_wp2_with fail
    refine (newNode_any r.kind r.mode w.drew).mono ?_
    have hCd : w.drew.heap.size = C := HC.out
    rw [hCd]
    rintro e w1 ⟨rfl, H1⟩
    have HK1 : Hid (Kept [] w w1) := (Kept.drew [] w).trans H1.out.1
    have HM1 : Hid (MTr C w1 (newT r.kind r.mode C)) := H1.out.2
    clear H1 hCd
    have hrow1 := HK1.out.heap (by simp) HROW.out
    have d2 : w1.cell? ⟨a, 2, none⟩ = some (.slice vo vn vc) := cell_of_row _ _ 2 _ _ _ hrow1
    have n2 : w1.cell? ⟨C, 2, none⟩ = some (.slice none 0 0) := cell_of_row _ _ 2 _ _ _ HM1.out.ok.1
    have fz : ∀ q, w1.frozen? ⟨C, q, none⟩ = false := fun q => frozen_of_row _ _ q _ _ HM1.out.ok.1
    clear hrow1
    go_wp2_with fail
    generalize hw2 : World.setCell w1 _ _ = w2
    obtain ⟨mm, hmm⟩ : ∃ mm : Option Nat, (if r.kind = 2 then some (C + 1) else none) = mm := ⟨_, rfl⟩
    have HK2 : Hid (Kept [C] w1 w2) := by rw [← hw2]; exact Kept.setCell _ _ _ _ (by simp)
    have HR2 : Hid (w2.heap[C]? = some (.cells (nodeRow mm (.slice vo vn vc) (.slice none 0 0) ⟨r.kind, r.mode, r.bytes, 0, [], 0, false⟩) 100)) := by
      rw [← hw2, ← hmm]
      exact heap_setCell_same w1 C 2 _ _ _ HM1.out.ok.1
    have HMM := Lib.hid hmm
    have HKW : Hid (Kept [] w w2) := HK1.out.andThen HK2.out (by intro i hi; simp at hi; right; rw [hi, HC.out]; exact Nat.le_refl _)
    have HMP : Hid (mapP w2 r.kind mm) := by
      have h4 := HM1.out.ok
      unfold newT at h4
      rw [hmm] at h4
      obtain ⟨_, _, _, h4, _⟩ := h4
      cases mm with
      | none => exact h4.1
      | some b => exact ⟨h4.1, h4.2.kept HK2.out (by
          have : b = C + 1 := by
            split at hmm
            · injection hmm with h; exact h.symm
            · cases hmm
          simp [this])⟩
    clear hw2 hmm d2 n2 fz HM1 HK2 HK1
    have hrow2 := HKW.out.heap (by simp) HROW.out
    have hbr : ∀ w', Below C w2.drew w' → w'.heap[a]? = some (.cells (nodeRow m (.slice vo vn vc) (.slice bo bn bc) r) 100) := fun w' hb => by
      have := HLT.out
      rw [hb.block a (by rw [← HC.out]; exact this)]
      exact hrow2
    have d4 : ∀ w', Below C w2.drew w' → w'.cell? ⟨a, 4, none⟩ = some (.int .i64 r.slot) := fun w' hb => cell_of_row _ _ 4 _ _ _ (hbr w' hb)
    have d5 : ∀ w', Below C w2.drew w' → w'.cell? ⟨a, 5, none⟩ = some (.slice bo bn bc) := fun w' hb => cell_of_row _ _ 5 _ _ _ (hbr w' hb)
    have d6 : ∀ w', Below C w2.drew w' → w'.cell? ⟨a, 6, none⟩ = some (.int .i64 r.more) := fun w' hb => cell_of_row _ _ 6 _ _ _ (hbr w' hb)
    clear hbr hrow2
    go_wp2_with fail
    refine wp_region_ordR (R := (Below C)) [(true, 0), (true, 1), (true, 2), (true, 3), (true, 4), (true, 5), (true, 6), (true, 7), (true, 8), (true, 9), (true, 10), (true, 12), (true, 13), (true, 14), (true, 15), (false, 11), (true, 16), (true, 17), (false, 18), (true, 19), (true, 20), (false, 21), (true, 22), (true, 23), (false, 24)] (fun _ => Below.refl _ _) (fun _ _ _ h k => h.trans k) (by kernel_rfl) (fun _ _ d _ _ h => by cases d <;> exact h) (by kernel_rfl) rfl (by kernel_rfl) (by kernel_rfl) ?_
    simp only [named, List.getD_cons_zero, List.getD_cons_succ]
    repeat (first | (apply wpR_take; (case hw => rfl); (case hv => intro w' hk; go_simp; with_reducible rfl); simp only [Act.put, List.setIfInBounds_toArray, List.set_cons_zero, List.set_cons_succ]) | (refine wpR_pass (by rfl) ?_; simp only [Act.put, List.setIfInBounds_toArray, List.set_cons_zero, List.set_cons_succ]))
    clear d4 d5 d6
    refine wpR_force (by rfl) (fun K hK => ?_)
    go_simp
    have HN2 : Hid (NumsIs w2.drew (.slice bo bn bc) r.blocks) := (HT.out.2.2.1.kept HKW.out).kept (Kept.drew _ _)
    refine (slCloneI_any (.slice bo bn bc) r.blocks w2.drew HN2.out (by have := HFW.out.1; omega)).mono ?_
    rintro e w3 ⟨vb', rfl, H3⟩
    have HCl : Hid (C < w2.heap.size ∧ w2.drew.heap.size = w2.heap.size) := ⟨(Array.getElem?_eq_some_iff.1 HR2.out).1, rfl⟩
    refine hK _ _ (H3.out.1.below (by rw [HCl.out.2]; have := HCl.out.1; omega) (by simp)) ?_
    clear hK K HN2
    obtain ⟨xo, xn, xc, hx⟩ : ∃ xo xn xc, vb' = .slice xo xn xc := by
      rcases owns_range H3.out.2 with ⟨g, cap, rfl, _⟩ | ⟨rfl, _⟩ <;> exact ⟨_, _, _, rfl⟩
    subst hx
    have HK3 : Hid (Kept [] w2 w3) := (Kept.drew [] w2).trans H3.out.1
    have HO3 : Hid (w3.ownsRow w2.heap.size 3 1 (.slice xo xn xc) r.blocks.length (iv (natI r.blocks))) := H3.out.2
    have HR3 := Lib.hid (HK3.out.heap (by simp) HR2.out)
    clear H3
    have n4 : w3.cell? ⟨C, 4, none⟩ = some (.int .i64 0) := cell_of_row _ _ 4 _ _ _ HR3.out
    have fz3 : ∀ q, w3.frozen? ⟨C, q, none⟩ = false := fun q => frozen_of_row _ _ q _ _ HR3.out
    repeat (first | (apply wpR_take; (case hw => rfl); (case hv => intro w' hk; go_simp; with_reducible rfl); simp only [Act.put, List.setIfInBounds_toArray, List.set_cons_zero, List.set_cons_succ]) | (refine wpR_pass (by rfl) ?_; simp only [Act.put, List.setIfInBounds_toArray, List.set_cons_zero, List.set_cons_succ]))
    refine wpR_force (by rfl) (fun K hK => ?_)
    go_simp
    generalize hw4 : World.setCell w3 _ _ = w4
    have HK4 : Hid (Kept [C] w3 w4) := by rw [← hw4]; exact Kept.setCell _ _ _ _ (by simp)
    have HR4 := Lib.hid (heap_setCell_same w3 C 4 _ _ (.int .i64 (r.slot : Int)) HR3.out)
    rw [hw4] at HR4
    refine hK _ _ (HK4.out.below (by have := HCl.out.1; have := HK3.out.size; omega) (by simp)) ?_
    clear hK K hw4 n4 fz3
    have n5 : w4.cell? ⟨C, 5, none⟩ = some (.slice none 0 0) := cell_of_row _ _ 5 _ _ _ HR4.out
    have fz4 : ∀ q, w4.frozen? ⟨C, q, none⟩ = false := fun q => frozen_of_row _ _ q _ _ HR4.out
    repeat (first | (apply wpR_take; (case hw => rfl); (case hv => intro w' hk; go_simp; with_reducible rfl); simp only [Act.put, List.setIfInBounds_toArray, List.set_cons_zero, List.set_cons_succ]) | (refine wpR_pass (by rfl) ?_; simp only [Act.put, List.setIfInBounds_toArray, List.set_cons_zero, List.set_cons_succ]))
    refine wpR_force (by rfl) (fun K hK => ?_)
    go_simp
    generalize hw5 : World.setCell w4 _ _ = w5
    have HK5 : Hid (Kept [C] w4 w5) := by rw [← hw5]; exact Kept.setCell _ _ _ _ (by simp)
    have HR5 := Lib.hid (heap_setCell_same w4 C 5 _ _ (.slice xo xn xc) HR4.out)
    rw [hw5] at HR5
    refine hK _ _ (HK5.out.below (by have := HCl.out.1; have := HK3.out.size; have := HK4.out.size; omega) (by simp)) ?_
    clear hK K hw5 n5 fz4
    have n6 : w5.cell? ⟨C, 6, none⟩ = some (.int .i64 0) := cell_of_row _ _ 6 _ _ _ HR5.out
    have fz5 : ∀ q, w5.frozen? ⟨C, q, none⟩ = false := fun q => frozen_of_row _ _ q _ _ HR5.out
    repeat (first | (apply wpR_take; (case hw => rfl); (case hv => intro w' hk; go_simp; with_reducible rfl); simp only [Act.put, List.setIfInBounds_toArray, List.set_cons_zero, List.set_cons_succ]) | (refine wpR_pass (by rfl) ?_; simp only [Act.put, List.setIfInBounds_toArray, List.set_cons_zero, List.set_cons_succ]))
    refine wpR_force (by rfl) (fun K hK => ?_)
    go_simp
    generalize hw6 : World.setCell w5 _ _ = w6
    have HK6 : Hid (Kept [C] w5 w6) := by rw [← hw6]; exact Kept.setCell _ _ _ _ (by simp)
    have HR6 := Lib.hid (heap_setCell_same w5 C 6 _ _ (.int .i64 (r.more : Int)) HR5.out)
    rw [hw6] at HR6
    refine hK _ _ (HK6.out.below (by have := HCl.out.1; have := HK3.out.size; have := HK4.out.size; have := HK5.out.size; omega) (by simp)) ?_
    clear hK K hw6 n6 fz5
    refine wpR_nil ?_
    have HKB : Hid (Kept [C] w3 w6) := (HK4.out.trans HK5.out).trans HK6.out
    have HKT : Hid (Kept [] w w6) := (HKW.out.trans HK3.out).andThen HKB.out (by intro i hi; simp at hi; right; rw [hi, HC.out]; exact Nat.le_refl _)
    have HM6 : Hid (MTr C w6 (.node C mm (.slice vo vn vc) (.slice xo xn xc) { r with fresh := false } .nil)) := by
      have hCl := HCl.out.1
      have hnb : ∀ q ∈ [C], NoBytes w3 q := fun q hq cs fr hh => by
        simp at hq
        rw [hq, HR3.out] at hh
        simp at hh
      have hmq : ∀ b, mm = some b → b = C + 1 := fun b e => by
        have h := HMM.out
        rw [e] at h
        split at h
        · injection h with h; exact h.symm
        · cases h
      have hvq : ∀ q, (Value.slice xo xn xc).ownBlock = some q → w2.heap.size ≤ q := fun q hq => (World.ownsRow.lt HO3.out q hq).1
      refine MTr.leaf HR6.out ⟨((HT.out.2.1.1.kept HKW.out).kept HK3.out).keptN HKB.out hnb, HT.out.2.1.2⟩ (ownsRow_lower (Nat.le_of_lt hCl) (owns_kept HO3.out HKB.out (fun q hq hh => by
        simp at hh; have := hvq q hq; omega))) (by have := HFW.out.1; show r.blocks.length ≤ _; omega) ?_ (Nat.le_refl _) (fun b e => by have := hmq b e; omega) (fun q hq => ?_)
      · have := HMP.out
        cases hmm : mm with
        | none => rw [hmm] at this; exact this
        | some b =>
          rw [hmm] at this
          exact ⟨this.1, (this.2.kept HK3.out (by simp)).kept HKB.out (by have := hmq b hmm; simp; omega)⟩
      · have h1 := hvq q hq
        refine ⟨by omega, fun e => ?_⟩
        have h2 := hmq q e
        have h3 := HMP.out
        rw [e] at h3
        have := h3.2.lt
        omega
    clear HK3 HK4 HK5 HK6 HR3 HR4 HR5 HR6 HO3 HKB HMP HR2 HCl HKW
    clear w1 w2 w3 w4 w5
    have c3 : w6.cell? ⟨a, 3, none⟩ = some (.map m) := cell_of_row _ _ 3 _ _ _ (HKT.out.heap (by simp) HROW.out)
    cases m with
    | none =>
      have HN : Hid (r.kind ≠ 2 ∧ ks = .nil) := HT.out.2.2.2.1
      have hrg := run_range_nilMap (P := Tryz.prog) w6 98 _ _ Tryz.underlying98
      have hnx : ∀ ty, (Instr.next (.pointer (some ⟨w6.heap.size, 0, none⟩)) false ty).run Tryz.prog (w6.alloc (.mapIter none 0 #[] 0)) = _ := fun ty => run_next_nilMap _ ty 0 0 #[]
      go_wp2_with fail
      refine wp_loop_rounds 1 ?_
      rw [rounds_succ]
      go_wp2_with fail
      go_ret
      refine ⟨.node C mm (.slice vo vn vc) (.slice xo xn xc) { r with fresh := false } .nil, rfl, HKT.out.trans (Kept.alloc _ _ _), (by rw [HC.out]; exact (Turned.still HM6.out (Kept.alloc _ _ _)).m), ?_⟩
      simp only [ATr.er, AKs.er, PTr.plain, HN.out.2, PKs.plain]
    | some b =>
      have HB : Hid (r.kind = 2 ∧ KMap w b ks.kids) := HT.out.2.2.2.1
      have hmm : mm = some (C + 1) := by rw [← HMM.out, if_pos HB.out.1]
      subst hmm
      have HKM : Hid (KMap w6 b ks.kids) := HB.out.2.kept HKT.out (by simp)
      obtain ⟨D, hD⟩ : ∃ D, w6.heap.size = D := ⟨_, rfl⟩
      have HD : Hid (w6.heap.size = D ∧ C + 1 < D ∧ b < C) := by
        refine ⟨hD, ?_, ?_⟩
        · rw [← hD]; exact HM6.out.ok.2.2.2.1.2.lt
        · rw [← HC.out]; exact HB.out.2.lt
      have HF6 : Hid (D ∉ (ATr.node C (some (C + 1)) (.slice vo vn vc) (.slice xo xn xc) { r with fresh := false } .nil).foot) := fun hh => by
        have := (foot_mem HM6.out.ok HM6.out.own D hh).2.1
        omega
      go_wp2_with (at_range; refine wpList_range_kid rfl _ rfl b ks.kids rfl HKM.out ?_; intro w7 hr7 hk7 hs7)
      rw [hD] at hr7 hs7 ⊢
      have HR7 := Lib.hid hr7
      have HK7 := Lib.hid hk7
      clear hr7 hk7 hs7 c3 hD
      go_frame
      go_loopw [4] (fun _ wr => ∃ (S : List UInt8 → Bool) (cnt : Nat) (ks' : AKs), Hid (KRng wr b D ks.kids S cnt ∧ MTr C wr (.node C (some (C + 1)) (.slice vo vn vc) (.slice xo xn xc) { r with fresh := false } ks') ∧ Kept [] w wr ∧ D ∉ (ATr.node C (some (C + 1)) (.slice vo vn vc) (.slice xo xn xc) { r with fresh := false } ks').foot ∧
          ks'.kids.length + cnt ≤ ks.kids.length ∧ ∀ s, ks'.er.get s = if S s then none else ks.er.plain.get s)) (fun _ wr => wr.rangeLeft b D)
      case atStart =>
        refine ⟨_, _, .nil, HR7.out, (Turned.still HM6.out HK7.out).m, HKT.out.trans HK7.out, HF6.out, by simp [AKs.kids], fun s => ?_⟩
        show none = _
        split
        · rfl
        · rename_i hn
          rw [AKs.kget, Option.isSome_map] at hn
          rw [PKs.plain_get, er_get]
          cases hg : ks.get s with
          | none => rfl
          | some u => rw [hg] at hn; exact absurd rfl hn
      case round =>
        clear HR7 HK7 HM6 HKT HKM HF6
        obtain ⟨S, cnt, ks', HS⟩ := hrel
        go_wp2_with (at_next; refine wpList_next_kid rfl _ rfl b D ks.kids S cnt rfl HS.out.1 ?_ ?_)
        · intro hdone
          have HDN : Hid (ks'.er = ks.er.plain) := by
            have hm' := HS.out.2.1.ok.2.2.2.1.2
            refine PKs.ext ?_ ?_ fun s => by rw [HS.out.2.2.2.2.2 s, hdone s]; rfl
            · rw [er_names, ← AKs.names_kids, List.pairwise_map]
              exact hm'.canon
            · rw [PKs.plain_names, er_names, ← AKs.names_kids, List.pairwise_map]
              exact HB.out.2.canon
          clear hdone
          go_wp2_with fail
          go_ret
          refine ⟨_, rfl, HS.out.2.2.1, by rw [HC.out]; exact HS.out.2.1, ?_⟩
          simp only [ATr.er, PTr.plain, HDN.out]
        · intro s x w8 cnt' hSs hkg hr8 hlt hk8 hsz8 hen
          rw [AKs.kget] at hkg
          obtain ⟨xt, hgx, hxa⟩ : ∃ xt, ks.get s = some xt ∧ xt.addr = x := by
            cases hg : ks.get s with
            | none => rw [hg] at hkg; cases hkg
            | some u => rw [hg] at hkg; injection hkg with hkg; exact ⟨u, rfl, hkg⟩
          subst hxa
          have HX := Lib.hid (And.intro hSs hgx)
          have HR8 := Lib.hid (And.intro hr8 hlt)
          have HNB := Lib.hid HS.out.1.noBytes
          have HM8 := Lib.hid (HS.out.2.1.frameI hk8 HS.out.2.2.2.1 HNB.out.1)
          have HK8 : Hid (Kept [] w w8) := HS.out.2.2.1.andThen hk8 (by intro i hi; simp at hi; right; rw [hi, HC.out]; have := HD.out.2.1; omega)
          have HZ : Hid (D < w8.heap.size) := by show _ < _; rw [hsz8]; exact HNB.out.2
          have HMS : Hid (wr.rangeLeft b D = cnt) := HS.out.1.left_eq
          clear hSs hgx hr8 hlt hk8 hsz8 hkg
          have q3 : ∀ w', Below D w8.drew w' → w'.cell? ⟨C, 3, none⟩ = some (.map (some (C + 1))) := fun w' hb => by
            have h1 := HM8.out.ok.1
            have h2 : w'.heap[C]? = w8.heap[C]? := hb.block C (by have := HD.out.2.1; omega)
            rw [← h2] at h1
            exact cell_of_row _ _ 3 _ _ _ h1
          go_wp2_with fail
          refine wp_region_ordZ (R := (Below D)) 7 [(true, 0), (true, 1), (true, 2), (true, 3), (true, 4), (true, 5), (false, 6)] (fun _ => Below.refl _ _) (fun _ _ _ h k => h.trans k) (by kernel_rfl) (fun _ _ d _ _ h => by cases d <;> exact h) (by kernel_rfl) rfl (by decide) (by kernel_rfl) (by kernel_rfl) ?_
          simp only [named, List.getD_cons_zero, List.getD_cons_succ]
          repeat (first | (apply wpR_take; (case hw => rfl); (case hv => intro w' hk; go_simp; with_reducible rfl); simp only [Act.put, List.setIfInBounds_toArray, List.set_cons_zero, List.set_cons_succ]) | (refine wpR_pass (by rfl) ?_; simp only [Act.put, List.setIfInBounds_toArray, List.set_cons_zero, List.set_cons_succ]))
          clear q3
          refine wpR_force (by rfl) (fun K hK => ?_)
          go_simp
          refine (nclone_any n xt w8.drew (Nat.le_trans (AKs.ht_of_get HX.out.2) HHT.out) (((KsOk.get HT.out.2.2.2.2 HX.out.2).kept HK8.out).kept (Kept.drew _ _)) (AKs.small_get HSM.out.2 HX.out.2) (AKs.few_get HFW.out.2 HX.out.2)).mono ?_
          rintro e w9 ⟨c9, rfl, H9⟩
          refine hK _ _ (H9.out.1.below (by have := HZ.out; show D ≤ w8.heap.size; omega) (by simp)) ?_
          clear hK K
          have HM8d := Lib.hid (Turned.still HM8.out (Kept.drew [] w8)).m
          have hs28 : s.length ≤ 28 := KsOk.name HT.out.2.2.2.2 HX.out.2
          have hkl : ks'.kids.length ≤ 1000 := by have h1 := HS.out.2.2.2.2.1; have h2 := HSM.out.1; omega
          obtain ⟨w10, hup, hm10, hk10⟩ := (((HM8d.out.ok.2.2.2.1.2).kept H9.out.1 (by simp)).upd hkl s (by omega) c9.addr)
          have hgn : ks'.get s = none := by
            have := HS.out.2.2.2.2.2 s
            rw [HX.out.1, if_pos rfl, er_get] at this
            cases hg : ks'.get s with
            | none => rfl
            | some u => rw [hg] at this; cases this
          have T10 := Turned.addM HM8d.out HB.out.1 hs28 hgn H9.out.1 H9.out.2.1 hm10 hk10 (by show C ≤ w8.heap.size; have := HZ.out; have := HD.out.2.1; omega)
          have HFIN : Hid (KRng w10 b D ks.kids (fun z => S z && !(z == s)) cnt' ∧ MTr C w10 (.node C (some (C + 1)) (.slice vo vn vc) (.slice xo xn xc) { r with fresh := false } (ks'.ins s c9)) ∧ Kept [] w w10 ∧ D ∉ (ATr.node C (some (C + 1)) (.slice vo vn vc) (.slice xo xn xc) { r with fresh := false } (ks'.ins s c9)).foot ∧
              (ks'.ins s c9).kids.length + cnt' ≤ ks.kids.length ∧ ∀ z, (ks'.ins s c9).er.get z = if (S z && !(z == s)) then none else ks.er.plain.get z) := by
            have hd := HD.out
            refine ⟨(((HR8.out.1.kept (Kept.drew [] w8) (by simp) (by simp)).kept H9.out.1 (by simp) (by simp)).kept hk10 (by simp; omega) (by simp; omega)), T10.m, ?_, ?_, ?_, ?_⟩
            · exact ((HK8.out.trans (Kept.drew _ _)).trans H9.out.1).andThen hk10 (by intro i hi; simp at hi; right; rw [hi, HC.out]; omega)
            · intro hh
              rcases T10.foot D hh with h1 | h1
              · exact HS.out.2.2.2.1 h1
              · have h2 : w8.heap.size ≤ D := h1
                have := HZ.out
                omega
            · rw [AKs.ins_len]
              have h1 := HS.out.2.2.2.2.1
              have h2 := HR8.out.2
              omega
            · intro z
              rw [er_ins, PKs.get_ins (by rw [er_get, hgn]; rfl)]
              by_cases e : z = s
              · subst e
                simp only [if_true, beq_self_eq_true, Bool.not_true, Bool.and_false]
                rw [PKs.plain_get, er_get, HX.out.2, H9.out.2.2]
                rfl
              · have e2 : (z == s) = false := by simpa using e
                rw [if_neg e, e2, HS.out.2.2.2.2.2 z]
                simp
          clear T10 hgn hm10 hk10 hkl hs28
          refine wpR_nil ?_; refine lastQ_go rfl ?_
          go_wp2_with fail
          go_roundw
          case rel => exact ⟨_, _, _, HFIN.out⟩
          case measure => rw [HFIN.out.1.left_eq, HMS.out]; exact HR8.out.2
end Go.Proofs.YtiedoocgbajjjaaGreatDoor

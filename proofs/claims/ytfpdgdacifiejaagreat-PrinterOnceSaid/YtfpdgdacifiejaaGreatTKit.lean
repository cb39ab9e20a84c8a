/-
  A statement whose order Go leaves open, walked in an order of the prover's, under whatever relation of worlds its operations keep.
  Conditions: those that the kernel reckons of the region's own list ('ordMix'); the relation is reflexive and transitive.
  Plain facts that all layers share: texts, rows of bytes of the call's own, what is appended to them, bytes that came in. Nothing of the program's own code is named here.
  Conditions: none beyond those that each theorem states.
-/
import Derived.Test.YtfpdgdacifiejaaGreatLKit
import Derived.Test.YtfpdgdacifiejaaGreatChecked
import Derived.Lib.Strings
import Derived.Lib.AppendStr
import Derived.Laws.Strings3
import Derived.Laws.IdiomStrings
import Derived.Laws.AppendOwnNone
namespace Go.Proofs.YtfpdgdacifiejaaGreat
open Go.RowKit Go.Maps

section
variable {P : Program} {ops : Array Oper} {Q : Exit → Act → World → Prop} {R : World → World → Prop} {md : Region.Mode}

def wpR (P : Program) (ops : Array Oper) (Q : Exit → Act → World → Prop) (R : World → World → Prop) : List (Bool × Oper) → Act → World → Prop
  | [], a, w => Q .normal a w
  | (true, o) :: r, a, w => ∃ v, YieldsIf P ops (R w) o v a ∧ wpR P ops Q R r (a.put o.dst v) w
  | (false, o) :: r, a, w => (if Region.wanted o (yielded ops a.tmps) then o.wp P a w (fun a' w' => R w w' ∧ wpR P ops Q R r a' w') Q else wpR P ops Q R r (a.put o.dst undef) w)

theorem wpR_nil {a : Act} {w : World} (h : Q .normal a w) : wpR P ops Q R [] a w := h
theorem wpR_take {o : Oper} {r : List (Bool × Oper)} {a : Act} {w : World} (v : Value) (hw : Region.wanted o (yielded ops a.tmps) = true)
    (hv : ∀ w', R w w' → (execOp a.eval o).run P w' = .ok (.value v) w') (h : wpR P ops Q R r (a.put o.dst v) w) : wpR P ops Q R ((true, o) :: r) a w :=
  ⟨v, Or.inl ⟨hw, hv⟩, h⟩
theorem wpR_pass {o : Oper} {r : List (Bool × Oper)} {a : Act} {w : World} (hw : Region.wanted o (yielded ops a.tmps) = false)
    (h : wpR P ops Q R r (a.put o.dst undef) w) : wpR P ops Q R ((true, o) :: r) a w :=
  ⟨undef, Or.inr ⟨hw, rfl⟩, h⟩
theorem wpR_force {o : Oper} {r : List (Bool × Oper)} {a : Act} {w : World} (hw : Region.wanted o (yielded ops a.tmps) = true)
    (h : ∀ K : Act → World → Prop, (∀ a' w', R w w' → wpR P ops Q R r a' w' → K a' w') → o.wp P a w K Q) : wpR P ops Q R ((false, o) :: r) a w := by
  unfold wpR
  rw [if_pos hw]
  exact h _ fun a' w' h1 h2 => ⟨h1, h2⟩

theorem wpAnyH_of_ordR (hrf : ∀ w, R w w) (htr : ∀ a b c, R a b → R b c → R a c) (hs : Region.noSelect ops = true) (hQ : ∀ c a d v w, Q (.panic c) (Act.put a d v) w → Q (.panic c) a w) :
    ∀ (is : List (Bool × Nat)) (listed : Array Bool) (a : Act) (w : World), (∀ p ∈ is, p.2 < ops.size) →
    ordMix md ops is listed = true → wpR P ops Q R (named ops.toList is) a w → wpAnyH P md ops Q (R w) is.length listed a w
  | [], listed, a, w, _, hB, h => by
    have hr : Region.ready md ops listed = [] := by simpa [ordMix] using hB
    exact wpAnyH_done hr h _
  | (true, k) :: r, listed, a, w, hl, hB, h => by
    have hk : k < ops.size := hl (true, k) (by simp)
    have h0 : ops[k]? = some (ops.toList.getD k default) := by simp [hk]
    simp only [ordMix, Bool.and_eq_true] at hB
    obtain ⟨⟨hr, hf⟩, hB'⟩ := hB
    simp only [named] at h
    obtain ⟨v, hy, hK⟩ := h
    exact wpAnyH_take h0 hs hf hr (fun c a w hh => hQ c a _ _ w hh) hy (hrf _) (wpAnyH_of_ordR hrf htr hs hQ r _ _ w (fun p hp => hl p (by simp [hp])) hB' hK)
  | (false, k) :: r, listed, a, w, hl, hB, h => by
    have hk : k < ops.size := hl (false, k) (by simp)
    have h0 : ops[k]? = some (ops.toList.getD k default) := by simp [hk]
    have hl' : ∀ p ∈ r, p.2 < ops.size := fun p hp => hl p (by simp [hp])
    simp only [ordMix, Bool.and_eq_true, decide_eq_true_eq] at hB
    obtain ⟨hr, hB'⟩ := hB
    refine wpAnyH_all hr (by simp) fun i hi => ?_
    obtain rfl : i = k := by simpa using hi
    simp only [named] at h
    unfold wpR at h
    unfold wpOp
    simp only [h0]
    by_cases hw : Region.wanted (ops.toList.getD i default) (yielded ops a.tmps) = true
    · rw [if_pos hw] at h ⊢
      refine .inl (Oper.wp_mono (fun a' w' hh => ⟨hh.1, ?_⟩) h)
      exact wpAnyH_mono (fun w'' h2 => htr _ _ _ hh.1 h2) _ _ _ _ (wpAnyH_of_ordR hrf htr hs hQ r _ a' w' hl' hB' hh.2)
    · rw [if_neg hw] at h ⊢
      exact ⟨hrf _, wpAnyH_of_ordR hrf htr hs hQ r _ _ w hl' hB' h⟩

/-- THE BEGINNING. is: the order, and which operation only reads. -/
theorem wp_region_ordR {id : Nat} {a : Act} {w : World} {l : List Oper} (is : List (Bool × Nat)) (hrf : ∀ w, R w w) (htr : ∀ a b c, R a b → R b c → R a c) (hm : P.follows .mixedOrders = true) (hQ : ∀ c a d v w, Q (.panic c) (Act.put a d v) w → Q (.panic c) a w)
    (hn : Region.noSelect l.toArray = true) (hk : is.length = l.length) (hlt : (is.all fun p => decide (p.2 < l.length)) = true) (hB : ordMix .any l.toArray is (Array.replicate l.toArray.size false) = true)
    (h : wpR P l.toArray Q R (named l is) a w.drew) : (Code.region id l.toArray true).wp P Q a w := by
  have := wpAnyH_of_ordR hrf htr (md := .any) hn hQ is _ a w.drew (fun p hp => by
    have := List.all_eq_true.1 hlt p hp
    simpa using this) hB h
  rw [hk] at this
  refine wp_region_held (S := R w.drew) hm ?_
  exact this
end

/-- What PP says of a world stays true. -/
def Imp (PP : World → Prop) (a b : World) : Prop := PP a → PP b
theorem Imp.refl (PP : World → Prop) (a : World) : Imp PP a a := fun h => h
theorem Imp.trans {PP : World → Prop} {a b c : World} (h : Imp PP a b) (k : Imp PP b c) : Imp PP a c := fun x => k (h x)
end Go.Proofs.YtfpdgdacifiejaaGreat

namespace Go.Proofs.YtfpdgdacifiejaaGreat
open Go.RowKit Go.Maps

theorem ret1 {n m : Int} (h : n = m) : Ending.returned (.int .i64 n) = .returned (.int .i64 m) := by rw [h]
theorem ret2 {n m : Int} {a b : Bool} (h : n = m) (g : a = b) : Ending.returned (.tuple #[.int .i64 n, .bool a]) = .returned (.tuple #[.int .i64 m, .bool b]) := by rw [h, g]
theorem retB {a b : Bool} (h : a = b) : Ending.returned (.bool a) = .returned (.bool b) := by rw [h]
theorem SlIs.kept {w w' : World} {v : Value} {l : List UInt8} (h : SlIs w v l) (hk : Kept [] w w') : SlIs w' v l := by
  rcases h with ⟨b, o, cap, rfl, hb, hr⟩ | h
  · exact .inl ⟨b, o, cap, rfl, Nat.lt_of_lt_of_le hb hk.size, hk.range hb (by simp) hr⟩
  · exact .inr h
theorem SlIs.row {w : World} {b : Nat} {L : List UInt8} {t : TypeId} (h : w.heap[b]? = some (.cells (bvA L) t)) (n cap : Nat) (hn : L.length = n) : SlIs w (.slice (some ⟨b, 0, none⟩) n cap) L :=
  .inl ⟨b, 0, cap, by rw [hn], (Array.getElem?_eq_some_iff.1 h).1, range_row h⟩
theorem size_toList (s : ByteArray) : s.data.toList.length = s.size := by rw [Array.length_toList]; rfl
theorem get_toList (s : ByteArray) (i : Nat) (h : i < s.size) : s.data.toList[i]'(by rw [size_toList]; exact h) = s[i] := rfl
def strL (l : List UInt8) : ByteArray := ⟨l.toArray⟩
theorem strL_toList (l : List UInt8) : (strL l).data.toList = l := rfl
theorem strL_of (s : ByteArray) : strL s.data.toList = s := rfl
theorem strL_size (l : List UInt8) : (strL l).size = l.length := by rw [← size_toList]; rfl
def sv (l : List (List UInt8)) : List Value := l.map fun p => Value.string (strL p)
def svA (l : List (List UInt8)) : Array Value := (sv l).toArray
theorem sv_length (l : List (List UInt8)) : (sv l).length = l.length := by simp [sv]
/-- A slice of texts: what it reads as. -/
def StrsIs (w : World) (v : Value) (l : List (List UInt8)) : Prop :=
  (∃ b o cap, v = .slice (some ⟨b, o, none⟩) l.length cap ∧ b < w.heap.size ∧ w.rangeAt b o (sv l)) ∨ (v = .slice none 0 0 ∧ l = [])
theorem StrsIs.kept {w w' : World} {v : Value} {l : List (List UInt8)} (h : StrsIs w v l) (hk : Kept [] w w') : StrsIs w' v l := by
  rcases h with ⟨b, o, cap, rfl, hb, hr⟩ | h
  · exact .inl ⟨b, o, cap, rfl, Nat.lt_of_lt_of_le hb hk.size, hk.range hb (by simp) hr⟩
  · exact .inr h
theorem range_svA {w : World} {b : Nat} {l : List (List UInt8)} {t : TypeId} (h : w.heap[b]? = some (.cells (svA l) t)) : w.rangeAt b 0 (sv l) := fun j v hv => by
  rw [Nat.zero_add, cell_of_row w b j _ _ _ h]
  simpa [svA] using hv
theorem conv_of_range {P : Program} (w : World) (src dst e : TypeId) (hs : P.underlying src = some (.slice e)) (he : P.underlying e = some (.int .u8)) (hd : P.underlying dst = some .string)
    (b o cap : Nat) (l : List UInt8) (n : Nat) (hn : l.length = n) (hc : w.rangeAt b o (bv l)) :
    (convert src dst (.slice (some ⟨b, o, none⟩) n cap)).run P w = .ok (.string (strL l)) w := by
  subst hn
  refine run_convert_bytes_back w src dst e ⟨b, o, none⟩ cap l hs he hd (fun j hj => ?_)
  rw [Addr.add_mid]
  exact hc j _ (by simp [bv, hj])
theorem convL {w : World} {v : Value} {l : List UInt8} (h : SlIs w v l) : (convert 70 9 v).run Tryz.prog w = .ok (.string (strL l)) w := by
  rcases h with ⟨b, o, cap, rfl, _, hc⟩ | ⟨rfl, rfl⟩
  · exact conv_of_range w _ _ _ Tryz.underlying70 Tryz.underlying5 Tryz.underlying9 b o cap l _ rfl hc
  · rw [run_convert_bytes_string w _ _ _ none 0 0 Tryz.underlying70 Tryz.underlying5 Tryz.underlying9]
    rfl
/-- What a slice of bytes is as a text. -/
def ConvIs (w : World) (v : Value) (l : List UInt8) : Prop := (convert 70 9 v).run Tryz.prog w = .ok (.string (strL l)) w
theorem SlIs.conv {w : World} {v : Value} {l : List UInt8} (h : SlIs w v l) : ConvIs w v l := convL h
theorem conv_empty (w : World) (ao : Option Addr) (cap : Nat) (h : ao = none → cap = 0) : ConvIs w (.slice ao 0 cap) [] := by
  unfold ConvIs
  cases ao with
  | none =>
    rw [h rfl]
    exact convL (.inr ⟨rfl, rfl⟩)
  | some ad =>
    have := run_convert_bytes_back (P := Tryz.prog) w 70 9 5 ad cap [] Tryz.underlying70 Tryz.underlying5 Tryz.underlying9 (fun j hj => by cases hj)
    exact this
def lessB (p q : List UInt8) : Bool := Op.bytesLess p q
theorem strL_bytes (p : List UInt8) : (strL p).toList = p := by rw [Lib.toList_data]; rfl
theorem elemByte : ElemOk Tryz.prog 70 5 (.int .u8 0) 1 1 := ⟨Tryz.underlying70, by kernel_rfl, rfl, by omega⟩
/-- A row of bytes of the call's own. -/
def OwnB (base : Nat) (w : World) (v : Value) (L : List UInt8) : Prop := w.ownsRow base 5 1 v L.length (bv L)
/-- A row that was appended to lies where it lay, or is new; all else is as it was. -/
structure AppB (w : World) (v : Value) (w' : World) (v' : Value) : Prop where
  kept : Kept v.ownBlock.toList w w'
  own : v'.ownBlock = v.ownBlock ∨ ∃ g, v'.ownBlock = some g ∧ w.heap.size ≤ g
theorem Kept.step {w wr w2 : World} {ex : List Nat} {o : Option Nat} (h : Kept ex w wr) (k : Kept o.toList wr w2) (ho : ∀ g, o = some g → g ∈ ex ∨ w.heap.size ≤ g) : Kept ex w w2 :=
  ⟨k.os.trans h.os, k.tape.trans h.tape, k.output.trans h.output, Nat.le_trans h.size k.size, fun i hi hn => by
    rw [k.block i (Nat.lt_of_lt_of_le hi h.size) (fun hm => by
      have := ho i (by simpa using hm)
      rcases this with hh | hh
      · exact hn hh
      · omega)]
    exact h.block i hi hn⟩
theorem AppB.refl (w : World) (v : Value) : AppB w v w v := ⟨Kept.refl _ _, .inl rfl⟩
theorem AppB.trans {w w1 w2 : World} {v v1 v2 : Value} (h : AppB w v w1 v1) (k : AppB w1 v1 w2 v2) : AppB w v w2 v2 := by
  have hs := h.kept.size
  refine ⟨h.kept.step k.kept fun g hg => ?_, ?_⟩
  · rcases h.own with e | ⟨g', e, hg'⟩
    · left; rw [e] at hg; simp [hg]
    · right; rw [e] at hg; injection hg with hg; omega
  · rcases k.own with e | ⟨g, e, hg⟩
    · rw [e]; exact h.own
    · exact .inr ⟨g, e, by omega⟩
theorem AppB.pre {w w1 w2 : World} {v v2 : Value} (h : Kept [] w w1) (k : AppB w1 v w2 v2) : AppB w v w2 v2 := by
  have hs := h.size
  refine ⟨(h.mono (by simp)).trans k.kept, ?_⟩
  rcases k.own with e | ⟨g, e, hg⟩
  · exact .inl e
  · exact .inr ⟨g, e, by omega⟩
theorem OwnB.kept {base : Nat} {w w' : World} {v : Value} {L : List UInt8} (h : OwnB base w v L) {ex : List Nat} (hk : Kept ex w w') (hne : ∀ k, v.ownBlock = some k → k ∉ ex) : OwnB base w' v L := owns_kept h hk hne
theorem OwnB.slIs {base : Nat} {w : World} {v : Value} {L : List UInt8} (h : OwnB base w v L) : SlIs w v L := by
  rcases owns_range h with ⟨g, cap, rfl, _, hg, _, _, hr⟩ | ⟨rfl, hn, _⟩
  · exact .inl ⟨g, 0, cap, rfl, hg, hr⟩
  · exact .inr ⟨rfl, List.eq_nil_of_length_eq_zero hn⟩
theorem OwnB.val {base : Nat} {w : World} {v : Value} {L : List UInt8} (h : OwnB base w v L) : ∃ ao cap, v = .slice ao L.length cap ∧ L.length ≤ cap := by
  rcases owns_range h with ⟨g, cap, rfl, _, hg, hc, _, hr⟩ | ⟨rfl, hn, _⟩
  · exact ⟨_, _, rfl, hc⟩
  · exact ⟨_, _, by rw [hn], by omega⟩
/-- Bytes that lie in a new block are appended. -/
theorem app_new (base : Nat) (w : World) (v : Value) (L N : List UInt8) (hown : OwnB base w v L) (hb : base ≤ w.heap.size) (hl : L.length + N.length ≤ 10000000) :
    ∃ v' w', (Builtin.append_ #[70, 70] 70 #[v, .slice (some ⟨w.heap.size, 0, none⟩) N.length N.length]).run Tryz.prog (w.alloc (.cells (bvA N) 5)) = .ok v' w' ∧ OwnB base w' v' (L ++ N) ∧ AppB w v w' v' := by
  have hs0 : base ≤ (w.alloc (.cells (bvA N) 5)).heap.size := by rw [size_alloc]; omega
  obtain ⟨v', w', hrun, ho, hk, hor⟩ := own_app elemByte 70 (w.alloc (.cells (bvA N) 5)) base v L.length (bv L) (World.ownsRow.alloc hown _) ⟨w.heap.size, 0, none⟩ N.length N.length (bv N) (by rw [bv_length]; omega)
    (fun j u hu => by
      rw [Addr.add_mid, Nat.zero_add, cell_of_row _ _ j _ _ _ (heap_alloc_last w _)]
      simpa [bvA] using hu) (bv_one _) (by unfold maxLen; omega) (by omega) hs0
  refine ⟨v', w', hrun, ?_, ?_⟩
  · unfold OwnB
    rw [List.length_append, show bv (L ++ N) = bv L ++ bv N by simp [bv]]
    exact ho
  · refine AppB.pre (Kept.alloc [] w (.cells (bvA N) 5)) ⟨hk, ?_⟩
    rcases hor with e | e
    · exact .inl e
    · exact .inr ⟨_, e, Nat.le_refl _⟩
theorem AppB.below {base : Nat} {w w' : World} {v v' : Value} {L : List UInt8} (h : AppB w v w' v') (ho : OwnB base w v L) (hb : base ≤ w.heap.size) : Below base w w' :=
  h.kept.below hb fun q hq => (World.ownsRow.lt ho q (by simpa using hq)).1
theorem AppB.into {base : Nat} {w0 w w' : World} {v v' : Value} {L : List UInt8} (hk : Kept [] w0 w) (h : AppB w v w' v') (ho : OwnB base w v L) (hb : w0.heap.size ≤ base) : Kept [] w0 w' :=
  hk.into h.kept fun q hq => by have := (World.ownsRow.lt ho q (by simpa using hq)).1; omega
theorem own_made (w : World) (N : List UInt8) (base : Nat) (hb : base ≤ w.heap.size) (hN : N.length ≤ 1000) : OwnB base (w.alloc (.cells (bvA N) 5)) (.slice (some ⟨w.heap.size, 0, none⟩) N.length N.length) N :=
  ⟨by rw [bv_length]; omega, .inr ⟨w.heap.size, N.length, bvA N, rfl, hb, heap_alloc_last _ _, Nat.le_refl _, by unfold maxLen; omega, by rw [bvA_size]; omega, by rw [bvA_toList, List.take_of_length_le (by rw [bv_length]; omega)]⟩⟩
theorem OwnB.drew {base : Nat} {w : World} {v : Value} {L : List UInt8} (h : OwnB base w v L) : OwnB base w.drew v L := h.kept (Kept.drew [] w) (by simp)
theorem below_new (w : World) (o : Obj) : Below w.heap.size w.drew (w.alloc o).drew := (show Kept [] w.drew (w.alloc o).drew from Kept.alloc [] w.drew o).below (Nat.le_refl _) (by simp)
/-- A slice's capacity is no less than its length. -/
def CapOk (v : Value) : Prop := ∃ ao n c, v = .slice ao n c ∧ n ≤ c ∧ c ≤ 9223372036854775807
theorem wp_append_run {P : Program} {o : Oper} {a : Act} {w w' : World} {K : Act → World → Prop} {Q : Exit → Act → World → Prop} (s x : Operand) (t : TypeId)
    (ho : o.op = .call { callee := .builtin .append, args := #[s, x], argTypes := #[t, t] }) (u v r : Value) (hs : a.eval s = u) (hx : a.eval x = v)
    (hrun : (Builtin.append_ #[t, t] o.type #[u, v]).run P w = .ok r w') (h : K (a.put o.dst r) w') : o.wp P a w K Q := by
  unfold Oper.wp execOp
  simp only [ho, resolve, invoke, builtin, Sem.run_bind, Sem.run_pure, Result.andThen_ok, List.map_toArray, List.map_cons, List.map_nil, hs, hx, hrun]
  exact h
theorem bytesRow_get (p : List UInt8) (cap : Nat) : ∀ (j : Nat) (u : Value), (bv p)[j]? = some u → (bytesRow (strL p) cap)[j]? = some u := by
  intro j u hu
  have hj : j < p.length := by have := (List.getElem?_eq_some_iff.1 hu).1; simpa [bv] using this
  unfold bytesRow
  rw [Array.getElem?_append_left (by simp [strL]; exact hj)]
  simpa [strL, bv] using hu
theorem app_newB (base : Nat) (w : World) (v : Value) (L N : List UInt8) (hown : OwnB base w v L) (hb : base ≤ w.heap.size) (hl : L.length + N.length ≤ 10000000) :
    ∃ v' w', (Builtin.append_ #[70, 70] 70 #[v, .slice (some ⟨w.heap.size, 0, none⟩) N.length N.length]).run Tryz.prog (w.alloc (.cells (bvA N) 5)) = .ok v' w' ∧ OwnB base w' v' (L ++ N) ∧ AppB w v w' v' ∧ Below base (w.alloc (.cells (bvA N) 5)) w' := by
  have hs0 : base ≤ (w.alloc (.cells (bvA N) 5)).heap.size := by rw [size_alloc]; omega
  obtain ⟨v', w', hrun, ho, hk, hor⟩ := own_app elemByte 70 (w.alloc (.cells (bvA N) 5)) base v L.length (bv L) (World.ownsRow.alloc hown _) ⟨w.heap.size, 0, none⟩ N.length N.length (bv N) (by rw [bv_length]; omega)
    (fun j u hu => by
      rw [Addr.add_mid, Nat.zero_add, cell_of_row _ _ j _ _ _ (heap_alloc_last w _)]
      simpa [bvA] using hu) (bv_one _) (by unfold maxLen; omega) (by omega) hs0
  refine ⟨v', w', hrun, ?_, ?_, hk.below hs0 fun q hq => (World.ownsRow.lt hown q (by simpa using hq)).1⟩
  · unfold OwnB
    rw [List.length_append, show bv (L ++ N) = bv L ++ bv N by simp [bv]]
    exact ho
  · refine AppB.pre (Kept.alloc [] w (.cells (bvA N) 5)) ⟨hk, ?_⟩
    rcases hor with e | e
    · exact .inl e
    · exact .inr ⟨_, e, Nat.le_refl _⟩
/-- A string's bytes, made a row of their own, are appended. -/
theorem app_str (base : Nat) (w : World) (v : Value) (L p : List UInt8) (hown : OwnB base w v L) (hb : base ≤ w.heap.size) (hl : L.length + p.length ≤ 10000000) (o : Obj) (cap c2 : Nat) (m : Nat × Nat)
    (ho : o = .cells (bytesRow (strL p) cap) 5 m) :
    ∃ v' w', (Builtin.append_ #[70, 70] 70 #[v, .slice (some ⟨w.heap.size, 0, none⟩) p.length c2]).run Tryz.prog (w.alloc o) = .ok v' w' ∧ OwnB base w' v' (L ++ p) ∧ AppB w v w' v' := by
  have hs0 : base ≤ (w.alloc o).heap.size := by rw [size_alloc]; omega
  obtain ⟨v', w', hrun, hw, hk, hor⟩ := own_app elemByte 70 (w.alloc o) base v L.length (bv L) (World.ownsRow.alloc hown _) ⟨w.heap.size, 0, none⟩ p.length c2 (bv p) (by rw [bv_length]; omega)
    (fun j u hu => by
      have hh := heap_alloc_last w o
      rw [ho] at hh
      rw [Addr.add_mid, Nat.zero_add, ho]
      simp only [World.cell?, hh]
      exact bytesRow_get p cap j u hu) (bv_one _) (by unfold maxLen; omega) (by omega) hs0
  refine ⟨v', w', hrun, ?_, ?_⟩
  · unfold OwnB
    rw [List.length_append, show bv (L ++ p) = bv L ++ bv p by simp [bv]]
    exact hw
  · refine AppB.pre (Kept.alloc [] w o) ⟨hk, ?_⟩
    rcases hor with e | e
    · exact .inl e
    · exact .inr ⟨_, e, Nat.le_refl _⟩
theorem OwnB.cap {base : Nat} {w : World} {v : Value} {L : List UInt8} (h : OwnB base w v L) : CapOk v := by
  rcases owns_range h with ⟨g, cap, rfl, _, hg, hc, hm, hr⟩ | ⟨rfl, hn, _⟩
  · exact ⟨_, _, _, rfl, hc, by unfold maxLen at hm; omega⟩
  · exact ⟨_, _, _, rfl, by omega, by omega⟩
theorem less_tri : ∀ p q : List UInt8, lessB p q = !(lessB q p || decide (q = p))
  | [], [] => rfl
  | [], b :: y => by simp [lessB, Op.bytesLess]
  | a :: x, [] => by simp [lessB, Op.bytesLess]
  | a :: x, b :: y => by
    have ih := less_tri x y
    unfold lessB at ih ⊢
    simp only [Op.bytesLess, ih, List.cons.injEq]
    rcases (by have h1 := UInt8.lt_iff_toNat_lt (a := a) (b := b); have h2 := UInt8.lt_iff_toNat_lt (a := b) (b := a); have h3 := UInt8.toNat_inj (a := a) (b := b); rw [h1, h2, ← h3]; omega : a < b ∨ b < a ∨ a = b) with h | h | h
    · have h1 : ¬ b < a := by rw [UInt8.lt_iff_toNat_lt] at h ⊢; omega
      have h2 : ¬ b = a := fun e => by subst e; exact absurd h (UInt8.lt_irrefl _)
      simp [h, h1, h2]
    · have h1 : ¬ a < b := by rw [UInt8.lt_iff_toNat_lt] at h ⊢; omega
      have h2 : ¬ a = b := fun e => by subst e; exact absurd h (UInt8.lt_irrefl _)
      simp [h, h1, h2]
    · subst h
      simp [UInt8.lt_irrefl]
theorem below_cell {base : Nat} {w w' : World} {b o : Nat} {v : Value} (h : Below base w w') (hb : b < base) (hc : w.cell? ⟨b, o, none⟩ = some v) : w'.cell? ⟨b, o, none⟩ = some v := by
  have := h.block b hb
  simp only [World.cell?, this] at hc ⊢
  exact hc
/-- A slice of bytes that came in. -/
structure ArgB (w : World) (ao : Option Addr) (len cap : Nat) (B : List UInt8) : Prop where
  hlen : B.length = len
  hle : len ≤ 140737488355328
  hcap : len ≤ cap
  cap63 : cap ≤ 9223372036854775807
  hnil : ao = none → cap = 0
  at' : len = 0 ∨ ∃ b o, ao = some ⟨b, o, none⟩ ∧ b < w.heap.size ∧ w.rangeAt b o (bv B)
theorem ArgB.kept {w w' : World} {ao : Option Addr} {len cap : Nat} {B : List UInt8} (h : ArgB w ao len cap B) (hk : Kept [] w w') : ArgB w' ao len cap B := by
  refine ⟨h.hlen, h.hle, h.hcap, h.cap63, h.hnil, ?_⟩
  rcases h.at' with h0 | ⟨b, o, e, hb, hr⟩
  · exact .inl h0
  · exact .inr ⟨b, o, e, Nat.lt_of_lt_of_le hb hk.size, hk.range hb (by simp) hr⟩
theorem ArgB.conv {w : World} {ao : Option Addr} {len cap : Nat} {B : List UInt8} (h : ArgB w ao len cap B) : ConvIs w (.slice ao len cap) B := by
  rcases h.at' with h0 | ⟨b, o, rfl, hb, hr⟩
  · have hB : B = [] := List.eq_nil_of_length_eq_zero (by rw [h.hlen, h0])
    rw [hB, h0]
    exact conv_empty w ao cap h.hnil
  · have := h.hlen
    subst this
    exact (show SlIs w (.slice (some ⟨b, o, none⟩) B.length cap) B from .inl ⟨b, o, cap, rfl, hb, hr⟩).conv
end Go.Proofs.YtfpdgdacifiejaaGreat

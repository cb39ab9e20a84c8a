/-
  Plain facts that all layers share: texts, rows of bytes of the call's own, what is appended to them, bytes that came in. Nothing of the program's own code is named here.
  Conditions: none beyond those that each theorem states.
-/
import Derived.Test.YtlbenaodpfhjeaaChecked
import Derived.Test.YtlbenaodpfhjeaaLKit
import Derived.Test.YtlbenaodpfhjeaaLReg
import Derived.Lib.Strings
import Derived.Lib.AppendStr
import Derived.Laws.Strings3
import Derived.Laws.IdiomStrings
import Derived.Laws.AppendOwnNone
namespace Go.Proofs.Ytlbenaodpfhjeaa
open Go.RowKit Go.Maps

theorem ret1 {n m : Int} (h : n = m) : Ending.returned (.int .i64 n) = .returned (.int .i64 m) := by rw [h]
theorem ret2 {n m : Int} {a b : Bool} (h : n = m) (g : a = b) : Ending.returned (.tuple #[.int .i64 n, .bool a]) = .returned (.tuple #[.int .i64 m, .bool b]) := by rw [h, g]
theorem retB {a b : Bool} (h : a = b) : Ending.returned (.bool a) = .returned (.bool b) := by rw [h]
theorem SlIs.kept {w w' : World} {v : Value} {l : List UInt8} (h : SlIs w v l) (hk : Kept [] w w') : SlIs w' v l := by
  rcases h with ⟨b, o, cap, rfl, hb, hr⟩ | h
  · exact .inl ⟨b, o, cap, rfl, Nat.lt_of_lt_of_le hb hk.size, hk.range hb (by simp) hr⟩
  · exact .inr h
theorem SlIs.row {w : World} {b : Nat} {L : List UInt8} {t : TypeId} (h : w.heap[b]? = some (.cells (bvA L) t)) (n cap : Nat) (hn : L.length = n) : SlIs w (.slice (some ⟨b, 0, none⟩) n cap) L :=
  .inl ⟨b, 0, cap, by rw [hn], (Array.getElem?_eq_some_iff.1 h).1, range_row h⟩
theorem size_toList (s : ByteArray) : s.data.toList.length = s.size := by rw [Array.length_toList]; rfl
theorem get_toList (s : ByteArray) (i : Nat) (h : i < s.size) : s.data.toList[i]'(by rw [size_toList]; exact h) = s[i] := rfl
def strL (l : List UInt8) : ByteArray := ⟨l.toArray⟩
theorem strL_toList (l : List UInt8) : (strL l).data.toList = l := rfl
theorem strL_of (s : ByteArray) : strL s.data.toList = s := rfl
theorem strL_size (l : List UInt8) : (strL l).size = l.length := by rw [← size_toList]; rfl
def sv (l : List (List UInt8)) : List Value := l.map fun p => Value.string (strL p)
def svA (l : List (List UInt8)) : Array Value := (sv l).toArray
theorem sv_length (l : List (List UInt8)) : (sv l).length = l.length := by simp [sv]
/-- A slice of texts: what it reads as. -/
def StrsIs (w : World) (v : Value) (l : List (List UInt8)) : Prop :=
  (∃ b o cap, v = .slice (some ⟨b, o, none⟩) l.length cap ∧ b < w.heap.size ∧ w.rangeAt b o (sv l)) ∨ (v = .slice none 0 0 ∧ l = [])
theorem StrsIs.kept {w w' : World} {v : Value} {l : List (List UInt8)} (h : StrsIs w v l) (hk : Kept [] w w') : StrsIs w' v l := by
  rcases h with ⟨b, o, cap, rfl, hb, hr⟩ | h
  · exact .inl ⟨b, o, cap, rfl, Nat.lt_of_lt_of_le hb hk.size, hk.range hb (by simp) hr⟩
  · exact .inr h
theorem range_svA {w : World} {b : Nat} {l : List (List UInt8)} {t : TypeId} (h : w.heap[b]? = some (.cells (svA l) t)) : w.rangeAt b 0 (sv l) := fun j v hv => by
  rw [Nat.zero_add, cell_of_row w b j _ _ _ h]
  simpa [svA] using hv
theorem conv_of_range {P : Program} (w : World) (src dst e : TypeId) (hs : P.underlying src = some (.slice e)) (he : P.underlying e = some (.int .u8)) (hd : P.underlying dst = some .string)
    (b o cap : Nat) (l : List UInt8) (n : Nat) (hn : l.length = n) (hc : w.rangeAt b o (bv l)) :
    (convert src dst (.slice (some ⟨b, o, none⟩) n cap)).run P w = .ok (.string (strL l)) w := by
  subst hn
  refine run_convert_bytes_back w src dst e ⟨b, o, none⟩ cap l hs he hd (fun j hj => ?_)
  rw [Addr.add_mid]
  exact hc j _ (by simp [bv, hj])
def lessB (p q : List UInt8) : Bool := Op.bytesLess p q
theorem strL_bytes (p : List UInt8) : (strL p).toList = p := by rw [Lib.toList_data]; rfl
/-- A row of bytes of the call's own. -/
def OwnB (base : Nat) (w : World) (v : Value) (L : List UInt8) : Prop := w.ownsRow base 5 1 v L.length (bv L)
/-- A row that was appended to lies where it lay, or is new; all else is as it was. -/
structure AppB (w : World) (v : Value) (w' : World) (v' : Value) : Prop where
  kept : Kept v.ownBlock.toList w w'
  own : v'.ownBlock = v.ownBlock ∨ ∃ g, v'.ownBlock = some g ∧ w.heap.size ≤ g
theorem Kept.step {w wr w2 : World} {ex : List Nat} {o : Option Nat} (h : Kept ex w wr) (k : Kept o.toList wr w2) (ho : ∀ g, o = some g → g ∈ ex ∨ w.heap.size ≤ g) : Kept ex w w2 :=
  ⟨k.os.trans h.os, k.tape.trans h.tape, k.output.trans h.output, Nat.le_trans h.size k.size, fun i hi hn => by
    rw [k.block i (Nat.lt_of_lt_of_le hi h.size) (fun hm => by
      have := ho i (by simpa using hm)
      rcases this with hh | hh
      · exact hn hh
      · omega)]
    exact h.block i hi hn⟩
theorem AppB.refl (w : World) (v : Value) : AppB w v w v := ⟨Kept.refl _ _, .inl rfl⟩
theorem AppB.trans {w w1 w2 : World} {v v1 v2 : Value} (h : AppB w v w1 v1) (k : AppB w1 v1 w2 v2) : AppB w v w2 v2 := by
  have hs := h.kept.size
  refine ⟨h.kept.step k.kept fun g hg => ?_, ?_⟩
  · rcases h.own with e | ⟨g', e, hg'⟩
    · left; rw [e] at hg; simp [hg]
    · right; rw [e] at hg; injection hg with hg; omega
  · rcases k.own with e | ⟨g, e, hg⟩
    · rw [e]; exact h.own
    · exact .inr ⟨g, e, by omega⟩
theorem AppB.pre {w w1 w2 : World} {v v2 : Value} (h : Kept [] w w1) (k : AppB w1 v w2 v2) : AppB w v w2 v2 := by
  have hs := h.size
  refine ⟨(h.mono (by simp)).trans k.kept, ?_⟩
  rcases k.own with e | ⟨g, e, hg⟩
  · exact .inl e
  · exact .inr ⟨g, e, by omega⟩
theorem OwnB.kept {base : Nat} {w w' : World} {v : Value} {L : List UInt8} (h : OwnB base w v L) {ex : List Nat} (hk : Kept ex w w') (hne : ∀ k, v.ownBlock = some k → k ∉ ex) : OwnB base w' v L := owns_kept h hk hne
theorem OwnB.slIs {base : Nat} {w : World} {v : Value} {L : List UInt8} (h : OwnB base w v L) : SlIs w v L := by
  rcases owns_range h with ⟨g, cap, rfl, _, hg, _, _, hr⟩ | ⟨rfl, hn, _⟩
  · exact .inl ⟨g, 0, cap, rfl, hg, hr⟩
  · exact .inr ⟨rfl, List.eq_nil_of_length_eq_zero hn⟩
theorem OwnB.val {base : Nat} {w : World} {v : Value} {L : List UInt8} (h : OwnB base w v L) : ∃ ao cap, v = .slice ao L.length cap ∧ L.length ≤ cap := by
  rcases owns_range h with ⟨g, cap, rfl, _, hg, hc, _, hr⟩ | ⟨rfl, hn, _⟩
  · exact ⟨_, _, rfl, hc⟩
  · exact ⟨_, _, by rw [hn], by omega⟩
theorem AppB.below {base : Nat} {w w' : World} {v v' : Value} {L : List UInt8} (h : AppB w v w' v') (ho : OwnB base w v L) (hb : base ≤ w.heap.size) : Below base w w' :=
  h.kept.below hb fun q hq => (World.ownsRow.lt ho q (by simpa using hq)).1
theorem AppB.into {base : Nat} {w0 w w' : World} {v v' : Value} {L : List UInt8} (hk : Kept [] w0 w) (h : AppB w v w' v') (ho : OwnB base w v L) (hb : w0.heap.size ≤ base) : Kept [] w0 w' :=
  hk.into h.kept fun q hq => by have := (World.ownsRow.lt ho q (by simpa using hq)).1; omega
theorem own_made (w : World) (N : List UInt8) (base : Nat) (hb : base ≤ w.heap.size) (hN : N.length ≤ 1000) : OwnB base (w.alloc (.cells (bvA N) 5)) (.slice (some ⟨w.heap.size, 0, none⟩) N.length N.length) N :=
  ⟨by rw [bv_length]; omega, .inr ⟨w.heap.size, N.length, bvA N, rfl, hb, heap_alloc_last _ _, Nat.le_refl _, by unfold maxLen; omega, by rw [bvA_size]; omega, by rw [bvA_toList, List.take_of_length_le (by rw [bv_length]; omega)]⟩⟩
theorem OwnB.drew {base : Nat} {w : World} {v : Value} {L : List UInt8} (h : OwnB base w v L) : OwnB base w.drew v L := h.kept (Kept.drew [] w) (by simp)
theorem below_new (w : World) (o : Obj) : Below w.heap.size w.drew (w.alloc o).drew := (show Kept [] w.drew (w.alloc o).drew from Kept.alloc [] w.drew o).below (Nat.le_refl _) (by simp)
/-- A slice's capacity is no less than its length. -/
def CapOk (v : Value) : Prop := ∃ ao n c, v = .slice ao n c ∧ n ≤ c ∧ c ≤ 9223372036854775807
theorem wp_append_run {P : Program} {o : Oper} {a : Act} {w w' : World} {K : Act → World → Prop} {Q : Exit → Act → World → Prop} (s x : Operand) (t : TypeId)
    (ho : o.op = .call { callee := .builtin .append, args := #[s, x], argTypes := #[t, t] }) (u v r : Value) (hs : a.eval s = u) (hx : a.eval x = v)
    (hrun : (Builtin.append_ #[t, t] o.type #[u, v]).run P w = .ok r w') (h : K (a.put o.dst r) w') : o.wp P a w K Q := by
  unfold Oper.wp execOp
  simp only [ho, resolve, invoke, builtin, Sem.run_bind, Sem.run_pure, Result.andThen_ok, List.map_toArray, List.map_cons, List.map_nil, hs, hx, hrun]
  exact h
theorem bytesRow_get (p : List UInt8) (cap : Nat) : ∀ (j : Nat) (u : Value), (bv p)[j]? = some u → (bytesRow (strL p) cap)[j]? = some u := by
  intro j u hu
  have hj : j < p.length := by have := (List.getElem?_eq_some_iff.1 hu).1; simpa [bv] using this
  unfold bytesRow
  rw [Array.getElem?_append_left (by simp [strL]; exact hj)]
  simpa [strL, bv] using hu
theorem OwnB.cap {base : Nat} {w : World} {v : Value} {L : List UInt8} (h : OwnB base w v L) : CapOk v := by
  rcases owns_range h with ⟨g, cap, rfl, _, hg, hc, hm, hr⟩ | ⟨rfl, hn, _⟩
  · exact ⟨_, _, _, rfl, hc, by unfold maxLen at hm; omega⟩
  · exact ⟨_, _, _, rfl, by omega, by omega⟩
theorem less_tri : ∀ p q : List UInt8, lessB p q = !(lessB q p || decide (q = p))
  | [], [] => rfl
  | [], b :: y => by simp [lessB, Op.bytesLess]
  | a :: x, [] => by simp [lessB, Op.bytesLess]
  | a :: x, b :: y => by
    have ih := less_tri x y
    unfold lessB at ih ⊢
    simp only [Op.bytesLess, ih, List.cons.injEq]
    rcases (by have h1 := UInt8.lt_iff_toNat_lt (a := a) (b := b); have h2 := UInt8.lt_iff_toNat_lt (a := b) (b := a); have h3 := UInt8.toNat_inj (a := a) (b := b); rw [h1, h2, ← h3]; omega : a < b ∨ b < a ∨ a = b) with h | h | h
    · have h1 : ¬ b < a := by rw [UInt8.lt_iff_toNat_lt] at h ⊢; omega
      have h2 : ¬ b = a := fun e => by subst e; exact absurd h (UInt8.lt_irrefl _)
      simp [h, h1, h2]
    · have h1 : ¬ a < b := by rw [UInt8.lt_iff_toNat_lt] at h ⊢; omega
      have h2 : ¬ a = b := fun e => by subst e; exact absurd h (UInt8.lt_irrefl _)
      simp [h, h1, h2]
    · subst h
      simp [UInt8.lt_irrefl]
theorem below_cell {base : Nat} {w w' : World} {b o : Nat} {v : Value} (h : Below base w w') (hb : b < base) (hc : w.cell? ⟨b, o, none⟩ = some v) : w'.cell? ⟨b, o, none⟩ = some v := by
  have := h.block b hb
  simp only [World.cell?, this] at hc ⊢
  exact hc
/-- A slice of bytes that came in. -/
structure ArgB (w : World) (ao : Option Addr) (len cap : Nat) (B : List UInt8) : Prop where
  hlen : B.length = len
  hle : len ≤ 140737488355328
  hcap : len ≤ cap
  cap63 : cap ≤ 9223372036854775807
  hnil : ao = none → cap = 0
  at' : len = 0 ∨ ∃ b o, ao = some ⟨b, o, none⟩ ∧ b < w.heap.size ∧ w.rangeAt b o (bv B)
theorem ArgB.kept {w w' : World} {ao : Option Addr} {len cap : Nat} {B : List UInt8} (h : ArgB w ao len cap B) (hk : Kept [] w w') : ArgB w' ao len cap B := by
  refine ⟨h.hlen, h.hle, h.hcap, h.cap63, h.hnil, ?_⟩
  rcases h.at' with h0 | ⟨b, o, e, hb, hr⟩
  · exact .inl h0
  · exact .inr ⟨b, o, e, Nat.lt_of_lt_of_le hb hk.size, hk.range hb (by simp) hr⟩
end Go.Proofs.Ytlbenaodpfhjeaa

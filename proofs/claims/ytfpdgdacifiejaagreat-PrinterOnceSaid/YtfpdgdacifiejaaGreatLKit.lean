/-
  Plain facts that the walks of this seat rest on: bytes as cells, what a call leaves as it was, a map of blocks of 64 bytes, and laws at single operations. Nothing of the program's own code is named here.
  Conditions: none beyond those that each theorem states.
  A statement whose order Go leaves open, walked in the text's order, where what it calls makes new memory and leaves the old as it is: each operation that only reads is taken first; a call comes up alone.
  Conditions: those that the kernel reckons of the region's own list ('lexMix').
  A statement whose order Go leaves open, walked in an order of the prover's: as the text beside it, the operations by their numbers.
  Conditions: those that the kernel reckons of the region's own list ('ordMix').
  Plain facts for layer 3: what stays, rows of bytes and of numbers, two bytes as a number. Nothing of the program's own code is named here.
  Conditions: none beyond those that each theorem states.
-/
import Derived.WalkKit
import Derived.WalkSpells
import Derived.WalkLawsBesides
import Derived.Lib.Hide
import Derived.Maps.OwnSet
import Derived.Deep.MidRow
import Derived.Deep.WholeRow
import Derived.StillTailTactics
import Derived.OrdersHeld
import Derived.Deep.QuietTactic
import Derived.BigQuiet
import Derived.Lib.BufferWrite
import Derived.Laws.AppendOwn
import Derived.Laws.Append
namespace Go.Proofs.YtfpdgdacifiejaaGreat
open Go.RowKit Go.Maps

/-- Bytes as the cells that hold them. -/
def bv (l : List UInt8) : List Value := l.map fun c => Value.int .u8 (c.toNat : Int)
def bvA (l : List UInt8) : Array Value := (bv l).toArray

theorem bv_length (l : List UInt8) : (bv l).length = l.length := by simp [bv]
theorem bvA_size (l : List UInt8) : (bvA l).size = l.length := by simp [bvA, bv]
theorem bvA_toList (l : List UInt8) : (bvA l).toList = bv l := by simp [bvA]
theorem bv_inj {a b : List UInt8} (h : bv a = bv b) : a = b := by
  unfold bv at h
  refine List.map_inj_right ?_ |>.1 h
  intro x y hxy
  simp at hxy
  exact UInt8.toNat_inj.1 (by omega)
theorem bvA_inj {a b : List UInt8} (h : bvA a = bvA b) : a = b := bv_inj (by simpa [bvA] using h)
theorem bv_get (l : List UInt8) (j : Nat) : (bv l)[j]? = (l[j]?).map fun c => Value.int .u8 (c.toNat : Int) := by simp [bv]
theorem bv_one (l : List UInt8) : ∀ v ∈ bv l, v.oneCell' = true := by
  intro v hv
  simp [bv] at hv
  obtain ⟨c, _, rfl⟩ := hv
  rfl
theorem bvA_one (l : List UInt8) : (bvA l).all (·.oneCell') = true := all_oneCell_toArray (bv_one l)

/-- 64 bytes, all of them c. -/
def fullL (c : UInt8) : List UInt8 := List.replicate 64 c
theorem fullL_length (c : UInt8) : (fullL c).length = 64 := by simp [fullL]
theorem fullL_inj {a b : UInt8} (h : fullL a = fullL b) : a = b := by
  have := congrArg (fun l => l[0]?) h
  simpa [fullL] using this

/-- w' is w but for the blocks on the list, and for new blocks. -/
structure Kept (ex : List Nat) (w w' : World) : Prop where
  os : w'.os = w.os
  tape : w'.tape = w.tape
  output : w'.output = w.output
  size : w.heap.size ≤ w'.heap.size
  block : ∀ k, k < w.heap.size → k ∉ ex → w'.heap[k]? = w.heap[k]?

theorem Kept.refl (ex : List Nat) (w : World) : Kept ex w w := ⟨rfl, rfl, rfl, Nat.le_refl _, fun _ _ _ => rfl⟩
theorem Kept.trans {ex : List Nat} {a b c : World} (h : Kept ex a b) (k : Kept ex b c) : Kept ex a c :=
  ⟨k.os.trans h.os, k.tape.trans h.tape, k.output.trans h.output, Nat.le_trans h.size k.size,
   fun i hi hn => (k.block i (Nat.lt_of_lt_of_le hi h.size) hn).trans (h.block i hi hn)⟩
theorem Kept.mono {ex ex' : List Nat} {a b : World} (h : Kept ex a b) (hs : ∀ k ∈ ex, k < a.heap.size → k ∈ ex') : Kept ex' a b :=
  ⟨h.os, h.tape, h.output, h.size, fun i hi hn => h.block i hi (fun hm => hn (hs i hm hi))⟩
theorem Kept.alloc (ex : List Nat) (w : World) (o : Obj) : Kept ex w (w.alloc o) :=
  ⟨rfl, rfl, rfl, by simp, fun k hk _ => Below.heap_alloc _ _ _ hk⟩
theorem Kept.setCell (ex : List Nat) (w : World) (p : Addr) (u : Value) (hp : p.block ∈ ex) : Kept ex w (w.setCell p u) :=
  ⟨rfl, rfl, rfl, by simp [World.setCell], fun k _ hn => Below.heap_setCell _ _ _ _ (fun e => hn (by rw [e]; exact hp))⟩
theorem Kept.drew (ex : List Nat) (w : World) : Kept ex w w.drew := ⟨rfl, rfl, rfl, Nat.le_refl _, fun _ _ _ => rfl⟩
theorem Kept.grown {ex : List Nat} {w w' : World} {row : Option Nat} (hg : w.grownBy w' row) (hr : ∀ k, row = some k → k ∈ ex) : Kept ex w w' :=
  ⟨hg.os, hg.tape, hg.output, hg.size, fun k hk hn => hg.block k hk (fun e => hn (hr k e.symm))⟩
theorem Kept.below {ex : List Nat} {w w' : World} (h : Kept ex w w') {B : Nat} (hB : B ≤ w.heap.size) (hx : ∀ k ∈ ex, B ≤ k) : Below B w w' :=
  ⟨h.os, h.tape, h.output, h.size, fun k hk => h.block k (Nat.lt_of_lt_of_le hk hB) (fun hm => Nat.not_lt.2 (hx k hm) hk)⟩
/-- Writes to blocks that the call itself has made leave what was there before it. -/
theorem Kept.into {ex : List Nat} {w wr w3 : World} (h : Kept [] w wr) (k : Kept ex wr w3) (hx : ∀ i ∈ ex, w.heap.size ≤ i) : Kept [] w w3 :=
  ⟨k.os.trans h.os, k.tape.trans h.tape, k.output.trans h.output, Nat.le_trans h.size k.size,
   fun i hi _ => (k.block i (Nat.lt_of_lt_of_le hi h.size) (fun hm => Nat.not_lt.2 (hx i hm) hi)).trans (h.block i hi (by simp))⟩
theorem Kept.cell {ex : List Nat} {w w' : World} (h : Kept ex w w') {p : Addr} (hp : p.block < w.heap.size) (hn : p.block ∉ ex) : w'.cell? p = w.cell? p :=
  World.cell?_of_block (w := w) (h.block p.block hp hn)
theorem Kept.range {ex : List Nat} {w w' : World} (h : Kept ex w w') {b o : Nat} {cs : List Value} (hb : b < w.heap.size) (hn : b ∉ ex) (hr : w.rangeAt b o cs) : w'.rangeAt b o cs :=
  fun j v hv => by rw [h.cell (p := ⟨b, o + j, none⟩) hb hn]; exact hr j v hv
theorem Kept.heap {ex : List Nat} {w w' : World} (h : Kept ex w w') {b : Nat} {o : Obj} (hn : b ∉ ex) (hb : w.heap[b]? = some o) : w'.heap[b]? = some o := by
  rw [h.block b (Array.getElem?_eq_some_iff.1 hb).1 hn]; exact hb

/-- How an element of the map reads: 64 bytes. -/
noncomputable def blkR (v : Value) : Option (DataW Unit × List MemPlace) :=
  open Classical in if h : ∃ l : List UInt8, l.length = 64 ∧ v = .agg (bvA l) then some (.lit (.string h.choose), []) else none

theorem blkR_mk {l : List UInt8} (hl : l.length = 64) : blkR (.agg (bvA l)) = some (.lit (.string l), []) := by
  have h : ∃ l' : List UInt8, l'.length = 64 ∧ Value.agg (bvA l) = .agg (bvA l') := ⟨l, hl, rfl⟩
  unfold blkR
  rw [dif_pos h]
  have := h.choose_spec.2
  have e : h.choose = l := (bvA_inj (by simpa using this)).symm
  rw [e]
theorem blkR_inv {v : Value} {l : List UInt8} {ps : List MemPlace} (h : blkR v = some (.lit (.string l), ps)) : v = .agg (bvA l) ∧ l.length = 64 := by
  unfold blkR at h
  split at h
  · rename_i hx
    simp only [Option.some.injEq, Prod.mk.injEq, DataW.lit.injEq, Lit.string.injEq] at h
    have := hx.choose_spec
    rw [h.1] at this
    exact ⟨this.2, this.1⟩
  · cases h

def zeroL : List UInt8 := fullL 0

/-- BLOCK m OF w IS A MAP OF AT MOST n ENTRIES IN WHICH KEY i LEADS TO THE 64 BYTES f i (noughts, where there is no such key). -/
def BlkMap (P : Program) (k : TypeId) (w : World) (m n : Nat) (f : Int → List UInt8) : Prop :=
  ∃ D : DataW Unit, w.ownsMap P k blkR m n D ∧ IsMap D ∧ ∀ i, (Lit.int .i64 i).wf = true → D.atKey (.int .i64 i) (.lit (.string zeroL)) = .lit (.string (f i))

theorem BlkMap.made (P : Program) (k : TypeId) (w : World) : BlkMap P k (w.alloc (.map #[] 0)) w.heap.size 0 (fun _ => zeroL) :=
  ⟨.map [], World.ownsMap_made w P k blkR, isMap_empty, fun i _ => by rfl⟩

theorem BlkMap.kept {P : Program} {k : TypeId} {w w' : World} {m n : Nat} {f : Int → List UInt8} (h : BlkMap P k w m n f) {ex : List Nat} (hk : Kept ex w w') (hm : m ∉ ex) : BlkMap P k w' m n f := by
  obtain ⟨D, ⟨es, clock, hb, r⟩, h2, h3⟩ := h
  exact ⟨D, ⟨es, clock, hk.heap hm hb, r⟩, h2, h3⟩

theorem BlkMap.lt {P : Program} {k : TypeId} {w : World} {m n : Nat} {f : Int → List UInt8} (h : BlkMap P k w m n f) : m < w.heap.size := by
  obtain ⟨D, h1, _⟩ := h
  exact h1.lt

theorem BlkMap.mono {P : Program} {k : TypeId} {w : World} {m n n' : Nat} {f : Int → List UInt8} (h : BlkMap P k w m n f) (hn : n ≤ n') : BlkMap P k w m n' f := by
  obtain ⟨D, h1, r⟩ := h
  exact ⟨D, h1.mono hn, r⟩

theorem BlkMap.notCells {P : Program} {k : TypeId} {w : World} {m n : Nat} {f : Int → List UInt8} (h : BlkMap P k w m n f) {c : Array Value} {t : TypeId} {fr : Nat × Nat} : w.heap[m]? ≠ some (.cells c t fr) := by
  obtain ⟨D, ⟨es, clock, hb, _⟩, _⟩ := h
  rw [hb]; simp

theorem BlkMap.look {P : Program} {k e t : TypeId} {w : World} {m n : Nat} {f : Int → List UInt8} (h : BlkMap P k w m n f) (hk : P.underlying k = some (.int .i64)) (ht : P.underlying t = some (.map k e))
    (hz : (zeroValue e).run P w = .ok (.agg (bvA zeroL)) w) (i : Int) (hi : (Lit.int .i64 i).wf = true) :
    (Instr.lookup t (.map (some m)) (.int .i64 i) false).run P w = .ok (.agg (bvA (f i))) w ∧ (f i).length = 64 := by
  obtain ⟨D, h1, h2, h3⟩ := h
  obtain ⟨v, ps, hrun, hv⟩ := h1.lookup (int_keyed hk) ht hz (blkR_mk (fullL_length 0)) (keyOf_int_mk hk hi)
  rw [h3 i hi] at hv
  obtain ⟨rfl, hl⟩ := blkR_inv hv
  exact ⟨hrun, hl⟩

def updL (f : Int → List UInt8) (i : Int) (l : List UInt8) : Int → List UInt8 := fun j => if j = i then l else f j

theorem BlkMap.upd {P : Program} {k e t : TypeId} {w : World} {m n : Nat} {f : Int → List UInt8} (h : BlkMap P k w m n f) (hk : P.underlying k = some (.int .i64)) (ht : P.underlying t = some (.map k e))
    (hn : n < maxLen) (i : Int) (hi : (Lit.int .i64 i).wf = true) (l : List UInt8) (hl : l.length = 64) :
    ∃ w', (Instr.mapUpdate t (.map (some m)) (.int .i64 i) (.agg (bvA l))).run P w = .ok () w' ∧ BlkMap P k w' m (n + 1) (updL f i l) ∧ w.grownBy w' (some m) := by
  obtain ⟨D, h1, h2, h3⟩ := h
  obtain ⟨w', hrun, r1, r2⟩ := h1.update (int_keyed hk) ht hn (keyOf_int_mk hk hi) (blkR_mk hl)
  refine ⟨w', hrun, ⟨_, r1, h2.put _ _, fun j hj => ?_⟩, r2⟩
  unfold updL
  by_cases e : j = i
  · subst e
    rw [atKey_put_same h2 (by simp [WideAt.IsKeyLit]), if_pos rfl]
  · rw [atKey_put_other (by simpa using e), if_neg e]
    exact h3 j hj

/-- The look-up, at the operation. -/
theorem wpList_look {P : Program} (w : World) {ops : Array Oper} {rest : List Oper} {o : Oper} {a : Act} {Q : Exit → Act → World → Prop}
    (hg : o.guard = none) (mo x : Operand) (k e t : TypeId) (hop : o.op = Op.lookup t mo x false) (hk : P.underlying k = some (.int .i64)) (ht : P.underlying t = some (.map k e))
    (hz : (zeroValue e).run P w = .ok (.agg (bvA zeroL)) w) (m n : Nat) (f : Int → List UInt8) (i : Int) (hm : a.eval mo = .map (some m)) (hx : a.eval x = .int .i64 i)
    (hi : (Lit.int .i64 i).wf = true) (h : BlkMap P k w m n f)
    (hK : wpList P ops Q rest (a.put o.dst (.agg (bvA (f i)))) w) : wpList P ops Q (o :: rest) a w := by
  refine wpList_plain hg fun K' hK' => ?_
  obtain ⟨hrun, _⟩ := h.look hk ht hz i hi
  unfold Oper.wp
  simp [execOp, hop, hm, hx, hrun, Result.andThen]
  exact hK' _ _ hK

/-- A slice value that reads as the bytes l. -/
def SlIs (w : World) (v : Value) (l : List UInt8) : Prop :=
  (∃ b o cap, v = .slice (some ⟨b, o, none⟩) l.length cap ∧ b < w.heap.size ∧ w.rangeAt b o (bv l)) ∨ (v = .slice none 0 0 ∧ l = [])

def zerosL (n : Nat) : List UInt8 := List.replicate n 0
theorem zerosL_length (n : Nat) : (zerosL n).length = n := by simp [zerosL]

/-- 'make([]byte, n)'. -/
theorem run_make_bytes {P : Program} (w : World) (t e : TypeId) (ht : P.underlying t = some (.slice e)) (hi : (P.info? e).map (fun i => (i.zero, i.size, i.bytes)) = some (some (.int .u8 0), 1, 1))
    (n : Int) (h0 : 0 ≤ n) (h1 : n ≤ 1000000) :
    (Instr.makeSlice t (.int .i64 n) (.int .i64 n)).run P w = .ok (.slice (some ⟨w.heap.size, 0, none⟩) n.toNat n.toNat) (w.alloc (.cells (bvA (zerosL n.toNat)) e)) := by
  obtain ⟨i, hi', hz, hs, hb⟩ := info_parts hi
  have hr := run_make (P := P) w t e i _ ht hi' hz .i64 .i64 n n h0 (Int.le_refl _) (by rw [hb]; omega) (by omega)
  rw [hr, hs]
  have hb2 : bvA (zerosL n.toNat) = madeCells (Value.int .u8 0).cells (n.toNat * 1) := by
    apply Array.toList_inj.1
    rw [show (Value.int .u8 0).cells = #[Value.int .u8 0] from rfl, toList_madeCells_one, bvA_toList]
    simp [bv, zerosL]
  rw [hb2]

theorem alloc_setCell_new (w : World) (A : Array Value) (e : TypeId) (k : Nat) (v : Value) :
    (w.alloc (.cells A e)).setCell ⟨w.heap.size, k, none⟩ v = w.alloc (.cells (A.setIfInBounds k v) e) := by
  refine congrArg (fun h => ({ w with heap := h } : World)) (?_ : (w.heap.push (.cells A e)).modify w.heap.size _ = w.heap.push (.cells (A.setIfInBounds k v) e))
  apply Array.ext
  · simp
  · intro i h1 h2
    rw [Array.getElem_modify, Array.getElem_push]
    by_cases hh : w.heap.size = i
    · subst hh; simp
    · have : i < w.heap.size := by simp at h1; omega
      simp [hh, Array.getElem_push, this]

theorem bvA_set (l : List UInt8) (k : Nat) (c : UInt8) : (bvA l).setIfInBounds k (.int .u8 (c.toNat : Int)) = bvA (l.set k c) := by
  apply Array.toList_inj.1
  simp [bvA, bv, List.map_set]

/-- The first k bytes c, the others as they were. -/
def partL (l : List UInt8) (c : UInt8) (k : Nat) : List UInt8 := List.replicate (min k l.length) c ++ l.drop k
theorem partL_zero (l : List UInt8) (c : UInt8) : partL l c 0 = l := by simp [partL]
theorem partL_length (l : List UInt8) (c : UInt8) (k : Nat) : (partL l c k).length = l.length := by simp [partL]; omega
theorem partL_all (l : List UInt8) (c : UInt8) : partL l c l.length = List.replicate l.length c := by simp [partL]
theorem partL_succ (l : List UInt8) (c : UInt8) (k : Nat) (h : k < l.length) : (partL l c k).set k c = partL l c (k + 1) := by
  apply List.ext_getElem?
  intro j
  simp only [partL, List.getElem?_set, List.getElem?_append, List.length_append, List.length_replicate, List.length_drop, List.getElem?_replicate, List.getElem?_drop]
  by_cases h1 : k = j
  · subst h1
    have h2 : k < min k l.length + (l.length - k) := by omega
    have h3 : k < min (k + 1) l.length := by omega
    simp only [h2, h3, if_true]
  · by_cases h2 : j < k
    · have : j < min k l.length := by omega
      have h3 : j < min (k + 1) l.length := by omega
      simp [h1, this, h3]
    · have : ¬ j < min k l.length := by omega
      have h3 : ¬ j < min (k + 1) l.length := by omega
      simp only [h1, this, h3, if_false]
      congr 1
      omega

theorem cell_bvA_new (w : World) (l : List UInt8) (e : TypeId) (k : Nat) (h : k < l.length) : (w.alloc (.cells (bvA l) e)).cell? ⟨w.heap.size, k, none⟩ = some (.int .u8 (l[k].toNat : Int)) := by
  rw [World.cell?_alloc_mark]
  simp [bvA, bv, h]
theorem frozen_new (w : World) (A : Array Value) (e : TypeId) (k : Nat) : (w.alloc (.cells A e)).frozen? ⟨w.heap.size, k, none⟩ = false := by
  simp only [World.frozen?, heap_alloc_last]
  simp

/-- A slice that is long enough, as a pointer to an array. -/
theorem run_arrayAt {P : Program} (t e : TypeId) (n : Nat) (ht : P.underlying t = some (.array n e)) (a : Option Addr) (len cap : Nat) (h : n ≤ len) (w : World) :
    (Instr.arrayAt t (.slice a len cap)).run P w = .ok (.pointer a) w := by
  have h' : ¬ len < n := by omega
  simp [Instr.arrayAt, run_underlying ht, h', Result.andThen]

/-- In the head of a region that draws its order: a whole array is read. -/
theorem wpStill_load_mid {P : Program} {ops : Array Oper} {rest : List Oper} {op : Oper} {a : Act} {w : World} {Q : Act → Prop} (hgd : op.guard = none) (ty : TypeId) (x : Operand) (ho : op.op = .load ty x)
    (b o : Nat) (hx : a.eval x = .pointer (some ⟨b, o, none⟩)) (cs : List Value) (d : TypeDesc) (hc : w.rangeAt b o cs)
    (hu : P.underlying ty = some d) (hd : d.isRow = true) (hi : (P.info? ty).map (·.size) = some cs.length)
    (h : wpStill P ops w Q rest (a.put op.dst (.agg cs.toArray))) : wpStill P ops w Q (op :: rest) a := by
  refine wpStill_step fun K hK => ?_
  simp only [Region.wanted, hgd, if_true]
  unfold Oper.still execOp
  simp only [ho, hx, Instr.loadAt, Instr.sureAddr, Sem.run_bind, Sem.run_pure, Result.andThen_ok, run_loadVar_mid w b o ty cs d hc hu hd hi]
  rw [Oper.stillUpon_value]
  exact hK _ h

/-- The store into the map, at the operation. -/
theorem wpList_upd {P : Program} (w : World) {ops : Array Oper} {rest : List Oper} {o : Oper} {a : Act} {Q : Exit → Act → World → Prop}
    (hg : o.guard = none) (mo x v : Operand) (k e t : TypeId) (hop : o.op = Op.mapUpdate t mo x v) (hk : P.underlying k = some (.int .i64)) (ht : P.underlying t = some (.map k e))
    (m n : Nat) (f : Int → List UInt8) (i : Int) (l : List UInt8) (hm : a.eval mo = .map (some m)) (hx : a.eval x = .int .i64 i) (hv : a.eval v = .agg (bvA l))
    (hi : (Lit.int .i64 i).wf = true) (hn : n < maxLen) (hl : l.length = 64) (h : BlkMap P k w m n f)
    (hK : ∀ w', BlkMap P k w' m (n + 1) (updL f i l) → w.grownBy w' (some m) → wpList P ops Q rest (a.put o.dst undef) w') : wpList P ops Q (o :: rest) a w := by
  refine wpList_plain hg fun K' hK' => ?_
  obtain ⟨w', hrun, h1, h2⟩ := h.upd hk ht hn i hi l hl
  unfold Oper.wp
  simp [execOp, hop, hm, hx, hv, hrun, Result.andThen]
  exact hK' _ _ (hK w' h1 h2)

end Go.Proofs.YtfpdgdacifiejaaGreat

namespace Go.Proofs.YtfpdgdacifiejaaGreat
open Go.RowKit Go.Maps

section
variable {P : Program} {ops : Array Oper} {Q : Exit → Act → World → Prop} {ex : List Nat} {md : Region.Mode}

/-- The region's operations in the text's order: 'true': it only reads; 'false': it comes up alone, and leaves old memory as it was but for the blocks of ex. -/
def wpGrow (P : Program) (ops : Array Oper) (Q : Exit → Act → World → Prop) (ex : List Nat) : List (Bool × Oper) → Act → World → Prop
  | [], a, w => Q .normal a w
  | (true, o) :: r, a, w => ∃ v, YieldsIf P ops (Kept ex w) o v a ∧ wpGrow P ops Q ex r (a.put o.dst v) w
  | (false, o) :: r, a, w => (if Region.wanted o (yielded ops a.tmps) then o.wp P a w (fun a' w' => Kept ex w w' ∧ wpGrow P ops Q ex r a' w') Q else wpGrow P ops Q ex r (a.put o.dst undef) w)

theorem wpGrow_nil {a : Act} {w : World} (h : Q .normal a w) : wpGrow P ops Q ex [] a w := h

theorem wpGrow_take {o : Oper} {r : List (Bool × Oper)} {a : Act} {w : World} (v : Value) (hw : Region.wanted o (yielded ops a.tmps) = true)
    (hv : ∀ w', Kept ex w w' → (execOp a.eval o).run P w' = .ok (.value v) w') (h : wpGrow P ops Q ex r (a.put o.dst v) w) : wpGrow P ops Q ex ((true, o) :: r) a w :=
  ⟨v, Or.inl ⟨hw, hv⟩, h⟩

theorem wpGrow_pass {o : Oper} {r : List (Bool × Oper)} {a : Act} {w : World} (hw : Region.wanted o (yielded ops a.tmps) = false)
    (h : wpGrow P ops Q ex r (a.put o.dst undef) w) : wpGrow P ops Q ex ((true, o) :: r) a w :=
  ⟨undef, Or.inr ⟨hw, rfl⟩, h⟩

theorem wpGrow_force {o : Oper} {r : List (Bool × Oper)} {a : Act} {w : World} (hw : Region.wanted o (yielded ops a.tmps) = true)
    (h : ∀ K : Act → World → Prop, (∀ a' w', Kept ex w w' → wpGrow P ops Q ex r a' w' → K a' w') → o.wp P a w K Q) : wpGrow P ops Q ex ((false, o) :: r) a w := by
  unfold wpGrow
  rw [if_pos hw]
  exact h _ fun a' w' h1 h2 => ⟨h1, h2⟩

theorem wpGrow_skip {o : Oper} {r : List (Bool × Oper)} {a : Act} {w : World} (hw : Region.wanted o (yielded ops a.tmps) = false)
    (h : wpGrow P ops Q ex r (a.put o.dst undef) w) : wpGrow P ops Q ex ((false, o) :: r) a w := by
  unfold wpGrow
  rw [if_neg (by simp [hw])]
  exact h

def lexMix (md : Region.Mode) (ops : Array Oper) : List Bool → Nat → Array Bool → Bool
  | [], _, listed => (Region.ready md ops listed).isEmpty
  | true :: r, k, listed => (Region.ready md ops listed).contains k && Region.free md ops listed k && lexMix md ops r (k + 1) (listed.setIfInBounds k true)
  | false :: r, k, listed => decide (Region.ready md ops listed = [k]) && lexMix md ops r (k + 1) (listed.setIfInBounds k true)

theorem wpAnyH_mono {S S' : World → Prop} (hS : ∀ w, S w → S' w) : ∀ (fuel : Nat) (listed : Array Bool) (a : Act) (w : World), wpAnyH P md ops Q S fuel listed a w → wpAnyH P md ops Q S' fuel listed a w
  | 0, _, _, _, h => h
  | fuel + 1, _, _, _, h => ⟨h.1, fun i hi => wpOp_mono (fun a' w' h' => ⟨hS _ h'.1, wpAnyH_mono hS fuel _ a' w' h'.2⟩) (h.2 i hi)⟩

theorem wpAnyH_of_grow (hs : Region.noSelect ops = true) (hQ : ∀ c a d v w, Q (.panic c) (Act.put a d v) w → Q (.panic c) a w) :
    ∀ (l : List (Bool × Oper)) (k : Nat) (listed : Array Bool) (a : Act) (w : World), (∀ j, (l[j]?).map (·.2) = if j < l.length then ops[k + j]? else none) →
    lexMix md ops (l.map (·.1)) k listed = true → wpGrow P ops Q ex l a w → wpAnyH P md ops Q (Kept ex w) l.length listed a w
  | [], k, listed, a, w, _, hB, h => by
    have hr : Region.ready md ops listed = [] := by simpa [lexMix] using hB
    exact wpAnyH_done hr h _
  | (true, o) :: r, k, listed, a, w, hl, hB, h => by
    have h0 : ops[k]? = some o := by have := hl 0; simpa using this.symm
    have hl' : ∀ j, (r[j]?).map (·.2) = if j < r.length then ops[k + 1 + j]? else none := fun j => by
      have := hl (j + 1)
      simpa [Nat.add_assoc, Nat.add_comm 1 j] using this
    simp only [List.map_cons, lexMix, Bool.and_eq_true] at hB
    obtain ⟨⟨hr, hf⟩, hB'⟩ := hB
    obtain ⟨v, hy, hK⟩ := h
    exact wpAnyH_take h0 hs hf hr (fun c a w hh => hQ c a _ _ w hh) hy (Kept.refl _ _) (wpAnyH_of_grow hs hQ r (k + 1) _ _ w hl' hB' hK)
  | (false, o) :: r, k, listed, a, w, hl, hB, h => by
    have h0 : ops[k]? = some o := by have := hl 0; simpa using this.symm
    have hl' : ∀ j, (r[j]?).map (·.2) = if j < r.length then ops[k + 1 + j]? else none := fun j => by
      have := hl (j + 1)
      simpa [Nat.add_assoc, Nat.add_comm 1 j] using this
    simp only [List.map_cons, lexMix, Bool.and_eq_true, decide_eq_true_eq] at hB
    obtain ⟨hr, hB'⟩ := hB
    refine wpAnyH_all hr (by simp) fun i hi => ?_
    obtain rfl : i = k := by simpa using hi
    unfold wpGrow at h
    unfold wpOp
    simp only [h0]
    by_cases hw : Region.wanted o (yielded ops a.tmps) = true
    · rw [if_pos hw] at h ⊢
      refine .inl (Oper.wp_mono (fun a' w' hh => ⟨hh.1, ?_⟩) h)
      exact wpAnyH_mono (fun w'' h2 => hh.1.trans h2) _ _ _ _ (wpAnyH_of_grow hs hQ r (i + 1) _ a' w' hl' hB' hh.2)
    · rw [if_neg hw] at h ⊢
      exact ⟨Kept.refl _ _, wpAnyH_of_grow hs hQ r (i + 1) _ _ w hl' hB' h⟩

/-- THE BEGINNING. ks: which operation only reads. -/
theorem wp_region_grow {id : Nat} {a : Act} {w : World} {l : List Oper} (ks : List Bool) (ex : List Nat) (hm : P.follows .mixedOrders = true) (hQ : ∀ c a d v w, Q (.panic c) (Act.put a d v) w → Q (.panic c) a w)
    (hn : Region.noSelect l.toArray = true) (hk : ks.length = l.length) (hB : lexMix .any l.toArray ks 0 (Array.replicate l.toArray.size false) = true)
    (h : wpGrow P l.toArray Q ex (ks.zip l) a w.drew) : (Code.region id l.toArray true).wp P Q a w := by
  have hlen : (ks.zip l).length = l.length := by simp [hk]
  have h1 : (ks.zip l).map (·.1) = ks := List.map_fst_zip (by omega)
  have h2 : (ks.zip l).map (·.2) = l := List.map_snd_zip (by omega)
  have := wpAnyH_of_grow (ex := ex) (md := .any) hn hQ (ks.zip l) 0 _ a w.drew (fun j => by
    rw [← List.getElem?_map, h2, hlen]
    split
    · simp
    · rename_i hj
      simp at hj
      simp [hj]) (by rw [h1]; exact hB) h
  rw [hlen] at this
  refine wp_region_held (S := Kept ex w.drew) hm ?_
  exact this
end

end Go.Proofs.YtfpdgdacifiejaaGreat

namespace Go.Proofs.YtfpdgdacifiejaaGreat
open Go.RowKit Go.Maps

section
variable {P : Program} {ops : Array Oper} {Q : Exit → Act → World → Prop} {ex : List Nat} {md : Region.Mode}

def ordMix (md : Region.Mode) (ops : Array Oper) : List (Bool × Nat) → Array Bool → Bool
  | [], listed => (Region.ready md ops listed).isEmpty
  | (true, k) :: r, listed => (Region.ready md ops listed).contains k && Region.free md ops listed k && ordMix md ops r (listed.setIfInBounds k true)
  | (false, k) :: r, listed => decide (Region.ready md ops listed = [k]) && ordMix md ops r (listed.setIfInBounds k true)

/-- The operations that the numbers name. -/
def named (ops : List Oper) : List (Bool × Nat) → List (Bool × Oper)
  | [] => []
  | (b, k) :: r => (b, ops.getD k default) :: named ops r

theorem wpAnyH_of_ord (hs : Region.noSelect ops = true) (hQ : ∀ c a d v w, Q (.panic c) (Act.put a d v) w → Q (.panic c) a w) :
    ∀ (is : List (Bool × Nat)) (listed : Array Bool) (a : Act) (w : World), (∀ p ∈ is, p.2 < ops.size) →
    ordMix md ops is listed = true → wpGrow P ops Q ex (named ops.toList is) a w → wpAnyH P md ops Q (Kept ex w) is.length listed a w
  | [], listed, a, w, _, hB, h => by
    have hr : Region.ready md ops listed = [] := by simpa [ordMix] using hB
    exact wpAnyH_done hr h _
  | (true, k) :: r, listed, a, w, hl, hB, h => by
    have hk : k < ops.size := hl (true, k) (by simp)
    have h0 : ops[k]? = some (ops.toList.getD k default) := by simp [hk]
    simp only [ordMix, Bool.and_eq_true] at hB
    obtain ⟨⟨hr, hf⟩, hB'⟩ := hB
    simp only [named] at h
    obtain ⟨v, hy, hK⟩ := h
    exact wpAnyH_take h0 hs hf hr (fun c a w hh => hQ c a _ _ w hh) hy (Kept.refl _ _) (wpAnyH_of_ord hs hQ r _ _ w (fun p hp => hl p (by simp [hp])) hB' hK)
  | (false, k) :: r, listed, a, w, hl, hB, h => by
    have hk : k < ops.size := hl (false, k) (by simp)
    have h0 : ops[k]? = some (ops.toList.getD k default) := by simp [hk]
    have hl' : ∀ p ∈ r, p.2 < ops.size := fun p hp => hl p (by simp [hp])
    simp only [ordMix, Bool.and_eq_true, decide_eq_true_eq] at hB
    obtain ⟨hr, hB'⟩ := hB
    refine wpAnyH_all hr (by simp) fun i hi => ?_
    obtain rfl : i = k := by simpa using hi
    simp only [named] at h
    unfold wpGrow at h
    unfold wpOp
    simp only [h0]
    by_cases hw : Region.wanted (ops.toList.getD i default) (yielded ops a.tmps) = true
    · rw [if_pos hw] at h ⊢
      refine .inl (Oper.wp_mono (fun a' w' hh => ⟨hh.1, ?_⟩) h)
      exact wpAnyH_mono (fun w'' h2 => hh.1.trans h2) _ _ _ _ (wpAnyH_of_ord hs hQ r _ a' w' hl' hB' hh.2)
    · rw [if_neg hw] at h ⊢
      exact ⟨Kept.refl _ _, wpAnyH_of_ord hs hQ r _ _ w hl' hB' h⟩

/-- THE BEGINNING. is: the order, and which operation only reads. -/
theorem wp_region_ord {id : Nat} {a : Act} {w : World} {l : List Oper} (is : List (Bool × Nat)) (ex : List Nat) (hm : P.follows .mixedOrders = true) (hQ : ∀ c a d v w, Q (.panic c) (Act.put a d v) w → Q (.panic c) a w)
    (hn : Region.noSelect l.toArray = true) (hk : is.length = l.length) (hlt : (is.all fun p => decide (p.2 < l.length)) = true) (hB : ordMix .any l.toArray is (Array.replicate l.toArray.size false) = true)
    (h : wpGrow P l.toArray Q ex (named l is) a w.drew) : (Code.region id l.toArray true).wp P Q a w := by
  have := wpAnyH_of_ord (ex := ex) (md := .any) hn hQ is _ a w.drew (fun p hp => by
    have := List.all_eq_true.1 hlt p hp
    simpa using this) hB h
  rw [hk] at this
  refine wp_region_held (S := Kept ex w.drew) hm ?_
  exact this
end

end Go.Proofs.YtfpdgdacifiejaaGreat

namespace Go.Proofs.YtfpdgdacifiejaaGreat
open Go.RowKit Go.Maps

theorem Kept.setNew {w wr : World} (h : Kept [] w wr) (p : Addr) (v : Value) (hp : w.heap.size ≤ p.block) : Kept [] w (wr.setCell p v) :=
  h.into (Kept.setCell [p.block] wr p v (by simp)) (by simpa using hp)
theorem Kept.drewNew {w wr : World} (h : Kept [] w wr) : Kept [] w wr.drew := h.trans (Kept.drew _ _)
theorem Kept.allocNew {w wr : World} (h : Kept [] w wr) (o : Obj) : Kept [] w (wr.alloc o) := h.trans (Kept.alloc _ _ _)
theorem Kept.drewN (ex : List Nat) (w : World) (n : Nat) : Kept ex w (w.drewN n) := ⟨rfl, rfl, rfl, Nat.le_refl _, fun _ _ _ => rfl⟩
def Drawn (w w' : World) : Prop := ∃ n, w' = w.drewN n
theorem Drawn.kept {w w' : World} (h : Drawn w w') : Kept [] w w' := by obtain ⟨n, rfl⟩ := h; exact Kept.drewN _ _ _
theorem Drawn.size {w w' : World} (h : Drawn w w') : w'.heap.size = w.heap.size := by obtain ⟨n, rfl⟩ := h; rfl
theorem Drawn.heap {w w' : World} (h : Drawn w w') : w'.heap = w.heap := by obtain ⟨n, rfl⟩ := h; rfl
theorem Drawn.more {w w' : World} (h : Drawn w w') (n : Nat) : Drawn w (w'.drewN n) := by obtain ⟨m, rfl⟩ := h; exact ⟨m + n, by rw [World.drewN_drewN]⟩
theorem size_alloc (w : World) (o : Obj) : (w.alloc o).heap.size = w.heap.size + 1 := by simp

/-- Numbers as the cells that hold them. -/
def iv (l : List Int) : List Value := l.map fun c => Value.int .i64 c
def ivA (l : List Int) : Array Value := (iv l).toArray
theorem iv_length (l : List Int) : (iv l).length = l.length := by simp [iv]
theorem ivA_size (l : List Int) : (ivA l).size = l.length := by simp [ivA, iv]
theorem ivA_toList (l : List Int) : (ivA l).toList = iv l := by simp [ivA]
theorem iv_one (l : List Int) : ∀ v ∈ iv l, v.oneCell' = true := by
  intro v hv
  simp [iv] at hv
  obtain ⟨c, _, rfl⟩ := hv
  rfl
theorem ivA_set (l : List Int) (k : Nat) (c : Int) : (ivA l).setIfInBounds k (.int .i64 c) = ivA (l.set k c) := by
  apply Array.toList_inj.1
  simp [ivA, iv, List.map_set]

/-- A slice of numbers: its address and its length, and what it reads as. -/
def IntsIs (w : World) (ao : Option Addr) (len : Nat) (l : List Int) : Prop :=
  l.length = len ∧ len ≤ 4611686018427387904 ∧ (len = 0 ∨ ∃ b o, ao = some ⟨b, o, none⟩ ∧ b < w.heap.size ∧ w.rangeAt b o (iv l))
theorem IntsIs.kept {w w' : World} {ao : Option Addr} {len : Nat} {l : List Int} (h : IntsIs w ao len l) (hk : Kept [] w w') : IntsIs w' ao len l := by
  obtain ⟨h1, h2, h3⟩ := h
  refine ⟨h1, h2, ?_⟩
  rcases h3 with h3 | ⟨b, o, rfl, hb, hr⟩
  · exact .inl h3
  · exact .inr ⟨b, o, rfl, Nat.lt_of_lt_of_le hb hk.size, hk.range hb (by simp) hr⟩
theorem IntsIs.cell {w : World} {ao : Option Addr} {len : Nat} {l : List Int} (h : IntsIs w ao len l) (hne : 0 < len) : ∃ b o, ao = some ⟨b, o, none⟩ ∧ b < w.heap.size ∧ ∀ k (hk : k < len), w.cell? ⟨b, o + k, none⟩ = some (.int .i64 (l[k]'(by rw [h.1]; exact hk))) := by
  obtain ⟨h1, h2, h3⟩ := h
  rcases h3 with h3 | ⟨b, o, rfl, hb, hr⟩
  · omega
  · exact ⟨b, o, rfl, hb, fun k hk => hr k _ (by simp [iv, show k < l.length by omega])⟩

def hiB (n : Nat) : UInt8 := UInt8.ofNat (n / 256)
def loB (n : Nat) : UInt8 := UInt8.ofNat n
theorem hiB_val (n : Nat) : (n : Int) / 256 % 256 = ((hiB n).toNat : Int) := by
  simp [hiB]
theorem loB_val (n : Nat) : (n : Int) % 256 = ((loB n).toNat : Int) := by
  simp [loB]

theorem cell_bvA {w : World} {h : Nat} {l : List UInt8} {t : TypeId} (hh : w.heap[h]? = some (.cells (bvA l) t)) (k : Nat) (hk : k < l.length) : w.cell? ⟨h, k, none⟩ = some (.int .u8 (l[k].toNat : Int)) := by
  rw [cell_of_row w h k _ _ _ hh]
  simp [bvA, bv, hk]

theorem bits_or_i64_nat (a b : Nat) (ha : a < 9223372036854775808) (hb : b < 9223372036854775808) :
    bits .or .i64 (a : Int) (b : Int) = ((a ||| b : Nat) : Int) := by
  have hx : a ||| b < 2 ^ 63 := Nat.or_lt_two_pow (by omega) (by omega)
  have h1 : (BitVec.ofInt 64 (a : Int)).toNat = a := by
    rw [BitVec.ofInt_natCast, BitVec.toNat_ofNat]; exact Nat.mod_eq_of_lt (by omega)
  have h2 : (BitVec.ofInt 64 (b : Int)).toNat = b := by
    rw [BitVec.ofInt_natCast, BitVec.toNat_ofNat]; exact Nat.mod_eq_of_lt (by omega)
  show IntKind.i64.wrap ((BitVec.ofInt 64 (a : Int) ||| BitVec.ofInt 64 (b : Int)).toNat : Int) = _
  rw [BitVec.toNat_or, h1, h2, IntKind.wrap_i64]
  omega
theorem or_low (k a b : Nat) (hb : b < 2 ^ k) : a * 2 ^ k ||| b = a * 2 ^ k + b := by
  rw [Nat.mul_comm, Nat.two_pow_add_eq_or_of_lt hb]
theorem or_byte (x : Nat) (y : UInt8) (hx : x < 256) : bits .or .i64 ((x : Int) * 256) (y.toNat : Int) = ((256 * x + y.toNat : Nat) : Int) := by
  have hy := UInt8.toNat_lt y
  have := bits_or_i64_nat (x * 256) y.toNat (by omega) (by omega)
  rw [Int.natCast_mul] at this
  rw [show ((256 : Nat) : Int) = 256 from rfl] at this
  rw [this, or_low 8 x y.toNat hy]
  congr 1
  omega

theorem setRow_kept (w : World) (g : Nat) (cs : Array Value) : Kept [g] w (w.setRow g cs) := by
  refine ⟨rfl, rfl, rfl, by simp [World.setRow], fun k hk hn => ?_⟩
  simp only [World.setRow]
  rw [Array.getElem?_modify]
  rw [if_neg (by simp at hn; omega)]

theorem load_row {P : Program} (w : World) (b o n : Nat) (L : List UInt8) (hr : w.rangeAt b o (bv L)) (hn : L.length = n) : (loadCellsFrom ⟨b, o, none⟩ 0 n #[]).run P w = .ok (bvA L) w := by
  subst hn
  have := run_loadCells_list (P := P) w ⟨b, o, none⟩ (bv L) (fun j v hv => by rw [Addr.add_mid]; exact hr j v hv)
  simpa [loadCells, bv_length, bvA] using this
theorem store_row {P : Program} (w : World) (b : Nat) (t : TypeId) (cur L : List UInt8) (hg : w.heap[b]? = some (.cells (bvA cur) t)) (hl : L.length = cur.length) :
    (storeCells ⟨b, 0, none⟩ (bvA L).toList 0).run P w = .ok () (w.setRow b (bvA L)) := by
  rw [bvA_toList, run_storeCells_at P b 0 t (bv L) 0 (bvA cur) w hg (by rw [bvA_size, bv_length]; omega) (bv_one L), bvA_toList, bv_length, hl]
  simp only [Nat.add_zero, Nat.zero_add, List.take_zero, List.nil_append]
  rw [List.drop_of_length_le (by rw [bv_length]; omega), List.append_nil]
  rfl
theorem range_row {w : World} {b : Nat} {L : List UInt8} {t : TypeId} (h : w.heap[b]? = some (.cells (bvA L) t)) : w.rangeAt b 0 (bv L) := fun j v hv => by
  rw [Nat.zero_add, cell_of_row w b j _ _ _ h]
  simpa [bvA] using hv

/-- A whole row of bytes is stored, at the operation. -/
theorem wpList_store_row {P : Program} {ops : Array Oper} {rest : List Oper} {op : Oper} {a : Act} {w : World} {Q : Exit → Act → World → Prop} (hgd : op.guard = none) (ty : TypeId) (x y : Operand) (ho : op.op = .store ty x y)
    (b : Nat) (t : TypeId) (cur L : List UInt8) (hx : a.eval x = .pointer (some ⟨b, 0, none⟩)) (hy : a.eval y = .agg (bvA L)) (hg : w.heap[b]? = some (.cells (bvA cur) t)) (hl : L.length = cur.length)
    (hi : (P.info? ty).map (·.size) = some L.length)
    (h : wpList P ops Q rest (a.put op.dst undef) (w.setRow b (bvA L))) : wpList P ops Q (op :: rest) a w := by
  refine wpList_plain hgd fun _ hK => ?_
  have hst := store_row (P := P) w b t cur L hg hl
  unfold Oper.wp execOp
  cases hq : P.info? ty with
  | none => simp [hq] at hi
  | some i =>
    have hs : (bvA L).size = i.size := by rw [bvA_size]; simp [hq] at hi; omega
    have : (storeVar ty ⟨b, 0, none⟩ (.agg (bvA L))).run P w = .ok () (w.setRow b (bvA L)) := by
      simp [storeVar, sizeOf, typeInfo, hq, Value.cells, hs, hst]
    simp only [ho, hx, hy, Instr.storeAt, Instr.sureAddr, Sem.run_bind, Sem.run_pure, Result.andThen_ok, this]
    exact hK _ _ h

/-- An append, or a copy, whose run is known. -/
theorem wpList_append_run {P : Program} {ops : Array Oper} {rest : List Oper} {o : Oper} {a : Act} {w w' : World} {Q : Exit → Act → World → Prop} (hgd : o.guard = none) (s x : Operand) (t : TypeId)
    (ho : o.op = .call { callee := .builtin .append, args := #[s, x], argTypes := #[t, t] }) (u v r : Value) (hs : a.eval s = u) (hx : a.eval x = v)
    (hrun : (Builtin.append_ #[t, t] o.type #[u, v]).run P w = .ok r w') (h : wpList P ops Q rest (a.put o.dst r) w') : wpList P ops Q (o :: rest) a w := by
  refine wpList_plain hgd fun _ hK => ?_
  unfold Oper.wp execOp
  simp only [ho, resolve, invoke, builtin, Sem.run_bind, Sem.run_pure, Result.andThen_ok, List.map_toArray, List.map_cons, List.map_nil, hs, hx, hrun]
  exact hK _ _ h
theorem wpList_copy_run {P : Program} {ops : Array Oper} {rest : List Oper} {o : Oper} {a : Act} {w w' : World} {Q : Exit → Act → World → Prop} (hgd : o.guard = none) (s x : Operand) (t t2 : TypeId)
    (ho : o.op = .call { callee := .builtin .copy, args := #[s, x], argTypes := #[t, t2] }) (u v r : Value) (hs : a.eval s = u) (hx : a.eval x = v)
    (hrun : (Builtin.copy_ #[t, t2] o.type #[u, v]).run P w = .ok r w') (h : wpList P ops Q rest (a.put o.dst r) w') : wpList P ops Q (o :: rest) a w := by
  refine wpList_plain hgd fun _ hK => ?_
  unfold Oper.wp execOp
  simp only [ho, resolve, invoke, builtin, Sem.run_bind, Sem.run_pure, Result.andThen_ok, List.map_toArray, List.map_cons, List.map_nil, hs, hx, hrun]
  exact hK _ _ h

/-- What a slice's type asks of an append. -/
structure ElemOk (P : Program) (t e : TypeId) (z : Value) (size bytes : Nat) : Prop where
  ht : P.underlying t = some (.slice e)
  info : (P.info? e).map (fun i => (i.zero, i.size, i.bytes)) = some (some z, size, bytes)
  zs : z.cells.size = size
  sz : 0 < size

/-- An append to a row that the call owns: it lies where it lay, or is new. -/
theorem own_app {P : Program} {t e : TypeId} {z : Value} {size bytes : Nat} (E : ElemOk P t e z size bytes) (ty : TypeId) (w : World) (base : Nat) (v : Value) (n : Nat) (xs : List Value) (hown : w.ownsRow base e size v n xs)
    (ad : Addr) (m c : Nat) (news : List Value) (hl : news.length = m * size) (hnews : ∀ j u, news[j]? = some u → w.cell? (ad.add j) = some u) (h1 : ∀ u ∈ news, u.oneCell' = true)
    (h63 : n + m ≤ maxLen) (hbytes : (n + m) * bytes ≤ 140737488355328) (hbase : base ≤ w.heap.size) :
    ∃ v' w', (Builtin.append_ #[t, t] ty #[v, .slice (some ad) m c]).run P w = .ok v' w' ∧ w'.ownsRow base e size v' (n + m) (xs ++ news) ∧ Kept v.ownBlock.toList w w' ∧ (v'.ownBlock = v.ownBlock ∨ v'.ownBlock = some w.heap.size) := by
  obtain ⟨i, hi, hz, hs, hb⟩ := info_parts E.info
  obtain ⟨v', w', hr, ho, hg, hiff⟩ := run_append_own (P := P) w base t ty e i z size bytes E.ht hi hz hs hb E.zs E.sz v n xs hown ad m c news hl hnews h1 h63 hbytes hbase
  refine ⟨v', w', hr, ho, Kept.grown hg (fun k hk => by simp [hk]), ?_⟩
  have hsmall : n + m ≤ 9223372036854775807 := by simp only [maxLen] at h63; omega
  subst hs
  subst hb
  rcases hown.2 with ⟨rfl, rfl⟩ | ⟨g, cap, cur, rfl, hbg, hgg, hnc, hcm, hcs, htake⟩
  · by_cases hm : m = 0
    · left
      rw [hiff.2 ⟨rfl, hm⟩]
    · right
      have hr2 := run_append_nil (P := P) w t ty e i z E.ht hi hz ad m c news hl hnews (by omega) (by omega) (by have hb := hbytes; simp only [Nat.zero_add] at hb; omega)
      rw [hr2] at hr
      injection hr with h2 h3
      rw [← h2]
      rfl
  · by_cases hroom : n + m ≤ cap
    · left
      have hfit : n * i.size + news.length ≤ cur.size := by rw [hl, hcs, ← Nat.add_mul]; exact Nat.mul_le_mul_right _ hroom
      have hr2 := run_append_room (P := P) w t ty e i E.ht hi g n cap cur hgg ad m c news hl hnews h1 hroom hfit
      rw [hr2] at hr
      injection hr with h2 h3
      rw [← h2]
      rfl
    · right
      have holds : ∀ j u, xs[j]? = some u → w.cell? ((⟨g, 0, none⟩ : Addr).add j) = some u := hown.cells (g := g) rfl
      have hr2 := run_append_grow (P := P) w t ty e i z E.ht hi hz ⟨g, 0, none⟩ n cap xs hown.1 holds ad m c news hl hnews (by omega) (by omega) (growslice_fits (by omega) hbytes)
      rw [hr2] at hr
      injection hr with h2 h3
      rw [← h2]
      rfl

/-- An owned row stays one while others change. -/
theorem owns_kept {w w' : World} {ex : List Nat} {base : Nat} {e : TypeId} {size : Nat} {v : Value} {n : Nat} {xs : List Value} (h : w.ownsRow base e size v n xs) (hk : Kept ex w w') (hne : ∀ k, v.ownBlock = some k → k ∉ ex) : w'.ownsRow base e size v n xs := by
  obtain ⟨h1, h2 | ⟨g, cap, cur, rfl, hb, hg, r⟩⟩ := h
  · exact ⟨h1, .inl h2⟩
  · exact ⟨h1, .inr ⟨g, cap, cur, rfl, hb, hk.heap (hne g rfl) hg, r⟩⟩
/-- What an owned row reads as. -/
theorem owns_range {w : World} {base : Nat} {e : TypeId} {v : Value} {n : Nat} {xs : List Value} (h : w.ownsRow base e 1 v n xs) : (∃ g cap, v = .slice (some ⟨g, 0, none⟩) n cap ∧ base ≤ g ∧ g < w.heap.size ∧ n ≤ cap ∧ cap ≤ maxLen ∧ w.rangeAt g 0 xs) ∨ (v = .slice none 0 0 ∧ n = 0 ∧ xs = []) := by
  obtain ⟨h1, ⟨rfl, h2⟩ | ⟨g, cap, cur, rfl, hb, hg, hc1, hc2, hcs, htk⟩⟩ := h
  · exact .inr ⟨rfl, h2, List.eq_nil_of_length_eq_zero (by rw [h1, h2])⟩
  · refine .inl ⟨g, cap, rfl, hb, (Array.getElem?_eq_some_iff.1 hg).1, hc1, hc2, fun q u hu => ?_⟩
    rw [← htk] at hu
    have hq : q < n * 1 := by
      have := (List.getElem?_eq_some_iff.1 hu).1
      simp at this; omega
    rw [List.getElem?_take_of_lt hq] at hu
    rw [Nat.zero_add, cell_of_row w g q _ _ _ hg]
    simpa using hu
theorem Kept.own {w0 w w' : World} {base : Nat} {e : TypeId} {size : Nat} {v : Value} {n : Nat} {xs : List Value} (hk : Kept [] w0 w) (hown : w.ownsRow base e size v n xs) (hb : w0.heap.size ≤ base) (hk2 : Kept v.ownBlock.toList w w') : Kept [] w0 w' :=
  hk.into hk2 fun q hq => by
    have := (hown.lt q (by simpa using hq)).1
    omega

end Go.Proofs.YtfpdgdacifiejaaGreat

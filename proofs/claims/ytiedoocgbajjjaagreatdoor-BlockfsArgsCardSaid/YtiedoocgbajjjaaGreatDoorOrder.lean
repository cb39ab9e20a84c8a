/-
  Plain facts that the walks of this seat rest on: bytes as cells, what a call leaves as it was, a map of blocks of 64 bytes, and laws at single operations. Nothing of the program's own code is named here.
  Conditions: none beyond those that each theorem states.
  An argument of type []byte, opened: its bytes, and the cells that hold them.
  Conditions: none.
  A statement whose order Go leaves open, walked in the text's order, where what it calls makes new memory and leaves the old as it is: each operation that only reads is taken first; a call comes up alone.
  Conditions: those that the kernel reckons of the region's own list ('lexMix').
  A statement whose order Go leaves open, walked in an order of the prover's: as the text beside it, the operations by their numbers.
  Conditions: those that the kernel reckons of the region's own list ('ordMix').
-/
import Derived.WalkKit
import Derived.WalkSpells
import Derived.WalkLawsBesides
import Derived.Lib.Hide
import Derived.Maps.OwnSet
import Derived.Deep.MidRow
import Derived.Deep.WholeRow
import Derived.StillTailTactics
import Derived.Test.YtiedoocgbajjjaaGreatDoorRows
import Derived.ChangeSlices
import Derived.ChangeOld
import Derived.OrdersHeld
namespace Go.Proofs.YtiedoocgbajjjaaGreatDoor
open Go.RowKit Go.Maps
set_option maxRecDepth 100000

/-- Bytes as the cells that hold them. -/
def bv (l : List UInt8) : List Value := l.map fun c => Value.int .u8 (c.toNat : Int)
def bvA (l : List UInt8) : Array Value := (bv l).toArray

theorem bv_length (l : List UInt8) : (bv l).length = l.length := by simp [bv]
theorem bvA_size (l : List UInt8) : (bvA l).size = l.length := by simp [bvA, bv]
theorem bvA_toList (l : List UInt8) : (bvA l).toList = bv l := by simp [bvA]
theorem bv_inj {a b : List UInt8} (h : bv a = bv b) : a = b := by
  unfold bv at h
  refine List.map_inj_right ?_ |>.1 h
  intro x y hxy
  simp at hxy
  exact UInt8.toNat_inj.1 (by omega)
theorem bvA_inj {a b : List UInt8} (h : bvA a = bvA b) : a = b := bv_inj (by simpa [bvA] using h)
theorem bv_get (l : List UInt8) (j : Nat) : (bv l)[j]? = (l[j]?).map fun c => Value.int .u8 (c.toNat : Int) := by simp [bv]
theorem bv_one (l : List UInt8) : ∀ v ∈ bv l, v.oneCell' = true := by
  intro v hv
  simp [bv] at hv
  obtain ⟨c, _, rfl⟩ := hv
  rfl
theorem bvA_one (l : List UInt8) : (bvA l).all (·.oneCell') = true := all_oneCell_toArray (bv_one l)

/-- 64 bytes, all of them c. -/
def fullL (c : UInt8) : List UInt8 := List.replicate 64 c
theorem fullL_length (c : UInt8) : (fullL c).length = 64 := by simp [fullL]
theorem fullL_inj {a b : UInt8} (h : fullL a = fullL b) : a = b := by
  have := congrArg (fun l => l[0]?) h
  simpa [fullL] using this

/-- w' is w but for the blocks on the list, and for new blocks. -/
structure Kept (ex : List Nat) (w w' : World) : Prop where
  os : w'.os = w.os
  tape : w'.tape = w.tape
  output : w'.output = w.output
  size : w.heap.size ≤ w'.heap.size
  block : ∀ k, k < w.heap.size → k ∉ ex → w'.heap[k]? = w.heap[k]?

theorem Kept.refl (ex : List Nat) (w : World) : Kept ex w w := ⟨rfl, rfl, rfl, Nat.le_refl _, fun _ _ _ => rfl⟩
theorem Kept.trans {ex : List Nat} {a b c : World} (h : Kept ex a b) (k : Kept ex b c) : Kept ex a c :=
  ⟨k.os.trans h.os, k.tape.trans h.tape, k.output.trans h.output, Nat.le_trans h.size k.size,
   fun i hi hn => (k.block i (Nat.lt_of_lt_of_le hi h.size) hn).trans (h.block i hi hn)⟩
theorem Kept.mono {ex ex' : List Nat} {a b : World} (h : Kept ex a b) (hs : ∀ k ∈ ex, k < a.heap.size → k ∈ ex') : Kept ex' a b :=
  ⟨h.os, h.tape, h.output, h.size, fun i hi hn => h.block i hi (fun hm => hn (hs i hm hi))⟩
theorem Kept.alloc (ex : List Nat) (w : World) (o : Obj) : Kept ex w (w.alloc o) :=
  ⟨rfl, rfl, rfl, by simp, fun k hk _ => Below.heap_alloc _ _ _ hk⟩
theorem Kept.setCell (ex : List Nat) (w : World) (p : Addr) (u : Value) (hp : p.block ∈ ex) : Kept ex w (w.setCell p u) :=
  ⟨rfl, rfl, rfl, by simp [World.setCell], fun k _ hn => Below.heap_setCell _ _ _ _ (fun e => hn (by rw [e]; exact hp))⟩
theorem Kept.drew (ex : List Nat) (w : World) : Kept ex w w.drew := ⟨rfl, rfl, rfl, Nat.le_refl _, fun _ _ _ => rfl⟩
theorem Kept.grown {ex : List Nat} {w w' : World} {row : Option Nat} (hg : w.grownBy w' row) (hr : ∀ k, row = some k → k ∈ ex) : Kept ex w w' :=
  ⟨hg.os, hg.tape, hg.output, hg.size, fun k hk hn => hg.block k hk (fun e => hn (hr k e.symm))⟩
theorem Kept.below {ex : List Nat} {w w' : World} (h : Kept ex w w') {B : Nat} (hB : B ≤ w.heap.size) (hx : ∀ k ∈ ex, B ≤ k) : Below B w w' :=
  ⟨h.os, h.tape, h.output, h.size, fun k hk => h.block k (Nat.lt_of_lt_of_le hk hB) (fun hm => Nat.not_lt.2 (hx k hm) hk)⟩
/-- Writes to blocks that the call itself has made leave what was there before it. -/
theorem Kept.into {ex : List Nat} {w wr w3 : World} (h : Kept [] w wr) (k : Kept ex wr w3) (hx : ∀ i ∈ ex, w.heap.size ≤ i) : Kept [] w w3 :=
  ⟨k.os.trans h.os, k.tape.trans h.tape, k.output.trans h.output, Nat.le_trans h.size k.size,
   fun i hi _ => (k.block i (Nat.lt_of_lt_of_le hi h.size) (fun hm => Nat.not_lt.2 (hx i hm) hi)).trans (h.block i hi (by simp))⟩
theorem Kept.cell {ex : List Nat} {w w' : World} (h : Kept ex w w') {p : Addr} (hp : p.block < w.heap.size) (hn : p.block ∉ ex) : w'.cell? p = w.cell? p :=
  World.cell?_of_block (w := w) (h.block p.block hp hn)
theorem Kept.range {ex : List Nat} {w w' : World} (h : Kept ex w w') {b o : Nat} {cs : List Value} (hb : b < w.heap.size) (hn : b ∉ ex) (hr : w.rangeAt b o cs) : w'.rangeAt b o cs :=
  fun j v hv => by rw [h.cell (p := ⟨b, o + j, none⟩) hb hn]; exact hr j v hv
theorem Kept.heap {ex : List Nat} {w w' : World} (h : Kept ex w w') {b : Nat} {o : Obj} (hn : b ∉ ex) (hb : w.heap[b]? = some o) : w'.heap[b]? = some o := by
  rw [h.block b (Array.getElem?_eq_some_iff.1 hb).1 hn]; exact hb

/-- How an element of the map reads: 64 bytes. -/
noncomputable def blkR (v : Value) : Option (DataW Unit × List MemPlace) :=
  open Classical in if h : ∃ l : List UInt8, l.length = 64 ∧ v = .agg (bvA l) then some (.lit (.string h.choose), []) else none

theorem blkR_mk {l : List UInt8} (hl : l.length = 64) : blkR (.agg (bvA l)) = some (.lit (.string l), []) := by
  have h : ∃ l' : List UInt8, l'.length = 64 ∧ Value.agg (bvA l) = .agg (bvA l') := ⟨l, hl, rfl⟩
  unfold blkR
  rw [dif_pos h]
  have := h.choose_spec.2
  have e : h.choose = l := (bvA_inj (by simpa using this)).symm
  rw [e]
theorem blkR_inv {v : Value} {l : List UInt8} {ps : List MemPlace} (h : blkR v = some (.lit (.string l), ps)) : v = .agg (bvA l) ∧ l.length = 64 := by
  unfold blkR at h
  split at h
  · rename_i hx
    simp only [Option.some.injEq, Prod.mk.injEq, DataW.lit.injEq, Lit.string.injEq] at h
    have := hx.choose_spec
    rw [h.1] at this
    exact ⟨this.2, this.1⟩
  · cases h

def zeroL : List UInt8 := fullL 0

/-- BLOCK m OF w IS A MAP OF AT MOST n ENTRIES IN WHICH KEY i LEADS TO THE 64 BYTES f i (noughts, where there is no such key). -/
def BlkMap (P : Program) (k : TypeId) (w : World) (m n : Nat) (f : Int → List UInt8) : Prop :=
  ∃ D : DataW Unit, w.ownsMap P k blkR m n D ∧ IsMap D ∧ ∀ i, (Lit.int .i64 i).wf = true → D.atKey (.int .i64 i) (.lit (.string zeroL)) = .lit (.string (f i))

theorem BlkMap.made (P : Program) (k : TypeId) (w : World) : BlkMap P k (w.alloc (.map #[] 0)) w.heap.size 0 (fun _ => zeroL) :=
  ⟨.map [], World.ownsMap_made w P k blkR, isMap_empty, fun i _ => by rfl⟩

theorem BlkMap.kept {P : Program} {k : TypeId} {w w' : World} {m n : Nat} {f : Int → List UInt8} (h : BlkMap P k w m n f) {ex : List Nat} (hk : Kept ex w w') (hm : m ∉ ex) : BlkMap P k w' m n f := by
  obtain ⟨D, ⟨es, clock, hb, r⟩, h2, h3⟩ := h
  exact ⟨D, ⟨es, clock, hk.heap hm hb, r⟩, h2, h3⟩

theorem BlkMap.lt {P : Program} {k : TypeId} {w : World} {m n : Nat} {f : Int → List UInt8} (h : BlkMap P k w m n f) : m < w.heap.size := by
  obtain ⟨D, h1, _⟩ := h
  exact h1.lt

theorem BlkMap.mono {P : Program} {k : TypeId} {w : World} {m n n' : Nat} {f : Int → List UInt8} (h : BlkMap P k w m n f) (hn : n ≤ n') : BlkMap P k w m n' f := by
  obtain ⟨D, h1, r⟩ := h
  exact ⟨D, h1.mono hn, r⟩

theorem BlkMap.notCells {P : Program} {k : TypeId} {w : World} {m n : Nat} {f : Int → List UInt8} (h : BlkMap P k w m n f) {c : Array Value} {t : TypeId} {fr : Nat × Nat} : w.heap[m]? ≠ some (.cells c t fr) := by
  obtain ⟨D, ⟨es, clock, hb, _⟩, _⟩ := h
  rw [hb]; simp

theorem BlkMap.look {P : Program} {k e t : TypeId} {w : World} {m n : Nat} {f : Int → List UInt8} (h : BlkMap P k w m n f) (hk : P.underlying k = some (.int .i64)) (ht : P.underlying t = some (.map k e))
    (hz : (zeroValue e).run P w = .ok (.agg (bvA zeroL)) w) (i : Int) (hi : (Lit.int .i64 i).wf = true) :
    (Instr.lookup t (.map (some m)) (.int .i64 i) false).run P w = .ok (.agg (bvA (f i))) w ∧ (f i).length = 64 := by
  obtain ⟨D, h1, h2, h3⟩ := h
  obtain ⟨v, ps, hrun, hv⟩ := h1.lookup (int_keyed hk) ht hz (blkR_mk (fullL_length 0)) (keyOf_int_mk hk hi)
  rw [h3 i hi] at hv
  obtain ⟨rfl, hl⟩ := blkR_inv hv
  exact ⟨hrun, hl⟩

def updL (f : Int → List UInt8) (i : Int) (l : List UInt8) : Int → List UInt8 := fun j => if j = i then l else f j

theorem BlkMap.upd {P : Program} {k e t : TypeId} {w : World} {m n : Nat} {f : Int → List UInt8} (h : BlkMap P k w m n f) (hk : P.underlying k = some (.int .i64)) (ht : P.underlying t = some (.map k e))
    (hn : n < maxLen) (i : Int) (hi : (Lit.int .i64 i).wf = true) (l : List UInt8) (hl : l.length = 64) :
    ∃ w', (Instr.mapUpdate t (.map (some m)) (.int .i64 i) (.agg (bvA l))).run P w = .ok () w' ∧ BlkMap P k w' m (n + 1) (updL f i l) ∧ w.grownBy w' (some m) := by
  obtain ⟨D, h1, h2, h3⟩ := h
  obtain ⟨w', hrun, r1, r2⟩ := h1.update (int_keyed hk) ht hn (keyOf_int_mk hk hi) (blkR_mk hl)
  refine ⟨w', hrun, ⟨_, r1, h2.put _ _, fun j hj => ?_⟩, r2⟩
  unfold updL
  by_cases e : j = i
  · subst e
    rw [atKey_put_same h2 (by simp [WideAt.IsKeyLit]), if_pos rfl]
  · rw [atKey_put_other (by simpa using e), if_neg e]
    exact h3 j hj

/-- The look-up, at the operation. -/
theorem wpList_look {P : Program} (w : World) {ops : Array Oper} {rest : List Oper} {o : Oper} {a : Act} {Q : Exit → Act → World → Prop}
    (hg : o.guard = none) (mo x : Operand) (k e t : TypeId) (hop : o.op = Op.lookup t mo x false) (hk : P.underlying k = some (.int .i64)) (ht : P.underlying t = some (.map k e))
    (hz : (zeroValue e).run P w = .ok (.agg (bvA zeroL)) w) (m n : Nat) (f : Int → List UInt8) (i : Int) (hm : a.eval mo = .map (some m)) (hx : a.eval x = .int .i64 i)
    (hi : (Lit.int .i64 i).wf = true) (h : BlkMap P k w m n f)
    (hK : wpList P ops Q rest (a.put o.dst (.agg (bvA (f i)))) w) : wpList P ops Q (o :: rest) a w := by
  refine wpList_plain hg fun K' hK' => ?_
  obtain ⟨hrun, _⟩ := h.look hk ht hz i hi
  unfold Oper.wp
  simp [execOp, hop, hm, hx, hrun, Result.andThen]
  exact hK' _ _ hK

/-- A slice value that reads as the bytes l. -/
def SlIs (w : World) (v : Value) (l : List UInt8) : Prop :=
  (∃ b o cap, v = .slice (some ⟨b, o, none⟩) l.length cap ∧ b < w.heap.size ∧ w.rangeAt b o (bv l)) ∨ (v = .slice none 0 0 ∧ l = [])

def zerosL (n : Nat) : List UInt8 := List.replicate n 0
theorem zerosL_length (n : Nat) : (zerosL n).length = n := by simp [zerosL]

/-- 'make([]byte, n)'. -/
theorem run_make_bytes {P : Program} (w : World) (t e : TypeId) (ht : P.underlying t = some (.slice e)) (hi : (P.info? e).map (fun i => (i.zero, i.size, i.bytes)) = some (some (.int .u8 0), 1, 1))
    (n : Int) (h0 : 0 ≤ n) (h1 : n ≤ 1000000) :
    (Instr.makeSlice t (.int .i64 n) (.int .i64 n)).run P w = .ok (.slice (some ⟨w.heap.size, 0, none⟩) n.toNat n.toNat) (w.alloc (.cells (bvA (zerosL n.toNat)) e)) := by
  obtain ⟨i, hi', hz, hs, hb⟩ := info_parts hi
  have hr := run_make (P := P) w t e i _ ht hi' hz .i64 .i64 n n h0 (Int.le_refl _) (by rw [hb]; omega) (by omega)
  rw [hr, hs]
  have hb2 : bvA (zerosL n.toNat) = madeCells (Value.int .u8 0).cells (n.toNat * 1) := by
    apply Array.toList_inj.1
    rw [show (Value.int .u8 0).cells = #[Value.int .u8 0] from rfl, toList_madeCells_one, bvA_toList]
    simp [bv, zerosL]
  rw [hb2]

theorem alloc_setCell_new (w : World) (A : Array Value) (e : TypeId) (k : Nat) (v : Value) :
    (w.alloc (.cells A e)).setCell ⟨w.heap.size, k, none⟩ v = w.alloc (.cells (A.setIfInBounds k v) e) := by
  refine congrArg (fun h => ({ w with heap := h } : World)) (?_ : (w.heap.push (.cells A e)).modify w.heap.size _ = w.heap.push (.cells (A.setIfInBounds k v) e))
  apply Array.ext
  · simp
  · intro i h1 h2
    rw [Array.getElem_modify, Array.getElem_push]
    by_cases hh : w.heap.size = i
    · subst hh; simp
    · have : i < w.heap.size := by simp at h1; omega
      simp [hh, Array.getElem_push, this]

theorem bvA_set (l : List UInt8) (k : Nat) (c : UInt8) : (bvA l).setIfInBounds k (.int .u8 (c.toNat : Int)) = bvA (l.set k c) := by
  apply Array.toList_inj.1
  simp [bvA, bv, List.map_set]

/-- The first k bytes c, the others as they were. -/
def partL (l : List UInt8) (c : UInt8) (k : Nat) : List UInt8 := List.replicate (min k l.length) c ++ l.drop k
theorem partL_zero (l : List UInt8) (c : UInt8) : partL l c 0 = l := by simp [partL]
theorem partL_length (l : List UInt8) (c : UInt8) (k : Nat) : (partL l c k).length = l.length := by simp [partL]; omega
theorem partL_all (l : List UInt8) (c : UInt8) : partL l c l.length = List.replicate l.length c := by simp [partL]
theorem partL_succ (l : List UInt8) (c : UInt8) (k : Nat) (h : k < l.length) : (partL l c k).set k c = partL l c (k + 1) := by
  apply List.ext_getElem?
  intro j
  simp only [partL, List.getElem?_set, List.getElem?_append, List.length_append, List.length_replicate, List.length_drop, List.getElem?_replicate, List.getElem?_drop]
  by_cases h1 : k = j
  · subst h1
    have h2 : k < min k l.length + (l.length - k) := by omega
    have h3 : k < min (k + 1) l.length := by omega
    simp only [h2, h3, if_true]
  · by_cases h2 : j < k
    · have : j < min k l.length := by omega
      have h3 : j < min (k + 1) l.length := by omega
      simp [h1, this, h3]
    · have : ¬ j < min k l.length := by omega
      have h3 : ¬ j < min (k + 1) l.length := by omega
      simp only [h1, this, h3, if_false]
      congr 1
      omega

theorem cell_bvA_new (w : World) (l : List UInt8) (e : TypeId) (k : Nat) (h : k < l.length) : (w.alloc (.cells (bvA l) e)).cell? ⟨w.heap.size, k, none⟩ = some (.int .u8 (l[k].toNat : Int)) := by
  rw [World.cell?_alloc_mark]
  simp [bvA, bv, h]
theorem frozen_new (w : World) (A : Array Value) (e : TypeId) (k : Nat) : (w.alloc (.cells A e)).frozen? ⟨w.heap.size, k, none⟩ = false := by
  simp only [World.frozen?, heap_alloc_last]
  simp

/-- A slice that is long enough, as a pointer to an array. -/
theorem run_arrayAt {P : Program} (t e : TypeId) (n : Nat) (ht : P.underlying t = some (.array n e)) (a : Option Addr) (len cap : Nat) (h : n ≤ len) (w : World) :
    (Instr.arrayAt t (.slice a len cap)).run P w = .ok (.pointer a) w := by
  have h' : ¬ len < n := by omega
  simp [Instr.arrayAt, run_underlying ht, h', Result.andThen]

/-- In the head of a region that draws its order: a whole array is read. -/
theorem wpStill_load_mid {P : Program} {ops : Array Oper} {rest : List Oper} {op : Oper} {a : Act} {w : World} {Q : Act → Prop} (hgd : op.guard = none) (ty : TypeId) (x : Operand) (ho : op.op = .load ty x)
    (b o : Nat) (hx : a.eval x = .pointer (some ⟨b, o, none⟩)) (cs : List Value) (d : TypeDesc) (hc : w.rangeAt b o cs)
    (hu : P.underlying ty = some d) (hd : d.isRow = true) (hi : (P.info? ty).map (·.size) = some cs.length)
    (h : wpStill P ops w Q rest (a.put op.dst (.agg cs.toArray))) : wpStill P ops w Q (op :: rest) a := by
  refine wpStill_step fun K hK => ?_
  simp only [Region.wanted, hgd, if_true]
  unfold Oper.still execOp
  simp only [ho, hx, Instr.loadAt, Instr.sureAddr, Sem.run_bind, Sem.run_pure, Result.andThen_ok, run_loadVar_mid w b o ty cs d hc hu hd hi]
  rw [Oper.stillUpon_value]
  exact hK _ h

/-- The store into the map, at the operation. -/
theorem wpList_upd {P : Program} (w : World) {ops : Array Oper} {rest : List Oper} {o : Oper} {a : Act} {Q : Exit → Act → World → Prop}
    (hg : o.guard = none) (mo x v : Operand) (k e t : TypeId) (hop : o.op = Op.mapUpdate t mo x v) (hk : P.underlying k = some (.int .i64)) (ht : P.underlying t = some (.map k e))
    (m n : Nat) (f : Int → List UInt8) (i : Int) (l : List UInt8) (hm : a.eval mo = .map (some m)) (hx : a.eval x = .int .i64 i) (hv : a.eval v = .agg (bvA l))
    (hi : (Lit.int .i64 i).wf = true) (hn : n < maxLen) (hl : l.length = 64) (h : BlkMap P k w m n f)
    (hK : ∀ w', BlkMap P k w' m (n + 1) (updL f i l) → w.grownBy w' (some m) → wpList P ops Q rest (a.put o.dst undef) w') : wpList P ops Q (o :: rest) a w := by
  refine wpList_plain hg fun K' hK' => ?_
  obtain ⟨w', hrun, h1, h2⟩ := h.upd hk ht hn i hi l hl
  unfold Oper.wp
  simp [execOp, hop, hm, hx, hv, hrun, Result.andThen]
  exact hK' _ _ (hK w' h1 h2)

end Go.Proofs.YtiedoocgbajjjaaGreatDoor

namespace Go.Proofs.YtiedoocgbajjjaaGreatDoor
open Go.RowKit Go.ChangeShapes Go.WideShapes
set_option maxRecDepth 100000

/-- What a walk is told of an argument of type []byte. -/
def BytesArg (w : World) (ao : Option Addr) (len : Nat) (l : List UInt8) : Prop :=
  l.length = len ∧ len ≤ 9223372036854775807 ∧ (len = 0 ∨ ∃ b o, ao = some ⟨b, o, none⟩ ∧ b < w.heap.size ∧ w.rangeAt b o (bv l))

theorem open_bytes {H : Type} {enc : TypeId × Value → H} {w : World} {base fuel : Nat} {sp : Nat → Bool} {held : Bool} {ao : Option Addr} {len cap : Nat} {x : DataW H × List MemPlace}
    (h : DataW.trod enc Tryz.prog w base sp held fuel 22 [.slice ao len cap] = some x) : ∃ l : List UInt8, BytesArg w ao len l := by
  rcases open_ints Tryz.underlying22 Tryz.underlying5 (by kernel_rfl) h with ⟨hcs, _⟩ | ⟨a, l', c', zs, hcs, _, hl, hm, hz, _, hcell, hwz⟩
  · simp at hcs
    obtain ⟨rfl, rfl, rfl⟩ := hcs
    exact ⟨[], rfl, by omega, .inl rfl⟩
  · simp at hcs
    obtain ⟨rfl, rfl, rfl⟩ := hcs
    have hzl : len ≤ zs.length := by rw [hz]; split <;> omega
    have hmax : len ≤ 9223372036854775807 := by unfold maxLen at hm; omega
    have hb : ∀ i (hi : i < zs.length), zs[i] = ((UInt8.ofNat zs[i].toNat).toNat : Int) := fun i hi => by
      have := hwz zs[i] (List.getElem_mem _)
      simp [Lit.wf, IntKind.min, IntKind.max, IntKind.signed, IntKind.bits] at this
      simp; omega
    refine ⟨(zs.take len).map fun z => UInt8.ofNat z.toNat, by simp; omega, hmax, ?_⟩
    by_cases h0 : len = 0
    · exact .inl h0
    · right
      have hc0 := hcell 0 (by omega)
      have hs : a.spot = none := by
        simp only [Addr.add, if_true] at hc0
        unfold World.cell? at hc0
        split at hc0
        · split at hc0
          · cases hc0
          · rename_i hh
            simpa using hh
        · cases hc0
      have hlt := World.block_lt_of_cell? w _ hc0
      obtain ⟨b, o, s⟩ := a
      simp only at hs
      subst hs
      refine ⟨b, o, rfl, by simpa [Addr.add] using hlt, fun i v hv => ?_⟩
      have hil : i < len := by
        have := (List.getElem?_eq_some_iff.1 hv).1
        simp [bv] at this; omega
      have hiz : i < zs.length := by omega
      have e1 : (zs.take len)[i]? = some zs[i] := by rw [List.getElem?_take_of_lt hil, List.getElem?_eq_getElem hiz]
      have := hcell i hiz
      rw [Addr.add_mid] at this
      rw [this, ← hv]
      simp only [bv, List.getElem?_map, e1, Option.map_some, List.getD, List.getElem?_eq_getElem hiz, Option.getD_some]
      rw [← hb i hiz]

end Go.Proofs.YtiedoocgbajjjaaGreatDoor

namespace Go.Proofs.YtiedoocgbajjjaaGreatDoor
open Go.RowKit Go.Maps
set_option maxRecDepth 100000

section
variable {P : Program} {ops : Array Oper} {Q : Exit → Act → World → Prop} {ex : List Nat} {md : Region.Mode}

/-- The region's operations in the text's order: 'true': it only reads; 'false': it comes up alone, and leaves old memory as it was but for the blocks of ex. -/
def wpGrow (P : Program) (ops : Array Oper) (Q : Exit → Act → World → Prop) (ex : List Nat) : List (Bool × Oper) → Act → World → Prop
  | [], a, w => Q .normal a w
  | (true, o) :: r, a, w => ∃ v, YieldsIf P ops (Kept ex w) o v a ∧ wpGrow P ops Q ex r (a.put o.dst v) w
  | (false, o) :: r, a, w => (if Region.wanted o (yielded ops a.tmps) then o.wp P a w (fun a' w' => Kept ex w w' ∧ wpGrow P ops Q ex r a' w') Q else wpGrow P ops Q ex r (a.put o.dst undef) w)

theorem wpGrow_nil {a : Act} {w : World} (h : Q .normal a w) : wpGrow P ops Q ex [] a w := h

theorem wpGrow_take {o : Oper} {r : List (Bool × Oper)} {a : Act} {w : World} (v : Value) (hw : Region.wanted o (yielded ops a.tmps) = true)
    (hv : ∀ w', Kept ex w w' → (execOp a.eval o).run P w' = .ok (.value v) w') (h : wpGrow P ops Q ex r (a.put o.dst v) w) : wpGrow P ops Q ex ((true, o) :: r) a w :=
  ⟨v, Or.inl ⟨hw, hv⟩, h⟩

theorem wpGrow_pass {o : Oper} {r : List (Bool × Oper)} {a : Act} {w : World} (hw : Region.wanted o (yielded ops a.tmps) = false)
    (h : wpGrow P ops Q ex r (a.put o.dst undef) w) : wpGrow P ops Q ex ((true, o) :: r) a w :=
  ⟨undef, Or.inr ⟨hw, rfl⟩, h⟩

theorem wpGrow_force {o : Oper} {r : List (Bool × Oper)} {a : Act} {w : World} (hw : Region.wanted o (yielded ops a.tmps) = true)
    (h : ∀ K : Act → World → Prop, (∀ a' w', Kept ex w w' → wpGrow P ops Q ex r a' w' → K a' w') → o.wp P a w K Q) : wpGrow P ops Q ex ((false, o) :: r) a w := by
  unfold wpGrow
  rw [if_pos hw]
  exact h _ fun a' w' h1 h2 => ⟨h1, h2⟩

theorem wpGrow_skip {o : Oper} {r : List (Bool × Oper)} {a : Act} {w : World} (hw : Region.wanted o (yielded ops a.tmps) = false)
    (h : wpGrow P ops Q ex r (a.put o.dst undef) w) : wpGrow P ops Q ex ((false, o) :: r) a w := by
  unfold wpGrow
  rw [if_neg (by simp [hw])]
  exact h

def lexMix (md : Region.Mode) (ops : Array Oper) : List Bool → Nat → Array Bool → Bool
  | [], _, listed => (Region.ready md ops listed).isEmpty
  | true :: r, k, listed => (Region.ready md ops listed).contains k && Region.free md ops listed k && lexMix md ops r (k + 1) (listed.setIfInBounds k true)
  | false :: r, k, listed => decide (Region.ready md ops listed = [k]) && lexMix md ops r (k + 1) (listed.setIfInBounds k true)

theorem wpAnyH_mono {S S' : World → Prop} (hS : ∀ w, S w → S' w) : ∀ (fuel : Nat) (listed : Array Bool) (a : Act) (w : World), wpAnyH P md ops Q S fuel listed a w → wpAnyH P md ops Q S' fuel listed a w
  | 0, _, _, _, h => h
  | fuel + 1, _, _, _, h => ⟨h.1, fun i hi => wpOp_mono (fun a' w' h' => ⟨hS _ h'.1, wpAnyH_mono hS fuel _ a' w' h'.2⟩) (h.2 i hi)⟩

theorem wpAnyH_of_grow (hs : Region.noSelect ops = true) (hQ : ∀ c a d v w, Q (.panic c) (Act.put a d v) w → Q (.panic c) a w) :
    ∀ (l : List (Bool × Oper)) (k : Nat) (listed : Array Bool) (a : Act) (w : World), (∀ j, (l[j]?).map (·.2) = if j < l.length then ops[k + j]? else none) →
    lexMix md ops (l.map (·.1)) k listed = true → wpGrow P ops Q ex l a w → wpAnyH P md ops Q (Kept ex w) l.length listed a w
  | [], k, listed, a, w, _, hB, h => by
    have hr : Region.ready md ops listed = [] := by simpa [lexMix] using hB
    exact wpAnyH_done hr h _
  | (true, o) :: r, k, listed, a, w, hl, hB, h => by
    have h0 : ops[k]? = some o := by have := hl 0; simpa using this.symm
    have hl' : ∀ j, (r[j]?).map (·.2) = if j < r.length then ops[k + 1 + j]? else none := fun j => by
      have := hl (j + 1)
      simpa [Nat.add_assoc, Nat.add_comm 1 j] using this
    simp only [List.map_cons, lexMix, Bool.and_eq_true] at hB
    obtain ⟨⟨hr, hf⟩, hB'⟩ := hB
    obtain ⟨v, hy, hK⟩ := h
    exact wpAnyH_take h0 hs hf hr (fun c a w hh => hQ c a _ _ w hh) hy (Kept.refl _ _) (wpAnyH_of_grow hs hQ r (k + 1) _ _ w hl' hB' hK)
  | (false, o) :: r, k, listed, a, w, hl, hB, h => by
    have h0 : ops[k]? = some o := by have := hl 0; simpa using this.symm
    have hl' : ∀ j, (r[j]?).map (·.2) = if j < r.length then ops[k + 1 + j]? else none := fun j => by
      have := hl (j + 1)
      simpa [Nat.add_assoc, Nat.add_comm 1 j] using this
    simp only [List.map_cons, lexMix, Bool.and_eq_true, decide_eq_true_eq] at hB
    obtain ⟨hr, hB'⟩ := hB
    refine wpAnyH_all hr (by simp) fun i hi => ?_
    obtain rfl : i = k := by simpa using hi
    unfold wpGrow at h
    unfold wpOp
    simp only [h0]
    by_cases hw : Region.wanted o (yielded ops a.tmps) = true
    · rw [if_pos hw] at h ⊢
      refine .inl (Oper.wp_mono (fun a' w' hh => ⟨hh.1, ?_⟩) h)
      exact wpAnyH_mono (fun w'' h2 => hh.1.trans h2) _ _ _ _ (wpAnyH_of_grow hs hQ r (i + 1) _ a' w' hl' hB' hh.2)
    · rw [if_neg hw] at h ⊢
      exact ⟨Kept.refl _ _, wpAnyH_of_grow hs hQ r (i + 1) _ _ w hl' hB' h⟩

/-- THE BEGINNING. ks: which operation only reads. -/
theorem wp_region_grow {id : Nat} {a : Act} {w : World} {l : List Oper} (ks : List Bool) (ex : List Nat) (hm : P.follows .mixedOrders = true) (hQ : ∀ c a d v w, Q (.panic c) (Act.put a d v) w → Q (.panic c) a w)
    (hn : Region.noSelect l.toArray = true) (hk : ks.length = l.length) (hB : lexMix .any l.toArray ks 0 (Array.replicate l.toArray.size false) = true)
    (h : wpGrow P l.toArray Q ex (ks.zip l) a w.drew) : (Code.region id l.toArray true).wp P Q a w := by
  have hlen : (ks.zip l).length = l.length := by simp [hk]
  have h1 : (ks.zip l).map (·.1) = ks := List.map_fst_zip (by omega)
  have h2 : (ks.zip l).map (·.2) = l := List.map_snd_zip (by omega)
  have := wpAnyH_of_grow (ex := ex) (md := .any) hn hQ (ks.zip l) 0 _ a w.drew (fun j => by
    rw [← List.getElem?_map, h2, hlen]
    split
    · simp
    · rename_i hj
      simp at hj
      simp [hj]) (by rw [h1]; exact hB) h
  rw [hlen] at this
  refine wp_region_held (S := Kept ex w.drew) hm ?_
  exact this
end

end Go.Proofs.YtiedoocgbajjjaaGreatDoor

namespace Go.Proofs.YtiedoocgbajjjaaGreatDoor
open Go.RowKit Go.Maps
set_option maxRecDepth 100000

section
variable {P : Program} {ops : Array Oper} {Q : Exit → Act → World → Prop} {ex : List Nat} {md : Region.Mode}

def ordMix (md : Region.Mode) (ops : Array Oper) : List (Bool × Nat) → Array Bool → Bool
  | [], listed => (Region.ready md ops listed).isEmpty
  | (true, k) :: r, listed => (Region.ready md ops listed).contains k && Region.free md ops listed k && ordMix md ops r (listed.setIfInBounds k true)
  | (false, k) :: r, listed => decide (Region.ready md ops listed = [k]) && ordMix md ops r (listed.setIfInBounds k true)

/-- The operations that the numbers name. -/
def named (ops : List Oper) : List (Bool × Nat) → List (Bool × Oper)
  | [] => []
  | (b, k) :: r => (b, ops.getD k default) :: named ops r

theorem wpAnyH_of_ord (hs : Region.noSelect ops = true) (hQ : ∀ c a d v w, Q (.panic c) (Act.put a d v) w → Q (.panic c) a w) :
    ∀ (is : List (Bool × Nat)) (listed : Array Bool) (a : Act) (w : World), (∀ p ∈ is, p.2 < ops.size) →
    ordMix md ops is listed = true → wpGrow P ops Q ex (named ops.toList is) a w → wpAnyH P md ops Q (Kept ex w) is.length listed a w
  | [], listed, a, w, _, hB, h => by
    have hr : Region.ready md ops listed = [] := by simpa [ordMix] using hB
    exact wpAnyH_done hr h _
  | (true, k) :: r, listed, a, w, hl, hB, h => by
    have hk : k < ops.size := hl (true, k) (by simp)
    have h0 : ops[k]? = some (ops.toList.getD k default) := by simp [hk]
    simp only [ordMix, Bool.and_eq_true] at hB
    obtain ⟨⟨hr, hf⟩, hB'⟩ := hB
    simp only [named] at h
    obtain ⟨v, hy, hK⟩ := h
    exact wpAnyH_take h0 hs hf hr (fun c a w hh => hQ c a _ _ w hh) hy (Kept.refl _ _) (wpAnyH_of_ord hs hQ r _ _ w (fun p hp => hl p (by simp [hp])) hB' hK)
  | (false, k) :: r, listed, a, w, hl, hB, h => by
    have hk : k < ops.size := hl (false, k) (by simp)
    have h0 : ops[k]? = some (ops.toList.getD k default) := by simp [hk]
    have hl' : ∀ p ∈ r, p.2 < ops.size := fun p hp => hl p (by simp [hp])
    simp only [ordMix, Bool.and_eq_true, decide_eq_true_eq] at hB
    obtain ⟨hr, hB'⟩ := hB
    refine wpAnyH_all hr (by simp) fun i hi => ?_
    obtain rfl : i = k := by simpa using hi
    simp only [named] at h
    unfold wpGrow at h
    unfold wpOp
    simp only [h0]
    by_cases hw : Region.wanted (ops.toList.getD i default) (yielded ops a.tmps) = true
    · rw [if_pos hw] at h ⊢
      refine .inl (Oper.wp_mono (fun a' w' hh => ⟨hh.1, ?_⟩) h)
      exact wpAnyH_mono (fun w'' h2 => hh.1.trans h2) _ _ _ _ (wpAnyH_of_ord hs hQ r _ a' w' hl' hB' hh.2)
    · rw [if_neg hw] at h ⊢
      exact ⟨Kept.refl _ _, wpAnyH_of_ord hs hQ r _ _ w hl' hB' h⟩

/-- THE BEGINNING. is: the order, and which operation only reads. -/
theorem wp_region_ord {id : Nat} {a : Act} {w : World} {l : List Oper} (is : List (Bool × Nat)) (ex : List Nat) (hm : P.follows .mixedOrders = true) (hQ : ∀ c a d v w, Q (.panic c) (Act.put a d v) w → Q (.panic c) a w)
    (hn : Region.noSelect l.toArray = true) (hk : is.length = l.length) (hlt : (is.all fun p => decide (p.2 < l.length)) = true) (hB : ordMix .any l.toArray is (Array.replicate l.toArray.size false) = true)
    (h : wpGrow P l.toArray Q ex (named l is) a w.drew) : (Code.region id l.toArray true).wp P Q a w := by
  have := wpAnyH_of_ord (ex := ex) (md := .any) hn hQ is _ a w.drew (fun p hp => by
    have := List.all_eq_true.1 hlt p hp
    simpa using this) hB h
  rw [hk] at this
  refine wp_region_held (S := Kept ex w.drew) hm ?_
  exact this
end

end Go.Proofs.YtiedoocgbajjjaaGreatDoor

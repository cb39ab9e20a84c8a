/-
  Plain facts that the walks of this seat rest on: bytes as cells, what a call leaves as it was, a map of blocks of 64 bytes, and laws at single operations. Nothing of the program's own code is named here.
  Conditions: none beyond those that each theorem states.
-/
import Derived.WalkKit
import Derived.WalkSpells
import Derived.WalkLawsBesides
import Derived.Lib.Hide
import Derived.Maps.OwnSet
import Derived.Deep.MidRow
import Derived.Deep.WholeRow
import Derived.StillTailTactics
namespace Go.Proofs.Ytlbenaodpfhjeaa
open Go.RowKit Go.Maps

/-- Bytes as the cells that hold them. -/
def bv (l : List UInt8) : List Value := l.map fun c => Value.int .u8 (c.toNat : Int)
def bvA (l : List UInt8) : Array Value := (bv l).toArray

theorem bv_length (l : List UInt8) : (bv l).length = l.length := by simp [bv]
theorem bvA_size (l : List UInt8) : (bvA l).size = l.length := by simp [bvA, bv]
theorem bvA_toList (l : List UInt8) : (bvA l).toList = bv l := by simp [bvA]
theorem bv_inj {a b : List UInt8} (h : bv a = bv b) : a = b := by
  unfold bv at h
  refine List.map_inj_right ?_ |>.1 h
  intro x y hxy
  simp at hxy
  exact UInt8.toNat_inj.1 (by omega)
theorem bvA_inj {a b : List UInt8} (h : bvA a = bvA b) : a = b := bv_inj (by simpa [bvA] using h)
theorem bv_get (l : List UInt8) (j : Nat) : (bv l)[j]? = (l[j]?).map fun c => Value.int .u8 (c.toNat : Int) := by simp [bv]
theorem bv_one (l : List UInt8) : ∀ v ∈ bv l, v.oneCell' = true := by
  intro v hv
  simp [bv] at hv
  obtain ⟨c, _, rfl⟩ := hv
  rfl
theorem bvA_one (l : List UInt8) : (bvA l).all (·.oneCell') = true := all_oneCell_toArray (bv_one l)

/-- 64 bytes, all of them c. -/
def fullL (c : UInt8) : List UInt8 := List.replicate 64 c
theorem fullL_length (c : UInt8) : (fullL c).length = 64 := by simp [fullL]
theorem fullL_inj {a b : UInt8} (h : fullL a = fullL b) : a = b := by
  have := congrArg (fun l => l[0]?) h
  simpa [fullL] using this

/-- w' is w but for the blocks on the list, and for new blocks. -/
structure Kept (ex : List Nat) (w w' : World) : Prop where
  os : w'.os = w.os
  tape : w'.tape = w.tape
  output : w'.output = w.output
  size : w.heap.size ≤ w'.heap.size
  block : ∀ k, k < w.heap.size → k ∉ ex → w'.heap[k]? = w.heap[k]?

theorem Kept.refl (ex : List Nat) (w : World) : Kept ex w w := ⟨rfl, rfl, rfl, Nat.le_refl _, fun _ _ _ => rfl⟩
theorem Kept.trans {ex : List Nat} {a b c : World} (h : Kept ex a b) (k : Kept ex b c) : Kept ex a c :=
  ⟨k.os.trans h.os, k.tape.trans h.tape, k.output.trans h.output, Nat.le_trans h.size k.size,
   fun i hi hn => (k.block i (Nat.lt_of_lt_of_le hi h.size) hn).trans (h.block i hi hn)⟩
theorem Kept.mono {ex ex' : List Nat} {a b : World} (h : Kept ex a b) (hs : ∀ k ∈ ex, k < a.heap.size → k ∈ ex') : Kept ex' a b :=
  ⟨h.os, h.tape, h.output, h.size, fun i hi hn => h.block i hi (fun hm => hn (hs i hm hi))⟩
theorem Kept.alloc (ex : List Nat) (w : World) (o : Obj) : Kept ex w (w.alloc o) :=
  ⟨rfl, rfl, rfl, by simp, fun k hk _ => Below.heap_alloc _ _ _ hk⟩
theorem Kept.setCell (ex : List Nat) (w : World) (p : Addr) (u : Value) (hp : p.block ∈ ex) : Kept ex w (w.setCell p u) :=
  ⟨rfl, rfl, rfl, by simp [World.setCell], fun k _ hn => Below.heap_setCell _ _ _ _ (fun e => hn (by rw [e]; exact hp))⟩
theorem Kept.drew (ex : List Nat) (w : World) : Kept ex w w.drew := ⟨rfl, rfl, rfl, Nat.le_refl _, fun _ _ _ => rfl⟩
theorem Kept.grown {ex : List Nat} {w w' : World} {row : Option Nat} (hg : w.grownBy w' row) (hr : ∀ k, row = some k → k ∈ ex) : Kept ex w w' :=
  ⟨hg.os, hg.tape, hg.output, hg.size, fun k hk hn => hg.block k hk (fun e => hn (hr k e.symm))⟩
theorem Kept.below {ex : List Nat} {w w' : World} (h : Kept ex w w') {B : Nat} (hB : B ≤ w.heap.size) (hx : ∀ k ∈ ex, B ≤ k) : Below B w w' :=
  ⟨h.os, h.tape, h.output, h.size, fun k hk => h.block k (Nat.lt_of_lt_of_le hk hB) (fun hm => Nat.not_lt.2 (hx k hm) hk)⟩
/-- Writes to blocks that the call itself has made leave what was there before it. -/
theorem Kept.into {ex : List Nat} {w wr w3 : World} (h : Kept [] w wr) (k : Kept ex wr w3) (hx : ∀ i ∈ ex, w.heap.size ≤ i) : Kept [] w w3 :=
  ⟨k.os.trans h.os, k.tape.trans h.tape, k.output.trans h.output, Nat.le_trans h.size k.size,
   fun i hi _ => (k.block i (Nat.lt_of_lt_of_le hi h.size) (fun hm => Nat.not_lt.2 (hx i hm) hi)).trans (h.block i hi (by simp))⟩
theorem Kept.cell {ex : List Nat} {w w' : World} (h : Kept ex w w') {p : Addr} (hp : p.block < w.heap.size) (hn : p.block ∉ ex) : w'.cell? p = w.cell? p :=
  World.cell?_of_block (w := w) (h.block p.block hp hn)
theorem Kept.range {ex : List Nat} {w w' : World} (h : Kept ex w w') {b o : Nat} {cs : List Value} (hb : b < w.heap.size) (hn : b ∉ ex) (hr : w.rangeAt b o cs) : w'.rangeAt b o cs :=
  fun j v hv => by rw [h.cell (p := ⟨b, o + j, none⟩) hb hn]; exact hr j v hv
theorem Kept.heap {ex : List Nat} {w w' : World} (h : Kept ex w w') {b : Nat} {o : Obj} (hn : b ∉ ex) (hb : w.heap[b]? = some o) : w'.heap[b]? = some o := by
  rw [h.block b (Array.getElem?_eq_some_iff.1 hb).1 hn]; exact hb

/-- How an element of the map reads: 64 bytes. -/
noncomputable def blkR (v : Value) : Option (DataW Unit × List MemPlace) :=
  open Classical in if h : ∃ l : List UInt8, l.length = 64 ∧ v = .agg (bvA l) then some (.lit (.string h.choose), []) else none

theorem blkR_mk {l : List UInt8} (hl : l.length = 64) : blkR (.agg (bvA l)) = some (.lit (.string l), []) := by
  have h : ∃ l' : List UInt8, l'.length = 64 ∧ Value.agg (bvA l) = .agg (bvA l') := ⟨l, hl, rfl⟩
  unfold blkR
  rw [dif_pos h]
  have := h.choose_spec.2
  have e : h.choose = l := (bvA_inj (by simpa using this)).symm
  rw [e]
theorem blkR_inv {v : Value} {l : List UInt8} {ps : List MemPlace} (h : blkR v = some (.lit (.string l), ps)) : v = .agg (bvA l) ∧ l.length = 64 := by
  unfold blkR at h
  split at h
  · rename_i hx
    simp only [Option.some.injEq, Prod.mk.injEq, DataW.lit.injEq, Lit.string.injEq] at h
    have := hx.choose_spec
    rw [h.1] at this
    exact ⟨this.2, this.1⟩
  · cases h

def zeroL : List UInt8 := fullL 0

/-- BLOCK m OF w IS A MAP OF AT MOST n ENTRIES IN WHICH KEY i LEADS TO THE 64 BYTES f i (noughts, where there is no such key). -/
def BlkMap (P : Program) (k : TypeId) (w : World) (m n : Nat) (f : Int → List UInt8) : Prop :=
  ∃ D : DataW Unit, w.ownsMap P k blkR m n D ∧ IsMap D ∧ ∀ i, (Lit.int .i64 i).wf = true → D.atKey (.int .i64 i) (.lit (.string zeroL)) = .lit (.string (f i))

theorem BlkMap.made (P : Program) (k : TypeId) (w : World) : BlkMap P k (w.alloc (.map #[] 0)) w.heap.size 0 (fun _ => zeroL) :=
  ⟨.map [], World.ownsMap_made w P k blkR, isMap_empty, fun i _ => by rfl⟩

theorem BlkMap.kept {P : Program} {k : TypeId} {w w' : World} {m n : Nat} {f : Int → List UInt8} (h : BlkMap P k w m n f) {ex : List Nat} (hk : Kept ex w w') (hm : m ∉ ex) : BlkMap P k w' m n f := by
  obtain ⟨D, ⟨es, clock, hb, r⟩, h2, h3⟩ := h
  exact ⟨D, ⟨es, clock, hk.heap hm hb, r⟩, h2, h3⟩

theorem BlkMap.lt {P : Program} {k : TypeId} {w : World} {m n : Nat} {f : Int → List UInt8} (h : BlkMap P k w m n f) : m < w.heap.size := by
  obtain ⟨D, h1, _⟩ := h
  exact h1.lt

theorem BlkMap.mono {P : Program} {k : TypeId} {w : World} {m n n' : Nat} {f : Int → List UInt8} (h : BlkMap P k w m n f) (hn : n ≤ n') : BlkMap P k w m n' f := by
  obtain ⟨D, h1, r⟩ := h
  exact ⟨D, h1.mono hn, r⟩

theorem BlkMap.notCells {P : Program} {k : TypeId} {w : World} {m n : Nat} {f : Int → List UInt8} (h : BlkMap P k w m n f) {c : Array Value} {t : TypeId} {fr : Nat × Nat} : w.heap[m]? ≠ some (.cells c t fr) := by
  obtain ⟨D, ⟨es, clock, hb, _⟩, _⟩ := h
  rw [hb]; simp

theorem BlkMap.look {P : Program} {k e t : TypeId} {w : World} {m n : Nat} {f : Int → List UInt8} (h : BlkMap P k w m n f) (hk : P.underlying k = some (.int .i64)) (ht : P.underlying t = some (.map k e))
    (hz : (zeroValue e).run P w = .ok (.agg (bvA zeroL)) w) (i : Int) (hi : (Lit.int .i64 i).wf = true) :
    (Instr.lookup t (.map (some m)) (.int .i64 i) false).run P w = .ok (.agg (bvA (f i))) w ∧ (f i).length = 64 := by
  obtain ⟨D, h1, h2, h3⟩ := h
  obtain ⟨v, ps, hrun, hv⟩ := h1.lookup (int_keyed hk) ht hz (blkR_mk (fullL_length 0)) (keyOf_int_mk hk hi)
  rw [h3 i hi] at hv
  obtain ⟨rfl, hl⟩ := blkR_inv hv
  exact ⟨hrun, hl⟩

def updL (f : Int → List UInt8) (i : Int) (l : List UInt8) : Int → List UInt8 := fun j => if j = i then l else f j

theorem BlkMap.upd {P : Program} {k e t : TypeId} {w : World} {m n : Nat} {f : Int → List UInt8} (h : BlkMap P k w m n f) (hk : P.underlying k = some (.int .i64)) (ht : P.underlying t = some (.map k e))
    (hn : n < maxLen) (i : Int) (hi : (Lit.int .i64 i).wf = true) (l : List UInt8) (hl : l.length = 64) :
    ∃ w', (Instr.mapUpdate t (.map (some m)) (.int .i64 i) (.agg (bvA l))).run P w = .ok () w' ∧ BlkMap P k w' m (n + 1) (updL f i l) ∧ w.grownBy w' (some m) := by
  obtain ⟨D, h1, h2, h3⟩ := h
  obtain ⟨w', hrun, r1, r2⟩ := h1.update (int_keyed hk) ht hn (keyOf_int_mk hk hi) (blkR_mk hl)
  refine ⟨w', hrun, ⟨_, r1, h2.put _ _, fun j hj => ?_⟩, r2⟩
  unfold updL
  by_cases e : j = i
  · subst e
    rw [atKey_put_same h2 (by simp [WideAt.IsKeyLit]), if_pos rfl]
  · rw [atKey_put_other (by simpa using e), if_neg e]
    exact h3 j hj

/-- The look-up, at the operation. -/
theorem wpList_look {P : Program} (w : World) {ops : Array Oper} {rest : List Oper} {o : Oper} {a : Act} {Q : Exit → Act → World → Prop}
    (hg : o.guard = none) (mo x : Operand) (k e t : TypeId) (hop : o.op = Op.lookup t mo x false) (hk : P.underlying k = some (.int .i64)) (ht : P.underlying t = some (.map k e))
    (hz : (zeroValue e).run P w = .ok (.agg (bvA zeroL)) w) (m n : Nat) (f : Int → List UInt8) (i : Int) (hm : a.eval mo = .map (some m)) (hx : a.eval x = .int .i64 i)
    (hi : (Lit.int .i64 i).wf = true) (h : BlkMap P k w m n f)
    (hK : wpList P ops Q rest (a.put o.dst (.agg (bvA (f i)))) w) : wpList P ops Q (o :: rest) a w := by
  refine wpList_plain hg fun K' hK' => ?_
  obtain ⟨hrun, _⟩ := h.look hk ht hz i hi
  unfold Oper.wp
  simp [execOp, hop, hm, hx, hrun, Result.andThen]
  exact hK' _ _ hK

/-- A slice value that reads as the bytes l. -/
def SlIs (w : World) (v : Value) (l : List UInt8) : Prop :=
  (∃ b o cap, v = .slice (some ⟨b, o, none⟩) l.length cap ∧ b < w.heap.size ∧ w.rangeAt b o (bv l)) ∨ (v = .slice none 0 0 ∧ l = [])

def zerosL (n : Nat) : List UInt8 := List.replicate n 0
theorem zerosL_length (n : Nat) : (zerosL n).length = n := by simp [zerosL]

/-- 'make([]byte, n)'. -/
theorem run_make_bytes {P : Program} (w : World) (t e : TypeId) (ht : P.underlying t = some (.slice e)) (hi : (P.info? e).map (fun i => (i.zero, i.size, i.bytes)) = some (some (.int .u8 0), 1, 1))
    (n : Int) (h0 : 0 ≤ n) (h1 : n ≤ 1000000) :
    (Instr.makeSlice t (.int .i64 n) (.int .i64 n)).run P w = .ok (.slice (some ⟨w.heap.size, 0, none⟩) n.toNat n.toNat) (w.alloc (.cells (bvA (zerosL n.toNat)) e)) := by
  obtain ⟨i, hi', hz, hs, hb⟩ := info_parts hi
  have hr := run_make (P := P) w t e i _ ht hi' hz .i64 .i64 n n h0 (Int.le_refl _) (by rw [hb]; omega) (by omega)
  rw [hr, hs]
  have hb2 : bvA (zerosL n.toNat) = madeCells (Value.int .u8 0).cells (n.toNat * 1) := by
    apply Array.toList_inj.1
    rw [show (Value.int .u8 0).cells = #[Value.int .u8 0] from rfl, toList_madeCells_one, bvA_toList]
    simp [bv, zerosL]
  rw [hb2]

theorem alloc_setCell_new (w : World) (A : Array Value) (e : TypeId) (k : Nat) (v : Value) :
    (w.alloc (.cells A e)).setCell ⟨w.heap.size, k, none⟩ v = w.alloc (.cells (A.setIfInBounds k v) e) := by
  refine congrArg (fun h => ({ w with heap := h } : World)) (?_ : (w.heap.push (.cells A e)).modify w.heap.size _ = w.heap.push (.cells (A.setIfInBounds k v) e))
  apply Array.ext
  · simp
  · intro i h1 h2
    rw [Array.getElem_modify, Array.getElem_push]
    by_cases hh : w.heap.size = i
    · subst hh; simp
    · have : i < w.heap.size := by simp at h1; omega
      simp [hh, Array.getElem_push, this]

theorem bvA_set (l : List UInt8) (k : Nat) (c : UInt8) : (bvA l).setIfInBounds k (.int .u8 (c.toNat : Int)) = bvA (l.set k c) := by
  apply Array.toList_inj.1
  simp [bvA, bv, List.map_set]

/-- The first k bytes c, the others as they were. -/
def partL (l : List UInt8) (c : UInt8) (k : Nat) : List UInt8 := List.replicate (min k l.length) c ++ l.drop k
theorem partL_zero (l : List UInt8) (c : UInt8) : partL l c 0 = l := by simp [partL]
theorem partL_length (l : List UInt8) (c : UInt8) (k : Nat) : (partL l c k).length = l.length := by simp [partL]; omega
theorem partL_all (l : List UInt8) (c : UInt8) : partL l c l.length = List.replicate l.length c := by simp [partL]
theorem partL_succ (l : List UInt8) (c : UInt8) (k : Nat) (h : k < l.length) : (partL l c k).set k c = partL l c (k + 1) := by
  apply List.ext_getElem?
  intro j
  simp only [partL, List.getElem?_set, List.getElem?_append, List.length_append, List.length_replicate, List.length_drop, List.getElem?_replicate, List.getElem?_drop]
  by_cases h1 : k = j
  · subst h1
    have h2 : k < min k l.length + (l.length - k) := by omega
    have h3 : k < min (k + 1) l.length := by omega
    simp only [h2, h3, if_true]
  · by_cases h2 : j < k
    · have : j < min k l.length := by omega
      have h3 : j < min (k + 1) l.length := by omega
      simp [h1, this, h3]
    · have : ¬ j < min k l.length := by omega
      have h3 : ¬ j < min (k + 1) l.length := by omega
      simp only [h1, this, h3, if_false]
      congr 1
      omega

theorem cell_bvA_new (w : World) (l : List UInt8) (e : TypeId) (k : Nat) (h : k < l.length) : (w.alloc (.cells (bvA l) e)).cell? ⟨w.heap.size, k, none⟩ = some (.int .u8 (l[k].toNat : Int)) := by
  rw [World.cell?_alloc_mark]
  simp [bvA, bv, h]
theorem frozen_new (w : World) (A : Array Value) (e : TypeId) (k : Nat) : (w.alloc (.cells A e)).frozen? ⟨w.heap.size, k, none⟩ = false := by
  simp only [World.frozen?, heap_alloc_last]
  simp

/-- A slice that is long enough, as a pointer to an array. -/
theorem run_arrayAt {P : Program} (t e : TypeId) (n : Nat) (ht : P.underlying t = some (.array n e)) (a : Option Addr) (len cap : Nat) (h : n ≤ len) (w : World) :
    (Instr.arrayAt t (.slice a len cap)).run P w = .ok (.pointer a) w := by
  have h' : ¬ len < n := by omega
  simp [Instr.arrayAt, run_underlying ht, h', Result.andThen]

/-- In the head of a region that draws its order: a whole array is read. -/
theorem wpStill_load_mid {P : Program} {ops : Array Oper} {rest : List Oper} {op : Oper} {a : Act} {w : World} {Q : Act → Prop} (hgd : op.guard = none) (ty : TypeId) (x : Operand) (ho : op.op = .load ty x)
    (b o : Nat) (hx : a.eval x = .pointer (some ⟨b, o, none⟩)) (cs : List Value) (d : TypeDesc) (hc : w.rangeAt b o cs)
    (hu : P.underlying ty = some d) (hd : d.isRow = true) (hi : (P.info? ty).map (·.size) = some cs.length)
    (h : wpStill P ops w Q rest (a.put op.dst (.agg cs.toArray))) : wpStill P ops w Q (op :: rest) a := by
  refine wpStill_step fun K hK => ?_
  simp only [Region.wanted, hgd, if_true]
  unfold Oper.still execOp
  simp only [ho, hx, Instr.loadAt, Instr.sureAddr, Sem.run_bind, Sem.run_pure, Result.andThen_ok, run_loadVar_mid w b o ty cs d hc hu hd hi]
  rw [Oper.stillUpon_value]
  exact hK _ h

/-- The store into the map, at the operation. -/
theorem wpList_upd {P : Program} (w : World) {ops : Array Oper} {rest : List Oper} {o : Oper} {a : Act} {Q : Exit → Act → World → Prop}
    (hg : o.guard = none) (mo x v : Operand) (k e t : TypeId) (hop : o.op = Op.mapUpdate t mo x v) (hk : P.underlying k = some (.int .i64)) (ht : P.underlying t = some (.map k e))
    (m n : Nat) (f : Int → List UInt8) (i : Int) (l : List UInt8) (hm : a.eval mo = .map (some m)) (hx : a.eval x = .int .i64 i) (hv : a.eval v = .agg (bvA l))
    (hi : (Lit.int .i64 i).wf = true) (hn : n < maxLen) (hl : l.length = 64) (h : BlkMap P k w m n f)
    (hK : ∀ w', BlkMap P k w' m (n + 1) (updL f i l) → w.grownBy w' (some m) → wpList P ops Q rest (a.put o.dst undef) w') : wpList P ops Q (o :: rest) a w := by
  refine wpList_plain hg fun K' hK' => ?_
  obtain ⟨w', hrun, h1, h2⟩ := h.upd hk ht hn i hi l hl
  unfold Oper.wp
  simp [execOp, hop, hm, hx, hv, hrun, Result.andThen]
  exact hK' _ _ (hK w' h1 h2)

end Go.Proofs.Ytlbenaodpfhjeaa

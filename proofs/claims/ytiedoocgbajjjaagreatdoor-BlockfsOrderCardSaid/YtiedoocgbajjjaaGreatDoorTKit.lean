/-
  Plain facts for layer 3: what stays, rows of bytes and of numbers, two bytes as a number. Nothing of the program's own code is named here.
  Conditions: none beyond those that each theorem states.
  A statement whose order Go leaves open, walked in an order of the prover's, under whatever relation of worlds its operations keep.
  Conditions: those that the kernel reckons of the region's own list ('ordMix'); the relation is reflexive and transitive.
  Plain facts that all layers share: texts, rows of bytes of the call's own, what is appended to them, bytes that came in. Nothing of the program's own code is named here.
  Conditions: none beyond those that each theorem states.
-/
import Derived.Test.YtiedoocgbajjjaaGreatDoorOrder
import Derived.Deep.QuietTactic
import Derived.BigQuiet
import Derived.Lib.BufferWrite
import Derived.Laws.AppendOwn
import Derived.Laws.Append
import Derived.Test.YtiedoocgbajjjaaGreatDoorChecked
import Derived.Lib.Strings
import Derived.Lib.AppendStr
import Derived.Laws.Strings3
import Derived.Laws.IdiomStrings
import Derived.Laws.AppendOwnNone
namespace Go.Proofs.YtiedoocgbajjjaaGreatDoor
open Go.RowKit Go.Maps
set_option maxRecDepth 100000

theorem Kept.setNew {w wr : World} (h : Kept [] w wr) (p : Addr) (v : Value) (hp : w.heap.size ≤ p.block) : Kept [] w (wr.setCell p v) :=
  h.into (Kept.setCell [p.block] wr p v (by simp)) (by simpa using hp)
theorem Kept.drewNew {w wr : World} (h : Kept [] w wr) : Kept [] w wr.drew := h.trans (Kept.drew _ _)
theorem Kept.allocNew {w wr : World} (h : Kept [] w wr) (o : Obj) : Kept [] w (wr.alloc o) := h.trans (Kept.alloc _ _ _)
theorem Kept.drewN (ex : List Nat) (w : World) (n : Nat) : Kept ex w (w.drewN n) := ⟨rfl, rfl, rfl, Nat.le_refl _, fun _ _ _ => rfl⟩
def Drawn (w w' : World) : Prop := ∃ n, w' = w.drewN n
theorem Drawn.kept {w w' : World} (h : Drawn w w') : Kept [] w w' := by obtain ⟨n, rfl⟩ := h; exact Kept.drewN _ _ _
theorem Drawn.size {w w' : World} (h : Drawn w w') : w'.heap.size = w.heap.size := by obtain ⟨n, rfl⟩ := h; rfl
theorem Drawn.heap {w w' : World} (h : Drawn w w') : w'.heap = w.heap := by obtain ⟨n, rfl⟩ := h; rfl
theorem Drawn.more {w w' : World} (h : Drawn w w') (n : Nat) : Drawn w (w'.drewN n) := by obtain ⟨m, rfl⟩ := h; exact ⟨m + n, by rw [World.drewN_drewN]⟩
theorem size_alloc (w : World) (o : Obj) : (w.alloc o).heap.size = w.heap.size + 1 := by simp

/-- Numbers as the cells that hold them. -/
def iv (l : List Int) : List Value := l.map fun c => Value.int .i64 c
def ivA (l : List Int) : Array Value := (iv l).toArray
theorem iv_length (l : List Int) : (iv l).length = l.length := by simp [iv]
theorem ivA_size (l : List Int) : (ivA l).size = l.length := by simp [ivA, iv]
theorem ivA_toList (l : List Int) : (ivA l).toList = iv l := by simp [ivA]
theorem iv_one (l : List Int) : ∀ v ∈ iv l, v.oneCell' = true := by
  intro v hv
  simp [iv] at hv
  obtain ⟨c, _, rfl⟩ := hv
  rfl
theorem ivA_set (l : List Int) (k : Nat) (c : Int) : (ivA l).setIfInBounds k (.int .i64 c) = ivA (l.set k c) := by
  apply Array.toList_inj.1
  simp [ivA, iv, List.map_set]

/-- A slice of numbers: its address and its length, and what it reads as. -/
def IntsIs (w : World) (ao : Option Addr) (len : Nat) (l : List Int) : Prop :=
  l.length = len ∧ len ≤ 4611686018427387904 ∧ (len = 0 ∨ ∃ b o, ao = some ⟨b, o, none⟩ ∧ b < w.heap.size ∧ w.rangeAt b o (iv l))
theorem IntsIs.kept {w w' : World} {ao : Option Addr} {len : Nat} {l : List Int} (h : IntsIs w ao len l) (hk : Kept [] w w') : IntsIs w' ao len l := by
  obtain ⟨h1, h2, h3⟩ := h
  refine ⟨h1, h2, ?_⟩
  rcases h3 with h3 | ⟨b, o, rfl, hb, hr⟩
  · exact .inl h3
  · exact .inr ⟨b, o, rfl, Nat.lt_of_lt_of_le hb hk.size, hk.range hb (by simp) hr⟩
theorem IntsIs.cell {w : World} {ao : Option Addr} {len : Nat} {l : List Int} (h : IntsIs w ao len l) (hne : 0 < len) : ∃ b o, ao = some ⟨b, o, none⟩ ∧ b < w.heap.size ∧ ∀ k (hk : k < len), w.cell? ⟨b, o + k, none⟩ = some (.int .i64 (l[k]'(by rw [h.1]; exact hk))) := by
  obtain ⟨h1, h2, h3⟩ := h
  rcases h3 with h3 | ⟨b, o, rfl, hb, hr⟩
  · omega
  · exact ⟨b, o, rfl, hb, fun k hk => hr k _ (by simp [iv, show k < l.length by omega])⟩

def hiB (n : Nat) : UInt8 := UInt8.ofNat (n / 256)
def loB (n : Nat) : UInt8 := UInt8.ofNat n
theorem hiB_val (n : Nat) : (n : Int) / 256 % 256 = ((hiB n).toNat : Int) := by
  simp [hiB]
theorem loB_val (n : Nat) : (n : Int) % 256 = ((loB n).toNat : Int) := by
  simp [loB]

theorem cell_bvA {w : World} {h : Nat} {l : List UInt8} {t : TypeId} (hh : w.heap[h]? = some (.cells (bvA l) t)) (k : Nat) (hk : k < l.length) : w.cell? ⟨h, k, none⟩ = some (.int .u8 (l[k].toNat : Int)) := by
  rw [cell_of_row w h k _ _ _ hh]
  simp [bvA, bv, hk]

theorem bits_or_i64_nat (a b : Nat) (ha : a < 9223372036854775808) (hb : b < 9223372036854775808) :
    bits .or .i64 (a : Int) (b : Int) = ((a ||| b : Nat) : Int) := by
  have hx : a ||| b < 2 ^ 63 := Nat.or_lt_two_pow (by omega) (by omega)
  have h1 : (BitVec.ofInt 64 (a : Int)).toNat = a := by
    rw [BitVec.ofInt_natCast, BitVec.toNat_ofNat]; exact Nat.mod_eq_of_lt (by omega)
  have h2 : (BitVec.ofInt 64 (b : Int)).toNat = b := by
    rw [BitVec.ofInt_natCast, BitVec.toNat_ofNat]; exact Nat.mod_eq_of_lt (by omega)
  show IntKind.i64.wrap ((BitVec.ofInt 64 (a : Int) ||| BitVec.ofInt 64 (b : Int)).toNat : Int) = _
  rw [BitVec.toNat_or, h1, h2, IntKind.wrap_i64]
  omega
theorem or_low (k a b : Nat) (hb : b < 2 ^ k) : a * 2 ^ k ||| b = a * 2 ^ k + b := by
  rw [Nat.mul_comm, Nat.two_pow_add_eq_or_of_lt hb]
theorem or_byte (x : Nat) (y : UInt8) (hx : x < 256) : bits .or .i64 ((x : Int) * 256) (y.toNat : Int) = ((256 * x + y.toNat : Nat) : Int) := by
  have hy := UInt8.toNat_lt y
  have := bits_or_i64_nat (x * 256) y.toNat (by omega) (by omega)
  rw [Int.natCast_mul] at this
  rw [show ((256 : Nat) : Int) = 256 from rfl] at this
  rw [this, or_low 8 x y.toNat hy]
  congr 1
  omega

theorem setRow_kept (w : World) (g : Nat) (cs : Array Value) : Kept [g] w (w.setRow g cs) := by
  refine ⟨rfl, rfl, rfl, by simp [World.setRow], fun k hk hn => ?_⟩
  simp only [World.setRow]
  rw [Array.getElem?_modify]
  rw [if_neg (by simp at hn; omega)]

theorem load_row {P : Program} (w : World) (b o n : Nat) (L : List UInt8) (hr : w.rangeAt b o (bv L)) (hn : L.length = n) : (loadCellsFrom ⟨b, o, none⟩ 0 n #[]).run P w = .ok (bvA L) w := by
  subst hn
  have := run_loadCells_list (P := P) w ⟨b, o, none⟩ (bv L) (fun j v hv => by rw [Addr.add_mid]; exact hr j v hv)
  simpa [loadCells, bv_length, bvA] using this
theorem store_row {P : Program} (w : World) (b : Nat) (t : TypeId) (cur L : List UInt8) (hg : w.heap[b]? = some (.cells (bvA cur) t)) (hl : L.length = cur.length) :
    (storeCells ⟨b, 0, none⟩ (bvA L).toList 0).run P w = .ok () (w.setRow b (bvA L)) := by
  rw [bvA_toList, run_storeCells_at P b 0 t (bv L) 0 (bvA cur) w hg (by rw [bvA_size, bv_length]; omega) (bv_one L), bvA_toList, bv_length, hl]
  simp only [Nat.add_zero, Nat.zero_add, List.take_zero, List.nil_append]
  rw [List.drop_of_length_le (by rw [bv_length]; omega), List.append_nil]
  rfl
theorem range_row {w : World} {b : Nat} {L : List UInt8} {t : TypeId} (h : w.heap[b]? = some (.cells (bvA L) t)) : w.rangeAt b 0 (bv L) := fun j v hv => by
  rw [Nat.zero_add, cell_of_row w b j _ _ _ h]
  simpa [bvA] using hv

/-- A whole row of bytes is stored, at the operation. -/
theorem wpList_store_row {P : Program} {ops : Array Oper} {rest : List Oper} {op : Oper} {a : Act} {w : World} {Q : Exit → Act → World → Prop} (hgd : op.guard = none) (ty : TypeId) (x y : Operand) (ho : op.op = .store ty x y)
    (b : Nat) (t : TypeId) (cur L : List UInt8) (hx : a.eval x = .pointer (some ⟨b, 0, none⟩)) (hy : a.eval y = .agg (bvA L)) (hg : w.heap[b]? = some (.cells (bvA cur) t)) (hl : L.length = cur.length)
    (hi : (P.info? ty).map (·.size) = some L.length)
    (h : wpList P ops Q rest (a.put op.dst undef) (w.setRow b (bvA L))) : wpList P ops Q (op :: rest) a w := by
  refine wpList_plain hgd fun _ hK => ?_
  have hst := store_row (P := P) w b t cur L hg hl
  unfold Oper.wp execOp
  cases hq : P.info? ty with
  | none => simp [hq] at hi
  | some i =>
    have hs : (bvA L).size = i.size := by rw [bvA_size]; simp [hq] at hi; omega
    have : (storeVar ty ⟨b, 0, none⟩ (.agg (bvA L))).run P w = .ok () (w.setRow b (bvA L)) := by
      simp [storeVar, sizeOf, typeInfo, hq, Value.cells, hs, hst]
    simp only [ho, hx, hy, Instr.storeAt, Instr.sureAddr, Sem.run_bind, Sem.run_pure, Result.andThen_ok, this]
    exact hK _ _ h

/-- An append, or a copy, whose run is known. -/
theorem wpList_append_run {P : Program} {ops : Array Oper} {rest : List Oper} {o : Oper} {a : Act} {w w' : World} {Q : Exit → Act → World → Prop} (hgd : o.guard = none) (s x : Operand) (t : TypeId)
    (ho : o.op = .call { callee := .builtin .append, args := #[s, x], argTypes := #[t, t] }) (u v r : Value) (hs : a.eval s = u) (hx : a.eval x = v)
    (hrun : (Builtin.append_ #[t, t] o.type #[u, v]).run P w = .ok r w') (h : wpList P ops Q rest (a.put o.dst r) w') : wpList P ops Q (o :: rest) a w := by
  refine wpList_plain hgd fun _ hK => ?_
  unfold Oper.wp execOp
  simp only [ho, resolve, invoke, builtin, Sem.run_bind, Sem.run_pure, Result.andThen_ok, List.map_toArray, List.map_cons, List.map_nil, hs, hx, hrun]
  exact hK _ _ h
theorem wpList_copy_run {P : Program} {ops : Array Oper} {rest : List Oper} {o : Oper} {a : Act} {w w' : World} {Q : Exit → Act → World → Prop} (hgd : o.guard = none) (s x : Operand) (t t2 : TypeId)
    (ho : o.op = .call { callee := .builtin .copy, args := #[s, x], argTypes := #[t, t2] }) (u v r : Value) (hs : a.eval s = u) (hx : a.eval x = v)
    (hrun : (Builtin.copy_ #[t, t2] o.type #[u, v]).run P w = .ok r w') (h : wpList P ops Q rest (a.put o.dst r) w') : wpList P ops Q (o :: rest) a w := by
  refine wpList_plain hgd fun _ hK => ?_
  unfold Oper.wp execOp
  simp only [ho, resolve, invoke, builtin, Sem.run_bind, Sem.run_pure, Result.andThen_ok, List.map_toArray, List.map_cons, List.map_nil, hs, hx, hrun]
  exact hK _ _ h

/-- What a slice's type asks of an append. -/
structure ElemOk (P : Program) (t e : TypeId) (z : Value) (size bytes : Nat) : Prop where
  ht : P.underlying t = some (.slice e)
  info : (P.info? e).map (fun i => (i.zero, i.size, i.bytes)) = some (some z, size, bytes)
  zs : z.cells.size = size
  sz : 0 < size

/-- An append to a row that the call owns: it lies where it lay, or is new. -/
theorem own_app {P : Program} {t e : TypeId} {z : Value} {size bytes : Nat} (E : ElemOk P t e z size bytes) (ty : TypeId) (w : World) (base : Nat) (v : Value) (n : Nat) (xs : List Value) (hown : w.ownsRow base e size v n xs)
    (ad : Addr) (m c : Nat) (news : List Value) (hl : news.length = m * size) (hnews : ∀ j u, news[j]? = some u → w.cell? (ad.add j) = some u) (h1 : ∀ u ∈ news, u.oneCell' = true)
    (h63 : n + m ≤ maxLen) (hbytes : (n + m) * bytes ≤ 140737488355328) (hbase : base ≤ w.heap.size) :
    ∃ v' w', (Builtin.append_ #[t, t] ty #[v, .slice (some ad) m c]).run P w = .ok v' w' ∧ w'.ownsRow base e size v' (n + m) (xs ++ news) ∧ Kept v.ownBlock.toList w w' ∧ (v'.ownBlock = v.ownBlock ∨ v'.ownBlock = some w.heap.size) := by
  obtain ⟨i, hi, hz, hs, hb⟩ := info_parts E.info
  obtain ⟨v', w', hr, ho, hg, hiff⟩ := run_append_own (P := P) w base t ty e i z size bytes E.ht hi hz hs hb E.zs E.sz v n xs hown ad m c news hl hnews h1 h63 hbytes hbase
  refine ⟨v', w', hr, ho, Kept.grown hg (fun k hk => by simp [hk]), ?_⟩
  have hsmall : n + m ≤ 9223372036854775807 := by simp only [maxLen] at h63; omega
  subst hs
  subst hb
  rcases hown.2 with ⟨rfl, rfl⟩ | ⟨g, cap, cur, rfl, hbg, hgg, hnc, hcm, hcs, htake⟩
  · by_cases hm : m = 0
    · left
      rw [hiff.2 ⟨rfl, hm⟩]
    · right
      have hr2 := run_append_nil (P := P) w t ty e i z E.ht hi hz ad m c news hl hnews (by omega) (by omega) (by have hb := hbytes; simp only [Nat.zero_add] at hb; omega)
      rw [hr2] at hr
      injection hr with h2 h3
      rw [← h2]
      rfl
  · by_cases hroom : n + m ≤ cap
    · left
      have hfit : n * i.size + news.length ≤ cur.size := by rw [hl, hcs, ← Nat.add_mul]; exact Nat.mul_le_mul_right _ hroom
      have hr2 := run_append_room (P := P) w t ty e i E.ht hi g n cap cur hgg ad m c news hl hnews h1 hroom hfit
      rw [hr2] at hr
      injection hr with h2 h3
      rw [← h2]
      rfl
    · right
      have holds : ∀ j u, xs[j]? = some u → w.cell? ((⟨g, 0, none⟩ : Addr).add j) = some u := hown.cells (g := g) rfl
      have hr2 := run_append_grow (P := P) w t ty e i z E.ht hi hz ⟨g, 0, none⟩ n cap xs hown.1 holds ad m c news hl hnews (by omega) (by omega) (growslice_fits (by omega) hbytes)
      rw [hr2] at hr
      injection hr with h2 h3
      rw [← h2]
      rfl

/-- An owned row stays one while others change. -/
theorem owns_kept {w w' : World} {ex : List Nat} {base : Nat} {e : TypeId} {size : Nat} {v : Value} {n : Nat} {xs : List Value} (h : w.ownsRow base e size v n xs) (hk : Kept ex w w') (hne : ∀ k, v.ownBlock = some k → k ∉ ex) : w'.ownsRow base e size v n xs := by
  obtain ⟨h1, h2 | ⟨g, cap, cur, rfl, hb, hg, r⟩⟩ := h
  · exact ⟨h1, .inl h2⟩
  · exact ⟨h1, .inr ⟨g, cap, cur, rfl, hb, hk.heap (hne g rfl) hg, r⟩⟩
/-- What an owned row reads as. -/
theorem owns_range {w : World} {base : Nat} {e : TypeId} {v : Value} {n : Nat} {xs : List Value} (h : w.ownsRow base e 1 v n xs) : (∃ g cap, v = .slice (some ⟨g, 0, none⟩) n cap ∧ base ≤ g ∧ g < w.heap.size ∧ n ≤ cap ∧ cap ≤ maxLen ∧ w.rangeAt g 0 xs) ∨ (v = .slice none 0 0 ∧ n = 0 ∧ xs = []) := by
  obtain ⟨h1, ⟨rfl, h2⟩ | ⟨g, cap, cur, rfl, hb, hg, hc1, hc2, hcs, htk⟩⟩ := h
  · exact .inr ⟨rfl, h2, List.eq_nil_of_length_eq_zero (by rw [h1, h2])⟩
  · refine .inl ⟨g, cap, rfl, hb, (Array.getElem?_eq_some_iff.1 hg).1, hc1, hc2, fun q u hu => ?_⟩
    rw [← htk] at hu
    have hq : q < n * 1 := by
      have := (List.getElem?_eq_some_iff.1 hu).1
      simp at this; omega
    rw [List.getElem?_take_of_lt hq] at hu
    rw [Nat.zero_add, cell_of_row w g q _ _ _ hg]
    simpa using hu
theorem Kept.own {w0 w w' : World} {base : Nat} {e : TypeId} {size : Nat} {v : Value} {n : Nat} {xs : List Value} (hk : Kept [] w0 w) (hown : w.ownsRow base e size v n xs) (hb : w0.heap.size ≤ base) (hk2 : Kept v.ownBlock.toList w w') : Kept [] w0 w' :=
  hk.into hk2 fun q hq => by
    have := (hown.lt q (by simpa using hq)).1
    omega

end Go.Proofs.YtiedoocgbajjjaaGreatDoor

namespace Go.Proofs.YtiedoocgbajjjaaGreatDoor
open Go.RowKit Go.Maps
set_option maxRecDepth 100000

section
variable {P : Program} {ops : Array Oper} {Q : Exit → Act → World → Prop} {R : World → World → Prop} {md : Region.Mode}

def wpR (P : Program) (ops : Array Oper) (Q : Exit → Act → World → Prop) (R : World → World → Prop) : List (Bool × Oper) → Act → World → Prop
  | [], a, w => Q .normal a w
  | (true, o) :: r, a, w => ∃ v, YieldsIf P ops (R w) o v a ∧ wpR P ops Q R r (a.put o.dst v) w
  | (false, o) :: r, a, w => (if Region.wanted o (yielded ops a.tmps) then o.wp P a w (fun a' w' => R w w' ∧ wpR P ops Q R r a' w') Q else wpR P ops Q R r (a.put o.dst undef) w)

theorem wpR_nil {a : Act} {w : World} (h : Q .normal a w) : wpR P ops Q R [] a w := h
theorem wpR_take {o : Oper} {r : List (Bool × Oper)} {a : Act} {w : World} (v : Value) (hw : Region.wanted o (yielded ops a.tmps) = true)
    (hv : ∀ w', R w w' → (execOp a.eval o).run P w' = .ok (.value v) w') (h : wpR P ops Q R r (a.put o.dst v) w) : wpR P ops Q R ((true, o) :: r) a w :=
  ⟨v, Or.inl ⟨hw, hv⟩, h⟩
theorem wpR_pass {o : Oper} {r : List (Bool × Oper)} {a : Act} {w : World} (hw : Region.wanted o (yielded ops a.tmps) = false)
    (h : wpR P ops Q R r (a.put o.dst undef) w) : wpR P ops Q R ((true, o) :: r) a w :=
  ⟨undef, Or.inr ⟨hw, rfl⟩, h⟩
theorem wpR_force {o : Oper} {r : List (Bool × Oper)} {a : Act} {w : World} (hw : Region.wanted o (yielded ops a.tmps) = true)
    (h : ∀ K : Act → World → Prop, (∀ a' w', R w w' → wpR P ops Q R r a' w' → K a' w') → o.wp P a w K Q) : wpR P ops Q R ((false, o) :: r) a w := by
  unfold wpR
  rw [if_pos hw]
  exact h _ fun a' w' h1 h2 => ⟨h1, h2⟩

theorem wpAnyH_of_ordR (hrf : ∀ w, R w w) (htr : ∀ a b c, R a b → R b c → R a c) (hs : Region.noSelect ops = true) (hQ : ∀ c a d v w, Q (.panic c) (Act.put a d v) w → Q (.panic c) a w) :
    ∀ (is : List (Bool × Nat)) (listed : Array Bool) (a : Act) (w : World), (∀ p ∈ is, p.2 < ops.size) →
    ordMix md ops is listed = true → wpR P ops Q R (named ops.toList is) a w → wpAnyH P md ops Q (R w) is.length listed a w
  | [], listed, a, w, _, hB, h => by
    have hr : Region.ready md ops listed = [] := by simpa [ordMix] using hB
    exact wpAnyH_done hr h _
  | (true, k) :: r, listed, a, w, hl, hB, h => by
    have hk : k < ops.size := hl (true, k) (by simp)
    have h0 : ops[k]? = some (ops.toList.getD k default) := by simp [hk]
    simp only [ordMix, Bool.and_eq_true] at hB
    obtain ⟨⟨hr, hf⟩, hB'⟩ := hB
    simp only [named] at h
    obtain ⟨v, hy, hK⟩ := h
    exact wpAnyH_take h0 hs hf hr (fun c a w hh => hQ c a _ _ w hh) hy (hrf _) (wpAnyH_of_ordR hrf htr hs hQ r _ _ w (fun p hp => hl p (by simp [hp])) hB' hK)
  | (false, k) :: r, listed, a, w, hl, hB, h => by
    have hk : k < ops.size := hl (false, k) (by simp)
    have h0 : ops[k]? = some (ops.toList.getD k default) := by simp [hk]
    have hl' : ∀ p ∈ r, p.2 < ops.size := fun p hp => hl p (by simp [hp])
    simp only [ordMix, Bool.and_eq_true, decide_eq_true_eq] at hB
    obtain ⟨hr, hB'⟩ := hB
    refine wpAnyH_all hr (by simp) fun i hi => ?_
    obtain rfl : i = k := by simpa using hi
    simp only [named] at h
    unfold wpR at h
    unfold wpOp
    simp only [h0]
    by_cases hw : Region.wanted (ops.toList.getD i default) (yielded ops a.tmps) = true
    · rw [if_pos hw] at h ⊢
      refine .inl (Oper.wp_mono (fun a' w' hh => ⟨hh.1, ?_⟩) h)
      exact wpAnyH_mono (fun w'' h2 => htr _ _ _ hh.1 h2) _ _ _ _ (wpAnyH_of_ordR hrf htr hs hQ r _ a' w' hl' hB' hh.2)
    · rw [if_neg hw] at h ⊢
      exact ⟨hrf _, wpAnyH_of_ordR hrf htr hs hQ r _ _ w hl' hB' h⟩

/-- THE BEGINNING. is: the order, and which operation only reads. -/
theorem wp_region_ordR {id : Nat} {a : Act} {w : World} {l : List Oper} (is : List (Bool × Nat)) (hrf : ∀ w, R w w) (htr : ∀ a b c, R a b → R b c → R a c) (hm : P.follows .mixedOrders = true) (hQ : ∀ c a d v w, Q (.panic c) (Act.put a d v) w → Q (.panic c) a w)
    (hn : Region.noSelect l.toArray = true) (hk : is.length = l.length) (hlt : (is.all fun p => decide (p.2 < l.length)) = true) (hB : ordMix .any l.toArray is (Array.replicate l.toArray.size false) = true)
    (h : wpR P l.toArray Q R (named l is) a w.drew) : (Code.region id l.toArray true).wp P Q a w := by
  have := wpAnyH_of_ordR hrf htr (md := .any) hn hQ is _ a w.drew (fun p hp => by
    have := List.all_eq_true.1 hlt p hp
    simpa using this) hB h
  rw [hk] at this
  refine wp_region_held (S := R w.drew) hm ?_
  exact this
end

/-- What PP says of a world stays true. -/
def Imp (PP : World → Prop) (a b : World) : Prop := PP a → PP b
theorem Imp.refl (PP : World → Prop) (a : World) : Imp PP a a := fun h => h
theorem Imp.trans {PP : World → Prop} {a b c : World} (h : Imp PP a b) (k : Imp PP b c) : Imp PP a c := fun x => k (h x)
end Go.Proofs.YtiedoocgbajjjaaGreatDoor

namespace Go.Proofs.YtiedoocgbajjjaaGreatDoor
open Go.RowKit Go.Maps
set_option maxRecDepth 100000

theorem ret1 {n m : Int} (h : n = m) : Ending.returned (.int .i64 n) = .returned (.int .i64 m) := by rw [h]
theorem ret2 {n m : Int} {a b : Bool} (h : n = m) (g : a = b) : Ending.returned (.tuple #[.int .i64 n, .bool a]) = .returned (.tuple #[.int .i64 m, .bool b]) := by rw [h, g]
theorem retB {a b : Bool} (h : a = b) : Ending.returned (.bool a) = .returned (.bool b) := by rw [h]
theorem SlIs.kept {w w' : World} {v : Value} {l : List UInt8} (h : SlIs w v l) (hk : Kept [] w w') : SlIs w' v l := by
  rcases h with ⟨b, o, cap, rfl, hb, hr⟩ | h
  · exact .inl ⟨b, o, cap, rfl, Nat.lt_of_lt_of_le hb hk.size, hk.range hb (by simp) hr⟩
  · exact .inr h
theorem SlIs.row {w : World} {b : Nat} {L : List UInt8} {t : TypeId} (h : w.heap[b]? = some (.cells (bvA L) t)) (n cap : Nat) (hn : L.length = n) : SlIs w (.slice (some ⟨b, 0, none⟩) n cap) L :=
  .inl ⟨b, 0, cap, by rw [hn], (Array.getElem?_eq_some_iff.1 h).1, range_row h⟩
theorem size_toList (s : ByteArray) : s.data.toList.length = s.size := by rw [Array.length_toList]; rfl
theorem get_toList (s : ByteArray) (i : Nat) (h : i < s.size) : s.data.toList[i]'(by rw [size_toList]; exact h) = s[i] := rfl
def strL (l : List UInt8) : ByteArray := ⟨l.toArray⟩
theorem strL_toList (l : List UInt8) : (strL l).data.toList = l := rfl
theorem strL_of (s : ByteArray) : strL s.data.toList = s := rfl
theorem strL_size (l : List UInt8) : (strL l).size = l.length := by rw [← size_toList]; rfl
def sv (l : List (List UInt8)) : List Value := l.map fun p => Value.string (strL p)
def svA (l : List (List UInt8)) : Array Value := (sv l).toArray
theorem sv_length (l : List (List UInt8)) : (sv l).length = l.length := by simp [sv]
/-- A slice of texts: what it reads as. -/
def StrsIs (w : World) (v : Value) (l : List (List UInt8)) : Prop :=
  (∃ b o cap, v = .slice (some ⟨b, o, none⟩) l.length cap ∧ b < w.heap.size ∧ w.rangeAt b o (sv l)) ∨ (v = .slice none 0 0 ∧ l = [])
theorem StrsIs.kept {w w' : World} {v : Value} {l : List (List UInt8)} (h : StrsIs w v l) (hk : Kept [] w w') : StrsIs w' v l := by
  rcases h with ⟨b, o, cap, rfl, hb, hr⟩ | h
  · exact .inl ⟨b, o, cap, rfl, Nat.lt_of_lt_of_le hb hk.size, hk.range hb (by simp) hr⟩
  · exact .inr h
theorem range_svA {w : World} {b : Nat} {l : List (List UInt8)} {t : TypeId} (h : w.heap[b]? = some (.cells (svA l) t)) : w.rangeAt b 0 (sv l) := fun j v hv => by
  rw [Nat.zero_add, cell_of_row w b j _ _ _ h]
  simpa [svA] using hv
theorem conv_of_range {P : Program} (w : World) (src dst e : TypeId) (hs : P.underlying src = some (.slice e)) (he : P.underlying e = some (.int .u8)) (hd : P.underlying dst = some .string)
    (b o cap : Nat) (l : List UInt8) (n : Nat) (hn : l.length = n) (hc : w.rangeAt b o (bv l)) :
    (convert src dst (.slice (some ⟨b, o, none⟩) n cap)).run P w = .ok (.string (strL l)) w := by
  subst hn
  refine run_convert_bytes_back w src dst e ⟨b, o, none⟩ cap l hs he hd (fun j hj => ?_)
  rw [Addr.add_mid]
  exact hc j _ (by simp [bv, hj])
theorem convL {w : World} {v : Value} {l : List UInt8} (h : SlIs w v l) : (convert 22 9 v).run Tryz.prog w = .ok (.string (strL l)) w := by
  rcases h with ⟨b, o, cap, rfl, _, hc⟩ | ⟨rfl, rfl⟩
  · exact conv_of_range w _ _ _ Tryz.underlying22 Tryz.underlying5 Tryz.underlying9 b o cap l _ rfl hc
  · rw [run_convert_bytes_string w _ _ _ none 0 0 Tryz.underlying22 Tryz.underlying5 Tryz.underlying9]
    rfl
/-- What a slice of bytes is as a text. -/
def ConvIs (w : World) (v : Value) (l : List UInt8) : Prop := (convert 22 9 v).run Tryz.prog w = .ok (.string (strL l)) w
theorem SlIs.conv {w : World} {v : Value} {l : List UInt8} (h : SlIs w v l) : ConvIs w v l := convL h
theorem conv_empty (w : World) (ao : Option Addr) (cap : Nat) (h : ao = none → cap = 0) : ConvIs w (.slice ao 0 cap) [] := by
  unfold ConvIs
  cases ao with
  | none =>
    rw [h rfl]
    exact convL (.inr ⟨rfl, rfl⟩)
  | some ad =>
    have := run_convert_bytes_back (P := Tryz.prog) w 22 9 5 ad cap [] Tryz.underlying22 Tryz.underlying5 Tryz.underlying9 (fun j hj => by cases hj)
    exact this
def lessB (p q : List UInt8) : Bool := Op.bytesLess p q
theorem strL_bytes (p : List UInt8) : (strL p).toList = p := by rw [Lib.toList_data]; rfl
theorem elemByte : ElemOk Tryz.prog 22 5 (.int .u8 0) 1 1 := ⟨Tryz.underlying22, by kernel_rfl, rfl, by omega⟩
/-- A row of bytes of the call's own. -/
def OwnB (base : Nat) (w : World) (v : Value) (L : List UInt8) : Prop := w.ownsRow base 5 1 v L.length (bv L)
/-- A row that was appended to lies where it lay, or is new; all else is as it was. -/
structure AppB (w : World) (v : Value) (w' : World) (v' : Value) : Prop where
  kept : Kept v.ownBlock.toList w w'
  own : v'.ownBlock = v.ownBlock ∨ ∃ g, v'.ownBlock = some g ∧ w.heap.size ≤ g
theorem Kept.step {w wr w2 : World} {ex : List Nat} {o : Option Nat} (h : Kept ex w wr) (k : Kept o.toList wr w2) (ho : ∀ g, o = some g → g ∈ ex ∨ w.heap.size ≤ g) : Kept ex w w2 :=
  ⟨k.os.trans h.os, k.tape.trans h.tape, k.output.trans h.output, Nat.le_trans h.size k.size, fun i hi hn => by
    rw [k.block i (Nat.lt_of_lt_of_le hi h.size) (fun hm => by
      have := ho i (by simpa using hm)
      rcases this with hh | hh
      · exact hn hh
      · omega)]
    exact h.block i hi hn⟩
theorem AppB.refl (w : World) (v : Value) : AppB w v w v := ⟨Kept.refl _ _, .inl rfl⟩
theorem AppB.trans {w w1 w2 : World} {v v1 v2 : Value} (h : AppB w v w1 v1) (k : AppB w1 v1 w2 v2) : AppB w v w2 v2 := by
  have hs := h.kept.size
  refine ⟨h.kept.step k.kept fun g hg => ?_, ?_⟩
  · rcases h.own with e | ⟨g', e, hg'⟩
    · left; rw [e] at hg; simp [hg]
    · right; rw [e] at hg; injection hg with hg; omega
  · rcases k.own with e | ⟨g, e, hg⟩
    · rw [e]; exact h.own
    · exact .inr ⟨g, e, by omega⟩
theorem AppB.pre {w w1 w2 : World} {v v2 : Value} (h : Kept [] w w1) (k : AppB w1 v w2 v2) : AppB w v w2 v2 := by
  have hs := h.size
  refine ⟨(h.mono (by simp)).trans k.kept, ?_⟩
  rcases k.own with e | ⟨g, e, hg⟩
  · exact .inl e
  · exact .inr ⟨g, e, by omega⟩
theorem OwnB.kept {base : Nat} {w w' : World} {v : Value} {L : List UInt8} (h : OwnB base w v L) {ex : List Nat} (hk : Kept ex w w') (hne : ∀ k, v.ownBlock = some k → k ∉ ex) : OwnB base w' v L := owns_kept h hk hne
theorem OwnB.slIs {base : Nat} {w : World} {v : Value} {L : List UInt8} (h : OwnB base w v L) : SlIs w v L := by
  rcases owns_range h with ⟨g, cap, rfl, _, hg, _, _, hr⟩ | ⟨rfl, hn, _⟩
  · exact .inl ⟨g, 0, cap, rfl, hg, hr⟩
  · exact .inr ⟨rfl, List.eq_nil_of_length_eq_zero hn⟩
theorem OwnB.val {base : Nat} {w : World} {v : Value} {L : List UInt8} (h : OwnB base w v L) : ∃ ao cap, v = .slice ao L.length cap ∧ L.length ≤ cap := by
  rcases owns_range h with ⟨g, cap, rfl, _, hg, hc, _, hr⟩ | ⟨rfl, hn, _⟩
  · exact ⟨_, _, rfl, hc⟩
  · exact ⟨_, _, by rw [hn], by omega⟩
/-- Bytes that lie in a new block are appended. -/
theorem app_new (base : Nat) (w : World) (v : Value) (L N : List UInt8) (hown : OwnB base w v L) (hb : base ≤ w.heap.size) (hl : L.length + N.length ≤ 10000000) :
    ∃ v' w', (Builtin.append_ #[22, 22] 22 #[v, .slice (some ⟨w.heap.size, 0, none⟩) N.length N.length]).run Tryz.prog (w.alloc (.cells (bvA N) 5)) = .ok v' w' ∧ OwnB base w' v' (L ++ N) ∧ AppB w v w' v' := by
  have hs0 : base ≤ (w.alloc (.cells (bvA N) 5)).heap.size := by rw [size_alloc]; omega
  obtain ⟨v', w', hrun, ho, hk, hor⟩ := own_app elemByte 22 (w.alloc (.cells (bvA N) 5)) base v L.length (bv L) (World.ownsRow.alloc hown _) ⟨w.heap.size, 0, none⟩ N.length N.length (bv N) (by rw [bv_length]; omega)
    (fun j u hu => by
      rw [Addr.add_mid, Nat.zero_add, cell_of_row _ _ j _ _ _ (heap_alloc_last w _)]
      simpa [bvA] using hu) (bv_one _) (by unfold maxLen; omega) (by omega) hs0
  refine ⟨v', w', hrun, ?_, ?_⟩
  · unfold OwnB
    rw [List.length_append, show bv (L ++ N) = bv L ++ bv N by simp [bv]]
    exact ho
  · refine AppB.pre (Kept.alloc [] w (.cells (bvA N) 5)) ⟨hk, ?_⟩
    rcases hor with e | e
    · exact .inl e
    · exact .inr ⟨_, e, Nat.le_refl _⟩
theorem AppB.below {base : Nat} {w w' : World} {v v' : Value} {L : List UInt8} (h : AppB w v w' v') (ho : OwnB base w v L) (hb : base ≤ w.heap.size) : Below base w w' :=
  h.kept.below hb fun q hq => (World.ownsRow.lt ho q (by simpa using hq)).1
theorem AppB.into {base : Nat} {w0 w w' : World} {v v' : Value} {L : List UInt8} (hk : Kept [] w0 w) (h : AppB w v w' v') (ho : OwnB base w v L) (hb : w0.heap.size ≤ base) : Kept [] w0 w' :=
  hk.into h.kept fun q hq => by have := (World.ownsRow.lt ho q (by simpa using hq)).1; omega
theorem own_made (w : World) (N : List UInt8) (base : Nat) (hb : base ≤ w.heap.size) (hN : N.length ≤ 1000) : OwnB base (w.alloc (.cells (bvA N) 5)) (.slice (some ⟨w.heap.size, 0, none⟩) N.length N.length) N :=
  ⟨by rw [bv_length]; omega, .inr ⟨w.heap.size, N.length, bvA N, rfl, hb, heap_alloc_last _ _, Nat.le_refl _, by unfold maxLen; omega, by rw [bvA_size]; omega, by rw [bvA_toList, List.take_of_length_le (by rw [bv_length]; omega)]⟩⟩
theorem OwnB.drew {base : Nat} {w : World} {v : Value} {L : List UInt8} (h : OwnB base w v L) : OwnB base w.drew v L := h.kept (Kept.drew [] w) (by simp)
theorem below_new (w : World) (o : Obj) : Below w.heap.size w.drew (w.alloc o).drew := (show Kept [] w.drew (w.alloc o).drew from Kept.alloc [] w.drew o).below (Nat.le_refl _) (by simp)
/-- A slice's capacity is no less than its length. -/
def CapOk (v : Value) : Prop := ∃ ao n c, v = .slice ao n c ∧ n ≤ c ∧ c ≤ 9223372036854775807
theorem wp_append_run {P : Program} {o : Oper} {a : Act} {w w' : World} {K : Act → World → Prop} {Q : Exit → Act → World → Prop} (s x : Operand) (t : TypeId)
    (ho : o.op = .call { callee := .builtin .append, args := #[s, x], argTypes := #[t, t] }) (u v r : Value) (hs : a.eval s = u) (hx : a.eval x = v)
    (hrun : (Builtin.append_ #[t, t] o.type #[u, v]).run P w = .ok r w') (h : K (a.put o.dst r) w') : o.wp P a w K Q := by
  unfold Oper.wp execOp
  simp only [ho, resolve, invoke, builtin, Sem.run_bind, Sem.run_pure, Result.andThen_ok, List.map_toArray, List.map_cons, List.map_nil, hs, hx, hrun]
  exact h
theorem bytesRow_get (p : List UInt8) (cap : Nat) : ∀ (j : Nat) (u : Value), (bv p)[j]? = some u → (bytesRow (strL p) cap)[j]? = some u := by
  intro j u hu
  have hj : j < p.length := by have := (List.getElem?_eq_some_iff.1 hu).1; simpa [bv] using this
  unfold bytesRow
  rw [Array.getElem?_append_left (by simp [strL]; exact hj)]
  simpa [strL, bv] using hu
theorem app_newB (base : Nat) (w : World) (v : Value) (L N : List UInt8) (hown : OwnB base w v L) (hb : base ≤ w.heap.size) (hl : L.length + N.length ≤ 10000000) :
    ∃ v' w', (Builtin.append_ #[22, 22] 22 #[v, .slice (some ⟨w.heap.size, 0, none⟩) N.length N.length]).run Tryz.prog (w.alloc (.cells (bvA N) 5)) = .ok v' w' ∧ OwnB base w' v' (L ++ N) ∧ AppB w v w' v' ∧ Below base (w.alloc (.cells (bvA N) 5)) w' := by
  have hs0 : base ≤ (w.alloc (.cells (bvA N) 5)).heap.size := by rw [size_alloc]; omega
  obtain ⟨v', w', hrun, ho, hk, hor⟩ := own_app elemByte 22 (w.alloc (.cells (bvA N) 5)) base v L.length (bv L) (World.ownsRow.alloc hown _) ⟨w.heap.size, 0, none⟩ N.length N.length (bv N) (by rw [bv_length]; omega)
    (fun j u hu => by
      rw [Addr.add_mid, Nat.zero_add, cell_of_row _ _ j _ _ _ (heap_alloc_last w _)]
      simpa [bvA] using hu) (bv_one _) (by unfold maxLen; omega) (by omega) hs0
  refine ⟨v', w', hrun, ?_, ?_, hk.below hs0 fun q hq => (World.ownsRow.lt hown q (by simpa using hq)).1⟩
  · unfold OwnB
    rw [List.length_append, show bv (L ++ N) = bv L ++ bv N by simp [bv]]
    exact ho
  · refine AppB.pre (Kept.alloc [] w (.cells (bvA N) 5)) ⟨hk, ?_⟩
    rcases hor with e | e
    · exact .inl e
    · exact .inr ⟨_, e, Nat.le_refl _⟩
/-- A string's bytes, made a row of their own, are appended. -/
theorem app_str (base : Nat) (w : World) (v : Value) (L p : List UInt8) (hown : OwnB base w v L) (hb : base ≤ w.heap.size) (hl : L.length + p.length ≤ 10000000) (o : Obj) (cap c2 : Nat) (m : Nat × Nat)
    (ho : o = .cells (bytesRow (strL p) cap) 5 m) :
    ∃ v' w', (Builtin.append_ #[22, 22] 22 #[v, .slice (some ⟨w.heap.size, 0, none⟩) p.length c2]).run Tryz.prog (w.alloc o) = .ok v' w' ∧ OwnB base w' v' (L ++ p) ∧ AppB w v w' v' := by
  have hs0 : base ≤ (w.alloc o).heap.size := by rw [size_alloc]; omega
  obtain ⟨v', w', hrun, hw, hk, hor⟩ := own_app elemByte 22 (w.alloc o) base v L.length (bv L) (World.ownsRow.alloc hown _) ⟨w.heap.size, 0, none⟩ p.length c2 (bv p) (by rw [bv_length]; omega)
    (fun j u hu => by
      have hh := heap_alloc_last w o
      rw [ho] at hh
      rw [Addr.add_mid, Nat.zero_add, ho]
      simp only [World.cell?, hh]
      exact bytesRow_get p cap j u hu) (bv_one _) (by unfold maxLen; omega) (by omega) hs0
  refine ⟨v', w', hrun, ?_, ?_⟩
  · unfold OwnB
    rw [List.length_append, show bv (L ++ p) = bv L ++ bv p by simp [bv]]
    exact hw
  · refine AppB.pre (Kept.alloc [] w o) ⟨hk, ?_⟩
    rcases hor with e | e
    · exact .inl e
    · exact .inr ⟨_, e, Nat.le_refl _⟩
theorem OwnB.cap {base : Nat} {w : World} {v : Value} {L : List UInt8} (h : OwnB base w v L) : CapOk v := by
  rcases owns_range h with ⟨g, cap, rfl, _, hg, hc, hm, hr⟩ | ⟨rfl, hn, _⟩
  · exact ⟨_, _, _, rfl, hc, by unfold maxLen at hm; omega⟩
  · exact ⟨_, _, _, rfl, by omega, by omega⟩
theorem less_tri : ∀ p q : List UInt8, lessB p q = !(lessB q p || decide (q = p))
  | [], [] => rfl
  | [], b :: y => by simp [lessB, Op.bytesLess]
  | a :: x, [] => by simp [lessB, Op.bytesLess]
  | a :: x, b :: y => by
    have ih := less_tri x y
    unfold lessB at ih ⊢
    simp only [Op.bytesLess, ih, List.cons.injEq]
    rcases (by have h1 := UInt8.lt_iff_toNat_lt (a := a) (b := b); have h2 := UInt8.lt_iff_toNat_lt (a := b) (b := a); have h3 := UInt8.toNat_inj (a := a) (b := b); rw [h1, h2, ← h3]; omega : a < b ∨ b < a ∨ a = b) with h | h | h
    · have h1 : ¬ b < a := by rw [UInt8.lt_iff_toNat_lt] at h ⊢; omega
      have h2 : ¬ b = a := fun e => by subst e; exact absurd h (UInt8.lt_irrefl _)
      simp [h, h1, h2]
    · have h1 : ¬ a < b := by rw [UInt8.lt_iff_toNat_lt] at h ⊢; omega
      have h2 : ¬ a = b := fun e => by subst e; exact absurd h (UInt8.lt_irrefl _)
      simp [h, h1, h2]
    · subst h
      simp [UInt8.lt_irrefl]
theorem below_cell {base : Nat} {w w' : World} {b o : Nat} {v : Value} (h : Below base w w') (hb : b < base) (hc : w.cell? ⟨b, o, none⟩ = some v) : w'.cell? ⟨b, o, none⟩ = some v := by
  have := h.block b hb
  simp only [World.cell?, this] at hc ⊢
  exact hc
/-- A slice of bytes that came in. -/
structure ArgB (w : World) (ao : Option Addr) (len cap : Nat) (B : List UInt8) : Prop where
  hlen : B.length = len
  hle : len ≤ 140737488355328
  hcap : len ≤ cap
  cap63 : cap ≤ 9223372036854775807
  hnil : ao = none → cap = 0
  at' : len = 0 ∨ ∃ b o, ao = some ⟨b, o, none⟩ ∧ b < w.heap.size ∧ w.rangeAt b o (bv B)
theorem ArgB.kept {w w' : World} {ao : Option Addr} {len cap : Nat} {B : List UInt8} (h : ArgB w ao len cap B) (hk : Kept [] w w') : ArgB w' ao len cap B := by
  refine ⟨h.hlen, h.hle, h.hcap, h.cap63, h.hnil, ?_⟩
  rcases h.at' with h0 | ⟨b, o, e, hb, hr⟩
  · exact .inl h0
  · exact .inr ⟨b, o, e, Nat.lt_of_lt_of_le hb hk.size, hk.range hb (by simp) hr⟩
theorem ArgB.conv {w : World} {ao : Option Addr} {len cap : Nat} {B : List UInt8} (h : ArgB w ao len cap B) : ConvIs w (.slice ao len cap) B := by
  rcases h.at' with h0 | ⟨b, o, rfl, hb, hr⟩
  · have hB : B = [] := List.eq_nil_of_length_eq_zero (by rw [h.hlen, h0])
    rw [hB, h0]
    exact conv_empty w ao cap h.hnil
  · have := h.hlen
    subst this
    exact (show SlIs w (.slice (some ⟨b, o, none⟩) B.length cap) B from .inl ⟨b, o, cap, rfl, hb, hr⟩).conv
end Go.Proofs.YtiedoocgbajjjaaGreatDoor

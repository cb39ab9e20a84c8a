/-
  Plain facts for layer 3: what stays, rows of bytes and of numbers, two bytes as a number. Nothing of the program's own code is named here.
  Conditions: none beyond those that each theorem states.
-/
import Derived.Test.YtlbenaodpfhjeaaOrder
import Derived.Deep.QuietTactic
import Derived.BigQuiet
import Derived.Lib.BufferWrite
import Derived.Laws.AppendOwn
import Derived.Laws.Append
namespace Go.Proofs.Ytlbenaodpfhjeaa
open Go.RowKit Go.Maps

theorem Kept.setNew {w wr : World} (h : Kept [] w wr) (p : Addr) (v : Value) (hp : w.heap.size ≤ p.block) : Kept [] w (wr.setCell p v) :=
  h.into (Kept.setCell [p.block] wr p v (by simp)) (by simpa using hp)
theorem Kept.drewNew {w wr : World} (h : Kept [] w wr) : Kept [] w wr.drew := h.trans (Kept.drew _ _)
theorem Kept.allocNew {w wr : World} (h : Kept [] w wr) (o : Obj) : Kept [] w (wr.alloc o) := h.trans (Kept.alloc _ _ _)
theorem Kept.drewN (ex : List Nat) (w : World) (n : Nat) : Kept ex w (w.drewN n) := ⟨rfl, rfl, rfl, Nat.le_refl _, fun _ _ _ => rfl⟩
def Drawn (w w' : World) : Prop := ∃ n, w' = w.drewN n
theorem Drawn.kept {w w' : World} (h : Drawn w w') : Kept [] w w' := by obtain ⟨n, rfl⟩ := h; exact Kept.drewN _ _ _
theorem Drawn.size {w w' : World} (h : Drawn w w') : w'.heap.size = w.heap.size := by obtain ⟨n, rfl⟩ := h; rfl
theorem Drawn.heap {w w' : World} (h : Drawn w w') : w'.heap = w.heap := by obtain ⟨n, rfl⟩ := h; rfl
theorem Drawn.more {w w' : World} (h : Drawn w w') (n : Nat) : Drawn w (w'.drewN n) := by obtain ⟨m, rfl⟩ := h; exact ⟨m + n, by rw [World.drewN_drewN]⟩
theorem size_alloc (w : World) (o : Obj) : (w.alloc o).heap.size = w.heap.size + 1 := by simp

/-- Numbers as the cells that hold them. -/
def iv (l : List Int) : List Value := l.map fun c => Value.int .i64 c
def ivA (l : List Int) : Array Value := (iv l).toArray
theorem iv_length (l : List Int) : (iv l).length = l.length := by simp [iv]
theorem ivA_size (l : List Int) : (ivA l).size = l.length := by simp [ivA, iv]
theorem ivA_toList (l : List Int) : (ivA l).toList = iv l := by simp [ivA]
theorem iv_one (l : List Int) : ∀ v ∈ iv l, v.oneCell' = true := by
  intro v hv
  simp [iv] at hv
  obtain ⟨c, _, rfl⟩ := hv
  rfl
theorem ivA_set (l : List Int) (k : Nat) (c : Int) : (ivA l).setIfInBounds k (.int .i64 c) = ivA (l.set k c) := by
  apply Array.toList_inj.1
  simp [ivA, iv, List.map_set]

/-- A slice of numbers: its address and its length, and what it reads as. -/
def IntsIs (w : World) (ao : Option Addr) (len : Nat) (l : List Int) : Prop :=
  l.length = len ∧ len ≤ 4611686018427387904 ∧ (len = 0 ∨ ∃ b o, ao = some ⟨b, o, none⟩ ∧ b < w.heap.size ∧ w.rangeAt b o (iv l))
theorem IntsIs.kept {w w' : World} {ao : Option Addr} {len : Nat} {l : List Int} (h : IntsIs w ao len l) (hk : Kept [] w w') : IntsIs w' ao len l := by
  obtain ⟨h1, h2, h3⟩ := h
  refine ⟨h1, h2, ?_⟩
  rcases h3 with h3 | ⟨b, o, rfl, hb, hr⟩
  · exact .inl h3
  · exact .inr ⟨b, o, rfl, Nat.lt_of_lt_of_le hb hk.size, hk.range hb (by simp) hr⟩
theorem IntsIs.cell {w : World} {ao : Option Addr} {len : Nat} {l : List Int} (h : IntsIs w ao len l) (hne : 0 < len) : ∃ b o, ao = some ⟨b, o, none⟩ ∧ b < w.heap.size ∧ ∀ k (hk : k < len), w.cell? ⟨b, o + k, none⟩ = some (.int .i64 (l[k]'(by rw [h.1]; exact hk))) := by
  obtain ⟨h1, h2, h3⟩ := h
  rcases h3 with h3 | ⟨b, o, rfl, hb, hr⟩
  · omega
  · exact ⟨b, o, rfl, hb, fun k hk => hr k _ (by simp [iv, show k < l.length by omega])⟩

def hiB (n : Nat) : UInt8 := UInt8.ofNat (n / 256)
def loB (n : Nat) : UInt8 := UInt8.ofNat n
theorem hiB_val (n : Nat) : (n : Int) / 256 % 256 = ((hiB n).toNat : Int) := by
  simp [hiB]
theorem loB_val (n : Nat) : (n : Int) % 256 = ((loB n).toNat : Int) := by
  simp [loB]

theorem cell_bvA {w : World} {h : Nat} {l : List UInt8} {t : TypeId} (hh : w.heap[h]? = some (.cells (bvA l) t)) (k : Nat) (hk : k < l.length) : w.cell? ⟨h, k, none⟩ = some (.int .u8 (l[k].toNat : Int)) := by
  rw [cell_of_row w h k _ _ _ hh]
  simp [bvA, bv, hk]

theorem bits_or_i64_nat (a b : Nat) (ha : a < 9223372036854775808) (hb : b < 9223372036854775808) :
    bits .or .i64 (a : Int) (b : Int) = ((a ||| b : Nat) : Int) := by
  have hx : a ||| b < 2 ^ 63 := Nat.or_lt_two_pow (by omega) (by omega)
  have h1 : (BitVec.ofInt 64 (a : Int)).toNat = a := by
    rw [BitVec.ofInt_natCast, BitVec.toNat_ofNat]; exact Nat.mod_eq_of_lt (by omega)
  have h2 : (BitVec.ofInt 64 (b : Int)).toNat = b := by
    rw [BitVec.ofInt_natCast, BitVec.toNat_ofNat]; exact Nat.mod_eq_of_lt (by omega)
  show IntKind.i64.wrap ((BitVec.ofInt 64 (a : Int) ||| BitVec.ofInt 64 (b : Int)).toNat : Int) = _
  rw [BitVec.toNat_or, h1, h2, IntKind.wrap_i64]
  omega
theorem or_low (k a b : Nat) (hb : b < 2 ^ k) : a * 2 ^ k ||| b = a * 2 ^ k + b := by
  rw [Nat.mul_comm, Nat.two_pow_add_eq_or_of_lt hb]
theorem or_byte (x : Nat) (y : UInt8) (hx : x < 256) : bits .or .i64 ((x : Int) * 256) (y.toNat : Int) = ((256 * x + y.toNat : Nat) : Int) := by
  have hy := UInt8.toNat_lt y
  have := bits_or_i64_nat (x * 256) y.toNat (by omega) (by omega)
  rw [Int.natCast_mul] at this
  rw [show ((256 : Nat) : Int) = 256 from rfl] at this
  rw [this, or_low 8 x y.toNat hy]
  congr 1
  omega

theorem setRow_kept (w : World) (g : Nat) (cs : Array Value) : Kept [g] w (w.setRow g cs) := by
  refine ⟨rfl, rfl, rfl, by simp [World.setRow], fun k hk hn => ?_⟩
  simp only [World.setRow]
  rw [Array.getElem?_modify]
  rw [if_neg (by simp at hn; omega)]

theorem load_row {P : Program} (w : World) (b o n : Nat) (L : List UInt8) (hr : w.rangeAt b o (bv L)) (hn : L.length = n) : (loadCellsFrom ⟨b, o, none⟩ 0 n #[]).run P w = .ok (bvA L) w := by
  subst hn
  have := run_loadCells_list (P := P) w ⟨b, o, none⟩ (bv L) (fun j v hv => by rw [Addr.add_mid]; exact hr j v hv)
  simpa [loadCells, bv_length, bvA] using this
theorem store_row {P : Program} (w : World) (b : Nat) (t : TypeId) (cur L : List UInt8) (hg : w.heap[b]? = some (.cells (bvA cur) t)) (hl : L.length = cur.length) :
    (storeCells ⟨b, 0, none⟩ (bvA L).toList 0).run P w = .ok () (w.setRow b (bvA L)) := by
  rw [bvA_toList, run_storeCells_at P b 0 t (bv L) 0 (bvA cur) w hg (by rw [bvA_size, bv_length]; omega) (bv_one L), bvA_toList, bv_length, hl]
  simp only [Nat.add_zero, Nat.zero_add, List.take_zero, List.nil_append]
  rw [List.drop_of_length_le (by rw [bv_length]; omega), List.append_nil]
  rfl
theorem range_row {w : World} {b : Nat} {L : List UInt8} {t : TypeId} (h : w.heap[b]? = some (.cells (bvA L) t)) : w.rangeAt b 0 (bv L) := fun j v hv => by
  rw [Nat.zero_add, cell_of_row w b j _ _ _ h]
  simpa [bvA] using hv

/-- A whole row of bytes is stored, at the operation. -/
theorem wpList_store_row {P : Program} {ops : Array Oper} {rest : List Oper} {op : Oper} {a : Act} {w : World} {Q : Exit → Act → World → Prop} (hgd : op.guard = none) (ty : TypeId) (x y : Operand) (ho : op.op = .store ty x y)
    (b : Nat) (t : TypeId) (cur L : List UInt8) (hx : a.eval x = .pointer (some ⟨b, 0, none⟩)) (hy : a.eval y = .agg (bvA L)) (hg : w.heap[b]? = some (.cells (bvA cur) t)) (hl : L.length = cur.length)
    (hi : (P.info? ty).map (·.size) = some L.length)
    (h : wpList P ops Q rest (a.put op.dst undef) (w.setRow b (bvA L))) : wpList P ops Q (op :: rest) a w := by
  refine wpList_plain hgd fun _ hK => ?_
  have hst := store_row (P := P) w b t cur L hg hl
  unfold Oper.wp execOp
  cases hq : P.info? ty with
  | none => simp [hq] at hi
  | some i =>
    have hs : (bvA L).size = i.size := by rw [bvA_size]; simp [hq] at hi; omega
    have : (storeVar ty ⟨b, 0, none⟩ (.agg (bvA L))).run P w = .ok () (w.setRow b (bvA L)) := by
      simp [storeVar, sizeOf, typeInfo, hq, Value.cells, hs, hst]
    simp only [ho, hx, hy, Instr.storeAt, Instr.sureAddr, Sem.run_bind, Sem.run_pure, Result.andThen_ok, this]
    exact hK _ _ h

/-- An append, or a copy, whose run is known. -/
theorem wpList_append_run {P : Program} {ops : Array Oper} {rest : List Oper} {o : Oper} {a : Act} {w w' : World} {Q : Exit → Act → World → Prop} (hgd : o.guard = none) (s x : Operand) (t : TypeId)
    (ho : o.op = .call { callee := .builtin .append, args := #[s, x], argTypes := #[t, t] }) (u v r : Value) (hs : a.eval s = u) (hx : a.eval x = v)
    (hrun : (Builtin.append_ #[t, t] o.type #[u, v]).run P w = .ok r w') (h : wpList P ops Q rest (a.put o.dst r) w') : wpList P ops Q (o :: rest) a w := by
  refine wpList_plain hgd fun _ hK => ?_
  unfold Oper.wp execOp
  simp only [ho, resolve, invoke, builtin, Sem.run_bind, Sem.run_pure, Result.andThen_ok, List.map_toArray, List.map_cons, List.map_nil, hs, hx, hrun]
  exact hK _ _ h
theorem wpList_copy_run {P : Program} {ops : Array Oper} {rest : List Oper} {o : Oper} {a : Act} {w w' : World} {Q : Exit → Act → World → Prop} (hgd : o.guard = none) (s x : Operand) (t t2 : TypeId)
    (ho : o.op = .call { callee := .builtin .copy, args := #[s, x], argTypes := #[t, t2] }) (u v r : Value) (hs : a.eval s = u) (hx : a.eval x = v)
    (hrun : (Builtin.copy_ #[t, t2] o.type #[u, v]).run P w = .ok r w') (h : wpList P ops Q rest (a.put o.dst r) w') : wpList P ops Q (o :: rest) a w := by
  refine wpList_plain hgd fun _ hK => ?_
  unfold Oper.wp execOp
  simp only [ho, resolve, invoke, builtin, Sem.run_bind, Sem.run_pure, Result.andThen_ok, List.map_toArray, List.map_cons, List.map_nil, hs, hx, hrun]
  exact hK _ _ h

/-- What a slice's type asks of an append. -/
structure ElemOk (P : Program) (t e : TypeId) (z : Value) (size bytes : Nat) : Prop where
  ht : P.underlying t = some (.slice e)
  info : (P.info? e).map (fun i => (i.zero, i.size, i.bytes)) = some (some z, size, bytes)
  zs : z.cells.size = size
  sz : 0 < size

/-- An append to a row that the call owns: it lies where it lay, or is new. -/
theorem own_app {P : Program} {t e : TypeId} {z : Value} {size bytes : Nat} (E : ElemOk P t e z size bytes) (ty : TypeId) (w : World) (base : Nat) (v : Value) (n : Nat) (xs : List Value) (hown : w.ownsRow base e size v n xs)
    (ad : Addr) (m c : Nat) (news : List Value) (hl : news.length = m * size) (hnews : ∀ j u, news[j]? = some u → w.cell? (ad.add j) = some u) (h1 : ∀ u ∈ news, u.oneCell' = true)
    (h63 : n + m ≤ maxLen) (hbytes : (n + m) * bytes ≤ 140737488355328) (hbase : base ≤ w.heap.size) :
    ∃ v' w', (Builtin.append_ #[t, t] ty #[v, .slice (some ad) m c]).run P w = .ok v' w' ∧ w'.ownsRow base e size v' (n + m) (xs ++ news) ∧ Kept v.ownBlock.toList w w' ∧ (v'.ownBlock = v.ownBlock ∨ v'.ownBlock = some w.heap.size) := by
  obtain ⟨i, hi, hz, hs, hb⟩ := info_parts E.info
  obtain ⟨v', w', hr, ho, hg, hiff⟩ := run_append_own (P := P) w base t ty e i z size bytes E.ht hi hz hs hb E.zs E.sz v n xs hown ad m c news hl hnews h1 h63 hbytes hbase
  refine ⟨v', w', hr, ho, Kept.grown hg (fun k hk => by simp [hk]), ?_⟩
  have hsmall : n + m ≤ 9223372036854775807 := by simp only [maxLen] at h63; omega
  subst hs
  subst hb
  rcases hown.2 with ⟨rfl, rfl⟩ | ⟨g, cap, cur, rfl, hbg, hgg, hnc, hcm, hcs, htake⟩
  · by_cases hm : m = 0
    · left
      rw [hiff.2 ⟨rfl, hm⟩]
    · right
      have hr2 := run_append_nil (P := P) w t ty e i z E.ht hi hz ad m c news hl hnews (by omega) (by omega) (by have hb := hbytes; simp only [Nat.zero_add] at hb; omega)
      rw [hr2] at hr
      injection hr with h2 h3
      rw [← h2]
      rfl
  · by_cases hroom : n + m ≤ cap
    · left
      have hfit : n * i.size + news.length ≤ cur.size := by rw [hl, hcs, ← Nat.add_mul]; exact Nat.mul_le_mul_right _ hroom
      have hr2 := run_append_room (P := P) w t ty e i E.ht hi g n cap cur hgg ad m c news hl hnews h1 hroom hfit
      rw [hr2] at hr
      injection hr with h2 h3
      rw [← h2]
      rfl
    · right
      have holds : ∀ j u, xs[j]? = some u → w.cell? ((⟨g, 0, none⟩ : Addr).add j) = some u := hown.cells (g := g) rfl
      have hr2 := run_append_grow (P := P) w t ty e i z E.ht hi hz ⟨g, 0, none⟩ n cap xs hown.1 holds ad m c news hl hnews (by omega) (by omega) (growslice_fits (by omega) hbytes)
      rw [hr2] at hr
      injection hr with h2 h3
      rw [← h2]
      rfl

/-- An owned row stays one while others change. -/
theorem owns_kept {w w' : World} {ex : List Nat} {base : Nat} {e : TypeId} {size : Nat} {v : Value} {n : Nat} {xs : List Value} (h : w.ownsRow base e size v n xs) (hk : Kept ex w w') (hne : ∀ k, v.ownBlock = some k → k ∉ ex) : w'.ownsRow base e size v n xs := by
  obtain ⟨h1, h2 | ⟨g, cap, cur, rfl, hb, hg, r⟩⟩ := h
  · exact ⟨h1, .inl h2⟩
  · exact ⟨h1, .inr ⟨g, cap, cur, rfl, hb, hk.heap (hne g rfl) hg, r⟩⟩
/-- What an owned row reads as. -/
theorem owns_range {w : World} {base : Nat} {e : TypeId} {v : Value} {n : Nat} {xs : List Value} (h : w.ownsRow base e 1 v n xs) : (∃ g cap, v = .slice (some ⟨g, 0, none⟩) n cap ∧ base ≤ g ∧ g < w.heap.size ∧ n ≤ cap ∧ cap ≤ maxLen ∧ w.rangeAt g 0 xs) ∨ (v = .slice none 0 0 ∧ n = 0 ∧ xs = []) := by
  obtain ⟨h1, ⟨rfl, h2⟩ | ⟨g, cap, cur, rfl, hb, hg, hc1, hc2, hcs, htk⟩⟩ := h
  · exact .inr ⟨rfl, h2, List.eq_nil_of_length_eq_zero (by rw [h1, h2])⟩
  · refine .inl ⟨g, cap, rfl, hb, (Array.getElem?_eq_some_iff.1 hg).1, hc1, hc2, fun q u hu => ?_⟩
    rw [← htk] at hu
    have hq : q < n * 1 := by
      have := (List.getElem?_eq_some_iff.1 hu).1
      simp at this; omega
    rw [List.getElem?_take_of_lt hq] at hu
    rw [Nat.zero_add, cell_of_row w g q _ _ _ hg]
    simpa using hu
theorem Kept.own {w0 w w' : World} {base : Nat} {e : TypeId} {size : Nat} {v : Value} {n : Nat} {xs : List Value} (hk : Kept [] w0 w) (hown : w.ownsRow base e size v n xs) (hb : w0.heap.size ≤ base) (hk2 : Kept v.ownBlock.toList w w') : Kept [] w0 w' :=
  hk.into hk2 fun q hq => by
    have := (hown.lt q (by simpa using hq)).1
    omega

end Go.Proofs.Ytlbenaodpfhjeaa

/-
  What the calls of the document's own disk (package majordomoref01) do.
  Conditions: fewer than 2^62 writes so far.
-/
import Derived.Test.YthhcopipamjelaaShown
import Derived.Test.YthhcopipamjelaaOrder
import Derived.Laws.CopyRow
import Derived.Laws.Append
namespace Go.Proofs.Ythhcopipamjelaa
open Go.RowKit Go.Maps

structure RefS where
  rb : Nat
  rcap : Nat
  n : Nat
  off : Bool
  burns : Bool
  left : Int
  cnt : Int
  rows : List Value
  blk : Int → List UInt8

def RefS.cells (R : RefS) : Array Value := #[.slice (some ⟨R.rb, 0, none⟩) R.n R.rcap, .bool R.off, .bool R.burns, .int .i64 R.left, .int .i64 R.cnt]

/-- A block of the document's disk: none yet (noughts), or 64 bytes of its own. -/
def RowIs (w : World) (v : Value) (l : List UInt8) : Prop :=
  (v = .slice none 0 0 ∧ l = zeroL) ∨ ∃ b cap cs, v = .slice (some ⟨b, 0, none⟩) 64 cap ∧ w.heap[b]? = some (.cells cs 5) ∧ w.rangeAt b 0 (bv l) ∧ l.length = 64

structure IsRef (w : World) (a : Nat) (R : RefS) : Prop where
  here : w.heap[a]? = some (.cells R.cells 55)
  row : ∃ rest : List Value, w.heap[R.rb]? = some (.cells (R.rows ++ rest).toArray 36)
  len : R.rows.length = R.n
  each : ∀ j (hj : j < R.rows.length), RowIs w R.rows[j] (R.blk j)
  n1 : 1 ≤ R.n
  n2 : R.n ≤ 4096
  c0 : 0 ≤ R.cnt

/-- No block of the disk lies in memory block b. -/
def RefS.avoids (R : RefS) (b : Nat) : Prop := ∀ v ∈ R.rows, ∀ o n c, v ≠ .slice (some ⟨b, o, none⟩) n c

theorem RowIs.kept {w w' : World} {v : Value} {l : List UInt8} (h : RowIs w v l) {ex : List Nat} (hk : Kept ex w w') (hx : ∀ b ∈ ex, ∀ o n c, v ≠ .slice (some ⟨b, o, none⟩) n c) : RowIs w' v l := by
  rcases h with h | ⟨b, cap, cs, rfl, hb, hr, hl⟩
  · exact .inl h
  · have hn : b ∉ ex := fun hm => hx b hm _ _ _ rfl
    exact .inr ⟨b, cap, cs, rfl, hk.heap hn hb, hk.range (Array.getElem?_eq_some_iff.1 hb).1 hn hr, hl⟩

theorem IsRef.lt {w : World} {a : Nat} {R : RefS} (h : IsRef w a R) : a < w.heap.size := (Array.getElem?_eq_some_iff.1 h.here).1
theorem IsRef.rlt {w : World} {a : Nat} {R : RefS} (h : IsRef w a R) : R.rb < w.heap.size := by
  obtain ⟨rest, hr⟩ := h.row
  exact (Array.getElem?_eq_some_iff.1 hr).1

theorem IsRef.kept {w w' : World} {a : Nat} {R : RefS} (h : IsRef w a R) {ex : List Nat} (hk : Kept ex w w') (ha : a ∉ ex) (hr : R.rb ∉ ex) (hx : ∀ b ∈ ex, R.avoids b) : IsRef w' a R := by
  obtain ⟨rest, hrow⟩ := h.row
  exact ⟨hk.heap ha h.here, ⟨rest, hk.heap hr hrow⟩, h.len, fun j hj => (h.each j hj).kept hk (fun b hb => hx b hb _ (List.getElem_mem _)), h.n1, h.n2, h.c0⟩

/-- A block that holds no bytes is none of the disk's. -/
theorem IsRef.avoids {w : World} {a : Nat} {R : RefS} (h : IsRef w a R) {b : Nat} (hb : ∀ cs, w.heap[b]? ≠ some (.cells cs 5)) : R.avoids b := by
  intro v hv o n c he
  obtain ⟨j, hj, rfl⟩ := List.getElem_of_mem hv
  rcases h.each j hj with ⟨h1, _⟩ | ⟨b', cap, cs, h1, h2, _⟩
  · rw [h1] at he; simp at he
  · rw [h1] at he
    simp at he
    obtain ⟨⟨rfl, _⟩, _⟩ := he
    exact hb cs h2
theorem IsRef.avoids_new {w : World} {a : Nat} {R : RefS} (h : IsRef w a R) {b : Nat} (hb : w.heap.size ≤ b) : R.avoids b :=
  h.avoids fun cs e => by
    have := (Array.getElem?_eq_some_iff.1 e).1
    omega

theorem IsRef.cell {w : World} {a : Nat} {R : RefS} (h : IsRef w a R) (j : Nat) : w.cell? ⟨a, j, none⟩ = R.cells[j]? := cell_of_row w a j _ _ _ h.here
theorem IsRef.free {w : World} {a : Nat} {R : RefS} (h : IsRef w a R) (j : Nat) : w.frozen? ⟨a, j, none⟩ = false := frozen_of_row w a j _ _ h.here
theorem IsRef.ne {w : World} {a : Nat} {R : RefS} (h : IsRef w a R) : R.rb ≠ a := fun e => by
  obtain ⟨rest, hr⟩ := h.row
  rw [e, h.here] at hr
  simp at hr

/-- A store into the struct. -/
theorem IsRef.set {w : World} {a : Nat} {R : RefS} (h : IsRef w a R) (j : Nat) (v : Value) (R' : RefS) (hc : R.cells.setIfInBounds j v = R'.cells) (h1 : R'.rb = R.rb) (h2 : R'.rows = R.rows) (h3 : R'.n = R.n) (h4 : R'.blk = R.blk) (c0 : 0 ≤ R'.cnt) :
    IsRef (w.setCell ⟨a, j, none⟩ v) a R' := by
  have hk := Kept.setCell [a] w ⟨a, j, none⟩ v (by simp)
  obtain ⟨rest, hrow⟩ := h.row
  have hav : R.avoids a := h.avoids fun cs e => by rw [h.here] at e; simp at e
  refine ⟨by rw [heap_setCell_same w a j _ _ v h.here, hc], ⟨rest, by rw [h1, h2]; exact hk.heap (by simpa using h.ne) hrow⟩, by rw [h2, h3]; exact h.len, ?_, by rw [h3]; exact h.n1, by rw [h3]; exact h.n2, c0⟩
  rw [h2, h4]
  exact fun j hj => (h.each j hj).kept hk (fun b hb => by simp at hb; subst hb; exact hav _ (List.getElem_mem _))

def RefS.reach (R : RefS) (i : Int) : Int := if R.off then 2 else if i < 0 ∨ (R.n : Int) ≤ i then 10 else 0

theorem infoRow : (Try.prog.info? 36).map (fun i => (i.zero, i.size, i.bytes)) = some (some (.slice none 0 0), 1, 24) := by kernel_rfl

def RefS.new (n rb : Nat) : RefS := ⟨rb, n, n, false, false, 0, 0, List.replicate n (.slice none 0 0), fun _ => zeroL⟩

theorem run_make_rows (w : World) (n : Nat) (h : n ≤ 4096) :
    (Instr.makeSlice 53 (.int .i64 (n : Int)) (.int .i64 (n : Int))).run Try.prog w = .ok (.slice (some ⟨w.heap.size, 0, none⟩) n n) (w.alloc (.cells (List.replicate n (Value.slice none 0 0)).toArray 36)) := by
  obtain ⟨i, hi', hz, hs, hb⟩ := info_parts infoRow
  have hr := run_make (P := Try.prog) w 53 36 i _ Try.underlying53 hi' hz .i64 .i64 n n (by omega) (Int.le_refl _) (by rw [hb]; omega) (by omega)
  rw [hr, hs]
  have e : (madeCells (Value.slice none 0 0).cells (n * 1)) = (List.replicate n (Value.slice none 0 0)).toArray := by
    apply Array.toList_inj.1
    rw [show (Value.slice none 0 0).cells = #[Value.slice none 0 0] from rfl, toList_madeCells_one]
    simp
  simp only [Int.toNat_natCast]
  rw [e]

set_option maxHeartbeats 400000 in
theorem rnew_ok (n : Nat) (w : World) (h0 : 1 ≤ n) (h1 : n ≤ 4096) :
    Calls Try.prog 10 #[.int .i64 (n : Int)] w fun e w' => e = .returned (.tuple #[.pointer (some ⟨w.heap.size + 1, 0, none⟩), .int .i64 0]) ∧ IsRef w' (w.heap.size + 1) (RefS.new n w.heap.size) ∧ Kept [] w w' := by
  have hmk := run_make_rows w n h1
  generalize hl : (List.replicate n (Value.slice none 0 0)) = L at hmk
  have HL := Lib.hid hl
  clear hl
  go_enter Try.func10, Try.ntmps10
  go_wp2
  go_ret2
  refine ⟨rfl, ⟨?_, ⟨[], ?_⟩, by simp [RefS.new], fun j hj => .inl ⟨by simp [RefS.new], rfl⟩, h0, h1, by simp [RefS.new]⟩, (Kept.alloc _ _ _).trans (Kept.alloc _ _ _)⟩
  · have := heap_alloc_last (w.alloc (.cells L.toArray 36)) (.cells (RefS.new n w.heap.size).cells 55)
    rw [show (w.alloc (.cells L.toArray 36)).heap.size = w.heap.size + 1 by simp] at this
    exact this
  · have := (Kept.alloc [] (w.alloc (.cells L.toArray 36)) (.cells (RefS.new n w.heap.size).cells 55)).heap (by simp) (heap_alloc_last w (.cells L.toArray 36))
    rw [← HL.out] at this ⊢
    show _ = some (Obj.cells (List.replicate n (Value.slice none 0 0) ++ []).toArray _ _)
    rw [List.append_nil]
    exact this

set_option maxHeartbeats 400000 in
theorem rnew_bad (n : Int) (w : World) (h0 : n < 1 ∨ 4096 < n) :
    Calls Try.prog 10 #[.int .i64 n] w fun e w' => e = .returned (.tuple #[.pointer none, .int .i64 1]) ∧ w = w' := by
  rcases h0 with h | h
  · go_enter Try.func10, Try.ntmps10
    go_wp2
    go_ret2
    exact ⟨rfl, rfl⟩
  · have h' : ¬ n < 1 := by omega
    go_enter Try.func10, Try.ntmps10
    go_wp2
    go_ret2
    exact ⟨rfl, rfl⟩

def RefS.fuse (R : RefS) (n : Int) : RefS := if R.off then R else { R with burns := decide (0 ≤ n), left := n }
def RefS.boot (R : RefS) : RefS := { R with off := false, burns := false }

set_option maxHeartbeats 400000 in
theorem rfuse_any (a : Nat) (R : RefS) (n : Int) (w : World) (h : IsRef w a R) :
    Calls Try.prog 19 #[.pointer (some ⟨a, 0, none⟩), .int .i64 n] w fun e w' => e = .returned (.tuple #[]) ∧ IsRef w' a (R.fuse n) ∧ Kept [a] w w' := by
  have c1 : w.cell? ⟨a, 1, none⟩ = some (.bool R.off) := h.cell 1
  have c2 : w.cell? ⟨a, 2, none⟩ = some (.bool R.burns) := h.cell 2
  have c3 : w.cell? ⟨a, 3, none⟩ = some (.int .i64 R.left) := h.cell 3
  have f2 := h.free 2
  have f3 := h.free 3
  have HF := Lib.hid h
  clear h
  cases ho : R.off
  · have HB : Hid (R.fuse n = { R with burns := decide (0 ≤ n), left := n }) := by show _ = _; unfold RefS.fuse; rw [ho]; rfl
    rw [ho] at c1
    clear ho
    go_enter Try.func19, Try.ntmps19
    go_wp2
    go_end0
    rw [HB.out]
    have h1 := HF.out
    exact ⟨rfl, (h1.set 2 _ { R with burns := decide (0 ≤ n) } rfl rfl rfl rfl rfl h1.c0).set 3 _ { R with burns := decide (0 ≤ n), left := n } rfl rfl rfl rfl rfl h1.c0, (Kept.setCell _ _ _ _ (by simp)).trans (Kept.setCell _ _ _ _ (by simp))⟩
  · have HB : Hid (R.fuse n = R) := by show _ = _; unfold RefS.fuse; rw [ho]; rfl
    rw [ho] at c1
    clear ho
    go_enter Try.func19, Try.ntmps19
    go_wp2
    go_end0
    rw [HB.out]
    exact ⟨rfl, HF.out, Kept.refl _ _⟩

set_option maxHeartbeats 400000 in
theorem rboot_any (a : Nat) (R : RefS) (w : World) (h : IsRef w a R) :
    Calls Try.prog 21 #[.pointer (some ⟨a, 0, none⟩)] w fun e w' => e = .returned (.tuple #[]) ∧ IsRef w' a R.boot ∧ Kept [a] w w' := by
  have c1 : w.cell? ⟨a, 1, none⟩ = some (.bool R.off) := h.cell 1
  have c2 : w.cell? ⟨a, 2, none⟩ = some (.bool R.burns) := h.cell 2
  have f1 := h.free 1
  have f2 := h.free 2
  have HF := Lib.hid h
  clear h
  go_enter Try.func21, Try.ntmps21
  go_wp2
  go_end0
  have h1 := HF.out
  exact ⟨rfl, (h1.set 1 _ { R with off := false } rfl rfl rfl rfl rfl h1.c0).set 2 _ R.boot rfl rfl rfl rfl rfl h1.c0, (Kept.setCell _ _ _ _ (by simp)).trans (Kept.setCell _ _ _ _ (by simp))⟩

theorem rreach_zero {R : RefS} {i : Int} (h : R.reach i = 0) : 0 ≤ i ∧ i < R.n ∧ R.off = false := by
  unfold RefS.reach at h
  split at h
  · cases h
  · split at h
    · cases h
    · rename_i h1 h2
      exact ⟨by omega, by omega, by simpa using h1⟩

set_option maxHeartbeats 400000 in
theorem rread_away (a : Nat) (R : RefS) (i : Int) (w : World) (h : IsRef w a R) (hr : R.reach i ≠ 0) :
    Calls Try.prog 29 #[.pointer (some ⟨a, 0, none⟩), .int .i64 i] w fun e w' => e = .returned (.tuple #[.slice none 0 0, .int .i64 (R.reach i)]) ∧ w = w' := by
  have c0 : w.cell? ⟨a, 0, none⟩ = some (.slice (some ⟨R.rb, 0, none⟩) R.n R.rcap) := h.cell 0
  have c1 : w.cell? ⟨a, 1, none⟩ = some (.bool R.off) := h.cell 1
  clear h
  cases ho : R.off
  · have hi : i < 0 ∨ (R.n : Int) ≤ i := by
      unfold RefS.reach at hr
      rw [ho] at hr
      simp at hr
      omega
    have HB : Hid (R.reach i = 10) := by show _ = _; unfold RefS.reach; rw [ho, if_neg (by simp), if_pos hi]
    rw [HB.out]
    rw [ho] at c1
    clear ho hr
    rcases hi with hi | hi
    · go_enter Try.func29, Try.ntmps29
      go_wp2
      go_ret2
      exact ⟨rfl, rfl⟩
    · have h0 : ¬ i < 0 := by omega
      go_enter Try.func29, Try.ntmps29
      go_wp2
      go_ret2
      exact ⟨rfl, rfl⟩
  · have HB : Hid (R.reach i = 2) := by show _ = _; unfold RefS.reach; rw [ho]; rfl
    rw [HB.out]
    rw [ho] at c1
    clear ho hr
    go_enter Try.func29, Try.ntmps29
    go_wp2
    go_ret2
    exact ⟨rfl, rfl⟩

set_option maxHeartbeats 400000 in
theorem rread_ok (a : Nat) (R : RefS) (i : Nat) (w : World) (h : IsRef w a R) (hr : R.reach i = 0) :
    Calls Try.prog 29 #[.pointer (some ⟨a, 0, none⟩), .int .i64 (i : Int)] w fun e w' => e = .returned (.tuple #[.slice (some ⟨w.heap.size, 0, none⟩) 64 64, .int .i64 0]) ∧ w' = w.alloc (.cells (bvA (R.blk i)) 5) := by
  obtain ⟨hi0, hi1, hoff⟩ := rreach_zero hr
  have hn2 := h.n2
  have hil : i < R.rows.length := by rw [h.len]; omega
  have c0 : w.cell? ⟨a, 0, none⟩ = some (.slice (some ⟨R.rb, 0, none⟩) R.n R.rcap) := h.cell 0
  have c1 : w.cell? ⟨a, 1, none⟩ = some (.bool false) := by rw [h.cell 1, ← hoff]; rfl
  have hmk : (Instr.makeSlice 36 (.int .i64 64) (.int .i64 64)).run Try.prog w = .ok (.slice (some ⟨w.heap.size, 0, none⟩) 64 64) (w.alloc (.cells (bvA (zerosL 64)) 5)) :=
    run_make_bytes (P := Try.prog) w 36 5 Try.underlying36 infoByte 64 (by omega) (by omega)
  obtain ⟨w1, hw1⟩ : ∃ w1, w1 = w.alloc (.cells (bvA (zerosL 64)) 5) := ⟨_, rfl⟩
  have hk1 : Kept [] w w1 := by rw [hw1]; exact Kept.alloc _ _ _
  obtain ⟨g, hg⟩ : ∃ g, g = w.heap.size := ⟨_, rfl⟩
  have h1 := h.kept hk1 (by simp) (by simp) (by simp)
  have c0' : w1.cell? ⟨a, 0, none⟩ = some (.slice (some ⟨R.rb, 0, none⟩) R.n R.rcap) := h1.cell 0
  obtain ⟨rest, hrow⟩ := h1.row
  obtain ⟨v, hv⟩ : ∃ v, v = R.rows[i] := ⟨_, rfl⟩
  have hcv : w1.cell? ⟨R.rb, i, none⟩ = some v := by
    rw [cell_of_row w1 R.rb i _ _ _ hrow, hv]
    simp [List.getElem?_append, hil]
  have hre := h1.each i hil
  rw [← hv] at hre
  have hgb : w1.heap[g]? = some (.cells (bvA (zerosL 64)) 5) := by rw [hw1, hg]; exact heap_alloc_last _ _
  have hsz : (Try.prog.info? 5).map (·.size) = some 1 := by kernel_rfl
  rcases hre with ⟨rfl, hz⟩ | ⟨b, cap, cs, rfl, hb, hra, hl⟩
  · have hcp := run_copy_nil (P := Try.prog) w1 36 36 3 5 ⟨g, 0, none⟩ 64 64 Try.underlying36 (by rw [hsz]; rfl)
    have HZ := Lib.hid hz
    have HW1 := Lib.hid hw1
    have HG := Lib.hid hg
    clear h hr hoff hrow hgb hsz hk1 h1 hw1 hg hz hv
    rw [← HW1.out, ← HG.out] at hmk
    go_enter Try.func29, Try.ntmps29
    go_wp2
    go_ret2
    exact ⟨by rw [← HG.out]; rfl, by rw [HZ.out, HW1.out]; rfl⟩
  · have hcp := run_copy_row (P := Try.prog) w1 36 36 3 5 g 0 64 64 ⟨b, 0, none⟩ 64 cap (bvA (zerosL 64)) 5 (bv (R.blk i)) Try.underlying36 hsz hgb (by rw [bv_length, hl]; rfl)
      (fun j v hj => by rw [Addr.add_mid]; exact hra j v hj) (by rw [bv_length, bvA_size, hl, zerosL_length]; omega) (bv_one _)
    have e1 : ((bvA (zerosL 64)).toList.take 0 ++ bv (R.blk i) ++ (bvA (zerosL 64)).toList.drop (0 + (bv (R.blk i)).length)).toArray = bvA (R.blk i) := by
      rw [bv_length, hl, List.drop_eq_nil_of_le (by rw [Array.length_toList, bvA_size, zerosL_length]; omega)]
      simp [bvA]
    rw [e1] at hcp
    have HS : Hid (w1.setRow g (bvA (R.blk i)) = w.alloc (.cells (bvA (R.blk i)) 5)) := by show _ = _; rw [hw1, hg, World.setRow_alloc_new]
    have HG := Lib.hid hg
    rw [← hw1, ← hg] at hmk
    clear h hr hoff hrow hgb hsz hk1 h1 hw1 hg hv hb hra e1 hl
    go_enter Try.func29, Try.ntmps29
    go_wp2
    go_ret2
    exact ⟨by rw [← HG.out]; rfl, HS.out⟩

theorem run_empty {P : Program} (w : World) (t e : TypeId) (ht : P.underlying t = some (.slice e)) (hs : ∃ i, P.info? e = some i) : (Instr.buildSlice t 0 #[]).run P w = .ok (.slice (some ⟨w.heap.size, 0, none⟩) 0 0) (w.alloc (.cells #[] e)) := by
  obtain ⟨i, hi⟩ := hs
  have e1 : (Array.range 0 : Array Nat) = #[] := rfl
  simp [Instr.buildSlice, run_underlying ht, sizeOf, typeInfo, hi, Result.andThen, newRow, Instr.fill, e1]

theorem infoAny {P : Program} {e : TypeId} {x : Option Value × Nat × Nat} (h : (P.info? e).map (fun i => (i.zero, i.size, i.bytes)) = some x) : ∃ i, P.info? e = some i := by
  cases hq : P.info? e with
  | none => simp [hq] at h
  | some i => exact ⟨i, rfl⟩

/-- An append whose run is known. -/
theorem wp_append_run {P : Program} {o : Oper} {a : Act} {w w' : World} {K : Act → World → Prop} {Q : Exit → Act → World → Prop} (s x : Operand) (t : TypeId)
    (ho : o.op = .call { callee := .builtin .append, args := #[s, x], argTypes := #[t, t] }) (u v r : Value) (hs : a.eval s = u) (hx : a.eval x = v)
    (hrun : ∀ ty, (Builtin.append_ #[t, t] ty #[u, v]).run P w = .ok r w') (h : K (a.put o.dst r) w') : o.wp P a w K Q := by
  unfold Oper.wp execOp
  simp only [ho, resolve, invoke, builtin, Sem.run_bind, Sem.run_pure, Result.andThen_ok, List.map_toArray, List.map_cons, List.map_nil, hs, hx, hrun]
  exact h

def capOf (w : World) : Nat := grownCap w 64 0 5
def restOf (w : World) : Array Value := Builtin.zeroCells (Value.int .u8 0).cells (grownCap w 64 0 5 - 64)

/-- 'append([]byte{}, b...)' of 64 bytes: a new block that begins with them. -/
theorem run_append64 (w : World) (ty : TypeId) (g b o cap : Nat) (l : List UInt8) (hl : l.length = 64) (hr : w.rangeAt b o (bv l)) :
    (Builtin.append_ #[36, 36] ty #[.slice (some ⟨g, 0, none⟩) 0 0, .slice (some ⟨b, o, none⟩) 64 cap]).run Try.prog w =
      .ok (.slice (some ⟨w.heap.size, 0, none⟩) 64 (capOf w)) (w.drew.alloc (.cells (bvA l ++ restOf w) 5)) := by
  obtain ⟨i, hi', hz, hs, hb⟩ := info_parts infoByte
  have h := run_append_grow (P := Try.prog) w 36 ty 5 i _ Try.underlying36 hi' hz ⟨g, 0, none⟩ 0 0 [] (by simp) (by simp) ⟨b, o, none⟩ 64 cap (bv l) (by rw [bv_length, hl, hs]) (fun j v hv => by rw [Addr.add_mid]; exact hr j v hv) (by omega) (by omega) (by rw [hb]; decide)
  rw [h]
  simp only [Nat.zero_add, Array.empty_append]
  rfl

set_option maxHeartbeats 400000 in
theorem rwrite_away (a : Nat) (R : RefS) (i : Int) (v : Value) (w : World) (h : IsRef w a R) (hr : R.reach i ≠ 0) :
    Calls Try.prog 16 #[.pointer (some ⟨a, 0, none⟩), .int .i64 i, v] w fun e w' => e = .returned (.int .i64 (R.reach i)) ∧ w = w' := by
  have c0 : w.cell? ⟨a, 0, none⟩ = some (.slice (some ⟨R.rb, 0, none⟩) R.n R.rcap) := h.cell 0
  have c1 : w.cell? ⟨a, 1, none⟩ = some (.bool R.off) := h.cell 1
  clear h
  cases ho : R.off
  · have hi : i < 0 ∨ (R.n : Int) ≤ i := by
      unfold RefS.reach at hr
      rw [ho] at hr
      simp at hr
      omega
    have HB : Hid (R.reach i = 10) := by show _ = _; unfold RefS.reach; rw [ho, if_neg (by simp), if_pos hi]
    rw [HB.out]
    rw [ho] at c1
    clear ho hr
    rcases hi with hi | hi
    · go_enter Try.func16, Try.ntmps16
      go_wp2
      go_ret
      exact ⟨rfl, rfl⟩
    · have h0 : ¬ i < 0 := by omega
      go_enter Try.func16, Try.ntmps16
      go_wp2
      go_ret
      exact ⟨rfl, rfl⟩
  · have HB : Hid (R.reach i = 2) := by show _ = _; unfold RefS.reach; rw [ho]; rfl
    rw [HB.out]
    rw [ho] at c1
    clear ho hr
    go_enter Try.func16, Try.ntmps16
    go_wp2
    go_ret
    exact ⟨rfl, rfl⟩

set_option maxHeartbeats 400000 in
theorem rwrite_len (a : Nat) (R : RefS) (i : Int) (sl : Option Addr) (len cap : Nat) (w : World) (h : IsRef w a R) (hr : R.reach i = 0) (hl : ((len : Int) != 64) = true) :
    Calls Try.prog 16 #[.pointer (some ⟨a, 0, none⟩), .int .i64 i, .slice sl len cap] w fun e w' => e = .returned (.int .i64 11) ∧ w = w' := by
  obtain ⟨hi0, hi1, hoff⟩ := rreach_zero hr
  have c0 : w.cell? ⟨a, 0, none⟩ = some (.slice (some ⟨R.rb, 0, none⟩) R.n R.rcap) := h.cell 0
  have c1 : w.cell? ⟨a, 1, none⟩ = some (.bool false) := by rw [h.cell 1, ← hoff]; rfl
  clear h hr hoff
  go_enter Try.func16, Try.ntmps16
  go_wp2
  go_ret
  exact ⟨rfl, rfl⟩

set_option maxHeartbeats 400000 in
theorem rwrite_burnt (a : Nat) (R : RefS) (i : Int) (sl : Option Addr) (cap : Nat) (w : World) (h : IsRef w a R) (hr : R.reach i = 0) (hb : R.burns = true) (hl : R.left = 0) :
    Calls Try.prog 16 #[.pointer (some ⟨a, 0, none⟩), .int .i64 i, .slice sl 64 cap] w fun e w' => e = .returned (.int .i64 2) ∧ IsRef w' a { R with off := true, burns := false } ∧ Kept [a] w w' := by
  obtain ⟨hi0, hi1, hoff⟩ := rreach_zero hr
  have c0 : w.cell? ⟨a, 0, none⟩ = some (.slice (some ⟨R.rb, 0, none⟩) R.n R.rcap) := h.cell 0
  have c1 : w.cell? ⟨a, 1, none⟩ = some (.bool false) := by rw [h.cell 1, ← hoff]; rfl
  have c2 : w.cell? ⟨a, 2, none⟩ = some (.bool true) := by rw [h.cell 2, ← hb]; rfl
  have c3 : w.cell? ⟨a, 3, none⟩ = some (.int .i64 0) := by rw [h.cell 3, ← hl]; rfl
  have f1 := h.free 1
  have f2 := h.free 2
  have HF := Lib.hid h
  clear h hr hoff hb hl
  go_enter Try.func16, Try.ntmps16
  go_wp2
  go_ret
  have h1 := HF.out
  exact ⟨rfl, (h1.set 1 _ { R with off := true } rfl rfl rfl rfl rfl h1.c0).set 2 _ { R with off := true, burns := false } rfl rfl rfl rfl rfl h1.c0, (Kept.setCell _ _ _ _ (by simp)).trans (Kept.setCell _ _ _ _ (by simp))⟩

/-- The row's store. -/
theorem IsRef.put {w : World} {a : Nat} {R : RefS} (h : IsRef w a R) (i : Nat) (hi : i < R.rows.length) (nb cp : Nat) (cs : Array Value) (l : List UInt8) (hb : w.heap[nb]? = some (.cells (bvA l ++ cs) 5)) (hl : l.length = 64) :
    IsRef (w.setCell ⟨R.rb, i, none⟩ (.slice (some ⟨nb, 0, none⟩) 64 cp)) a { R with rows := R.rows.set i (.slice (some ⟨nb, 0, none⟩) 64 cp), blk := updL R.blk i l } := by
  have hk := Kept.setCell [R.rb] w ⟨R.rb, i, none⟩ (.slice (some ⟨nb, 0, none⟩) 64 cp) (by simp)
  obtain ⟨rest, hrow⟩ := h.row
  have hav : R.avoids R.rb := h.avoids fun cs e => by rw [hrow] at e; simp at e
  have hnb : nb ≠ R.rb := fun e => by rw [e, hrow] at hb; simp at hb
  refine ⟨hk.heap (by simpa using fun e => h.ne e.symm) h.here, ⟨rest, ?_⟩, by simpa using h.len, fun j hj => ?_, h.n1, h.n2, h.c0⟩
  · show (w.setCell ⟨R.rb, i, none⟩ _).heap[R.rb]? = _
    rw [heap_setCell_same w R.rb i _ _ _ hrow]
    congr 2
    apply Array.toList_inj.1
    simp [hi]
  · show RowIs _ ((R.rows.set i _)[j]) (updL R.blk i l j)
    have hj' : j < R.rows.length := by simpa using hj
    unfold updL
    by_cases e : j = i
    · subst e
      rw [if_pos rfl]
      simp only [List.getElem_set_self]
      refine .inr ⟨nb, cp, _, rfl, hk.heap (by simpa using hnb) hb, fun t v hv => ?_, hl⟩
      rw [Nat.zero_add, cell_of_row _ nb t _ _ _ (hk.heap (by simpa using hnb) hb)]
      have ht : t < (bvA l).size := by
        have := (List.getElem?_eq_some_iff.1 hv).1
        simpa [bvA] using this
      rw [Array.getElem?_append_left ht]
      simpa [bvA] using hv
    · have hne : ¬ ((j : Int) = (i : Int)) := by omega
      rw [if_neg hne]
      have e2 : (R.rows.set i (.slice (some ⟨nb, 0, none⟩) 64 cp))[j] = R.rows[j] := List.getElem_set_ne (fun e' => e e'.symm) _
      rw [e2]
      exact (h.each j hj').kept hk (fun b hb' => by simp at hb'; subst hb'; exact hav _ (List.getElem_mem _))

/-- The fuse behind a write that is done. -/
def RefS.step (R : RefS) : RefS := if R.burns then { R with left := R.left - 1 } else R
theorem RefS.step_same (R : RefS) : R.step.rb = R.rb ∧ R.step.n = R.n ∧ R.step.rcap = R.rcap ∧ R.step.rows = R.rows ∧ R.step.blk = R.blk ∧ R.step.cnt = R.cnt ∧ R.step.off = R.off ∧ R.step.burns = R.burns := by
  unfold RefS.step; split <;> simp

set_option maxHeartbeats 1000000 in
theorem rwrite_ok (a b o cap : Nat) (R : RefS) (i : Nat) (l : List UInt8) (w : World) (h : IsRef w a R) (hr : R.reach i = 0) (hb : R.burns = true → R.left ≠ 0) (hlf : R.burns = true → 0 ≤ R.left ∧ R.left ≤ 9223372036854775807) (hlw : R.cnt < 4611686018427387904) (hl : l.length = 64)
    (hc : w.rangeAt b o (bv l)) (hblt : b < w.heap.size) (hba : b ≠ a) :
    Calls Try.prog 16 #[.pointer (some ⟨a, 0, none⟩), .int .i64 (i : Int), .slice (some ⟨b, o, none⟩) 64 cap] w fun e w' => e = .returned (.int .i64 0) ∧
      (∃ v, (∀ b', b' < w.heap.size → ∀ o n c, v ≠ .slice (some ⟨b', o, none⟩) n c) ∧ IsRef w' a { R.step with cnt := R.step.cnt + 1, rows := R.step.rows.set i v, blk := updL R.step.blk i l }) ∧ Kept [a, R.step.rb] w w' := by
  obtain ⟨hi0, hi1', hoff⟩ := rreach_zero hr
  have hn2' := h.n2
  have hcn' := h.c0
  have d0 : w.cell? ⟨a, 0, none⟩ = some (.slice (some ⟨R.rb, 0, none⟩) R.n R.rcap) := h.cell 0
  have d1 : w.cell? ⟨a, 1, none⟩ = some (.bool false) := by rw [h.cell 1, ← hoff]; rfl
  have d2 : w.cell? ⟨a, 2, none⟩ = some (.bool R.burns) := h.cell 2
  have d3 : w.cell? ⟨a, 3, none⟩ = some (.int .i64 R.left) := h.cell 3
  have f3 := h.free 3
  have HF' := Lib.hid h
  have HC' := Lib.hid hc
  have HL := Lib.hid hl
  have HBB := Lib.hid hb
  have HLF := Lib.hid hlf
  clear h hr hoff hl hc hb hlf
  obtain ⟨R0, hR0⟩ : ∃ R0, R0 = R.step := ⟨_, rfl⟩
  rw [← hR0]
  have hst := R.step_same
  rw [← hR0] at hst
  have HST := Lib.hid hst
  clear hst
  cases hbn : R.burns
  · have HR0 : Hid (R0 = R) := by show _ = _; rw [hR0]; unfold RefS.step; rw [hbn]; rfl
    rw [hbn] at d2
    clear hbn hR0
    go_enter Try.func16, Try.ntmps16
    go_wp2_with fail
    obtain ⟨wS, hwS⟩ : ∃ wS, wS = w := ⟨_, rfl⟩
    have hkS : Kept [a] w wS := by rw [hwS]; exact Kept.refl _ _
    have HF : Hid (IsRef wS a R0) := by rw [hwS, HR0.out]; exact HF'.out
    rw [← hwS]
    have c0 : wS.cell? ⟨a, 0, none⟩ = some (.slice (some ⟨R0.rb, 0, none⟩) R0.n R0.rcap) := HF.out.cell 0
    have HC := Lib.hid (hkS.range hblt (by simpa using hba) HC'.out)
    have HKS : Hid (Kept [a, R0.rb] w wS) := hkS.mono (by simp)
    have hblt' : b < wS.heap.size := Nat.lt_of_lt_of_le hblt hkS.size
    have hi1 : (i : Int) < R0.n := by rw [HST.out.2.1]; exact hi1'
    have hcn := HF.out.c0
    have hcu : R0.cnt < 4611686018427387904 := by rw [HST.out.2.2.2.2.2.1]; exact hlw
    have k0 : ∀ w', Kept [R0.rb] wS.drew w' → w'.cell? ⟨a, 0, none⟩ = some (.slice (some ⟨R0.rb, 0, none⟩) R0.n R0.rcap) := fun w' hk => by
      rw [((Kept.drew [R0.rb] wS).trans hk).cell (p := ⟨a, 0, none⟩) HF.out.lt (by simpa using fun e => HF.out.ne e.symm)]; exact c0
    rw [← HST.out.1, ← HST.out.2.1, ← HST.out.2.2.1]
    clear hwS hkS d0 d1 d2 d3 f3
    refine wp_region_ord [(true, 0), (true, 1), (true, 2), (true, 3), (true, 4), (true, 6), (false, 5), (false, 7), (true, 8), (false, 9)] [R0.rb] (by kernel_rfl) (fun _ _ d _ _ h => by cases d <;> exact h) (by kernel_rfl) rfl (by kernel_rfl) (by kernel_rfl) ?_
    simp only [named, List.getD_cons_zero, List.getD_cons_succ]
    repeat (apply wpGrow_take; (case hw => rfl); (case hv => intro wS' hk; go_simp; with_reducible rfl); simp only [Act.put, List.setIfInBounds_toArray, List.set_cons_zero, List.set_cons_succ])
    have hemp := fun w => run_empty (P := Try.prog) w 36 5 Try.underlying36 (infoAny infoByte)
    refine wpGrow_force (by rfl) (fun K hK => ?_)
    go_simp
    refine hK _ _ (show Kept [R0.rb] wS.drew _ from Kept.alloc [R0.rb] wS.drew (.cells #[] 5)) ?_
    clear hK K hemp
    change wpGrow _ _ _ _ _ _ (wS.drew.alloc (.cells #[] 5))
    obtain ⟨w1, hw1⟩ : ∃ w1, w1 = wS.drew.alloc (.cells #[] 5) := ⟨_, rfl⟩
    have hk1 : Kept [] wS w1 := by rw [hw1]; exact (Kept.drew _ _).trans (Kept.alloc _ _ _)
    obtain ⟨g, hg⟩ : ∃ g, g = wS.heap.size := ⟨_, rfl⟩
    rw [← hw1, ← hg]
    have happ := fun ty => run_append64 w1 ty g b o cap l HL.out (hk1.range hblt' (by simp) HC.out)
    have HK1 := Lib.hid hk1
    clear hw1 hk1 hg k0 c0
    refine wpGrow_force (by rfl) (fun K hK => ?_)
    refine wp_append_run _ _ _ rfl _ _ _ rfl rfl happ ?_
    simp only [Act.put, List.setIfInBounds_toArray, List.set_cons_zero, List.set_cons_succ]
    refine hK _ _ (show Kept [R0.rb] w1 _ from (Kept.drew [R0.rb] w1).trans (Kept.alloc [R0.rb] w1.drew (.cells (bvA l ++ restOf w1) 5))) ?_
    clear hK K happ
    change wpGrow _ _ _ _ _ _ (w1.drew.alloc (.cells (bvA l ++ restOf w1) 5))
    obtain ⟨w2, hw2⟩ : ∃ w2, w2 = w1.drew.alloc (.cells (bvA l ++ restOf w1) 5) := ⟨_, rfl⟩
    obtain ⟨nb, hnb⟩ : ∃ nb, nb = w1.heap.size := ⟨_, rfl⟩
    obtain ⟨cp, hcp⟩ : ∃ cp, cp = capOf w1 := ⟨_, rfl⟩
    rw [← hw2, ← hnb, ← hcp]
    have hk2 : Kept [] wS w2 := by rw [hw2]; exact HK1.out.trans ((Kept.drew _ _).trans (Kept.alloc _ _ _))
    have hb2 : w2.heap[nb]? = some (.cells (bvA l ++ restOf w1) 5) := by rw [hw2, hnb]; exact heap_alloc_last _ _
    have hnbw : wS.heap.size ≤ nb := by rw [hnb]; exact HK1.out.size
    have h2 := HF.out.kept hk2 (by simp) (by simp) (by simp)
    have hil : i < R0.rows.length := by rw [h2.len]; omega
    obtain ⟨rest, hrow⟩ := h2.row
    have r1 : w2.cell? ⟨R0.rb, i, none⟩ = some R0.rows[i] := by
      rw [cell_of_row w2 R0.rb i _ _ _ hrow]
      simp [List.getElem?_append, hil]
    have f1 : w2.frozen? ⟨R0.rb, i, none⟩ = false := frozen_of_row w2 R0.rb i _ _ hrow
    have H2 := Lib.hid h2
    have HK2 := Lib.hid hk2
    have HB2 := Lib.hid hb2
    have HR2 := Lib.hid hrow
    clear hw2 hnb hcp hk2 hb2 h2 hrow
    repeat (apply wpGrow_take; (case hw => rfl); (case hv => intro wS' hk; go_simp; with_reducible rfl); simp only [Act.put, List.setIfInBounds_toArray, List.set_cons_zero, List.set_cons_succ])
    refine wpGrow_force (by rfl) (fun K hK => ?_)
    go_simp
    refine hK _ _ (show Kept [R0.rb] w2 _ from Kept.setCell [R0.rb] w2 ⟨R0.rb, i, none⟩ (.slice (some ⟨nb, 0, none⟩) 64 cp) (by simp)) ?_
    clear hK K
    obtain ⟨w3, hw3⟩ : ∃ w3, w3 = w2.setCell ⟨R0.rb, i, none⟩ (.slice (some ⟨nb, 0, none⟩) 64 cp) := ⟨_, rfl⟩
    rw [← hw3]
    have h3 := H2.out.put i hil nb cp _ l HB2.out HL.out
    rw [← hw3] at h3
    have hk3 : Kept [a, R0.rb] wS w3 := by rw [hw3]; exact (HK2.out.mono (by simp)).trans (Kept.setCell _ _ _ _ (by simp))
    have c4 : w3.cell? ⟨a, 4, none⟩ = some (.int .i64 R0.cnt) := h3.cell 4
    have f4 := h3.free 4
    have H3 := Lib.hid h3
    have HK3 := Lib.hid hk3
    clear hw3 h3 hk3 r1 f1
    refine wpGrow_nil ?_
    go_wp2_with fail
    go_ret
    refine ⟨rfl, ⟨.slice (some ⟨nb, 0, none⟩) 64 cp, fun b' hb' o n c e => ?_, ?_⟩, HKS.out.trans (HK3.out.trans (Kept.setCell _ _ _ _ (by simp)))⟩
    · simp at e
      have := HKS.out.size
      omega
    · exact H3.out.set 4 _ { R0 with cnt := R0.cnt + 1, rows := R0.rows.set i (.slice (some ⟨nb, 0, none⟩) 64 cp), blk := updL R0.blk i l } rfl rfl rfl rfl rfl (by show 0 ≤ R0.cnt + 1; omega)

  · have hln := HBB.out hbn
    obtain ⟨hl0, hl1⟩ := HLF.out hbn
    have HR0 : Hid (R0 = { R with left := R.left - 1 }) := by show _ = _; rw [hR0]; unfold RefS.step; rw [hbn]; rfl
    rw [hbn] at d2
    have hle : (R.left == 0) = false := by simpa using hln
    clear hbn hR0 hln
    go_enter Try.func16, Try.ntmps16
    go_wp2_with fail
    obtain ⟨wS, hwS⟩ : ∃ wS, wS = w.setCell ⟨a, 3, none⟩ (.int .i64 (R.left - 1)) := ⟨_, rfl⟩
    have hkS : Kept [a] w wS := by rw [hwS]; exact Kept.setCell _ _ _ _ (by simp)
    have HF : Hid (IsRef wS a R0) := by rw [hwS, HR0.out]; exact HF'.out.set 3 _ { R with left := R.left - 1 } rfl rfl rfl rfl rfl HF'.out.c0
    rw [← hwS]
    have c0 : wS.cell? ⟨a, 0, none⟩ = some (.slice (some ⟨R0.rb, 0, none⟩) R0.n R0.rcap) := HF.out.cell 0
    have HC := Lib.hid (hkS.range hblt (by simpa using hba) HC'.out)
    have HKS : Hid (Kept [a, R0.rb] w wS) := hkS.mono (by simp)
    have hblt' : b < wS.heap.size := Nat.lt_of_lt_of_le hblt hkS.size
    have hi1 : (i : Int) < R0.n := by rw [HST.out.2.1]; exact hi1'
    have hcn := HF.out.c0
    have hcu : R0.cnt < 4611686018427387904 := by rw [HST.out.2.2.2.2.2.1]; exact hlw
    have k0 : ∀ w', Kept [R0.rb] wS.drew w' → w'.cell? ⟨a, 0, none⟩ = some (.slice (some ⟨R0.rb, 0, none⟩) R0.n R0.rcap) := fun w' hk => by
      rw [((Kept.drew [R0.rb] wS).trans hk).cell (p := ⟨a, 0, none⟩) HF.out.lt (by simpa using fun e => HF.out.ne e.symm)]; exact c0
    rw [← HST.out.1, ← HST.out.2.1, ← HST.out.2.2.1]
    clear hwS hkS d0 d1 d2 d3 f3
    refine wp_region_ord [(true, 0), (true, 1), (true, 2), (true, 3), (true, 4), (true, 6), (false, 5), (false, 7), (true, 8), (false, 9)] [R0.rb] (by kernel_rfl) (fun _ _ d _ _ h => by cases d <;> exact h) (by kernel_rfl) rfl (by kernel_rfl) (by kernel_rfl) ?_
    simp only [named, List.getD_cons_zero, List.getD_cons_succ]
    repeat (apply wpGrow_take; (case hw => rfl); (case hv => intro wS' hk; go_simp; with_reducible rfl); simp only [Act.put, List.setIfInBounds_toArray, List.set_cons_zero, List.set_cons_succ])
    have hemp := fun w => run_empty (P := Try.prog) w 36 5 Try.underlying36 (infoAny infoByte)
    refine wpGrow_force (by rfl) (fun K hK => ?_)
    go_simp
    refine hK _ _ (show Kept [R0.rb] wS.drew _ from Kept.alloc [R0.rb] wS.drew (.cells #[] 5)) ?_
    clear hK K hemp
    change wpGrow _ _ _ _ _ _ (wS.drew.alloc (.cells #[] 5))
    obtain ⟨w1, hw1⟩ : ∃ w1, w1 = wS.drew.alloc (.cells #[] 5) := ⟨_, rfl⟩
    have hk1 : Kept [] wS w1 := by rw [hw1]; exact (Kept.drew _ _).trans (Kept.alloc _ _ _)
    obtain ⟨g, hg⟩ : ∃ g, g = wS.heap.size := ⟨_, rfl⟩
    rw [← hw1, ← hg]
    have happ := fun ty => run_append64 w1 ty g b o cap l HL.out (hk1.range hblt' (by simp) HC.out)
    have HK1 := Lib.hid hk1
    clear hw1 hk1 hg k0 c0
    refine wpGrow_force (by rfl) (fun K hK => ?_)
    refine wp_append_run _ _ _ rfl _ _ _ rfl rfl happ ?_
    simp only [Act.put, List.setIfInBounds_toArray, List.set_cons_zero, List.set_cons_succ]
    refine hK _ _ (show Kept [R0.rb] w1 _ from (Kept.drew [R0.rb] w1).trans (Kept.alloc [R0.rb] w1.drew (.cells (bvA l ++ restOf w1) 5))) ?_
    clear hK K happ
    change wpGrow _ _ _ _ _ _ (w1.drew.alloc (.cells (bvA l ++ restOf w1) 5))
    obtain ⟨w2, hw2⟩ : ∃ w2, w2 = w1.drew.alloc (.cells (bvA l ++ restOf w1) 5) := ⟨_, rfl⟩
    obtain ⟨nb, hnb⟩ : ∃ nb, nb = w1.heap.size := ⟨_, rfl⟩
    obtain ⟨cp, hcp⟩ : ∃ cp, cp = capOf w1 := ⟨_, rfl⟩
    rw [← hw2, ← hnb, ← hcp]
    have hk2 : Kept [] wS w2 := by rw [hw2]; exact HK1.out.trans ((Kept.drew _ _).trans (Kept.alloc _ _ _))
    have hb2 : w2.heap[nb]? = some (.cells (bvA l ++ restOf w1) 5) := by rw [hw2, hnb]; exact heap_alloc_last _ _
    have hnbw : wS.heap.size ≤ nb := by rw [hnb]; exact HK1.out.size
    have h2 := HF.out.kept hk2 (by simp) (by simp) (by simp)
    have hil : i < R0.rows.length := by rw [h2.len]; omega
    obtain ⟨rest, hrow⟩ := h2.row
    have r1 : w2.cell? ⟨R0.rb, i, none⟩ = some R0.rows[i] := by
      rw [cell_of_row w2 R0.rb i _ _ _ hrow]
      simp [List.getElem?_append, hil]
    have f1 : w2.frozen? ⟨R0.rb, i, none⟩ = false := frozen_of_row w2 R0.rb i _ _ hrow
    have H2 := Lib.hid h2
    have HK2 := Lib.hid hk2
    have HB2 := Lib.hid hb2
    have HR2 := Lib.hid hrow
    clear hw2 hnb hcp hk2 hb2 h2 hrow
    repeat (apply wpGrow_take; (case hw => rfl); (case hv => intro wS' hk; go_simp; with_reducible rfl); simp only [Act.put, List.setIfInBounds_toArray, List.set_cons_zero, List.set_cons_succ])
    refine wpGrow_force (by rfl) (fun K hK => ?_)
    go_simp
    refine hK _ _ (show Kept [R0.rb] w2 _ from Kept.setCell [R0.rb] w2 ⟨R0.rb, i, none⟩ (.slice (some ⟨nb, 0, none⟩) 64 cp) (by simp)) ?_
    clear hK K
    obtain ⟨w3, hw3⟩ : ∃ w3, w3 = w2.setCell ⟨R0.rb, i, none⟩ (.slice (some ⟨nb, 0, none⟩) 64 cp) := ⟨_, rfl⟩
    rw [← hw3]
    have h3 := H2.out.put i hil nb cp _ l HB2.out HL.out
    rw [← hw3] at h3
    have hk3 : Kept [a, R0.rb] wS w3 := by rw [hw3]; exact (HK2.out.mono (by simp)).trans (Kept.setCell _ _ _ _ (by simp))
    have c4 : w3.cell? ⟨a, 4, none⟩ = some (.int .i64 R0.cnt) := h3.cell 4
    have f4 := h3.free 4
    have H3 := Lib.hid h3
    have HK3 := Lib.hid hk3
    clear hw3 h3 hk3 r1 f1
    refine wpGrow_nil ?_
    go_wp2_with fail
    go_ret
    refine ⟨rfl, ⟨.slice (some ⟨nb, 0, none⟩) 64 cp, fun b' hb' o n c e => ?_, ?_⟩, HKS.out.trans (HK3.out.trans (Kept.setCell _ _ _ _ (by simp)))⟩
    · simp at e
      have := HKS.out.size
      omega
    · exact H3.out.set 4 _ { R0 with cnt := R0.cnt + 1, rows := R0.rows.set i (.slice (some ⟨nb, 0, none⟩) 64 cp), blk := updL R0.blk i l } rfl rfl rfl rfl rfl (by show 0 ≤ R0.cnt + 1; omega)


theorem wpList_append_run {P : Program} {ops : Array Oper} {rest : List Oper} {o : Oper} {a : Act} {w w' : World} {Q : Exit → Act → World → Prop} (hgd : o.guard = none) (s x : Operand) (t : TypeId)
    (ho : o.op = .call { callee := .builtin .append, args := #[s, x], argTypes := #[t, t] }) (u v r : Value) (hs : a.eval s = u) (hx : a.eval x = v)
    (hrun : ∀ ty, (Builtin.append_ #[t, t] ty #[u, v]).run P w = .ok r w') (h : wpList P ops Q rest (a.put o.dst r) w') : wpList P ops Q (o :: rest) a w :=
  wpList_plain hgd fun _ hK => wp_append_run s x t ho u v r hs hx hrun (hK _ _ h)

def rcapOf (w : World) (n : Nat) : Nat := grownCap w n 0 36
def rrestOf (w : World) (n : Nat) : List Value := (Builtin.zeroCells (Value.slice none 0 0).cells (grownCap w n 0 36 - n)).toList

theorem next_is (n : Nat) (h : 1 ≤ n) : Builtin.nextslicecap n 0 = n := by
  unfold Builtin.nextslicecap
  simp; omega

theorem run_append_rows (w : World) (ty : TypeId) (g b cap n : Nat) (l : List Value) (hl : l.length = n) (h1 : 1 ≤ n) (h2 : n ≤ 4096) (hr : w.rangeAt b 0 l) :
    (Builtin.append_ #[53, 53] ty #[.slice (some ⟨g, 0, none⟩) 0 0, .slice (some ⟨b, 0, none⟩) n cap]).run Try.prog w =
      .ok (.slice (some ⟨w.heap.size, 0, none⟩) n (rcapOf w n)) (w.drew.alloc (.cells (l ++ rrestOf w n).toArray 36)) := by
  obtain ⟨i, hi', hz, hs, hb⟩ := info_parts infoRow
  have h := run_append_grow (P := Try.prog) w 53 ty 36 i _ Try.underlying53 hi' hz ⟨g, 0, none⟩ 0 0 [] (by simp) (by simp) ⟨b, 0, none⟩ n cap l (by rw [hl, hs]; omega) (fun j v hv => by rw [Addr.add_mid]; exact hr j v hv) (by omega) (by omega) (by rw [hb, Nat.zero_add, next_is n h1]; omega)
  rw [h]
  simp only [Nat.zero_add, Array.empty_append]
  have e : l.toArray ++ Builtin.zeroCells (Value.slice none 0 0).cells (grownCap w n 0 36 - n) = (l ++ rrestOf w n).toArray := by
    apply Array.toList_inj.1
    simp [rrestOf]
  rw [e]
  rfl

set_option maxHeartbeats 1000000 in
theorem rclone_any (a : Nat) (R : RefS) (w : World) (h : IsRef w a R) :
    Calls Try.prog 12 #[.pointer (some ⟨a, 0, none⟩)] w fun e w' => e = .returned (.pointer (some ⟨w.heap.size, 0, none⟩)) ∧ (∃ rb rc, w.heap.size < rb ∧ IsRef w' w.heap.size { R with rb := rb, rcap := rc }) ∧ Kept [] w w' := by
  have d0 : w.cell? ⟨a, 0, none⟩ = some (.slice (some ⟨R.rb, 0, none⟩) R.n R.rcap) := h.cell 0
  have d1 : w.cell? ⟨a, 1, none⟩ = some (.bool R.off) := h.cell 1
  have d2 : w.cell? ⟨a, 2, none⟩ = some (.bool R.burns) := h.cell 2
  have d3 : w.cell? ⟨a, 3, none⟩ = some (.int .i64 R.left) := h.cell 3
  have d4 : w.cell? ⟨a, 4, none⟩ = some (.int .i64 R.cnt) := h.cell 4
  have hemp := fun w => run_empty (P := Try.prog) w 53 36 Try.underlying53 (infoAny infoRow)
  obtain ⟨n, hn⟩ : ∃ n, n = w.heap.size := ⟨_, rfl⟩
  obtain ⟨w1, hw1⟩ : ∃ w1, w1 = (w.alloc (.cells R.cells 55)).alloc (.cells #[] 36) := ⟨_, rfl⟩
  have hk1 : Kept [] w w1 := by rw [hw1]; exact (Kept.alloc _ _ _).trans (Kept.alloc _ _ _)
  have hh1 : w1.heap[n]? = some (.cells R.cells 55) := by rw [hw1, hn]; exact (Kept.alloc [] _ _).heap (by simp) (heap_alloc_last _ _)
  have hs1 : w1.heap.size = n + 2 := by rw [hw1, hn]; simp
  have h1 := h.kept hk1 (by simp) (by simp) (by simp)
  obtain ⟨rest, hrow⟩ := h1.row
  have hra : w1.rangeAt R.rb 0 R.rows := fun j v hv => by
    rw [Nat.zero_add, cell_of_row w1 R.rb j _ _ _ hrow]
    have := (List.getElem?_eq_some_iff.1 hv).1
    simpa [List.getElem?_append, this] using hv
  have happ := fun ty => run_append_rows w1 ty (n + 1) R.rb R.rcap R.n R.rows h.len h.n1 h.n2 hra
  have e0 : ((w.alloc (.cells #[.slice (some ⟨R.rb, 0, none⟩) R.n R.rcap, .bool R.off, .bool R.burns, .int .i64 R.left, .int .i64 R.cnt] 55)).alloc (.cells #[] 36)).cell? ⟨a, 0, none⟩ = some (.slice (some ⟨R.rb, 0, none⟩) R.n R.rcap) := by
    have := h1.cell 0
    rw [hw1] at this
    exact this
  obtain ⟨nb, hnb⟩ : ∃ nb, nb = n + 2 := ⟨_, rfl⟩
  obtain ⟨w2, hw2⟩ : ∃ w2, w2 = w1.drew.alloc (.cells (R.rows ++ rrestOf w1 R.n).toArray 36) := ⟨_, rfl⟩
  obtain ⟨rc, hrc⟩ : ∃ rc, rc = rcapOf w1 R.n := ⟨_, rfl⟩
  rw [hs1, ← hnb, ← hw2, ← hrc, hn] at happ
  have HAP : Hid (∀ ty, (Builtin.append_ #[53, 53] ty #[.slice (some ⟨w.heap.size + 1, 0, none⟩) 0 0, .slice (some ⟨R.rb, 0, none⟩) R.n R.rcap]).run Try.prog ((w.alloc (.cells #[.slice (some ⟨R.rb, 0, none⟩) R.n R.rcap, .bool R.off, .bool R.burns, .int .i64 R.left, .int .i64 R.cnt] 55)).alloc (.cells #[] 36)) = .ok (.slice (some ⟨nb, 0, none⟩) R.n rc) w2) := fun ty => by
    have := happ ty
    rw [hw1] at this
    exact this
  have hk2 : Kept [] w1 w2 := by rw [hw2]; exact (Kept.drew _ _).trans (Kept.alloc _ _ _)
  have hh2 := hk2.heap (by simp) hh1
  have hr2 : w2.heap[nb]? = some (.cells (R.rows ++ rrestOf w1 R.n).toArray 36) := by rw [hw2, hnb, ← hs1]; exact heap_alloc_last _ _
  rw [hn] at hh2
  have g0 : w2.cell? ⟨w.heap.size, 0, none⟩ = some (.slice (some ⟨R.rb, 0, none⟩) R.n R.rcap) := cell_of_row w2 w.heap.size 0 _ _ _ hh2
  have gf : w2.frozen? ⟨w.heap.size, 0, none⟩ = false := frozen_of_row w2 w.heap.size 0 _ _ hh2
  have HF := Lib.hid h
  have H2 := Lib.hid (h1.kept hk2 (by simp) (by simp) (by simp))
  have HK2 := Lib.hid (hk1.trans hk2)
  have HH2 := Lib.hid hh2
  have HR2 := Lib.hid hr2
  have hnbw : w.heap.size < nb := by omega
  have hgt : w.heap.size < w2.heap.size := (Array.getElem?_eq_some_iff.1 hh2).1
  clear h h1 hrow hra hn hw1 hk1 hh1 hs1 happ hnb hw2 hrc hk2 hh2 hr2
  go_enter Try.func12, Try.ntmps12
  go_wp2_with (at_builtin; refine wpList_append_run rfl _ _ _ rfl _ _ _ rfl rfl HAP.out ?_)
  go_ret
  refine ⟨rfl, ⟨nb, rc, hnbw, ?_⟩, HK2.out.into (Kept.setCell [w.heap.size] _ _ _ (by simp)) (by simp)⟩
  have h2 := H2.out
  have ks : Kept [w.heap.size] w2 (w2.setCell ⟨w.heap.size, 0, none⟩ (.slice (some ⟨nb, 0, none⟩) R.n rc)) := Kept.setCell _ _ _ _ (by simp)
  refine ⟨by rw [heap_setCell_same w2 w.heap.size 0 _ _ _ HH2.out]; rfl, ⟨_, ks.heap (by simp; omega) HR2.out⟩, h2.len, fun j hj => ?_, h2.n1, h2.n2, h2.c0⟩
  refine (h2.each j hj).kept ks (fun b hb => ?_)
  simp at hb
  subst hb
  exact (HF.out.avoids_new (Nat.le_refl _)) _ (List.getElem_mem _)

end Go.Proofs.Ythhcopipamjelaa

/-
  What the journal's small calls do: numbers of two bytes put into bytes and taken from them; how many blocks a group takes; a piece of memory.
  Conditions: those that each theorem states.
-/
import Derived.Test.YtmckapfncnoddaaDisk
import Derived.Test.YtmckapfncnoddaaOrder
import Derived.Deep.QuietTactic
import Derived.BigQuiet
import Derived.Lib.BufferWrite
namespace Go.Proofs.Ytmckapfncnoddaa
open Go.RowKit Go.Maps

def hiB (n : Nat) : UInt8 := UInt8.ofNat (n / 256)
def loB (n : Nat) : UInt8 := UInt8.ofNat n
def tabN (n : Nat) : Nat := (n + 31) / 32
def spanN (n : Nat) : Nat := tabN n + n

theorem tables_any (n : Nat) (w : World) (hn : n < 4611686018427387904) :
    Calls Try.prog 49 #[.int .i64 n] w fun e w' => e = .returned (.int .i64 (tabN n)) ∧ w = w' := by
  have hx : Hid (((n : Int) + 32 - 1) / 32 = (tabN n : Int)) := by
    show _ = _
    unfold tabN; omega
  go_enter Try.func49, Try.ntmps49
  go_wp2
  go_ret
  exact ⟨by rw [← hx.out]; rfl, rfl⟩

theorem span_any (n : Nat) (w : World) (hn : n < 4611686018427387904) :
    Calls Try.prog 41 #[.int .i64 n] w fun e w' => e = .returned (.int .i64 (spanN n)) ∧ w = w' := by
  have hx : Hid ((tabN n : Int) + n = (spanN n : Int)) := by
    show _ = _
    unfold spanN; omega
  have hy : (tabN n : Int) ≤ n := by unfold tabN; omega
  go_enter Try.func41, Try.ntmps41
  go_wp2_with fail
  refine (tables_any n w hn).mono ?_
  rintro e w' ⟨rfl, rfl⟩
  go_wp2_with fail
  go_ret
  exact ⟨by rw [← hx.out]; rfl, rfl⟩

theorem hiB_val (n : Nat) : (n : Int) / 256 % 256 = ((hiB n).toNat : Int) := by
  simp [hiB]
theorem loB_val (n : Nat) : (n : Int) % 256 = ((loB n).toNat : Int) := by
  simp [loB]

theorem cell_bvA {w : World} {h : Nat} {l : List UInt8} {t : TypeId} (hh : w.heap[h]? = some (.cells (bvA l) t)) (k : Nat) (hk : k < l.length) : w.cell? ⟨h, k, none⟩ = some (.int .u8 (l[k].toNat : Int)) := by
  rw [cell_of_row w h k _ _ _ hh]
  simp [bvA, bv, hk]

theorem putNumber_any (b o len cap i n : Nat) (L : List UInt8) (t : TypeId) (w : World) (hh : w.heap[b]? = some (.cells (bvA L) t)) (h1 : 2 * i + 1 < len) (h2 : o + len ≤ L.length) (h3 : len < 4611686018427387904) :
    Calls Try.prog 48 #[.slice (some ⟨b, o, none⟩) len cap, .int .i64 i, .int .i64 n] w fun e w' => e = .returned (.tuple #[]) ∧ w'.heap[b]? = some (.cells (bvA ((L.set (o + 2 * i) (hiB n)).set (o + (2 * i + 1)) (loB n))) t) ∧ Kept [b] w w' := by
  have f1 : ∀ j, w.frozen? ⟨b, j, none⟩ = false := fun j => frozen_of_row w b j _ _ hh
  have c1 := cell_bvA hh (o + 2 * i) (by omega)
  have c2 := cell_bvA hh (o + (2 * i + 1)) (by omega)
  have HH := Lib.hid hh
  clear hh
  go_enter Try.func48, Try.ntmps48
  go_wp2
  go_end0
  refine ⟨rfl, ?_, (Kept.setCell _ _ _ _ (by simp)).trans (Kept.setCell _ _ _ _ (by simp))⟩
  rw [hiB_val, loB_val, heap_setCell_same _ b _ _ _ _ (heap_setCell_same _ b _ _ _ _ HH.out), bvA_set, bvA_set]

theorem bits_or_i64_nat (a b : Nat) (ha : a < 9223372036854775808) (hb : b < 9223372036854775808) :
    bits .or .i64 (a : Int) (b : Int) = ((a ||| b : Nat) : Int) := by
  have hx : a ||| b < 2 ^ 63 := Nat.or_lt_two_pow (by omega) (by omega)
  have h1 : (BitVec.ofInt 64 (a : Int)).toNat = a := by
    rw [BitVec.ofInt_natCast, BitVec.toNat_ofNat]; exact Nat.mod_eq_of_lt (by omega)
  have h2 : (BitVec.ofInt 64 (b : Int)).toNat = b := by
    rw [BitVec.ofInt_natCast, BitVec.toNat_ofNat]; exact Nat.mod_eq_of_lt (by omega)
  show IntKind.i64.wrap ((BitVec.ofInt 64 (a : Int) ||| BitVec.ofInt 64 (b : Int)).toNat : Int) = _
  rw [BitVec.toNat_or, h1, h2, IntKind.wrap_i64]
  omega
theorem or_low (k a b : Nat) (hb : b < 2 ^ k) : a * 2 ^ k ||| b = a * 2 ^ k + b := by
  rw [Nat.mul_comm, Nat.two_pow_add_eq_or_of_lt hb]
theorem or_byte (x : Nat) (y : UInt8) (hx : x < 256) : bits .or .i64 ((x : Int) * 256) (y.toNat : Int) = ((256 * x + y.toNat : Nat) : Int) := by
  have hy := UInt8.toNat_lt y
  have := bits_or_i64_nat (x * 256) y.toNat (by omega) (by omega)
  rw [Int.natCast_mul] at this
  rw [show ((256 : Nat) : Int) = 256 from rfl] at this
  rw [this, or_low 8 x y.toNat hy]
  congr 1
  omega

theorem takeNumber_any (b o len cap i : Nat) (L : List UInt8) (w : World) (hh : w.rangeAt b o (bv L)) (hl : L.length = len) (h1 : 2 * i + 1 < len) (h3 : len < 4611686018427387904) :
    Calls Try.prog 45 #[.slice (some ⟨b, o, none⟩) len cap, .int .i64 i] w fun e w' => e = .returned (.int .i64 (256 * (L[2 * i]'(by omega)).toNat + (L[2 * i + 1]'(by omega)).toNat : Nat)) ∧ ∃ n, w' = w.drewN n := by
  have c1 : w.cell? ⟨b, o + 2 * i, none⟩ = some (.int .u8 (((L[2 * i]'(by omega)).toNat : Nat) : Int)) := hh (2 * i) _ (by simp [bv, show 2 * i < L.length by omega])
  have c2 : w.cell? ⟨b, o + (2 * i + 1), none⟩ = some (.int .u8 (((L[2 * i + 1]'(by omega)).toNat : Nat) : Int)) := hh (2 * i + 1) _ (by simp [bv, show 2 * i + 1 < L.length by omega])
  obtain ⟨x, hx⟩ : ∃ x, L[2 * i]'(by omega) = x := ⟨_, rfl⟩
  obtain ⟨y, hy⟩ : ∃ y, L[2 * i + 1]'(by omega) = y := ⟨_, rfl⟩
  rw [hx] at c1 ⊢
  rw [hy] at c2 ⊢
  have x1 : x.toNat < 256 := UInt8.toNat_lt x
  have y1 : y.toNat < 256 := UInt8.toNat_lt y
  have HX := Lib.hid (or_byte x.toNat y x1)
  clear hx hy hh
  go_enter Try.func45, Try.ntmps45
  go_wp2
  go_quiet (fail)
  go_wp2
  go_ret
  exact ⟨by rw [← HX.out]; rfl, _, rfl⟩

theorem piece_any (b o len cap i : Nat) (w : World) (h1 : (i + 1) * 64 ≤ len) (h2 : len ≤ cap) (h3 : cap ≤ 9223372036854775807) :
    Calls Try.prog 43 #[.slice (some ⟨b, o, none⟩) len cap, .int .i64 i] w fun e w' => e = .returned (.slice (some ⟨b, o + i * 64, none⟩) 64 64) ∧ w = w' := by
  go_enter Try.func43, Try.ntmps43
  go_wp2
  have hx : Hid ((i + 1) * 64 - i * 64 = 64) := by show _ = _; omega
  go_ret
  refine ⟨?_, rfl⟩
  show Ending.returned (.slice (some ⟨b, o + i * 64, none⟩) ((i + 1) * 64 - i * 64) ((i + 1) * 64 - i * 64)) = _
  rw [hx.out]

def magicL : List UInt8 := [109, 97, 106, 111, 114, 100, 111, 109, 111, 32, 106, 111, 117, 114, 110, 97, 108]
/-- The head's block. -/
def encL (at_ g n : Nat) (owed : Bool) : List UInt8 :=
  magicL ++ [hiB at_, loB at_, hiB n, loB n, 0, if owed then 1 else 0, hiB (g / 281474976710656), loB (g / 281474976710656), hiB (g / 4294967296), loB (g / 4294967296), hiB (g / 65536), loB (g / 65536), hiB g, loB g] ++ List.replicate 33 0
theorem encL_length (at_ g n : Nat) (owed : Bool) : (encL at_ g n owed).length = 64 := by simp [encL, magicL]

def putL (L : List UInt8) (o i n : Nat) : List UInt8 := (L.set (o + 2 * i) (hiB n)).set (o + (2 * i + 1)) (loB n)
theorem putL_length (L : List UInt8) (o i n : Nat) : (putL L o i n).length = L.length := by simp [putL]

theorem size_alloc (w : World) (o : Obj) : (w.alloc o).heap.size = w.heap.size + 1 := by simp

structure EncSt (w : World) (g n : Nat) (owed : Bool) (L : List UInt8) (wr : World) : Prop where
  h : wr.heap[w.heap.size]? = some (.cells #[.int .i64 g, .bool owed, .int .i64 n] 69)
  r : wr.heap[w.heap.size + 1]? = some (.cells (bvA zeroL) 79)
  b : wr.heap[w.heap.size + 1 + 1]? = some (.cells (bvA L) 79)
  kept : Kept [] w wr

theorem EncSt.put {w : World} {g n : Nat} {owed : Bool} {L L' : List UInt8} {wr w' : World} (R : EncSt w g n owed L wr) (hb : w'.heap[w.heap.size + 1 + 1]? = some (.cells (bvA L') 79)) (hk : Kept [w.heap.size + 1 + 1] wr w') : EncSt w g n owed L' w' :=
  ⟨hk.heap (by simp; omega) R.h, hk.heap (by simp) R.r, hb, R.kept.into hk (by simp; omega)⟩

theorem setRow_kept (w : World) (g : Nat) (cs : Array Value) : Kept [g] w (w.setRow g cs) := by
  refine ⟨rfl, rfl, rfl, by simp [World.setRow], fun k hk hn => ?_⟩
  simp only [World.setRow]
  rw [Array.getElem?_modify]
  rw [if_neg (by simp at hn; omega)]

theorem load_row {P : Program} (w : World) (b o n : Nat) (L : List UInt8) (hr : w.rangeAt b o (bv L)) (hn : L.length = n) : (loadCellsFrom ⟨b, o, none⟩ 0 n #[]).run P w = .ok (bvA L) w := by
  subst hn
  have := run_loadCells_list (P := P) w ⟨b, o, none⟩ (bv L) (fun j v hv => by rw [Addr.add_mid]; exact hr j v hv)
  simpa [loadCells, bv_length, bvA] using this
theorem store_row {P : Program} (w : World) (b : Nat) (t : TypeId) (cur L : List UInt8) (hg : w.heap[b]? = some (.cells (bvA cur) t)) (hl : L.length = cur.length) :
    (storeCells ⟨b, 0, none⟩ (bvA L).toList 0).run P w = .ok () (w.setRow b (bvA L)) := by
  rw [bvA_toList, run_storeCells_at P b 0 t (bv L) 0 (bvA cur) w hg (by rw [bvA_size, bv_length]; omega) (bv_one L), bvA_toList, bv_length, hl]
  simp only [Nat.add_zero, Nat.zero_add, List.take_zero, List.nil_append]
  rw [List.drop_of_length_le (by rw [bv_length]; omega), List.append_nil]
  rfl
theorem range_row {w : World} {b : Nat} {L : List UInt8} {t : TypeId} (h : w.heap[b]? = some (.cells (bvA L) t)) : w.rangeAt b 0 (bv L) := fun j v hv => by
  rw [Nat.zero_add, cell_of_row w b j _ _ _ h]
  simpa [bvA] using hv

/-- A whole row of bytes is stored, at the operation. -/
theorem wpList_store_row {P : Program} {ops : Array Oper} {rest : List Oper} {op : Oper} {a : Act} {w : World} {Q : Exit → Act → World → Prop} (hgd : op.guard = none) (ty : TypeId) (x y : Operand) (ho : op.op = .store ty x y)
    (b : Nat) (t : TypeId) (cur L : List UInt8) (hx : a.eval x = .pointer (some ⟨b, 0, none⟩)) (hy : a.eval y = .agg (bvA L)) (hg : w.heap[b]? = some (.cells (bvA cur) t)) (hl : L.length = cur.length)
    (hi : (P.info? ty).map (·.size) = some L.length)
    (h : wpList P ops Q rest (a.put op.dst undef) (w.setRow b (bvA L))) : wpList P ops Q (op :: rest) a w := by
  refine wpList_plain hgd fun _ hK => ?_
  have hst := store_row (P := P) w b t cur L hg hl
  unfold Oper.wp execOp
  cases hq : P.info? ty with
  | none => simp [hq] at hi
  | some i =>
    have hs : (bvA L).size = i.size := by rw [bvA_size]; simp [hq] at hi; omega
    have : (storeVar ty ⟨b, 0, none⟩ (.agg (bvA L))).run P w = .ok () (w.setRow b (bvA L)) := by
      simp [storeVar, sizeOf, typeInfo, hq, Value.cells, hs, hst]
    simp only [ho, hx, hy, Instr.storeAt, Instr.sureAddr, Sem.run_bind, Sem.run_pure, Result.andThen_ok, this]
    exact hK _ _ h

theorem sizeArr : (Try.prog.info? 79).map (·.size) = some 64 := by kernel_rfl

theorem EncSt.number {w : World} {g n : Nat} {owed : Bool} {L : List UInt8} {wr : World} (R : EncSt w g n owed L wr) (hl : L.length = 64) (i v : Nat) (i' v' : Int) (hi : i < 23) (hii : i' = i) (hv : v' = v) :
    Calls Try.prog 48 #[.slice (some ⟨w.heap.size + 1 + 1, 17, none⟩) 47 47, .int .i64 i', .int .i64 v'] wr fun e w' => e = .returned (.tuple #[]) ∧ Hid (EncSt w g n owed (putL L 17 i v) w' ∧ (putL L 17 i v).length = 64) := by
  subst hii hv
  exact (putNumber_any _ 17 47 47 i v L _ wr R.b (by omega) (by omega) (by omega)).mono fun e w' ⟨he, hb, hk⟩ => ⟨he, R.put hb hk, by rw [putL_length]; exact hl⟩

set_option maxRecDepth 100000 in
set_option maxHeartbeats 1000000 in
theorem encode_any (at_ g n : Nat) (owed : Bool) (w : World) :
    Calls Try.prog 44 #[.agg #[.int .i64 g, .bool owed, .int .i64 n], .int .i64 at_] w fun e w' => e = .returned (.agg (bvA (encL at_ g n owed))) ∧ Kept [] w w' := by
  go_enter Try.func44, Try.ntmps44
  go_wp2_with fail
  generalize hw3 : World.alloc (World.alloc (World.alloc w _) _) _ = w3
  have HS : EncSt w g n owed zeroL w3 := by
    rw [← hw3]
    refine ⟨?_, ?_, ?_, (Kept.alloc _ _ _).trans ((Kept.alloc _ _ _).trans (Kept.alloc _ _ _))⟩
    · exact (Kept.alloc [] _ _).heap (by simp) ((Kept.alloc [] _ _).heap (by simp) (heap_alloc_last w _))
    · have := heap_alloc_last (w.alloc (.cells #[.int .i64 g, .bool owed, .int .i64 n] 69)) (.cells (bvA zeroL) 79)
      rw [size_alloc] at this
      exact (Kept.alloc [] _ _).heap (by simp) this
    · have := heap_alloc_last ((w.alloc (.cells #[.int .i64 g, .bool owed, .int .i64 n] 69)).alloc (.cells (bvA zeroL) 79)) (.cells (bvA zeroL) 79)
      rw [size_alloc, size_alloc] at this
      exact this
  clear hw3
  rw [Lib.run_copy_row_string w3 48 9 3 5 (w.heap.size + 1 + 1) 0 64 64 _ (bvA zeroL) 79 Try.underlying48 (by kernel_rfl) HS.b (by decide) (by decide)]
  generalize hw4 : World.setRow w3 _ _ = w4
  have HS4 : EncSt w g n owed (magicL ++ List.replicate 47 0) w4 := by
    refine HS.put ?_ (by rw [← hw4]; exact setRow_kept _ _ _)
    rw [← hw4, setRow_heap _ _ _ _ _ _ HS.b]
    rfl
  clear hw4 HS w3
  rw [show ∀ b : ByteArray, goInt (b.size : Int) = goInt (b.data.size : Int) from fun _ => rfl]
  go_wp2_with fail
  refine (HS4.number (by simp [magicL]) 0 at_ _ _ (by omega) rfl rfl).mono ?_
  rintro e w5 ⟨rfl, H5⟩
  clear HS4 w4
  have c0 : w5.cell? ⟨w.heap.size, 0, none⟩ = some (.int .i64 g) := cell_of_row w5 _ 0 _ _ _ H5.out.1.h
  have c1 : w5.cell? ⟨w.heap.size, 1, none⟩ = some (.bool owed) := cell_of_row w5 _ 1 _ _ _ H5.out.1.h
  have c2 : w5.cell? ⟨w.heap.size, 2, none⟩ = some (.int .i64 n) := cell_of_row w5 _ 2 _ _ _ H5.out.1.h
  go_wp2_with fail
  refine (H5.out.1.number H5.out.2 1 n _ _ (by omega) rfl rfl).mono ?_
  rintro e w6 ⟨rfl, H6⟩
  clear c0 c1 c2 H5 w5
  have c1 : w6.cell? ⟨w.heap.size, 1, none⟩ = some (.bool owed) := cell_of_row w6 _ 1 _ _ _ H6.out.1.h
  obtain ⟨M, hM⟩ : ∃ M, M = if owed then putL (putL (putL (magicL ++ List.replicate 47 0) 17 0 at_) 17 1 n) 17 2 1 else putL (putL (magicL ++ List.replicate 47 0) 17 0 at_) 17 1 n := ⟨_, rfl⟩
  have HM := Lib.hid hM
  clear hM
  cases owed
  all_goals
    go_wp2_with fail
    first
      | (refine (H6.out.1.number H6.out.2 2 1 _ _ (by omega) rfl rfl).mono ?_
         rintro e w7 ⟨rfl, H7⟩
         clear c1 H6 w6
         go_wp2_with fail)
      | (revert H6; clear c1; generalize w6 = w7; intro H7; clear w6)
    have HM' := HM.out
    simp only [if_true, if_false, Bool.false_eq_true] at HM'
    rw [← HM'] at H7
    clear HM'
    have c0 : w7.cell? ⟨w.heap.size, 0, none⟩ = some (.int .i64 g) := cell_of_row w7 _ 0 _ _ _ H7.out.1.h
    refine wp_loop_rounds 5 ?_
    rw [rounds_succ]
    go_wp2_with fail
    refine (H7.out.1.number H7.out.2 3 (g / 281474976710656) _ _ (by omega) rfl rfl).mono ?_
    rintro e w8 ⟨rfl, H8⟩
    clear c0 H7 w7
    have c0 : w8.cell? ⟨w.heap.size, 0, none⟩ = some (.int .i64 g) := cell_of_row w8 _ 0 _ _ _ H8.out.1.h
    go_wp2_with fail
    rw [rounds_succ]
    go_wp2_with fail
    refine (H8.out.1.number H8.out.2 4 (g / 4294967296) _ _ (by omega) rfl rfl).mono ?_
    rintro e w9 ⟨rfl, H9⟩
    clear c0 H8 w8
    have c0 : w9.cell? ⟨w.heap.size, 0, none⟩ = some (.int .i64 g) := cell_of_row w9 _ 0 _ _ _ H9.out.1.h
    go_wp2_with fail
    rw [rounds_succ]
    go_wp2_with fail
    refine (H9.out.1.number H9.out.2 5 (g / 65536) _ _ (by omega) rfl rfl).mono ?_
    rintro e w10 ⟨rfl, H10⟩
    clear c0 H9 w9
    have c0 : w10.cell? ⟨w.heap.size, 0, none⟩ = some (.int .i64 g) := cell_of_row w10 _ 0 _ _ _ H10.out.1.h
    go_wp2_with fail
    rw [rounds_succ]
    go_wp2_with fail
    refine (H10.out.1.number H10.out.2 6 g _ _ (by omega) rfl rfl).mono ?_
    rintro e w11 ⟨rfl, H11⟩
    clear c0 H10 w10
    obtain ⟨L, hL⟩ : ∃ L, L = putL (putL (putL (putL M 17 3 (g / 281474976710656)) 17 4 (g / 4294967296)) 17 5 (g / 65536)) 17 6 g := ⟨_, rfl⟩
    rw [← hL] at H11
    have HL := Lib.hid hL
    clear hL
    go_wp2_with fail
    rw [rounds_succ]
    have hrg := range_row H11.out.1.b
    have hsz : (Try.prog.info? 79).map (·.size) = some (bv L).length := by rw [bv_length, H11.out.2]; exact sizeArr
    have hsz2 : (Try.prog.info? 79).map (·.size) = some L.length := by rw [H11.out.2]; exact sizeArr
    have hl2 : L.length = zeroL.length := by rw [H11.out.2]; rfl
    have HR := H11.out.1.r
    go_wp2_with first
      | (refine wpList_load_mid rfl 79 _ rfl _ 0 rfl (bv L) _ hrg Try.underlying79 rfl hsz ?_)
      | (refine wpList_store_row rfl 79 _ _ rfl (w.heap.size + 1) 79 zeroL L rfl rfl HR hl2 hsz2 ?_)
    refine bodyPost_ret_by (results_cell_row rfl _ _ (w.heap.size + 1) 79 (bvA L) (0, 0) _ rfl (setRow_heap _ _ _ _ _ _ HR) Try.underlying79 rfl (by rw [bvA_size]; exact hsz2)) rfl ⟨?_, ?_⟩
    · rw [HL.out, HM.out]; rfl
    · exact H11.out.1.kept.into (setRow_kept _ _ _) (by simp)

end Go.Proofs.Ytmckapfncnoddaa

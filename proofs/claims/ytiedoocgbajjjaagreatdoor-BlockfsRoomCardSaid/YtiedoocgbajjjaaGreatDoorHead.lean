/-
  What the journal's small calls do: numbers of two bytes put into bytes and taken from them; how many blocks a group takes; a piece of memory.
  Conditions: those that each theorem states.
  The journal's head, read from its block, and written there.
  Conditions: those that each theorem states.
-/
import Derived.Test.YtiedoocgbajjjaaGreatDoorLTakeE
import Derived.Test.YtiedoocgbajjjaaGreatDoorDisk
import Derived.Test.YtiedoocgbajjjaaGreatDoorOrder
import Derived.Deep.QuietTactic
import Derived.BigQuiet
import Derived.Lib.BufferWrite
import Derived.Deep.RegionWith
import Derived.ChangeKeysEq
import Derived.Laws.StructEq
namespace Go.Proofs.YtiedoocgbajjjaaGreatDoor
open Go.RowKit Go.Maps
set_option maxRecDepth 100000

def tabN (n : Nat) : Nat := (n + 31) / 32
def spanN (n : Nat) : Nat := tabN n + n

theorem tables_any (n : Nat) (w : World) (hn : n < 4611686018427387904) :
    Calls Tryz.prog 140 #[.int .i64 n] w fun e w' => e = .returned (.int .i64 (tabN n)) ∧ w = w' := by
  have hx : Hid (((n : Int) + 32 - 1) / 32 = (tabN n : Int)) := by
    show _ = _
    unfold tabN; omega
  go_enter Tryz.func140, Tryz.ntmps140
  go_wp2
  go_ret
  exact ⟨by rw [← hx.out]; rfl, rfl⟩

theorem span_any (n : Nat) (w : World) (hn : n < 4611686018427387904) :
    Calls Tryz.prog 127 #[.int .i64 n] w fun e w' => e = .returned (.int .i64 (spanN n)) ∧ w = w' := by
  have hx : Hid ((tabN n : Int) + n = (spanN n : Int)) := by
    show _ = _
    unfold spanN; omega
  have hy : (tabN n : Int) ≤ n := by unfold tabN; omega
  go_enter Tryz.func127, Tryz.ntmps127
  go_wp2_with fail
  refine (tables_any n w hn).mono ?_
  rintro e w' ⟨rfl, rfl⟩
  go_wp2_with fail
  go_ret
  exact ⟨by rw [← hx.out]; rfl, rfl⟩

theorem putNumber_any (b o len cap i n : Nat) (L : List UInt8) (t : TypeId) (w : World) (hh : w.heap[b]? = some (.cells (bvA L) t)) (h1 : 2 * i + 1 < len) (h2 : o + len ≤ L.length) (h3 : len < 4611686018427387904) :
    Calls Tryz.prog 119 #[.slice (some ⟨b, o, none⟩) len cap, .int .i64 i, .int .i64 n] w fun e w' => e = .returned (.tuple #[]) ∧ w'.heap[b]? = some (.cells (bvA ((L.set (o + 2 * i) (hiB n)).set (o + (2 * i + 1)) (loB n))) t) ∧ Kept [b] w w' := by
  have f1 : ∀ j, w.frozen? ⟨b, j, none⟩ = false := fun j => frozen_of_row w b j _ _ hh
  have c1 := cell_bvA hh (o + 2 * i) (by omega)
  have c2 := cell_bvA hh (o + (2 * i + 1)) (by omega)
  have HH := Lib.hid hh
  clear hh
  go_enter Tryz.func119, Tryz.ntmps119
  go_wp2
  go_end0
  refine ⟨rfl, ?_, (Kept.setCell _ _ _ _ (by simp)).trans (Kept.setCell _ _ _ _ (by simp))⟩
  rw [hiB_val, loB_val, heap_setCell_same _ b _ _ _ _ (heap_setCell_same _ b _ _ _ _ HH.out), bvA_set, bvA_set]

theorem takeNumber_any (b o len cap i : Nat) (L : List UInt8) (w : World) (hh : w.rangeAt b o (bv L)) (hl : L.length = len) (h1 : 2 * i + 1 < len) (h3 : len < 4611686018427387904) :
    Calls Tryz.prog 113 #[.slice (some ⟨b, o, none⟩) len cap, .int .i64 i] w fun e w' => e = .returned (.int .i64 (256 * (L[2 * i]'(by omega)).toNat + (L[2 * i + 1]'(by omega)).toNat : Nat)) ∧ ∃ n, w' = w.drewN n := by
  have c1 : w.cell? ⟨b, o + 2 * i, none⟩ = some (.int .u8 (((L[2 * i]'(by omega)).toNat : Nat) : Int)) := hh (2 * i) _ (by simp [bv, show 2 * i < L.length by omega])
  have c2 : w.cell? ⟨b, o + (2 * i + 1), none⟩ = some (.int .u8 (((L[2 * i + 1]'(by omega)).toNat : Nat) : Int)) := hh (2 * i + 1) _ (by simp [bv, show 2 * i + 1 < L.length by omega])
  obtain ⟨x, hx⟩ : ∃ x, L[2 * i]'(by omega) = x := ⟨_, rfl⟩
  obtain ⟨y, hy⟩ : ∃ y, L[2 * i + 1]'(by omega) = y := ⟨_, rfl⟩
  rw [hx] at c1 ⊢
  rw [hy] at c2 ⊢
  have x1 : x.toNat < 256 := UInt8.toNat_lt x
  have y1 : y.toNat < 256 := UInt8.toNat_lt y
  have HX := Lib.hid (or_byte x.toNat y x1)
  clear hx hy hh
  go_enter Tryz.func113, Tryz.ntmps113
  go_wp2
  go_quiet (fail)
  go_wp2
  go_ret
  exact ⟨by rw [← HX.out]; rfl, _, rfl⟩

theorem piece_any (b o len cap i : Nat) (w : World) (h1 : (i + 1) * 64 ≤ len) (h2 : len ≤ cap) (h3 : cap ≤ 9223372036854775807) :
    Calls Tryz.prog 128 #[.slice (some ⟨b, o, none⟩) len cap, .int .i64 i] w fun e w' => e = .returned (.slice (some ⟨b, o + i * 64, none⟩) 64 64) ∧ w = w' := by
  go_enter Tryz.func128, Tryz.ntmps128
  go_wp2
  have hx : Hid ((i + 1) * 64 - i * 64 = 64) := by show _ = _; omega
  go_ret
  refine ⟨?_, rfl⟩
  show Ending.returned (.slice (some ⟨b, o + i * 64, none⟩) ((i + 1) * 64 - i * 64) ((i + 1) * 64 - i * 64)) = _
  rw [hx.out]

def magicL : List UInt8 := [109, 97, 106, 111, 114, 100, 111, 109, 111, 32, 106, 111, 117, 114, 110, 97, 108]
/-- The head's block. -/
def encL (at_ g n : Nat) (owed : Bool) : List UInt8 :=
  magicL ++ [hiB at_, loB at_, hiB n, loB n, 0, if owed then 1 else 0, hiB (g / 281474976710656), loB (g / 281474976710656), hiB (g / 4294967296), loB (g / 4294967296), hiB (g / 65536), loB (g / 65536), hiB g, loB g] ++ List.replicate 33 0
theorem encL_length (at_ g n : Nat) (owed : Bool) : (encL at_ g n owed).length = 64 := by simp [encL, magicL]

def putLJ (L : List UInt8) (o i n : Nat) : List UInt8 := (L.set (o + 2 * i) (hiB n)).set (o + (2 * i + 1)) (loB n)
theorem putL_length (L : List UInt8) (o i n : Nat) : (putLJ L o i n).length = L.length := by simp [putLJ]

structure EncSt (w : World) (g n : Nat) (owed : Bool) (L : List UInt8) (wr : World) : Prop where
  h : wr.heap[w.heap.size]? = some (.cells #[.int .i64 g, .bool owed, .int .i64 n] 116)
  r : wr.heap[w.heap.size + 1]? = some (.cells (bvA zeroL) 72)
  b : wr.heap[w.heap.size + 1 + 1]? = some (.cells (bvA L) 72)
  kept : Kept [] w wr

theorem EncSt.put {w : World} {g n : Nat} {owed : Bool} {L L' : List UInt8} {wr w' : World} (R : EncSt w g n owed L wr) (hb : w'.heap[w.heap.size + 1 + 1]? = some (.cells (bvA L') 72)) (hk : Kept [w.heap.size + 1 + 1] wr w') : EncSt w g n owed L' w' :=
  ⟨hk.heap (by simp; omega) R.h, hk.heap (by simp) R.r, hb, R.kept.into hk (by simp; omega)⟩

theorem sizeArr : (Tryz.prog.info? 72).map (·.size) = some 64 := by kernel_rfl

theorem EncSt.number {w : World} {g n : Nat} {owed : Bool} {L : List UInt8} {wr : World} (R : EncSt w g n owed L wr) (hl : L.length = 64) (i v : Nat) (i' v' : Int) (hi : i < 23) (hii : i' = i) (hv : v' = v) :
    Calls Tryz.prog 119 #[.slice (some ⟨w.heap.size + 1 + 1, 17, none⟩) 47 47, .int .i64 i', .int .i64 v'] wr fun e w' => e = .returned (.tuple #[]) ∧ Hid (EncSt w g n owed (putLJ L 17 i v) w' ∧ (putLJ L 17 i v).length = 64) := by
  subst hii hv
  exact (putNumber_any _ 17 47 47 i v L _ wr R.b (by omega) (by omega) (by omega)).mono fun e w' ⟨he, hb, hk⟩ => ⟨he, R.put hb hk, by rw [putL_length]; exact hl⟩

set_option maxRecDepth 100000 in
set_option maxHeartbeats 1000000 in
theorem encode_any (at_ g n : Nat) (owed : Bool) (w : World) :
    Calls Tryz.prog 89 #[.agg #[.int .i64 g, .bool owed, .int .i64 n], .int .i64 at_] w fun e w' => e = .returned (.agg (bvA (encL at_ g n owed))) ∧ Kept [] w w' := by
  go_enter Tryz.func89, Tryz.ntmps89
  go_wp2_with fail
  generalize hw3 : World.alloc (World.alloc (World.alloc w _) _) _ = w3
  have HS : EncSt w g n owed zeroL w3 := by
    rw [← hw3]
    refine ⟨?_, ?_, ?_, (Kept.alloc _ _ _).trans ((Kept.alloc _ _ _).trans (Kept.alloc _ _ _))⟩
    · exact (Kept.alloc [] _ _).heap (by simp) ((Kept.alloc [] _ _).heap (by simp) (heap_alloc_last w _))
    · have := heap_alloc_last (w.alloc (.cells #[.int .i64 g, .bool owed, .int .i64 n] 116)) (.cells (bvA zeroL) 72)
      rw [size_alloc] at this
      exact (Kept.alloc [] _ _).heap (by simp) this
    · have := heap_alloc_last ((w.alloc (.cells #[.int .i64 g, .bool owed, .int .i64 n] 116)).alloc (.cells (bvA zeroL) 72)) (.cells (bvA zeroL) 72)
      rw [size_alloc, size_alloc] at this
      exact this
  clear hw3
  rw [Lib.run_copy_row_string w3 22 9 3 5 (w.heap.size + 1 + 1) 0 64 64 _ (bvA zeroL) 72 Tryz.underlying22 (by kernel_rfl) HS.b (by decide) (by decide)]
  generalize hw4 : World.setRow w3 _ _ = w4
  have HS4 : EncSt w g n owed (magicL ++ List.replicate 47 0) w4 := by
    refine HS.put ?_ (by rw [← hw4]; exact setRow_kept _ _ _)
    rw [← hw4, setRow_heap _ _ _ _ _ _ HS.b]
    rfl
  clear hw4 HS w3
  rw [show ∀ b : ByteArray, goInt (b.size : Int) = goInt (b.data.size : Int) from fun _ => rfl]
  go_wp2_with fail
  refine (HS4.number (by simp [magicL]) 0 at_ _ _ (by omega) rfl rfl).mono ?_
  rintro e w5 ⟨rfl, H5⟩
  clear HS4 w4
  have c0 : w5.cell? ⟨w.heap.size, 0, none⟩ = some (.int .i64 g) := cell_of_row w5 _ 0 _ _ _ H5.out.1.h
  have c1 : w5.cell? ⟨w.heap.size, 1, none⟩ = some (.bool owed) := cell_of_row w5 _ 1 _ _ _ H5.out.1.h
  have c2 : w5.cell? ⟨w.heap.size, 2, none⟩ = some (.int .i64 n) := cell_of_row w5 _ 2 _ _ _ H5.out.1.h
  go_wp2_with fail
  refine (H5.out.1.number H5.out.2 1 n _ _ (by omega) rfl rfl).mono ?_
  rintro e w6 ⟨rfl, H6⟩
  clear c0 c1 c2 H5 w5
  have c1 : w6.cell? ⟨w.heap.size, 1, none⟩ = some (.bool owed) := cell_of_row w6 _ 1 _ _ _ H6.out.1.h
  obtain ⟨M, hM⟩ : ∃ M, M = if owed then putLJ (putLJ (putLJ (magicL ++ List.replicate 47 0) 17 0 at_) 17 1 n) 17 2 1 else putLJ (putLJ (magicL ++ List.replicate 47 0) 17 0 at_) 17 1 n := ⟨_, rfl⟩
  have HM := Lib.hid hM
  clear hM
  cases owed
  all_goals
    go_wp2_with fail
    first
      | (refine (H6.out.1.number H6.out.2 2 1 _ _ (by omega) rfl rfl).mono ?_
         rintro e w7 ⟨rfl, H7⟩
         clear c1 H6 w6
         go_wp2_with fail)
      | (revert H6; clear c1; generalize w6 = w7; intro H7; clear w6)
    have HM' := HM.out
    simp only [if_true, if_false, Bool.false_eq_true] at HM'
    rw [← HM'] at H7
    clear HM'
    have c0 : w7.cell? ⟨w.heap.size, 0, none⟩ = some (.int .i64 g) := cell_of_row w7 _ 0 _ _ _ H7.out.1.h
    refine wp_loop_rounds 5 ?_
    rw [rounds_succ]
    go_wp2_with fail
    refine (H7.out.1.number H7.out.2 3 (g / 281474976710656) _ _ (by omega) rfl rfl).mono ?_
    rintro e w8 ⟨rfl, H8⟩
    clear c0 H7 w7
    have c0 : w8.cell? ⟨w.heap.size, 0, none⟩ = some (.int .i64 g) := cell_of_row w8 _ 0 _ _ _ H8.out.1.h
    go_wp2_with fail
    rw [rounds_succ]
    go_wp2_with fail
    refine (H8.out.1.number H8.out.2 4 (g / 4294967296) _ _ (by omega) rfl rfl).mono ?_
    rintro e w9 ⟨rfl, H9⟩
    clear c0 H8 w8
    have c0 : w9.cell? ⟨w.heap.size, 0, none⟩ = some (.int .i64 g) := cell_of_row w9 _ 0 _ _ _ H9.out.1.h
    go_wp2_with fail
    rw [rounds_succ]
    go_wp2_with fail
    refine (H9.out.1.number H9.out.2 5 (g / 65536) _ _ (by omega) rfl rfl).mono ?_
    rintro e w10 ⟨rfl, H10⟩
    clear c0 H9 w9
    have c0 : w10.cell? ⟨w.heap.size, 0, none⟩ = some (.int .i64 g) := cell_of_row w10 _ 0 _ _ _ H10.out.1.h
    go_wp2_with fail
    rw [rounds_succ]
    go_wp2_with fail
    refine (H10.out.1.number H10.out.2 6 g _ _ (by omega) rfl rfl).mono ?_
    rintro e w11 ⟨rfl, H11⟩
    clear c0 H10 w10
    obtain ⟨L, hL⟩ : ∃ L, L = putLJ (putLJ (putLJ (putLJ M 17 3 (g / 281474976710656)) 17 4 (g / 4294967296)) 17 5 (g / 65536)) 17 6 g := ⟨_, rfl⟩
    rw [← hL] at H11
    have HL := Lib.hid hL
    clear hL
    go_wp2_with fail
    rw [rounds_succ]
    have hrg := range_row H11.out.1.b
    have hsz : (Tryz.prog.info? 72).map (·.size) = some (bv L).length := by rw [bv_length, H11.out.2]; exact sizeArr
    have hsz2 : (Tryz.prog.info? 72).map (·.size) = some L.length := by rw [H11.out.2]; exact sizeArr
    have hl2 : L.length = zeroL.length := by rw [H11.out.2]; rfl
    have HR := H11.out.1.r
    go_wp2_with first
      | (refine wpList_load_mid rfl 72 _ rfl _ 0 rfl (bv L) _ hrg Tryz.underlying72 rfl hsz ?_)
      | (refine wpList_store_row rfl 72 _ _ rfl (w.heap.size + 1) 72 zeroL L rfl rfl HR hl2 hsz2 ?_)
    refine bodyPost_ret_by (results_cell_row rfl _ _ (w.heap.size + 1) 72 (bvA L) (0, 0) _ rfl (setRow_heap _ _ _ _ _ _ HR) Tryz.underlying72 rfl (by rw [bvA_size]; exact hsz2)) rfl ⟨?_, ?_⟩
    · rw [HL.out, HM.out]; rfl
    · exact H11.out.1.kept.into (setRow_kept _ _ _) (by simp)

end Go.Proofs.YtiedoocgbajjjaaGreatDoor

namespace Go.Proofs.YtiedoocgbajjjaaGreatDoor
open Go.RowKit Go.Maps
set_option maxRecDepth 100000

/-- The i-th number behind the magic. -/
def numL (L : List UInt8) (i : Nat) : Nat := 256 * (L.getD (17 + 2 * i) 0).toNat + (L.getD (17 + (2 * i + 1)) 0).toNat
def grpL (L : List UInt8) : Nat → Nat
  | 0 => 0
  | k + 1 => grpL L k * 65536 + numL L (3 + k)

theorem takeHead (b : Nat) (L : List UInt8) (hl : L.length = 64) (i : Nat) (i' : Int) (hi : i < 23) (hii : i' = i) (w : World) (hr : w.rangeAt b 0 (bv L)) :
    Calls Tryz.prog 113 #[.slice (some ⟨b, 17, none⟩) 47 47, .int .i64 i'] w fun e w' => e = .returned (.int .i64 (numL L i)) ∧ ∃ n, w' = w.drewN n := by
  subst hii
  have h2 : w.rangeAt b 17 (bv (L.drop 17)) := fun j v hv => by
    have : (bv L)[17 + j]? = some v := by
      simp only [bv, List.map_drop, List.getElem?_drop] at hv
      exact hv
    have := hr (17 + j) v this
    rwa [Nat.zero_add] at this
  have := takeNumber_any b 17 47 47 i (L.drop 17) w h2 (by simp; omega) (by omega) (by omega)
  refine this.mono fun e w' ⟨he, hw⟩ => ⟨?_, hw⟩
  rw [he]
  have e1 : 17 + 2 * i < L.length := by omega
  have e2 : 17 + (2 * i + 1) < L.length := by omega
  simp only [numL, List.getElem_drop, List.getD_eq_getElem?_getD, List.getElem?_eq_getElem e1, List.getElem?_eq_getElem e2, Option.getD_some]

theorem takeHeadD (b : Nat) (L : List UInt8) (hl : L.length = 64) (i : Nat) (i' : Int) (hi : i < 23) (hii : i' = i) (w : World) (hr : w.rangeAt b 0 (bv L)) :
    Calls Tryz.prog 113 #[.slice (some ⟨b, 17, none⟩) 47 47, .int .i64 i'] w fun e w' => e = .returned (.int .i64 (numL L i)) ∧ Hid (Drawn w w') :=
  takeHead b L hl i i' hi hii w hr

theorem numL_lt (L : List UInt8) (i : Nat) : numL L i < 65536 := by
  unfold numL
  have h1 := UInt8.toNat_lt (L.getD (17 + 2 * i) 0)
  have h2 := UInt8.toNat_lt (L.getD (17 + (2 * i + 1)) 0)
  omega

theorem grpL_lt (L : List UInt8) (h3 : numL L 3 < 16384) (k : Nat) (hk : k ≤ 3) : grpL L k < 70368744177664 := by
  have h4 := numL_lt L 4
  have h5 := numL_lt L 5
  rcases k with _ | _ | _ | _ | k
  · simp [grpL]
  · simp [grpL]; omega
  · simp only [grpL, Nat.add_zero, Nat.reduceAdd]; omega
  · simp only [grpL, Nat.add_zero, Nat.reduceAdd]; omega
  · omega
theorem or_num (g n : Nat) (hg : g < 70368744177664) (hn : n < 65536) : bits .or .i64 ((g : Int) * 65536) (n : Int) = ((g * 65536 + n : Nat) : Int) := by
  have := bits_or_i64_nat (g * 65536) n (by omega) (by omega)
  rw [Int.natCast_mul] at this
  rw [show ((65536 : Nat) : Int) = 65536 from rfl] at this
  rw [this, or_low 16 g n hn]

theorem equal_bytes (w : World) (A B : List UInt8) (ha : A.length = 64) (hb : B.length = 64) : (Op.equalIn 10000 72 (.agg (bvA A)) (.agg (bvA B))).run Tryz.prog w = .ok (decide (A = B)) w := by
  obtain ⟨i, hi⟩ : ∃ i, Tryz.prog.info? 5 = some i := by
    have := infoByte
    cases h : Tryz.prog.info? 5 with
    | none => rw [h] at this; simp at this
    | some i => exact ⟨i, rfl⟩
  rw [run_equalIn_array w 9999 (bvA A) (bvA B) Tryz.underlying72 hi, show Tryz.prog.cellsOf 5 = 1 by kernel_rfl]
  rw [eqItems_bytes w 9998 5 (by kernel_rfl) Tryz.underlying5 A B (List.range 64) (fun i hi => by simp at hi; omega)]
  congr 1
  rw [Bool.eq_iff_iff]
  simp only [List.all_eq_true, List.mem_range, decide_eq_true_eq, beq_iff_eq]
  refine ⟨fun h => List.ext_getElem (by omega) fun i h1 h2 => ?_, fun h i _ => by rw [h]⟩
  have := h i (by omega)
  simpa [h1, h2] using this

structure HdSt (w : World) (b : Nat) (L : List UInt8) (g n : Nat) (owed : Bool) (wr : World) : Prop where
  h : wr.heap[w.heap.size + 1]? = some (.cells #[.int .i64 g, .bool owed, .int .i64 n] 116)
  r : wr.heap[w.heap.size]? = some (.cells #[.int .i64 0, .bool false, .int .i64 0] 116)
  b : wr.rangeAt b 0 (bv L)
  kept : Kept [] w wr

theorem HdSt.grow {w : World} {b : Nat} {L : List UInt8} {g n : Nat} {owed : Bool} {wr w' : World} (R : HdSt w b L g n owed wr) (hb : b < w.heap.size) (hk : Kept [] wr w') : HdSt w b L g n owed w' :=
  ⟨hk.heap (by simp) R.h, hk.heap (by simp) R.r, hk.range (Nat.lt_of_lt_of_le hb R.kept.size) (by simp) R.b, R.kept.trans hk⟩

theorem results_row_tmp {P : Program} {fn : Func} {p u : Tmp} {ty : TypeId} (h : fn.results = #[.cell p ty, .tmp u]) (tmps : Array Value) (w : World) (g : Nat) (t : TypeId) (cs : Array Value) (d : TypeDesc)
    (hp : tmps.getD p undef = .pointer (some ⟨g, 0, none⟩)) (hg : w.heap[g]? = some (.cells cs t)) (hu : P.underlying ty = some d) (hd : d.isRow = true) (hi : (P.info? ty).map (·.size) = some cs.size) :
    (results fn tmps).run P w = .ok (.tuple #[.agg cs, tmps.getD u undef]) w := by
  have hl := run_loadVar_mid (P := P) w g 0 ty cs.toList d (fun j v hv => by rw [Nat.zero_add, cell_of_row w g j _ _ _ hg]; simpa using hv) hu hd (by simpa using hi)
  rw [results_cell_tmp h, hp]
  simp only [asAddr, Sem.run_pure, Result.andThen_ok, hl, Array.toArray_toList]

theorem sizeHead : (Tryz.prog.info? 116).map (·.size) = some 3 := by kernel_rfl

set_option maxRecDepth 100000 in
set_option maxHeartbeats 1000000 in
theorem decode_walk (b : Nat) (at_ n1 n2 : Nat) (L : List UInt8) (hl : L.length = 64) (w : World) (hb : b < w.heap.size) (hr : w.rangeAt b 0 (bv L)) (h3 : numL L 3 < 16384) (ok owed : Bool) (hn1 : numL L 1 = n1) (hn2 : numL L 2 = n2) (howed : ((n2 : Int) == 1) = owed)
    (q1 : n1 ≤ 192) (q2 : n1 = 0 ∨ owed = true) (hok : ok = decide (encL at_ (grpL L 4) n1 owed = L)) (hv : Value) (hhv : hv = if ok then .agg #[.int .i64 (grpL L 4), .bool owed, .int .i64 n1] else .agg #[.int .i64 0, .bool false, .int .i64 0]) :
    Calls Tryz.prog 86 #[.slice (some ⟨b, 0, none⟩) 64 64, .int .i64 at_] w fun e w' =>
      e = .returned (.tuple #[hv, .bool ok]) ∧ Kept [] w w' := by
  have HV := Lib.hid hhv
  have HQ := Lib.hid q2
  clear hhv q2
  have HR := Lib.hid hr
  have HO := Lib.hid hok
  have H3 := Lib.hid h3
  have l1 : n1 < 65536 := by rw [← hn1]; exact numL_lt L 1
  have l2 : n2 < 65536 := by rw [← hn2]; exact numL_lt L 2
  have HN1 := Lib.hid hn1
  have HN2 := Lib.hid hn2
  have HL := Lib.hid hl
  have HB := Lib.hid hb
  clear hr hok h3 hn1 hn2 hl hb
  go_enter Tryz.func86, Tryz.ntmps86
  go_wp2_with fail
  refine (takeHeadD b L HL.out 1 _ (by omega) rfl _ ((Kept.alloc [] _ _).range HB.out (by simp) HR.out)).mono ?_
  rw [HN1.out]
  rintro e w1 ⟨rfl, D1⟩
  go_wp2_with fail
  have hk1 : Kept [] (w.alloc (.cells #[.int .i64 0, .bool false, .int .i64 0] 116)) w1 := D1.out.kept
  refine (takeHeadD b L HL.out 2 _ (by omega) rfl _ (((Kept.alloc [] _ _).trans hk1).range HB.out (by simp) HR.out)).mono ?_
  rw [HN2.out]
  rintro e w2 ⟨rfl, D2⟩
  have hs2 : w2.heap.size = w.heap.size + 1 := by rw [D2.out.size, D1.out.size]; exact size_alloc _ _
  have hk2 : Kept [] w1 w2 := D2.out.kept
  have HK2 : Hid (Kept [] w w2) := (Kept.alloc [] _ _).trans (hk1.trans hk2)
  have hr2 := Lib.hid ((hk1.trans hk2).heap (by simp) (heap_alloc_last w (.cells #[.int .i64 0, .bool false, .int .i64 0] 116)))
  clear D1 D2 hk1 hk2
  have HS2 := Lib.hid hs2
  go_wp2_with fail
  clear howed hs2
  generalize hw3 : World.alloc w2 _ = w3
  have HS3 : HdSt w b L 0 n1 owed w3 := by
    rw [← hw3]
    refine ⟨?_, (Kept.alloc [] _ _).heap (by simp) hr2.out, (HK2.out.trans (Kept.alloc [] _ _)).range HB.out (by simp) HR.out, HK2.out.trans (Kept.alloc _ _ _)⟩
    have := heap_alloc_last w2 (.cells #[.int .i64 0, .bool owed, .int .i64 n1] 116)
    rw [HS2.out] at this
    exact this
  have HH3 := Lib.hid HS3
  clear HS3 hw3 hr2 HS2 HK2
  go_loopw [21] (fun i wr => ∃ k : Nat, k ≤ 4 ∧ i = .int .i64 k ∧ Hid (HdSt w b L (grpL L k) n1 owed wr)) (fun i _ => 4 - (intOf i).toNat)
  case atStart => exact ⟨0, by omega, rfl, HH3⟩
  case round =>
    obtain ⟨k, hk, rfl, HS⟩ := hrel
    by_cases hlt : k < 4
    · have c0 : wr.cell? ⟨w.heap.size + 1, 0, none⟩ = some (.int .i64 (grpL L k)) := cell_of_row wr _ 0 _ _ _ HS.out.h
      have f0 : wr.frozen? ⟨w.heap.size + 1, 0, none⟩ = false := frozen_of_row wr _ 0 _ _ HS.out.h
      have hgk := grpL_lt L H3.out k (by omega)
      have e1 : IntKind.i64.wrap (3 + (k : Int)) = 3 + k := by rw [IntKind.wrap_i64]; omega
      have e2 : IntKind.i64.wrap ((grpL L k : Int) * 65536) = (grpL L k : Int) * 65536 := by rw [IntKind.wrap_i64]; omega
      have e3 := or_num (grpL L k) (numL L (3 + k)) hgk (numL_lt _ _)
      have hb0 := HS.out.b
      have HG := Lib.hid hgk
      clear hgk
      go_wp2_with fail
      go_region_with (go_at_call 113; refine (takeHead b L HL.out (3 + k) _ (by omega) (by omega) _ ?_).mono ?_; exact hb0; rintro e w5 ⟨rfl, d5, rfl⟩)
      all_goals
        go_wp2_with fail
        go_roundw
        case rel =>
          refine ⟨k + 1, by omega, by go_num, ?_⟩
          have hk1 : Kept [] wr (wr.drewN (1 + d5)) := Kept.drewN _ _ _
          have hk2 := Kept.setCell [w.heap.size + 1] (wr.drewN (1 + d5)) ⟨w.heap.size + 1, 0, none⟩ (.int .i64 ((grpL L k : Int) * 65536 + numL L (3 + k))) (by simp)
          refine ⟨?_, hk2.heap (by simp) (hk1.heap (by simp) HS.out.r), hk2.range (Nat.lt_of_lt_of_le HB.out (HS.out.kept.trans hk1).size) (by simp; have := HB.out; omega) (hk1.range (Nat.lt_of_lt_of_le HB.out HS.out.kept.size) (by simp) HS.out.b), (HS.out.kept.trans hk1).into hk2 (by simp)⟩
          rw [heap_setCell_same _ _ 0 _ _ _ (hk1.heap (by simp) HS.out.h)]
          rfl
        case measure => simp [intOf]; omega
    · obtain rfl : k = 4 := by omega
      have c0 : wr.cell? ⟨w.heap.size + 1, 0, none⟩ = some (.int .i64 (grpL L 4)) := cell_of_row wr _ 0 _ _ _ HS.out.h
      have c1 : wr.cell? ⟨w.heap.size + 1, 1, none⟩ = some (.bool owed) := cell_of_row wr _ 1 _ _ _ HS.out.h
      have c2 : wr.cell? ⟨w.heap.size + 1, 2, none⟩ = some (.int .i64 n1) := cell_of_row wr _ 2 _ _ _ HS.out.h
      have r0 : wr.cell? ⟨w.heap.size, 0, none⟩ = some (.int .i64 0) := cell_of_row wr _ 0 _ _ _ HS.out.r
      have r1 : wr.cell? ⟨w.heap.size, 1, none⟩ = some (.bool false) := cell_of_row wr _ 1 _ _ _ HS.out.r
      have r2 : wr.cell? ⟨w.heap.size, 2, none⟩ = some (.int .i64 0) := cell_of_row wr _ 2 _ _ _ HS.out.r
      have f0 : ∀ j, wr.frozen? ⟨w.heap.size, j, none⟩ = false := fun j => frozen_of_row wr _ j _ _ HS.out.r
      obtain ⟨g, hg⟩ : ∃ g, grpL L 4 = g := ⟨_, rfl⟩
      rw [hg] at HO HV HS c0
      have HG := Lib.hid hg
      clear hg
      have g0 : ¬ ((g : Int) < 0) := by omega
      have q1' : ¬ ((192 : Int) < n1) := by omega
      have hb0 := HS.out.b
      have hsz : (Tryz.prog.info? 72).map (·.size) = some (bv L).length := by rw [bv_length, HL.out]; exact sizeArr
      have hblt : b < wr.heap.size := Nat.lt_of_lt_of_le HB.out HS.out.kept.size
      have K0 : ∀ w', Kept [] wr.drew w' → w'.cell? ⟨w.heap.size + 1, 0, none⟩ = some (.int .i64 g) := fun w' hk => by
        rw [((Kept.drew [] wr).trans hk).cell (p := ⟨w.heap.size + 1, 0, none⟩) (Array.getElem?_eq_some_iff.1 HS.out.h).1 (by simp)]; exact c0
      have K1 : ∀ w', Kept [] wr.drew w' → w'.cell? ⟨w.heap.size + 1, 1, none⟩ = some (.bool owed) := fun w' hk => by
        rw [((Kept.drew [] wr).trans hk).cell (p := ⟨w.heap.size + 1, 1, none⟩) (Array.getElem?_eq_some_iff.1 HS.out.h).1 (by simp)]; exact c1
      have K2 : ∀ w', Kept [] wr.drew w' → w'.cell? ⟨w.heap.size + 1, 2, none⟩ = some (.int .i64 n1) := fun w' hk => by
        rw [((Kept.drew [] wr).trans hk).cell (p := ⟨w.heap.size + 1, 2, none⟩) (Array.getElem?_eq_some_iff.1 HS.out.h).1 (by simp)]; exact c2
      have KR : Hid (∀ w', Kept [] wr.drew w' → w'.rangeAt b 0 (bv L)) := fun w' hk => ((Kept.drew [] wr).trans hk).range hblt (by simp) hb0
      have HE : Hid (∀ w', (Op.equalIn 10000 72 (.agg (bvA (encL at_ g n1 owed))) (.agg (bvA L))).run Tryz.prog w' = .ok ok w') := fun w' => by
        rw [equal_bytes w' _ L (encL_length _ _ _ _) HL.out, HO.out]
      have hq : n1 = 0 ∨ (0 < n1 ∧ owed = true) := by
        rcases Nat.eq_zero_or_pos n1 with h | h
        · exact .inl h
        · exact .inr ⟨h, HQ.out.resolve_left (by omega)⟩
      clear hb0 hblt
      rcases hq with rfl | ⟨hpos, rfl⟩
      all_goals
        go_wp2_with fail
        clear c0 c1 c2 r0 r1 r2 f0
        have har := run_arrayAt (P := Tryz.prog) 72 5 64 Tryz.underlying72 (some ⟨b, 0, none⟩) 64 64 (Nat.le_refl _)
        refine wp_region_ord [(true, 0), (true, 1), (true, 3), (true, 4), (true, 5), (false, 2), (true, 6)] [] (by kernel_rfl) (fun _ _ d _ _ h => by cases d <;> exact h) (by kernel_rfl) rfl (by kernel_rfl) (by kernel_rfl) ?_
        simp only [named, List.getD_cons_zero, List.getD_cons_succ]
        repeat (apply wpGrow_take; (case hw => rfl); (case hv => intro w' hk; go_simp; with_reducible rfl); simp only [Act.put, List.setIfInBounds_toArray, List.set_cons_zero, List.set_cons_succ])
        refine ⟨_, yieldsIf_load_mid rfl 72 _ rfl b 0 rfl (bv L) _ KR.out Tryz.underlying72 rfl hsz, ?_⟩
        simp only [Act.put, List.setIfInBounds_toArray, List.set_cons_zero, List.set_cons_succ]
        clear K0 K1 K2
        refine wpGrow_force (by rfl) (fun K hK => ?_)
        go_simp
        refine (encode_any at_ g _ _ _).mono ?_
        rintro e w6 ⟨rfl, hk6⟩
        refine hK _ _ hk6 ?_
        clear hK K
        refine wpGrow_take (.bool (!ok)) rfl (fun w' hk => ?_) ?_
        · have he := HE.out w'
          rw [show (bv L).toArray = bvA L from rfl]
          go_simp
        refine wpGrow_nil ?_
        simp only [Act.put, List.setIfInBounds_toArray, List.set_cons_zero, List.set_cons_succ]
        have hk7 : Kept [] wr w6 := (Kept.drew [] wr).trans hk6
        have HS7 := Lib.hid (HS.out.grow HB.out hk7)
        clear hk6 hk7 har KR HS
        have c0 := cell_of_row w6 _ 0 _ _ _ HS7.out.h
        have c1 := cell_of_row w6 _ 1 _ _ _ HS7.out.h
        have c2 := cell_of_row w6 _ 2 _ _ _ HS7.out.h
        have r0 := cell_of_row w6 _ 0 _ _ _ HS7.out.r
        have r1 := cell_of_row w6 _ 1 _ _ _ HS7.out.r
        have r2 := cell_of_row w6 _ 2 _ _ _ HS7.out.r
        have f0 : ∀ j, w6.frozen? ⟨w.heap.size, j, none⟩ = false := fun j => frozen_of_row w6 _ j _ _ HS7.out.r
        simp only [List.getElem?_toArray, List.getElem?_cons_zero, List.getElem?_cons_succ] at c0 c1 c2 r0 r1 r2
        cases ok
        all_goals
          go_wp2_with fail
          refine bodyPost_ret_by (results_row_tmp rfl _ _ w.heap.size 116 _ _ rfl (heap_setCell_same _ _ 2 _ _ _ (heap_setCell_same _ _ 1 _ _ _ (heap_setCell_same _ _ 0 _ _ _ HS7.out.r))) Tryz.underlying116 rfl (by exact sizeHead)) rfl ⟨?_, ?_⟩
          · rw [HV.out]; rfl
          · exact ((HS7.out.kept.into (Kept.setCell [w.heap.size] _ _ _ (by simp)) (by simp)).into (Kept.setCell [w.heap.size] _ _ _ (by simp)) (by simp)).into (Kept.setCell [w.heap.size] _ _ _ (by simp)) (by simp)

theorem encL_num (at_ g n : Nat) (owed : Bool) (hn : n < 65536) : numL (encL at_ g n owed) 1 = n ∧ numL (encL at_ g n owed) 2 = (if owed then 1 else 0) := by
  refine ⟨?_, by cases owed <;> rfl⟩
  show 256 * (hiB n).toNat + (loB n).toNat = n
  simp [hiB, loB]; omega
theorem encL_grp (at_ g n : Nat) (owed : Bool) (hg : g < 4611686018427387904) : grpL (encL at_ g n owed) 4 = g ∧ numL (encL at_ g n owed) 3 < 16384 := by
  have e3 : numL (encL at_ g n owed) 3 = g / 281474976710656 := by
    show 256 * (hiB (g / 281474976710656)).toNat + (loB (g / 281474976710656)).toNat = _
    simp [hiB, loB]; omega
  have e4 : numL (encL at_ g n owed) 4 = g / 4294967296 % 65536 := by
    show 256 * (hiB (g / 4294967296)).toNat + (loB (g / 4294967296)).toNat = _
    simp [hiB, loB]; omega
  have e5 : numL (encL at_ g n owed) 5 = g / 65536 % 65536 := by
    show 256 * (hiB (g / 65536)).toNat + (loB (g / 65536)).toNat = _
    simp [hiB, loB]; omega
  have e6 : numL (encL at_ g n owed) 6 = g % 65536 := by
    show 256 * (hiB g).toNat + (loB g).toNat = _
    simp [hiB, loB]; omega
  refine ⟨?_, by rw [e3]; omega⟩
  simp only [grpL, Nat.add_zero, Nat.reduceAdd, e3, e4, e5, e6]
  omega

/-- What is a head is read as it is. -/
theorem decode_head (b at_ g n : Nat) (owed : Bool) (w : World) (hb : b < w.heap.size) (hr : w.rangeAt b 0 (bv (encL at_ g n owed))) (hg : g < 4611686018427387904) (hn : n ≤ 192) (ho : n = 0 ∨ owed = true) :
    Calls Tryz.prog 86 #[.slice (some ⟨b, 0, none⟩) 64 64, .int .i64 at_] w fun e w' =>
      e = .returned (.tuple #[.agg #[.int .i64 g, .bool owed, .int .i64 n], .bool true]) ∧ Kept [] w w' := by
  obtain ⟨e1, e2⟩ := encL_num at_ g n owed (by omega)
  obtain ⟨e3, e4⟩ := encL_grp at_ g n owed hg
  have := decode_walk b at_ n _ _ (encL_length _ _ _ _) w hb hr e4 true owed e1 e2 (by cases owed <;> rfl) hn ho (by rw [e3]; simp) _ rfl
  rw [e3] at this
  exact this

theorem zero_not_head (at_ g n : Nat) (owed : Bool) : encL at_ g n owed ≠ zeroL := fun h => by
  have := congrArg (fun l => l[0]?) h
  simp [encL, magicL, zeroL, fullL] at this

/-- Noughts are no head. -/
theorem decode_zero (b at_ : Nat) (w : World) (hb : b < w.heap.size) (hr : w.rangeAt b 0 (bv zeroL)) :
    Calls Tryz.prog 86 #[.slice (some ⟨b, 0, none⟩) 64 64, .int .i64 at_] w fun e w' =>
      e = .returned (.tuple #[.agg #[.int .i64 0, .bool false, .int .i64 0], .bool false]) ∧ Kept [] w w' :=
  decode_walk b at_ 0 0 zeroL rfl w hb hr (by decide) false false rfl rfl rfl (by omega) (.inl rfl) (by rw [eq_comm, decide_eq_false_iff_not]; exact zero_not_head _ _ _ _) _ rfl

end Go.Proofs.YtiedoocgbajjjaaGreatDoor

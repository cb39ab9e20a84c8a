/-
  Layer 3: a node's bytes, and those of its further block: the program's putNumber, number, nodeRecord, moreBlock.
  Conditions: those that each theorem states.
-/
import Derived.Test.YtbggmeilkfpbgaaDoorLSnd
import Derived.Laws.CopyOwn
namespace Go.Proofs.YtbggmeilkfpbgaaDoor
open Go.RowKit Go.Maps

def twoB (n : Nat) : List UInt8 := [hiB n, loB n]
/-- Numbers, two bytes each. -/
def twosB (l : List Nat) : List UInt8 := l.flatMap twoB
theorem twosB_length (l : List Nat) : (twosB l).length = 2 * l.length := by
  induction l with
  | nil => rfl
  | cons a l ih => simp [twosB, twoB] at ih ⊢; omega
theorem twosB_append (a b : List Nat) : twosB (a ++ b) = twosB a ++ twosB b := by simp [twosB]
theorem twosB_snoc (l : List Nat) (k : Nat) (h : k < l.length) : twosB (l.take (k + 1)) = twosB (l.take k) ++ twoB l[k] := by
  rw [List.take_succ_eq_append_getElem h, twosB_append]; simp [twosB]
def fieldsL (m s more : Nat) (l : List Nat) : List Nat := m :: s :: more :: (l.take 6 ++ List.replicate (6 - l.length) 0)
theorem fieldsL_length (m s more : Nat) (l : List Nat) : (fieldsL m s more l).length = 9 := by simp [fieldsL]; omega
def recL (k : Nat) (F : List Nat) : List UInt8 := loB k :: (twosB F ++ zerosL 13)
def moreL (l : List Nat) : List UInt8 := twosB l ++ zerosL (64 - 2 * l.length)
def natI (l : List Nat) : List Int := l.map fun n : Nat => (n : Int)
theorem natI_length (l : List Nat) : (natI l).length = l.length := by simp [natI]
theorem natI_get (l : List Nat) (k : Nat) (h : k < (natI l).length) : (natI l)[k] = ((l[k]'(by simpa [natI] using h) : Nat) : Int) := by simp [natI]
theorem natI_of_snd {l : List Int} (h : l.all sndB = true) : ∃ r : List Nat, l = natI r ∧ ∀ x ∈ r, 1 ≤ x ∧ x < 4096 := by
  refine ⟨l.map Int.toNat, ?_, ?_⟩
  · rw [List.all_eq_true] at h
    unfold natI
    rw [List.map_map]
    conv => lhs; rw [← List.map_id l]
    apply List.map_congr_left
    intro x hx
    have := h x hx
    simp [sndB] at this
    simp; omega
  · rw [List.all_eq_true] at h
    intro x hx
    simp at hx
    obtain ⟨y, hy, rfl⟩ := hx
    have := h y hy
    simp [sndB] at this
    omega

theorem put_two (A : List UInt8) (n z : Nat) : ((A ++ zerosL (z + 2)).set A.length (hiB n)).set (A.length + 1) (loB n) = A ++ twoB n ++ zerosL z := by
  have h : zerosL (z + 2) = 0 :: 0 :: zerosL z := rfl
  rw [h]
  simp [twoB]

theorem putNumber3_any (b o len cap i n : Nat) (L : List UInt8) (t : TypeId) (w : World) (hh : w.heap[b]? = some (.cells (bvA L) t)) (h1 : i + 1 < len) (h2 : o + len ≤ L.length) (h3 : len < 4611686018427387904) :
    Calls Tryd.prog 43 #[.slice (some ⟨b, o, none⟩) len cap, .int .i64 i, .int .i64 n] w fun e w' => e = .returned (.tuple #[]) ∧ w'.heap[b]? = some (.cells (bvA ((L.set (o + i) (hiB n)).set (o + (i + 1)) (loB n))) t) ∧ Kept [b] w w' := by
  have f1 : ∀ j, w.frozen? ⟨b, j, none⟩ = false := fun j => frozen_of_row w b j _ _ hh
  have c1 := cell_bvA hh (o + i) (by omega)
  have c2 := cell_bvA hh (o + (i + 1)) (by omega)
  have HH := Lib.hid hh
  clear hh
  go_enter Tryd.func43, Tryd.ntmps43
  go_wp2
  go_end0
  refine ⟨rfl, ?_, (Kept.setCell _ _ _ _ (by simp)).trans (Kept.setCell _ _ _ _ (by simp))⟩
  rw [hiB_val, loB_val, heap_setCell_same _ b _ _ _ _ (heap_setCell_same _ b _ _ _ _ HH.out), bvA_set, bvA_set]

/-- The number at a place. -/
def numAt (L : List UInt8) (i : Nat) : Nat := 256 * (L.getD i 0).toNat + (L.getD (i + 1) 0).toNat
theorem numAt_lt (L : List UInt8) (i : Nat) : numAt L i < 65536 := by
  have h1 := UInt8.toNat_lt (L.getD i 0)
  have h2 := UInt8.toNat_lt (L.getD (i + 1) 0)
  unfold numAt; omega

theorem number3_any (b o len cap i : Nat) (L : List UInt8) (w : World) (hh : w.rangeAt b o (bv L)) (hl : L.length = len) (h1 : i + 1 < len) (h3 : len < 4611686018427387904) :
    Calls Tryd.prog 29 #[.slice (some ⟨b, o, none⟩) len cap, .int .i64 i] w fun e w' => e = .returned (.int .i64 (numAt L i : Nat)) ∧ Drawn w w' := by
  have c1 : w.cell? ⟨b, o + i, none⟩ = some (.int .u8 (((L[i]'(by omega)).toNat : Nat) : Int)) := hh i _ (by simp [bv, show i < L.length by omega])
  have c2 : w.cell? ⟨b, o + (i + 1), none⟩ = some (.int .u8 (((L[i + 1]'(by omega)).toNat : Nat) : Int)) := hh (i + 1) _ (by simp [bv, show i + 1 < L.length by omega])
  obtain ⟨x, hx⟩ : ∃ x, L[i]'(by omega) = x := ⟨_, rfl⟩
  obtain ⟨y, hy⟩ : ∃ y, L[i + 1]'(by omega) = y := ⟨_, rfl⟩
  have hnm : numAt L i = 256 * x.toNat + y.toNat := by
    unfold numAt
    rw [← hx, ← hy]
    simp [List.getD_eq_getElem?_getD, show i < L.length by omega, show i + 1 < L.length by omega]
  rw [hx] at c1
  rw [hy] at c2
  have x1 : x.toNat < 256 := UInt8.toNat_lt x
  have y1 : y.toNat < 256 := UInt8.toNat_lt y
  have HX := Lib.hid (or_byte x.toNat y x1)
  have HN := Lib.hid hnm
  clear hx hy hh hnm
  go_enter Tryd.func29, Tryd.ntmps29
  go_wp2
  go_quiet (fail)
  go_wp2
  go_ret
  exact ⟨by rw [HN.out, ← HX.out]; rfl, _, rfl⟩

theorem size67 : (Tryd.prog.info? 63).map (·.size) = some 64 := by kernel_rfl
theorem size64 : (Tryd.prog.info? 55).map (·.size) = some 32 := by kernel_rfl

structure MbSt (w : World) (L : List UInt8) (wr : World) : Prop where
  r : wr.heap[w.heap.size]? = some (.cells (bvA (zerosL 64)) 63)
  b : wr.heap[w.heap.size + 1]? = some (.cells (bvA L) 63)
  len : L.length = 64
  kept : Kept [] w wr

set_option maxRecDepth 100000 in
set_option maxHeartbeats 2000000 in
theorem moreBlock_any (ao : Option Addr) (len cap : Nat) (l : List Nat) (w : World) (hl : IntsIs w ao len (natI l)) (h32 : len ≤ 32) :
    Calls Tryd.prog 30 #[.slice ao len cap] w fun e w' => e = .returned (.agg (bvA (moreL l))) ∧ Kept [] w w' := by
  have HL := Lib.hid hl
  have hll : l.length = len := by have := hl.1; rwa [natI_length] at this
  have HLL := Lib.hid hll
  clear hl hll
  go_enter Tryd.func30, Tryd.ntmps30
  go_wp2_with fail
  generalize hw3 : World.alloc (World.alloc w _) _ = w3
  have HS : Hid (MbSt w (twosB (l.take 0) ++ zerosL (64 - 2 * 0)) w3) := by
    rw [← hw3]
    refine ⟨?_, ?_, by simp [zerosL, twosB], (Kept.alloc _ _ _).trans (Kept.alloc _ _ _)⟩
    · exact (Kept.alloc [] _ _).heap (by simp) (heap_alloc_last w _)
    · have := heap_alloc_last (w.alloc (.cells (bvA (zerosL 64)) 63)) (.cells (bvA (zerosL 64)) 63)
      rw [size_alloc] at this
      exact this
  clear hw3
  go_loopw [8] (fun i wr => ∃ k : Nat, k ≤ len ∧ i = .int .i64 k ∧ Hid (MbSt w (twosB (l.take k) ++ zerosL (64 - 2 * k)) wr)) (fun i _ => len - (intOf i).toNat)
  case atStart => exact ⟨0, by omega, rfl, HS⟩
  case round =>
    clear HS
    obtain ⟨k, hk, rfl, HS⟩ := hrel
    by_cases hlt : k < len
    · obtain ⟨b, o, rfl, hb, hc⟩ := (HL.out.kept HS.out.kept).cell (by omega)
      have c1 := hc k hlt
      have hkl : k < l.length := by rw [HLL.out]; exact hlt
      rw [natI_get] at c1
      obtain ⟨x, hx⟩ : ∃ x, l[k] = x := ⟨_, rfl⟩
      rw [hx] at c1
      have HX := Lib.hid hx
      clear hc hx
      go_wp2_with fail
      refine (putNumber3_any (w.heap.size + 1) 0 64 64 (2 * k) x _ _ wr HS.out.b (by omega) (by rw [HS.out.len]; omega) (by omega)).mono ?_
      rintro e w5 ⟨rfl, hh5, hk5⟩
      have HN : Hid (MbSt w (twosB (l.take (k + 1)) ++ zerosL (64 - 2 * (k + 1))) w5) := by
        have e1 : (twosB (l.take k)).length = 2 * k := by rw [twosB_length, List.length_take]; omega
        have e2 : 64 - 2 * k = (64 - 2 * (k + 1)) + 2 := by omega
        have hp := put_two (twosB (l.take k)) x (64 - 2 * (k + 1))
        rw [e1, ← e2] at hp
        rw [Nat.zero_add, Nat.zero_add, hp] at hh5
        rw [twosB_snoc l k hkl, HX.out]
        refine ⟨hk5.heap (by simp) HS.out.r, hh5, ?_, HS.out.kept.into hk5 (by simp)⟩
        simp [e1, twoB, zerosL]; omega
      clear hh5 hk5 HS
      go_wp2_with fail
      go_roundw
      case rel => exact ⟨k + 1, by omega, by go_num, HN⟩
      case measure => simp [intOf]; omega
    · have hkl : k = len := by omega
      have HS2 : Hid (MbSt w (moreL l) wr) := by
        have := HS.out
        rw [hkl, ← HLL.out, List.take_length] at this
        exact this
      clear HS hkl
      obtain ⟨L, hL⟩ : ∃ L, moreL l = L := ⟨_, rfl⟩
      rw [hL] at HS2
      have HLM := Lib.hid hL
      clear hL
      have hrg := range_row HS2.out.b
      have hsz : (Tryd.prog.info? 63).map (·.size) = some (bv L).length := by rw [bv_length, HS2.out.len]; exact size67
      have hsz2 : (Tryd.prog.info? 63).map (·.size) = some L.length := by rw [HS2.out.len]; exact size67
      have hl2 : L.length = (zerosL 64).length := by rw [HS2.out.len]; rfl
      have HR := HS2.out.r
      go_wp2_with first
        | (refine wpList_load_mid rfl 63 _ rfl _ 0 rfl (bv L) _ hrg Tryd.underlying63 rfl hsz ?_)
        | (refine wpList_store_row rfl 63 _ _ rfl (w.heap.size) 63 (zerosL 64) L rfl rfl HR hl2 hsz2 ?_)
      refine bodyPost_ret_by (results_cell_row rfl _ _ (w.heap.size) 63 (bvA L) (0, 0) _ rfl (setRow_heap _ _ _ _ _ _ HR) Tryd.underlying63 rfl (by rw [bvA_size]; exact hsz2)) rfl ⟨by rw [HLM.out], ?_⟩
      exact HS2.out.kept.into (setRow_kept _ _ _) (by simp)

theorem run_index_ints {P : Program} (t e : TypeId) (n : Nat) (L : List Int) (k : Nat) (w : World) (ht : P.underlying t = some (.array n e)) (hu : P.underlying e = some (.int .i64)) (he : (P.info? e).map (·.size) = some 1) (hn : L.length = n) (hk : k < L.length) :
    (Instr.index t (.agg (iv L).toArray) (.int .i64 (k : Int))).run P w = .ok (.int .i64 L[k]) w := by
  cases hq : P.info? e with
  | none => simp [hq] at he
  | some i =>
    have hs : i.size = 1 := by simpa [hq] using he
    have h1 : k < n := by omega
    have h2 : (iv L)[k]? = some (.int .i64 L[k]) := by simp [iv, hk]
    simp [Instr.index, run_underlying ht, asIntOf, go_sem, h1, sizeOf, typeInfo, hq, hs, isAgg, run_underlying hu, h2]
theorem zero32 (w : World) : (zeroValue 55).run Tryd.prog w = .ok (.agg (bvA (zerosL 32))) w := by kernel_rfl

/-- What 'copy(f[3:], x.Blocks)' does. -/
theorem copy_fields (w : World) (g : Nat) (a b c : Int) (ao : Option Addr) (len cap : Nat) (l : List Int) (hl : IntsIs w ao len l) (hg : w.heap[g]? = some (.cells (ivA [a, b, c, 0, 0, 0, 0, 0, 0]) 76)) :
    ∃ w', (Builtin.copy_ #[24, 24] 3 #[.slice (some ⟨g, 3, none⟩) 6 6, .slice ao len cap]).run Tryd.prog w = .ok (goInt (min len 6 : Nat)) w' ∧
      w'.heap[g]? = some (.cells (ivA (a :: b :: c :: (l.take 6 ++ List.replicate (6 - l.length) 0))) 76) ∧ Kept [g] w w' := by
  obtain ⟨h1, h2, h3⟩ := hl
  by_cases h0 : len = 0
  · subst h0
    obtain rfl : l = [] := List.eq_nil_of_length_eq_zero h1
    refine ⟨w, ?_, hg, Kept.refl _ _⟩
    exact run_copy_none (P := Tryd.prog) w 24 24 3 3 _ _ _ _ _ _ Tryd.underlying24 (by kernel_rfl) (by simp)
  · rcases h3 with h3 | ⟨p, o, rfl, hb, hr⟩
    · omega
    · have hlen : (iv (l.take 6)).length = min len 6 := by rw [iv_length, List.length_take]; omega
      have := run_copy_row (P := Tryd.prog) w 24 24 3 3 g 3 6 6 ⟨p, o, none⟩ len cap (ivA [a, b, c, 0, 0, 0, 0, 0, 0]) 76 (iv (l.take 6)) Tryd.underlying24 (by kernel_rfl) hg hlen
        (fun j v hv => by
          rw [Addr.add_mid]
          refine hr j v ?_
          simp [iv, List.getElem?_take] at hv ⊢
          exact hv.2) (by rw [hlen, ivA_size]; simp; omega) (iv_one _)
      rw [hlen] at this
      refine ⟨_, this, ?_, setRow_kept _ _ _⟩
      rw [setRow_heap _ _ _ _ _ _ hg]
      congr 2
      apply Array.toList_inj.1
      rw [ivA_toList, ivA_toList]
      have e : l.take 6 ++ List.replicate (6 - l.length) 0 = l.take 6 ++ [0, 0, 0, 0, 0, 0].drop (l.take 6).length := by
        congr 1
        rw [show [(0 : Int), 0, 0, 0, 0, 0] = List.replicate 6 0 from rfl, List.drop_replicate, List.length_take]
        congr 1
        omega
      rw [e]
      have hm : (l.take 6).length = min len 6 := by rw [List.length_take]; omega
      rw [hm]
      simp [iv]
      rw [Nat.add_comm 3 (min len 6)]
      rfl

structure NrSt (w : World) (cs : Array Value) (F : List Int) (wr : World) : Prop where
  x : wr.heap[w.heap.size]? = some (.cells cs 26)
  r : wr.heap[w.heap.size + 1]? = some (.cells (bvA (zerosL 32)) 55)
  f : wr.heap[w.heap.size + 2]? = some (.cells (ivA F) 76)
  kept : Kept [] w wr
theorem NrSt.go {w : World} {cs : Array Value} {F : List Int} {wr w' : World} (h : NrSt w cs F wr) (hk : Kept [] wr w') : NrSt w cs F w' :=
  ⟨hk.heap (by simp) h.x, hk.heap (by simp) h.r, hk.heap (by simp) h.f, h.kept.trans hk⟩

set_option maxRecDepth 100000 in
set_option maxHeartbeats 2000000 in
theorem nodeRecord_any (k m s more : Nat) (ao : Option Addr) (len cap : Nat) (l : List Nat) (w : World) (hl : IntsIs w ao len (natI l)) (hk : k < 256) :
    Calls Tryd.prog 25 #[nodeV k m s ao len cap more] w fun e w' => e = .returned (.agg (bvA (recL k (fieldsL m s more l)))) ∧ Kept [] w w' := by
  unfold nodeV
  have HL := Lib.hid hl
  clear hl
  go_enter Tryd.func25, Tryd.ntmps25
  go_wp2_with fail
  generalize hw3 : World.alloc (World.alloc (World.alloc w _) _) _ = w3
  have HS : NrSt w #[.int .i64 k, .int .i64 m, .int .i64 s, .slice ao len cap, .int .i64 more] [(m : Int), s, more, 0, 0, 0, 0, 0, 0] w3 := by
    rw [← hw3]
    refine ⟨?_, ?_, ?_, ((Kept.alloc _ _ _).trans (Kept.alloc _ _ _)).trans (Kept.alloc _ _ _)⟩
    · exact (Kept.alloc [] _ _).heap (by simp) ((Kept.alloc [] _ _).heap (by simp) (heap_alloc_last w _))
    · have := heap_alloc_last (w.alloc (.cells #[.int .i64 k, .int .i64 m, .int .i64 s, .slice ao len cap, .int .i64 more] 26)) (.cells (bvA (zerosL 32)) 55)
      rw [size_alloc] at this
      exact (Kept.alloc [] _ _).heap (by simp) this
    · have := heap_alloc_last ((w.alloc (.cells #[.int .i64 k, .int .i64 m, .int .i64 s, .slice ao len cap, .int .i64 more] 26)).alloc (.cells (bvA (zerosL 32)) 55)) (.cells (ivA [(m : Int), s, more, 0, 0, 0, 0, 0, 0]) 76)
      rw [size_alloc, size_alloc] at this
      exact this
  clear hw3
  have HS3 := Lib.hid HS
  clear HS
  have c3 : w3.cell? ⟨w.heap.size, 3, none⟩ = some (.slice ao len cap) := cell_of_row _ _ 3 _ _ _ HS3.out.x
  obtain ⟨w5, hrun, hf5, hk5⟩ := copy_fields w3.drew (w.heap.size + 2) m s more ao len cap (natI l) ((HL.out.kept HS3.out.kept).kept (Kept.drew _ _)) ((HS3.out.go (Kept.drew _ _)).f)
  have HR := Lib.hid hrun
  have HF5 := Lib.hid hf5
  have HK5 := Lib.hid hk5
  clear hrun hf5 hk5
  refine wp_region_still_tail 3 (by kernel_rfl) (by kernel_rfl) ?_
  simp only [List.take_succ_cons, List.take_zero, List.drop_succ_cons, List.drop_zero]
  still_step
  still_step
  still_step
  refine wpStill_nil ?_
  refine wpList_copy_run rfl _ _ _ _ rfl _ _ _ rfl rfl HR.out ?_
  have HX5 := Lib.hid (HK5.out.heap (by simp) (HS3.out.go (Kept.drew _ _)).x)
  have HR5 := Lib.hid (HK5.out.heap (by simp) (HS3.out.go (Kept.drew _ _)).r)
  have HKK := Lib.hid ((HS3.out.kept.trans (Kept.drew _ _)).into HK5.out (by simp))
  clear HK5 HS3 HR c3
  clear w3
  have c0 : w5.cell? ⟨w.heap.size, 0, none⟩ = some (.int .i64 k) := cell_of_row _ _ 0 _ _ _ HX5.out
  have z32 := zero32 w5
  have hs0 : (bvA (zerosL 32)).size = 32 := rfl
  have hne : ¬ bvA (zerosL 32) = #[] := fun h => by have := congrArg Array.size h; simp [hs0] at this
  have hkb : ((loB k).toNat : Int) = k := by simp [loB]; omega
  have hset : (bvA (loB k :: zerosL 31)).toList = (bvA (zerosL 32)).toList.set 0 (.int .u8 (k : Int)) := by rw [bvA_toList, bvA_toList, ← hkb]; rfl
  have hst := run_storeCells_new (P := Tryd.prog) w5 55 (bvA (zerosL 32)) (bvA (loB k :: zerosL 31)) (by rw [size64]; rfl) rfl (bvA_one _)
  rw [hset] at hst
  have HKB := Lib.hid hkb
  clear hset hkb
  obtain ⟨F, hF⟩ : ∃ F, fieldsL m s more l = F := ⟨_, rfl⟩
  have hFl : F.length = 9 := by rw [← hF]; exact fieldsL_length _ _ _ _
  have hFI : (m : Int) :: (s : Int) :: (more : Int) :: ((natI l).take 6 ++ List.replicate (6 - (natI l).length) 0) = natI F := by rw [← hF]; simp [fieldsL, natI]
  have HF := Lib.hid hF
  have HF6 : Hid (w5.heap[w.heap.size + 2]? = some (.cells (ivA (natI F)) 76)) := by show _ = _; rw [← hFI]; exact HF5.out
  clear hF hFI HF5
  have hrg : ∀ o : Obj, (w5.alloc o).rangeAt (w.heap.size + 2) 0 (iv (natI F)) := fun o j v hv => by
    rw [Nat.zero_add, cell_of_row (w5.alloc o) _ j _ _ _ ((Kept.alloc [] _ _).heap (by simp) HF6.out)]
    simpa [ivA] using hv
  have hsz : (Tryd.prog.info? 76).map (·.size) = some (iv (natI F)).length := by rw [iv_length, natI_length, hFl]; kernel_rfl
  have HFL := Lib.hid hFl
  have HRG := Lib.hid hrg
  clear hFl hrg
  go_wp2_with (refine wpList_load_mid rfl 76 _ rfl _ 0 rfl (iv (natI F)) _ (HRG.out _) Tryd.underlying76 rfl hsz ?_)
  clear hsz hst z32 hne hs0 c0
  generalize hw6 : World.alloc w5 _ = w6
  have HB : Hid (NrSt w #[.int .i64 k, .int .i64 m, .int .i64 s, .slice ao len cap, .int .i64 more] (natI F) w6 ∧ w6.heap[w5.heap.size]? = some (.cells (bvA ((loB k :: twosB (F.take 0)) ++ zerosL (31 - 2 * 0))) 55) ∧ w.heap.size + 3 ≤ w5.heap.size) := by
    rw [← hw6]
    refine ⟨⟨(Kept.alloc [] _ _).heap (by simp) HX5.out, (Kept.alloc [] _ _).heap (by simp) HR5.out, (Kept.alloc [] _ _).heap (by simp) HF6.out, HKK.out.trans (Kept.alloc _ _ _)⟩, heap_alloc_last _ _, ?_⟩
    have := (Array.getElem?_eq_some_iff.1 HF6.out).1
    omega
  clear hw6
  generalize w5.heap.size = g at HB ⊢
  clear HX5 HR5 HF6 HKK HRG HKB
  clear w5
  go_loopw [23] (fun i wr => ∃ j : Nat, j ≤ 9 ∧ i = .int .i64 j ∧ Hid (NrSt w #[.int .i64 k, .int .i64 m, .int .i64 s, .slice ao len cap, .int .i64 more] (natI F) wr ∧ wr.heap[g]? = some (.cells (bvA ((loB k :: twosB (F.take j)) ++ zerosL (31 - 2 * j))) 55) ∧ w.heap.size + 3 ≤ g)) (fun i _ => 9 - (intOf i).toNat)
  case atStart => exact ⟨0, by omega, rfl, HB⟩
  case round =>
    clear HB
    obtain ⟨j, hj, rfl, HB⟩ := hrel
    by_cases hlt : j < 9
    · have hjf : j < F.length := by rw [HFL.out]; exact hlt
      obtain ⟨x, hx⟩ : ∃ x, F[j] = x := ⟨_, rfl⟩
      have hix := run_index_ints (P := Tryd.prog) 76 3 9 (natI F) j wr Tryd.underlying76 Tryd.underlying3 (by kernel_rfl) (by rw [natI_length]; exact HFL.out) (by rw [natI_length]; exact hjf)
      rw [natI_get, hx] at hix
      have HX := Lib.hid hx
      clear hx
      go_wp2_with fail
      refine (putNumber3_any g 0 32 32 (1 + 2 * j) x _ _ wr HB.out.2.1 (by omega) (by simp [twosB_length, zerosL]; omega) (by omega)).mono ?_
      rintro e w5 ⟨rfl, hh5, hk5⟩
      have HN : Hid (NrSt w #[.int .i64 k, .int .i64 m, .int .i64 s, .slice ao len cap, .int .i64 more] (natI F) w5 ∧ w5.heap[g]? = some (.cells (bvA ((loB k :: twosB (F.take (j + 1))) ++ zerosL (31 - 2 * (j + 1)))) 55) ∧ w.heap.size + 3 ≤ g) := by
        have hg := HB.out.2.2
        have e1 : (loB k :: twosB (F.take j)).length = 1 + 2 * j := by rw [List.length_cons, twosB_length, List.length_take]; omega
        have e2 : 31 - 2 * j = (31 - 2 * (j + 1)) + 2 := by omega
        have hp := put_two (loB k :: twosB (F.take j)) x (31 - 2 * (j + 1))
        rw [e1, ← e2] at hp
        rw [Nat.zero_add, Nat.zero_add, hp] at hh5
        rw [twosB_snoc F j hjf, HX.out]
        have hS := HB.out.1
        exact ⟨⟨hk5.heap (by simp; omega) hS.x, hk5.heap (by simp; omega) hS.r, hk5.heap (by simp; omega) hS.f, hS.kept.into hk5 (by simp; omega)⟩, hh5, hg⟩
      clear hh5 hk5 HB hix
      go_wp2_with fail
      go_roundw
      case rel => exact ⟨j + 1, by omega, by go_num, HN⟩
      case measure => simp [intOf]; omega
    · have hj9 : j = 9 := by omega
      have HS2 : Hid (NrSt w #[.int .i64 k, .int .i64 m, .int .i64 s, .slice ao len cap, .int .i64 more] (natI F) wr ∧ wr.heap[g]? = some (.cells (bvA (recL k F)) 55) ∧ w.heap.size + 3 ≤ g) := by
        have := HB.out
        rw [hj9, ← HFL.out, List.take_length] at this
        rw [HFL.out] at this
        exact this
      clear HB hj9
      have hrl : (recL k F).length = 32 := by simp [recL, twosB_length, zerosL, HFL.out]
      obtain ⟨L, hL⟩ : ∃ L, recL k F = L := ⟨_, rfl⟩
      rw [hL] at HS2 hrl
      have HLM := Lib.hid hL
      have HRL := Lib.hid hrl
      clear hL hrl
      have hrg := range_row HS2.out.2.1
      have hsz : (Tryd.prog.info? 55).map (·.size) = some (bv L).length := by rw [bv_length, HRL.out]; exact size64
      have hsz2 : (Tryd.prog.info? 55).map (·.size) = some L.length := by rw [HRL.out]; exact size64
      have hl2 : L.length = (zerosL 32).length := by rw [HRL.out]; rfl
      have HR := HS2.out.1.r
      go_wp2_with first
        | (refine wpList_load_mid rfl 55 _ rfl _ 0 rfl (bv L) _ hrg Tryd.underlying55 rfl hsz ?_)
        | (refine wpList_store_row rfl 55 _ _ rfl (w.heap.size + 1) 55 (zerosL 32) L rfl rfl HR hl2 hsz2 ?_)
      refine bodyPost_ret_by (results_cell_row rfl _ _ (w.heap.size + 1) 55 (bvA L) (0, 0) _ rfl (setRow_heap _ _ _ _ _ _ HR) Tryd.underlying55 rfl (by rw [bvA_size]; exact hsz2)) rfl ⟨by rw [HF.out, HLM.out], ?_⟩
      exact HS2.out.1.kept.into (setRow_kept _ _ _) (by simp)

end Go.Proofs.YtbggmeilkfpbgaaDoor

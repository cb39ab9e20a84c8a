/-
  Layer 3: a node's bytes, and those of its further block: the program's putNumber, number, nodeRecord, moreBlock.
  Conditions: those that each theorem states.
  Layer 3: PutNode, the program's: a node that may be is put as its bytes, and any other is refused.
  Conditions: those that each theorem states.
-/
import Derived.Test.YtiedoocgbajjjaaGreatDoorLSnd
import Derived.Laws.CopyOwn
namespace Go.Proofs.YtiedoocgbajjjaaGreatDoor
open Go.RowKit Go.Maps
set_option maxRecDepth 100000

def twoB (n : Nat) : List UInt8 := [hiB n, loB n]
/-- Numbers, two bytes each. -/
def twosB (l : List Nat) : List UInt8 := l.flatMap twoB
theorem twosB_length (l : List Nat) : (twosB l).length = 2 * l.length := by
  induction l with
  | nil => rfl
  | cons a l ih => simp [twosB, twoB] at ih ⊢; omega
theorem twosB_append (a b : List Nat) : twosB (a ++ b) = twosB a ++ twosB b := by simp [twosB]
theorem twosB_snoc (l : List Nat) (k : Nat) (h : k < l.length) : twosB (l.take (k + 1)) = twosB (l.take k) ++ twoB l[k] := by
  rw [List.take_succ_eq_append_getElem h, twosB_append]; simp [twosB]
def fieldsL (m s more : Nat) (l : List Nat) : List Nat := m :: s :: more :: (l.take 6 ++ List.replicate (6 - l.length) 0)
theorem fieldsL_length (m s more : Nat) (l : List Nat) : (fieldsL m s more l).length = 9 := by simp [fieldsL]; omega
def recL (k : Nat) (F : List Nat) : List UInt8 := loB k :: (twosB F ++ zerosL 13)
def moreL (l : List Nat) : List UInt8 := twosB l ++ zerosL (64 - 2 * l.length)
def natI (l : List Nat) : List Int := l.map fun n : Nat => (n : Int)
theorem natI_length (l : List Nat) : (natI l).length = l.length := by simp [natI]
theorem natI_get (l : List Nat) (k : Nat) (h : k < (natI l).length) : (natI l)[k] = ((l[k]'(by simpa [natI] using h) : Nat) : Int) := by simp [natI]
theorem natI_of_snd {l : List Int} (h : l.all sndB = true) : ∃ r : List Nat, l = natI r ∧ ∀ x ∈ r, 1 ≤ x ∧ x < 4096 := by
  refine ⟨l.map Int.toNat, ?_, ?_⟩
  · rw [List.all_eq_true] at h
    unfold natI
    rw [List.map_map]
    conv => lhs; rw [← List.map_id l]
    apply List.map_congr_left
    intro x hx
    have := h x hx
    simp [sndB] at this
    simp; omega
  · rw [List.all_eq_true] at h
    intro x hx
    simp at hx
    obtain ⟨y, hy, rfl⟩ := hx
    have := h y hy
    simp [sndB] at this
    omega

theorem put_two (A : List UInt8) (n z : Nat) : ((A ++ zerosL (z + 2)).set A.length (hiB n)).set (A.length + 1) (loB n) = A ++ twoB n ++ zerosL z := by
  have h : zerosL (z + 2) = 0 :: 0 :: zerosL z := rfl
  rw [h]
  simp [twoB]

theorem putNumber3_any (b o len cap i n : Nat) (L : List UInt8) (t : TypeId) (w : World) (hh : w.heap[b]? = some (.cells (bvA L) t)) (h1 : i + 1 < len) (h2 : o + len ≤ L.length) (h3 : len < 4611686018427387904) :
    Calls Tryz.prog 121 #[.slice (some ⟨b, o, none⟩) len cap, .int .i64 i, .int .i64 n] w fun e w' => e = .returned (.tuple #[]) ∧ w'.heap[b]? = some (.cells (bvA ((L.set (o + i) (hiB n)).set (o + (i + 1)) (loB n))) t) ∧ Kept [b] w w' := by
  have f1 : ∀ j, w.frozen? ⟨b, j, none⟩ = false := fun j => frozen_of_row w b j _ _ hh
  have c1 := cell_bvA hh (o + i) (by omega)
  have c2 := cell_bvA hh (o + (i + 1)) (by omega)
  have HH := Lib.hid hh
  clear hh
  go_enter Tryz.func121, Tryz.ntmps121
  go_wp2
  go_end0
  refine ⟨rfl, ?_, (Kept.setCell _ _ _ _ (by simp)).trans (Kept.setCell _ _ _ _ (by simp))⟩
  rw [hiB_val, loB_val, heap_setCell_same _ b _ _ _ _ (heap_setCell_same _ b _ _ _ _ HH.out), bvA_set, bvA_set]

/-- The number at a place. -/
def numAt (L : List UInt8) (i : Nat) : Nat := 256 * (L.getD i 0).toNat + (L.getD (i + 1) 0).toNat
theorem numAt_lt (L : List UInt8) (i : Nat) : numAt L i < 65536 := by
  have h1 := UInt8.toNat_lt (L.getD i 0)
  have h2 := UInt8.toNat_lt (L.getD (i + 1) 0)
  unfold numAt; omega

theorem number3_any (b o len cap i : Nat) (L : List UInt8) (w : World) (hh : w.rangeAt b o (bv L)) (hl : L.length = len) (h1 : i + 1 < len) (h3 : len < 4611686018427387904) :
    Calls Tryz.prog 154 #[.slice (some ⟨b, o, none⟩) len cap, .int .i64 i] w fun e w' => e = .returned (.int .i64 (numAt L i : Nat)) ∧ Drawn w w' := by
  have c1 : w.cell? ⟨b, o + i, none⟩ = some (.int .u8 (((L[i]'(by omega)).toNat : Nat) : Int)) := hh i _ (by simp [bv, show i < L.length by omega])
  have c2 : w.cell? ⟨b, o + (i + 1), none⟩ = some (.int .u8 (((L[i + 1]'(by omega)).toNat : Nat) : Int)) := hh (i + 1) _ (by simp [bv, show i + 1 < L.length by omega])
  obtain ⟨x, hx⟩ : ∃ x, L[i]'(by omega) = x := ⟨_, rfl⟩
  obtain ⟨y, hy⟩ : ∃ y, L[i + 1]'(by omega) = y := ⟨_, rfl⟩
  have hnm : numAt L i = 256 * x.toNat + y.toNat := by
    unfold numAt
    rw [← hx, ← hy]
    simp [List.getD_eq_getElem?_getD, show i < L.length by omega, show i + 1 < L.length by omega]
  rw [hx] at c1
  rw [hy] at c2
  have x1 : x.toNat < 256 := UInt8.toNat_lt x
  have y1 : y.toNat < 256 := UInt8.toNat_lt y
  have HX := Lib.hid (or_byte x.toNat y x1)
  have HN := Lib.hid hnm
  clear hx hy hh hnm
  go_enter Tryz.func154, Tryz.ntmps154
  go_wp2
  go_quiet (fail)
  go_wp2
  go_ret
  exact ⟨by rw [HN.out, ← HX.out]; rfl, _, rfl⟩

theorem size67 : (Tryz.prog.info? 156).map (·.size) = some 64 := by kernel_rfl
theorem size64 : (Tryz.prog.info? 154).map (·.size) = some 32 := by kernel_rfl

structure MbSt (w : World) (L : List UInt8) (wr : World) : Prop where
  r : wr.heap[w.heap.size]? = some (.cells (bvA (zerosL 64)) 156)
  b : wr.heap[w.heap.size + 1]? = some (.cells (bvA L) 156)
  len : L.length = 64
  kept : Kept [] w wr

set_option maxRecDepth 100000 in
set_option maxHeartbeats 2000000 in
theorem moreBlock_any (ao : Option Addr) (len cap : Nat) (l : List Nat) (w : World) (hl : IntsIs w ao len (natI l)) (h32 : len ≤ 32) :
    Calls Tryz.prog 94 #[.slice ao len cap] w fun e w' => e = .returned (.agg (bvA (moreL l))) ∧ Kept [] w w' := by
  have HL := Lib.hid hl
  have hll : l.length = len := by have := hl.1; rwa [natI_length] at this
  have HLL := Lib.hid hll
  clear hl hll
  go_enter Tryz.func94, Tryz.ntmps94
  go_wp2_with fail
  generalize hw3 : World.alloc (World.alloc w _) _ = w3
  have HS : Hid (MbSt w (twosB (l.take 0) ++ zerosL (64 - 2 * 0)) w3) := by
    rw [← hw3]
    refine ⟨?_, ?_, by simp [zerosL, twosB], (Kept.alloc _ _ _).trans (Kept.alloc _ _ _)⟩
    · exact (Kept.alloc [] _ _).heap (by simp) (heap_alloc_last w _)
    · have := heap_alloc_last (w.alloc (.cells (bvA (zerosL 64)) 156)) (.cells (bvA (zerosL 64)) 156)
      rw [size_alloc] at this
      exact this
  clear hw3
  go_loopw [8] (fun i wr => ∃ k : Nat, k ≤ len ∧ i = .int .i64 k ∧ Hid (MbSt w (twosB (l.take k) ++ zerosL (64 - 2 * k)) wr)) (fun i _ => len - (intOf i).toNat)
  case atStart => exact ⟨0, by omega, rfl, HS⟩
  case round =>
    clear HS
    obtain ⟨k, hk, rfl, HS⟩ := hrel
    by_cases hlt : k < len
    · obtain ⟨b, o, rfl, hb, hc⟩ := (HL.out.kept HS.out.kept).cell (by omega)
      have c1 := hc k hlt
      have hkl : k < l.length := by rw [HLL.out]; exact hlt
      rw [natI_get] at c1
      obtain ⟨x, hx⟩ : ∃ x, l[k] = x := ⟨_, rfl⟩
      rw [hx] at c1
      have HX := Lib.hid hx
      clear hc hx
      go_wp2_with fail
      refine (putNumber3_any (w.heap.size + 1) 0 64 64 (2 * k) x _ _ wr HS.out.b (by omega) (by rw [HS.out.len]; omega) (by omega)).mono ?_
      rintro e w5 ⟨rfl, hh5, hk5⟩
      have HN : Hid (MbSt w (twosB (l.take (k + 1)) ++ zerosL (64 - 2 * (k + 1))) w5) := by
        have e1 : (twosB (l.take k)).length = 2 * k := by rw [twosB_length, List.length_take]; omega
        have e2 : 64 - 2 * k = (64 - 2 * (k + 1)) + 2 := by omega
        have hp := put_two (twosB (l.take k)) x (64 - 2 * (k + 1))
        rw [e1, ← e2] at hp
        rw [Nat.zero_add, Nat.zero_add, hp] at hh5
        rw [twosB_snoc l k hkl, HX.out]
        refine ⟨hk5.heap (by simp) HS.out.r, hh5, ?_, HS.out.kept.into hk5 (by simp)⟩
        simp [e1, twoB, zerosL]; omega
      clear hh5 hk5 HS
      go_wp2_with fail
      go_roundw
      case rel => exact ⟨k + 1, by omega, by go_num, HN⟩
      case measure => simp [intOf]; omega
    · have hkl : k = len := by omega
      have HS2 : Hid (MbSt w (moreL l) wr) := by
        have := HS.out
        rw [hkl, ← HLL.out, List.take_length] at this
        exact this
      clear HS hkl
      obtain ⟨L, hL⟩ : ∃ L, moreL l = L := ⟨_, rfl⟩
      rw [hL] at HS2
      have HLM := Lib.hid hL
      clear hL
      have hrg := range_row HS2.out.b
      have hsz : (Tryz.prog.info? 156).map (·.size) = some (bv L).length := by rw [bv_length, HS2.out.len]; exact size67
      have hsz2 : (Tryz.prog.info? 156).map (·.size) = some L.length := by rw [HS2.out.len]; exact size67
      have hl2 : L.length = (zerosL 64).length := by rw [HS2.out.len]; rfl
      have HR := HS2.out.r
      go_wp2_with first
        | (refine wpList_load_mid rfl 156 _ rfl _ 0 rfl (bv L) _ hrg Tryz.underlying156 rfl hsz ?_)
        | (refine wpList_store_row rfl 156 _ _ rfl (w.heap.size) 156 (zerosL 64) L rfl rfl HR hl2 hsz2 ?_)
      refine bodyPost_ret_by (results_cell_row rfl _ _ (w.heap.size) 156 (bvA L) (0, 0) _ rfl (setRow_heap _ _ _ _ _ _ HR) Tryz.underlying156 rfl (by rw [bvA_size]; exact hsz2)) rfl ⟨by rw [HLM.out], ?_⟩
      exact HS2.out.kept.into (setRow_kept _ _ _) (by simp)

theorem run_index_ints {P : Program} (t e : TypeId) (n : Nat) (L : List Int) (k : Nat) (w : World) (ht : P.underlying t = some (.array n e)) (hu : P.underlying e = some (.int .i64)) (he : (P.info? e).map (·.size) = some 1) (hn : L.length = n) (hk : k < L.length) :
    (Instr.index t (.agg (iv L).toArray) (.int .i64 (k : Int))).run P w = .ok (.int .i64 L[k]) w := by
  cases hq : P.info? e with
  | none => simp [hq] at he
  | some i =>
    have hs : i.size = 1 := by simpa [hq] using he
    have h1 : k < n := by omega
    have h2 : (iv L)[k]? = some (.int .i64 L[k]) := by simp [iv, hk]
    simp [Instr.index, run_underlying ht, asIntOf, go_sem, h1, sizeOf, typeInfo, hq, hs, isAgg, run_underlying hu, h2]
theorem zero32 (w : World) : (zeroValue 154).run Tryz.prog w = .ok (.agg (bvA (zerosL 32))) w := by kernel_rfl

/-- What 'copy(f[3:], x.Blocks)' does. -/
theorem copy_fields (w : World) (g : Nat) (a b c : Int) (ao : Option Addr) (len cap : Nat) (l : List Int) (hl : IntsIs w ao len l) (hg : w.heap[g]? = some (.cells (ivA [a, b, c, 0, 0, 0, 0, 0, 0]) 182)) :
    ∃ w', (Builtin.copy_ #[56, 56] 3 #[.slice (some ⟨g, 3, none⟩) 6 6, .slice ao len cap]).run Tryz.prog w = .ok (goInt (min len 6 : Nat)) w' ∧
      w'.heap[g]? = some (.cells (ivA (a :: b :: c :: (l.take 6 ++ List.replicate (6 - l.length) 0))) 182) ∧ Kept [g] w w' := by
  obtain ⟨h1, h2, h3⟩ := hl
  by_cases h0 : len = 0
  · subst h0
    obtain rfl : l = [] := List.eq_nil_of_length_eq_zero h1
    refine ⟨w, ?_, hg, Kept.refl _ _⟩
    exact run_copy_none (P := Tryz.prog) w 56 56 3 3 _ _ _ _ _ _ Tryz.underlying56 (by kernel_rfl) (by simp)
  · rcases h3 with h3 | ⟨p, o, rfl, hb, hr⟩
    · omega
    · have hlen : (iv (l.take 6)).length = min len 6 := by rw [iv_length, List.length_take]; omega
      have := run_copy_row (P := Tryz.prog) w 56 56 3 3 g 3 6 6 ⟨p, o, none⟩ len cap (ivA [a, b, c, 0, 0, 0, 0, 0, 0]) 182 (iv (l.take 6)) Tryz.underlying56 (by kernel_rfl) hg hlen
        (fun j v hv => by
          rw [Addr.add_mid]
          refine hr j v ?_
          simp [iv, List.getElem?_take] at hv ⊢
          exact hv.2) (by rw [hlen, ivA_size]; simp; omega) (iv_one _)
      rw [hlen] at this
      refine ⟨_, this, ?_, setRow_kept _ _ _⟩
      rw [setRow_heap _ _ _ _ _ _ hg]
      congr 2
      apply Array.toList_inj.1
      rw [ivA_toList, ivA_toList]
      have e : l.take 6 ++ List.replicate (6 - l.length) 0 = l.take 6 ++ [0, 0, 0, 0, 0, 0].drop (l.take 6).length := by
        congr 1
        rw [show [(0 : Int), 0, 0, 0, 0, 0] = List.replicate 6 0 from rfl, List.drop_replicate, List.length_take]
        congr 1
        omega
      rw [e]
      have hm : (l.take 6).length = min len 6 := by rw [List.length_take]; omega
      rw [hm]
      simp [iv]
      rw [Nat.add_comm 3 (min len 6)]
      rfl

structure NrSt (w : World) (cs : Array Value) (F : List Int) (wr : World) : Prop where
  x : wr.heap[w.heap.size]? = some (.cells cs 123)
  r : wr.heap[w.heap.size + 1]? = some (.cells (bvA (zerosL 32)) 154)
  f : wr.heap[w.heap.size + 2]? = some (.cells (ivA F) 182)
  kept : Kept [] w wr
theorem NrSt.go {w : World} {cs : Array Value} {F : List Int} {wr w' : World} (h : NrSt w cs F wr) (hk : Kept [] wr w') : NrSt w cs F w' :=
  ⟨hk.heap (by simp) h.x, hk.heap (by simp) h.r, hk.heap (by simp) h.f, h.kept.trans hk⟩

set_option maxRecDepth 100000 in
set_option maxHeartbeats 2000000 in
theorem nodeRecord_any (k m s more : Nat) (ao : Option Addr) (len cap : Nat) (l : List Nat) (w : World) (hl : IntsIs w ao len (natI l)) (hk : k < 256) :
    Calls Tryz.prog 93 #[nodeV k m s ao len cap more] w fun e w' => e = .returned (.agg (bvA (recL k (fieldsL m s more l)))) ∧ Kept [] w w' := by
  unfold nodeV
  have HL := Lib.hid hl
  clear hl
  go_enter Tryz.func93, Tryz.ntmps93
  go_wp2_with fail
  generalize hw3 : World.alloc (World.alloc (World.alloc w _) _) _ = w3
  have HS : NrSt w #[.int .i64 k, .int .i64 m, .int .i64 s, .slice ao len cap, .int .i64 more] [(m : Int), s, more, 0, 0, 0, 0, 0, 0] w3 := by
    rw [← hw3]
    refine ⟨?_, ?_, ?_, ((Kept.alloc _ _ _).trans (Kept.alloc _ _ _)).trans (Kept.alloc _ _ _)⟩
    · exact (Kept.alloc [] _ _).heap (by simp) ((Kept.alloc [] _ _).heap (by simp) (heap_alloc_last w _))
    · have := heap_alloc_last (w.alloc (.cells #[.int .i64 k, .int .i64 m, .int .i64 s, .slice ao len cap, .int .i64 more] 123)) (.cells (bvA (zerosL 32)) 154)
      rw [size_alloc] at this
      exact (Kept.alloc [] _ _).heap (by simp) this
    · have := heap_alloc_last ((w.alloc (.cells #[.int .i64 k, .int .i64 m, .int .i64 s, .slice ao len cap, .int .i64 more] 123)).alloc (.cells (bvA (zerosL 32)) 154)) (.cells (ivA [(m : Int), s, more, 0, 0, 0, 0, 0, 0]) 182)
      rw [size_alloc, size_alloc] at this
      exact this
  clear hw3
  have HS3 := Lib.hid HS
  clear HS
  have c3 : w3.cell? ⟨w.heap.size, 3, none⟩ = some (.slice ao len cap) := cell_of_row _ _ 3 _ _ _ HS3.out.x
  obtain ⟨w5, hrun, hf5, hk5⟩ := copy_fields w3.drew (w.heap.size + 2) m s more ao len cap (natI l) ((HL.out.kept HS3.out.kept).kept (Kept.drew _ _)) ((HS3.out.go (Kept.drew _ _)).f)
  have HR := Lib.hid hrun
  have HF5 := Lib.hid hf5
  have HK5 := Lib.hid hk5
  clear hrun hf5 hk5
  refine wp_region_still_tail 3 (by kernel_rfl) (by kernel_rfl) ?_
  simp only [List.take_succ_cons, List.take_zero, List.drop_succ_cons, List.drop_zero]
  still_step
  still_step
  still_step
  refine wpStill_nil ?_
  refine wpList_copy_run rfl _ _ _ _ rfl _ _ _ rfl rfl HR.out ?_
  have HX5 := Lib.hid (HK5.out.heap (by simp) (HS3.out.go (Kept.drew _ _)).x)
  have HR5 := Lib.hid (HK5.out.heap (by simp) (HS3.out.go (Kept.drew _ _)).r)
  have HKK := Lib.hid ((HS3.out.kept.trans (Kept.drew _ _)).into HK5.out (by simp))
  clear HK5 HS3 HR c3
  clear w3
  have c0 : w5.cell? ⟨w.heap.size, 0, none⟩ = some (.int .i64 k) := cell_of_row _ _ 0 _ _ _ HX5.out
  have z32 := zero32 w5
  have hs0 : (bvA (zerosL 32)).size = 32 := rfl
  have hne : ¬ bvA (zerosL 32) = #[] := fun h => by have := congrArg Array.size h; simp [hs0] at this
  have hkb : ((loB k).toNat : Int) = k := by simp [loB]; omega
  have hset : (bvA (loB k :: zerosL 31)).toList = (bvA (zerosL 32)).toList.set 0 (.int .u8 (k : Int)) := by rw [bvA_toList, bvA_toList, ← hkb]; rfl
  have hst := run_storeCells_new (P := Tryz.prog) w5 154 (bvA (zerosL 32)) (bvA (loB k :: zerosL 31)) (by rw [size64]; rfl) rfl (bvA_one _)
  rw [hset] at hst
  have HKB := Lib.hid hkb
  clear hset hkb
  obtain ⟨F, hF⟩ : ∃ F, fieldsL m s more l = F := ⟨_, rfl⟩
  have hFl : F.length = 9 := by rw [← hF]; exact fieldsL_length _ _ _ _
  have hFI : (m : Int) :: (s : Int) :: (more : Int) :: ((natI l).take 6 ++ List.replicate (6 - (natI l).length) 0) = natI F := by rw [← hF]; simp [fieldsL, natI]
  have HF := Lib.hid hF
  have HF6 : Hid (w5.heap[w.heap.size + 2]? = some (.cells (ivA (natI F)) 182)) := by show _ = _; rw [← hFI]; exact HF5.out
  clear hF hFI HF5
  have hrg : ∀ o : Obj, (w5.alloc o).rangeAt (w.heap.size + 2) 0 (iv (natI F)) := fun o j v hv => by
    rw [Nat.zero_add, cell_of_row (w5.alloc o) _ j _ _ _ ((Kept.alloc [] _ _).heap (by simp) HF6.out)]
    simpa [ivA] using hv
  have hsz : (Tryz.prog.info? 182).map (·.size) = some (iv (natI F)).length := by rw [iv_length, natI_length, hFl]; kernel_rfl
  have HFL := Lib.hid hFl
  have HRG := Lib.hid hrg
  clear hFl hrg
  go_wp2_with (refine wpList_load_mid rfl 182 _ rfl _ 0 rfl (iv (natI F)) _ (HRG.out _) Tryz.underlying182 rfl hsz ?_)
  clear hsz hst z32 hne hs0 c0
  generalize hw6 : World.alloc w5 _ = w6
  have HB : Hid (NrSt w #[.int .i64 k, .int .i64 m, .int .i64 s, .slice ao len cap, .int .i64 more] (natI F) w6 ∧ w6.heap[w5.heap.size]? = some (.cells (bvA ((loB k :: twosB (F.take 0)) ++ zerosL (31 - 2 * 0))) 154) ∧ w.heap.size + 3 ≤ w5.heap.size) := by
    rw [← hw6]
    refine ⟨⟨(Kept.alloc [] _ _).heap (by simp) HX5.out, (Kept.alloc [] _ _).heap (by simp) HR5.out, (Kept.alloc [] _ _).heap (by simp) HF6.out, HKK.out.trans (Kept.alloc _ _ _)⟩, heap_alloc_last _ _, ?_⟩
    have := (Array.getElem?_eq_some_iff.1 HF6.out).1
    omega
  clear hw6
  generalize w5.heap.size = g at HB ⊢
  clear HX5 HR5 HF6 HKK HRG HKB
  clear w5
  go_loopw [23] (fun i wr => ∃ j : Nat, j ≤ 9 ∧ i = .int .i64 j ∧ Hid (NrSt w #[.int .i64 k, .int .i64 m, .int .i64 s, .slice ao len cap, .int .i64 more] (natI F) wr ∧ wr.heap[g]? = some (.cells (bvA ((loB k :: twosB (F.take j)) ++ zerosL (31 - 2 * j))) 154) ∧ w.heap.size + 3 ≤ g)) (fun i _ => 9 - (intOf i).toNat)
  case atStart => exact ⟨0, by omega, rfl, HB⟩
  case round =>
    clear HB
    obtain ⟨j, hj, rfl, HB⟩ := hrel
    by_cases hlt : j < 9
    · have hjf : j < F.length := by rw [HFL.out]; exact hlt
      obtain ⟨x, hx⟩ : ∃ x, F[j] = x := ⟨_, rfl⟩
      have hix := run_index_ints (P := Tryz.prog) 182 3 9 (natI F) j wr Tryz.underlying182 Tryz.underlying3 (by kernel_rfl) (by rw [natI_length]; exact HFL.out) (by rw [natI_length]; exact hjf)
      rw [natI_get, hx] at hix
      have HX := Lib.hid hx
      clear hx
      go_wp2_with fail
      refine (putNumber3_any g 0 32 32 (1 + 2 * j) x _ _ wr HB.out.2.1 (by omega) (by simp [twosB_length, zerosL]; omega) (by omega)).mono ?_
      rintro e w5 ⟨rfl, hh5, hk5⟩
      have HN : Hid (NrSt w #[.int .i64 k, .int .i64 m, .int .i64 s, .slice ao len cap, .int .i64 more] (natI F) w5 ∧ w5.heap[g]? = some (.cells (bvA ((loB k :: twosB (F.take (j + 1))) ++ zerosL (31 - 2 * (j + 1)))) 154) ∧ w.heap.size + 3 ≤ g) := by
        have hg := HB.out.2.2
        have e1 : (loB k :: twosB (F.take j)).length = 1 + 2 * j := by rw [List.length_cons, twosB_length, List.length_take]; omega
        have e2 : 31 - 2 * j = (31 - 2 * (j + 1)) + 2 := by omega
        have hp := put_two (loB k :: twosB (F.take j)) x (31 - 2 * (j + 1))
        rw [e1, ← e2] at hp
        rw [Nat.zero_add, Nat.zero_add, hp] at hh5
        rw [twosB_snoc F j hjf, HX.out]
        have hS := HB.out.1
        exact ⟨⟨hk5.heap (by simp; omega) hS.x, hk5.heap (by simp; omega) hS.r, hk5.heap (by simp; omega) hS.f, hS.kept.into hk5 (by simp; omega)⟩, hh5, hg⟩
      clear hh5 hk5 HB hix
      go_wp2_with fail
      go_roundw
      case rel => exact ⟨j + 1, by omega, by go_num, HN⟩
      case measure => simp [intOf]; omega
    · have hj9 : j = 9 := by omega
      have HS2 : Hid (NrSt w #[.int .i64 k, .int .i64 m, .int .i64 s, .slice ao len cap, .int .i64 more] (natI F) wr ∧ wr.heap[g]? = some (.cells (bvA (recL k F)) 154) ∧ w.heap.size + 3 ≤ g) := by
        have := HB.out
        rw [hj9, ← HFL.out, List.take_length] at this
        rw [HFL.out] at this
        exact this
      clear HB hj9
      have hrl : (recL k F).length = 32 := by simp [recL, twosB_length, zerosL, HFL.out]
      obtain ⟨L, hL⟩ : ∃ L, recL k F = L := ⟨_, rfl⟩
      rw [hL] at HS2 hrl
      have HLM := Lib.hid hL
      have HRL := Lib.hid hrl
      clear hL hrl
      have hrg := range_row HS2.out.2.1
      have hsz : (Tryz.prog.info? 154).map (·.size) = some (bv L).length := by rw [bv_length, HRL.out]; exact size64
      have hsz2 : (Tryz.prog.info? 154).map (·.size) = some L.length := by rw [HRL.out]; exact size64
      have hl2 : L.length = (zerosL 32).length := by rw [HRL.out]; rfl
      have HR := HS2.out.1.r
      go_wp2_with first
        | (refine wpList_load_mid rfl 154 _ rfl _ 0 rfl (bv L) _ hrg Tryz.underlying154 rfl hsz ?_)
        | (refine wpList_store_row rfl 154 _ _ rfl (w.heap.size + 1) 154 (zerosL 32) L rfl rfl HR hl2 hsz2 ?_)
      refine bodyPost_ret_by (results_cell_row rfl _ _ (w.heap.size + 1) 154 (bvA L) (0, 0) _ rfl (setRow_heap _ _ _ _ _ _ HR) Tryz.underlying154 rfl (by rw [bvA_size]; exact hsz2)) rfl ⟨by rw [HF.out, HLM.out], ?_⟩
      exact HS2.out.1.kept.into (setRow_kept _ _ _) (by simp)

end Go.Proofs.YtiedoocgbajjjaaGreatDoor

namespace Go.Proofs.YtiedoocgbajjjaaGreatDoor
open Go.RowKit Go.Maps
set_option maxRecDepth 100000

def moreOf (r : List Nat) : List UInt8 := if 6 < r.length then moreL (r.drop 6) else []
/-- What PutNode leaves of a node that may be. -/
def NodeOut (k m s more : Nat) (r : List Nat) (w : World) (e : Ending) (w' : World) : Prop :=
  ∃ va vm, e = .returned (.tuple #[va, vm, .int .i64 0]) ∧ SlIs w' va (recL k (fieldsL m s more r)) ∧ SlIs w' vm (moreOf r) ∧ Kept [] w w'

theorem IntsIs.drop {w : World} {b o len : Nat} {l : List Int} (h : IntsIs w (some ⟨b, o, none⟩) len l) (j : Nat) : IntsIs w (some ⟨b, o + j, none⟩) (len - j) (l.drop j) := by
  obtain ⟨h1, h2, h3⟩ := h
  refine ⟨by simp [h1], by omega, ?_⟩
  by_cases h0 : len - j = 0
  · exact .inl h0
  · rcases h3 with h3 | ⟨b', o', he, hb, hr⟩
    · omega
    · simp at he
      obtain ⟨rfl, rfl⟩ := he
      refine .inr ⟨b, o + j, rfl, hb, fun i v hv => ?_⟩
      rw [Nat.add_assoc]
      refine hr (j + i) v ?_
      simpa [iv, List.getElem?_drop] using hv

theorem natI_drop (l : List Nat) (j : Nat) : natI (l.drop j) = (natI l).drop j := by simp [natI]

/-- What a node that may be is. -/
theorem valid_parts {k m s more : Int} {l : List Int} (h : validB k m s more l = true) :
    ∃ (kN mN sN moreN : Nat) (r : List Nat), k = kN ∧ m = mN ∧ s = sN ∧ more = moreN ∧ l = natI r ∧ 1 ≤ kN ∧ kN ≤ 3 ∧ mN ≤ 4095 ∧ sN ≤ 2432 ∧ moreN < 4096 ∧ (∀ x ∈ r, 1 ≤ x ∧ x < 4096) ∧ dataI k s = r.length ∧ r.length ≤ 38 ∧ headB m (dataI k s) more = true ∧ (6 < r.length → 1 ≤ moreN) ∧ (¬ 6 < r.length → moreN = 0) := by
  simp only [validB, Bool.and_eq_true, decide_eq_true_eq] at h
  obtain ⟨⟨⟨h1, h2⟩, h3⟩, h4⟩ := h
  have h3' := h3
  have hb := dataI_bd k s
  obtain ⟨r, rfl, hr⟩ := natI_of_snd h4
  rw [natI_length] at h2
  have hk : 1 ≤ k ∧ k ≤ 3 ∧ 0 ≤ s ∧ s ≤ 2432 := by
    unfold dataI at h1
    split at h1
    · omega
    · split at h1
      · omega
      · split at h1 <;> omega
  unfold headB at h3
  simp only [Bool.and_eq_true, decide_eq_true_eq] at h3
  obtain ⟨h5, h6⟩ := h3
  have hm : 0 ≤ more ∧ more < 4096 ∧ (6 < r.length → 1 ≤ more) ∧ (¬ 6 < r.length → more = 0) := by
    split at h6
    · simp [sndB] at h6; omega
    · simp at h6; omega
  refine ⟨k.toNat, m.toNat, s.toNat, more.toNat, r, by omega, by omega, by omega, by omega, rfl, by omega, by omega, by omega, by omega, by omega, hr, h2.symm, by omega, h3', by omega, by omega⟩

theorem valid_false {k m s more : Int} {l : List Int} (h : validB k m s more l = false) : dataI k s < 0 ∨ (0 ≤ dataI k s ∧ (l.length : Int) ≠ dataI k s) ∨ (0 ≤ dataI k s ∧ (l.length : Int) = dataI k s ∧ headB m (dataI k s) more = false) ∨ (0 ≤ dataI k s ∧ (l.length : Int) = dataI k s ∧ headB m (dataI k s) more = true ∧ l.all sndB = false) := by
  by_cases h1 : dataI k s < 0
  · exact .inl h1
  · by_cases h2 : (l.length : Int) = dataI k s
    · cases h3 : headB m (dataI k s) more
      · exact .inr (.inr (.inl ⟨by omega, h2, rfl⟩))
      · refine .inr (.inr (.inr ⟨by omega, h2, rfl, ?_⟩))
        unfold validB at h
        rw [h3, decide_eq_true (show 0 ≤ dataI k s by omega), decide_eq_true h2] at h
        simpa using h
    · exact .inr (.inl ⟨by omega, h2⟩)

set_option maxRecDepth 100000 in
set_option maxHeartbeats 2000000 in
theorem putNode_no (k m s more : Int) (ao : Option Addr) (len cap : Nat) (l : List Int) (w : World) (hl : IntsIs w ao len l) (hv : validB k m s more l = false) :
    Calls Tryz.prog 69 #[nodeV k m s ao len cap more] w fun e w' => e = .returned (.tuple #[.slice none 0 0, .slice none 0 0, .int .i64 1]) ∧ Kept [] w w' := by
  have hlen := hl.2.1
  have h := valid_false hv
  clear hv
  obtain ⟨n, hn⟩ : ∃ n, dataI k s = n := ⟨_, rfl⟩
  have hb := dataI_bd k s
  rw [hn] at hb h
  rw [hl.1] at h
  have HN := Lib.hid hn
  have HL := Lib.hid hl
  clear hn hl
  rcases h with h | ⟨h0, h1⟩ | ⟨h0, h1, h2⟩ | ⟨h0, h1, h2, h3⟩
  · unfold nodeV
    go_enter Tryz.func69, Tryz.ntmps69
    go_wp2_with fail
    refine (content_no k s _ (by rw [HN.out]; exact h)).mono ?_
    rintro e w' ⟨rfl, rfl⟩
    go_wp2_with fail
    go_ret3
    exact ⟨rfl, Kept.alloc _ _ _⟩
  · have h1' : ((len : Int) != n) = true := by simpa using h1
    unfold nodeV
    go_enter Tryz.func69, Tryz.ntmps69
    go_wp2_with fail
    refine (content_yes k s n _ HN.out h0).mono ?_
    rintro e w' ⟨rfl, rfl⟩
    go_wp2_with fail
    go_ret3
    exact ⟨rfl, Kept.alloc _ _ _⟩
  · have H2 := Lib.hid h2
    clear h2
    subst h1
    unfold nodeV
    go_enter Tryz.func69, Tryz.ntmps69
    go_wp2_with fail
    refine (content_yes k s len _ HN.out h0).mono ?_
    rintro e w' ⟨rfl, rfl⟩
    go_wp2_with fail
    refine (soundHead_any k m s ao len cap more len _).mono ?_
    rw [H2.out]
    rintro e w1 ⟨rfl, hk1⟩
    go_wp2_with fail
    go_ret3
    exact ⟨rfl, (Kept.alloc _ _ _).trans hk1⟩
  · have H2 := Lib.hid h2
    have H3 := Lib.hid h3
    clear h2 h3
    subst h1
    unfold nodeV
    go_enter Tryz.func69, Tryz.ntmps69
    go_wp2_with fail
    refine (content_yes k s len _ HN.out h0).mono ?_
    rintro e w' ⟨rfl, rfl⟩
    go_wp2_with fail
    refine (soundHead_any k m s ao len cap more len _).mono ?_
    rw [H2.out]
    rintro e w1 ⟨rfl, hk1⟩
    have c3 : w1.cell? ⟨w.heap.size, 3, none⟩ = some (.slice ao len cap) := cell_of_row _ _ 3 _ _ _ (hk1.heap (by simp) (heap_alloc_last w _))
    have HK1 := Lib.hid ((Kept.alloc [] w (.cells #[.int .i64 k, .int .i64 m, .int .i64 s, .slice ao len cap, .int .i64 more] 123)).trans hk1)
    clear hk1
    go_wp2_with fail
    refine (soundBlocks_any ao len cap l _ (HL.out.kept HK1.out)).mono ?_
    rw [H3.out]
    rintro e w2 ⟨rfl, rfl⟩
    go_wp2_with fail
    go_ret3
    exact ⟨rfl, HK1.out⟩

theorem zero64 (w : World) : (zeroValue 156).run Tryz.prog w = .ok (.agg (bvA (zerosL 64))) w := by kernel_rfl
theorem recL_length {k : Nat} {F : List Nat} (h : F.length = 9) : (recL k F).length = 32 := by simp [recL, twosB_length, zerosL, h]
theorem moreL_length {l : List Nat} (h : l.length ≤ 32) : (moreL l).length = 64 := by simp [moreL, twosB_length, zerosL]; omega

set_option maxRecDepth 100000 in
set_option maxHeartbeats 2000000 in
theorem putNode_yes (k m s more : Nat) (ao : Option Addr) (len cap : Nat) (r : List Nat) (w : World) (hl : IntsIs w ao len (natI r)) (hc : len ≤ cap) (hv : validB k m s more (natI r) = true) :
    Calls Tryz.prog 69 #[nodeV k m s ao len cap more] w (NodeOut k m s more r w) := by
  obtain ⟨kN, mN, sN, moreN, r', e1, e2, e3, e4, e5, g1, g2, g3, g4, g5, g6, g7, g8, g9, g10, g11⟩ := valid_parts hv
  obtain rfl : k = kN := by omega
  obtain rfl : m = mN := by omega
  obtain rfl : s = sN := by omega
  obtain rfl : more = moreN := by omega
  have er : r = r' := by
    have := congrArg (List.map Int.toNat) e5
    simpa [natI, Function.comp_def] using this
  subst er
  have hall : (natI r).all sndB = true := by
    simp only [validB, Bool.and_eq_true] at hv
    exact hv.2
  have hrl : r.length = len := by have := hl.1; rwa [natI_length] at this
  rw [hrl] at g7 g8 g10 g11
  rw [g7] at g9
  have HN := Lib.hid g7
  have H2 := Lib.hid g9
  have H3 := Lib.hid hall
  have HL := Lib.hid hl
  have HRL := Lib.hid hrl
  clear e1 e2 e3 e4 e5 g6 g7 g9 g10 g11 hall hl hv hrl
  unfold nodeV
  go_enter Tryz.func69, Tryz.ntmps69
  go_wp2_with fail
  refine (content_yes k s len _ HN.out (by omega)).mono ?_
  rintro e w' ⟨rfl, rfl⟩
  go_wp2_with fail
  refine (soundHead_any k m s ao len cap more len _).mono ?_
  rw [H2.out]
  rintro e w1 ⟨rfl, hk1⟩
  have HB1 := Lib.hid (hk1.heap (by simp) (heap_alloc_last w _))
  have HK1 := Lib.hid ((Kept.alloc [] w (.cells #[.int .i64 k, .int .i64 m, .int .i64 s, .slice ao len cap, .int .i64 more] 123)).trans hk1)
  clear hk1
  have c0 : w1.cell? ⟨w.heap.size, 0, none⟩ = some (.int .i64 k) := cell_of_row _ _ 0 _ _ _ HB1.out
  have c1 : w1.cell? ⟨w.heap.size, 1, none⟩ = some (.int .i64 m) := cell_of_row _ _ 1 _ _ _ HB1.out
  have c2 : w1.cell? ⟨w.heap.size, 2, none⟩ = some (.int .i64 s) := cell_of_row _ _ 2 _ _ _ HB1.out
  have c3 : w1.cell? ⟨w.heap.size, 3, none⟩ = some (.slice ao len cap) := cell_of_row _ _ 3 _ _ _ HB1.out
  have c4 : w1.cell? ⟨w.heap.size, 4, none⟩ = some (.int .i64 more) := cell_of_row _ _ 4 _ _ _ HB1.out
  go_wp2_with fail
  refine (soundBlocks_any ao len cap (natI r) _ (HL.out.kept HK1.out)).mono ?_
  rw [H3.out]
  rintro e w2 ⟨rfl, rfl⟩
  go_wp2_with fail
  refine (nodeRecord_any k m s more ao len cap r _ (HL.out.kept HK1.out) (by omega)).mono ?_
  rintro e w2 ⟨rfl, hk2⟩
  obtain ⟨R, hR⟩ : ∃ R, recL k (fieldsL m s more r) = R := ⟨_, rfl⟩
  have hRl : R.length = 32 := by rw [← hR]; exact recL_length (fieldsL_length _ _ _ _)
  rw [hR]
  have HR := Lib.hid hR
  have HRl := Lib.hid hRl
  clear c0 c1 c2 c3 c4 hR
  have HB2 := Lib.hid (hk2.heap (by simp) HB1.out)
  have HK2 := Lib.hid (HK1.out.trans hk2)
  clear hk2 HB1 HK1
  clear w1
  have hw2 : w.heap.size < w2.heap.size := (Array.getElem?_eq_some_iff.1 HB2.out).1
  have z32 := zero32 w2
  have hs0 : (bvA R).size = 32 := by rw [bvA_size]; exact hRl
  have hst := run_storeCells_new (P := Tryz.prog) w2 154 (bvA (zerosL 32)) (bvA R) (by rw [hs0]; exact size64) (by rw [hs0]; rfl) (bvA_one _)
  clear hRl
  by_cases h6 : (6 : Int) < (len : Int)
  · obtain ⟨b, o, rfl, hb, hcc⟩ := HL.out.cell (by omega)
    clear hcc
    have C3 : w2.cell? ⟨w.heap.size, 3, none⟩ = some (.slice (some ⟨b, o, none⟩) len cap) := cell_of_row _ _ 3 _ _ _ HB2.out
    go_wp2_with fail
    generalize hw3 : World.alloc w2 _ = w3
    have HK3 := Lib.hid (show Kept [] w2 w3 by rw [← hw3]; exact Kept.alloc _ _ _)
    have HH3 := Lib.hid (show w3.heap[w2.heap.size]? = some (.cells (bvA R) 154) by rw [← hw3]; exact heap_alloc_last _ _)
    clear hw3 z32 hst hs0 C3
    refine (moreBlock_any _ _ _ (r.drop 6) _ (by rw [natI_drop]; exact (HL.out.kept (HK2.out.trans HK3.out)).drop 6) (by omega)).mono ?_
    rintro e w4 ⟨rfl, hk4⟩
    obtain ⟨M, hM⟩ : ∃ M, moreL (r.drop 6) = M := ⟨_, rfl⟩
    have hMl : M.length = 64 := by rw [← hM]; exact moreL_length (by rw [List.length_drop, HRL.out]; omega)
    rw [hM]
    have HM := Lib.hid hM
    have HMl := Lib.hid hMl
    clear hM
    have HH4 := Lib.hid (hk4.heap (by simp) HH3.out)
    have HK4 := Lib.hid ((HK2.out.trans HK3.out).trans hk4)
    clear hk4 HH3 HK3 HB2 HK2
    clear w3
    have z64 := zero64 w4
    have hs0 : (bvA M).size = 64 := by rw [bvA_size]; exact hMl
    have hst := run_storeCells_new (P := Tryz.prog) w4 156 (bvA (zerosL 64)) (bvA M) (by rw [hs0]; exact size67) (by rw [hs0]; rfl) (bvA_one _)
    clear hMl
    go_wp2_with fail
    go_ret3
    refine ⟨_, _, rfl, ?_, ?_, HK4.out.trans (Kept.alloc _ _ _)⟩
    · rw [HR.out]
      exact SlIs.row ((Kept.alloc [] _ _).heap (by simp) HH4.out) 32 32 HRl.out
    · unfold moreOf
      rw [if_pos (by rw [HRL.out]; omega), HM.out]
      exact SlIs.row (heap_alloc_last _ _) 64 64 HMl.out
  · go_wp2_with fail
    go_ret3
    refine ⟨_, _, rfl, ?_, ?_, HK2.out.trans (Kept.alloc _ _ _)⟩
    · rw [HR.out]
      exact SlIs.row (heap_alloc_last _ _) 32 32 HRl.out
    · unfold moreOf
      rw [if_neg (by rw [HRL.out]; omega)]
      exact .inr ⟨rfl, rfl⟩

end Go.Proofs.YtiedoocgbajjjaaGreatDoor

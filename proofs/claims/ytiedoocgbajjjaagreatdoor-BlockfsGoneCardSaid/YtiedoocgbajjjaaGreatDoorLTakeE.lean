/-
  Layer 3: the program's PutEntries.
  Conditions: those that each theorem states.
  Layer 3: what a record tells of an entry (readEntry).
  Conditions: those that each theorem states.
  Layer 3: the program's TakeEntries.
  Conditions: those that each theorem states.
  bytes.Equal, and a row of entries of one's own.
  Conditions: those that each theorem states.
  Layer 3: the program's TakeEntries, at bytes of whole records.
  Conditions: those that each theorem states.
-/
import Derived.Test.YtiedoocgbajjjaaGreatDoorLEntR
import Derived.Deep.Cut
import Derived.Test.YtiedoocgbajjjaaGreatDoorLTake
import Derived.Test.YtiedoocgbajjjaaGreatDoorLPath
namespace Go.Proofs.YtiedoocgbajjjaaGreatDoor
open Go.RowKit Go.Maps
set_option maxRecDepth 100000

/-- The bytes of a row of entries. -/
def entsL (l : List Ent) : List UInt8 := l.flatMap fun x => entL x.1.toNat x.2
theorem entsL_length : ∀ {l : List Ent}, (∀ x ∈ l, x.2.length ≤ 30) → (entsL l).length = 32 * l.length
  | [], _ => rfl
  | x :: l, h => by
    have e1 := entL_length (n := x.1.toNat) (h x (by simp))
    have e2 := entsL_length (l := l) (fun y hy => h y (by simp [hy]))
    have e3 : entsL (x :: l) = entL x.1.toNat x.2 ++ entsL l := rfl
    rw [e3, List.length_append, e1, e2, List.length_cons]; omega
theorem entsL_snoc (l : List Ent) (k : Nat) (hk : k < l.length) : entsL (l.take (k + 1)) = entsL (l.take k) ++ entL l[k].1.toNat l[k].2 := by
  unfold entsL
  rw [List.take_succ_eq_append_getElem hk, List.flatMap_append, List.flatMap_cons, List.flatMap_nil, List.append_nil]
theorem good_ent {l : List Ent} (h : goodB l = true) (k : Nat) (hk : k < l.length) : (1 ≤ l[k].1 ∧ l[k].1 < 64) ∧ nameB l[k].2 = true := by
  have := (of_decide_eq_true h k hk).1
  simpa [entB] using this
theorem nameB_le {p : List UInt8} (h : nameB p = true) : 1 ≤ p.length ∧ p.length ≤ 28 := by
  simp only [nameB, Bool.and_eq_true, decide_eq_true_eq] at h
  exact h.1
theorem good_len {l : List Ent} (h : goodB l = true) : ∀ x ∈ l, x.2.length ≤ 30 := fun x hx => by
  obtain ⟨k, hk, rfl⟩ := List.getElem_of_mem hx
  have := (nameB_le (good_ent h k hk).2).2
  omega
def PutEOut (l : List Ent) (w : World) (e : Ending) (w' : World) : Prop :=
  Kept [] w w' ∧ ((16 < l.length ∧ e = .returned (.tuple #[.slice none 0 0, .int .i64 5])) ∨ (l.length ≤ 16 ∧ goodB l = false ∧ e = .returned (.tuple #[.slice none 0 0, .int .i64 1])) ∨
    (l.length ≤ 16 ∧ goodB l = true ∧ ∃ v, e = .returned (.tuple #[v, .int .i64 0]) ∧ SlIs w' v (entsL l) ∧ CapOk v))

structure PeSt (w : World) (g : Nat) (l : List Ent) (k : Nat) (wr : World) : Prop where
  b : wr.heap[g]? = some (.cells (bvA (entsL (l.take k) ++ zerosL (32 * (l.length - k)))) 5)
  kept : Kept [] w wr
theorem PeSt.go {w : World} {g : Nat} {l : List Ent} {k : Nat} {wr w' : World} (h : PeSt w g l k wr) (hk : Kept [] wr w') : PeSt w g l k w' := ⟨hk.heap (by simp) h.b, h.kept.trans hk⟩

/-- 'copy(b[32*k:], r[:])'. -/
theorem PeSt.copy {w : World} {g : Nat} {l : List Ent} {k : Nat} {wr : World} (h : PeSt w g l k wr) (hgw : w.heap.size ≤ g) (hk : k < l.length) (hg : ∀ x ∈ l, x.2.length ≤ 30) (r : Nat) (hr : wr.heap[r]? = some (.cells (bvA (entL l[k].1.toNat l[k].2)) 154)) (dl : Nat) (hd : dl = 32 * l.length - 32 * k) :
    ∃ w', (Builtin.copy_ #[22, 22] 3 #[.slice (some ⟨g, 32 * k, none⟩) dl dl, .slice (some ⟨r, 0, none⟩) 32 32]).run Tryz.prog wr = .ok (goInt 32) w' ∧ PeSt w g l (k + 1) w' := by
  have e1 : (entsL (l.take k)).length = 32 * k := by rw [entsL_length fun x hx => hg x (List.mem_of_mem_take hx), List.length_take]; omega
  have e2 : (entL l[k].1.toNat l[k].2).length = 32 := entL_length (hg _ (List.getElem_mem hk))
  have e3 : 32 * (l.length - k) = 32 + 32 * (l.length - (k + 1)) := by omega
  have hrun := run_copy_row (P := Tryz.prog) wr 22 22 3 5 g (32 * k) dl dl ⟨r, 0, none⟩ 32 32 _ 5 (bv (entL l[k].1.toNat l[k].2)) Tryz.underlying22 (by kernel_rfl) h.b (by rw [bv_length, e2]; exact (Nat.min_eq_left (by omega)).symm)
    (fun j v hv => by rw [Addr.add_mid]; exact range_row hr j v hv) (by rw [bv_length, e2, bvA_size, List.length_append, e1, zerosL_length]; omega) (bv_one _)
  rw [bv_length, e2] at hrun
  refine ⟨_, hrun, ?_, h.kept.into (setRow_kept _ _ _) (by simp; omega)⟩
  rw [setRow_heap _ _ _ _ _ _ h.b]
  congr 2
  apply Array.toList_inj.1
  rw [bvA_toList, entsL_snoc l k hk, bvA_toList]
  generalize hX : entsL (l.take k) = X at *
  generalize hE : entL l[k].1.toNat l[k].2 = E at *
  rw [e3]
  have z : zerosL (32 + 32 * (l.length - (k + 1))) = zerosL 32 ++ zerosL (32 * (l.length - (k + 1))) := by unfold zerosL; rw [List.replicate_append_replicate]
  rw [z]
  have hb : ∀ a b : List UInt8, bv (a ++ b) = bv a ++ bv b := fun a b => by simp [bv]
  have l1 : (bv X).length = 32 * k := by rw [bv_length, e1]
  have l2 : (bv (zerosL 32)).length = 32 := by rw [bv_length, zerosL_length]
  rw [hb, hb, hb, hb]
  rw [List.take_append_of_le_length (by omega), List.take_of_length_le (by omega)]
  rw [List.drop_append, List.drop_of_length_le (by omega), l1, Nat.add_sub_cancel_left, List.drop_append, List.drop_of_length_le (by omega), l2]
  simp

set_option maxHeartbeats 1000000 in
theorem putE_long (ao : Option Addr) (len cap : Nat) (l : List Ent) (w : World) (hl : EntsIs w ao len l) (h : 16 < len) :
    Calls Tryz.prog 141 #[.slice ao len cap] w (PutEOut l w) := by
  have HLL := Lib.hid hl.1
  have hlen := hl.2.1
  clear hl
  have h' : (16 : Int) < len := by omega
  go_enter Tryz.func141, Tryz.ntmps141
  go_wp2_with fail
  go_ret2
  exact ⟨Kept.refl _ _, .inl ⟨by rw [HLL.out]; exact h, rfl⟩⟩

set_option maxHeartbeats 1000000 in
theorem putE_no (ao : Option Addr) (len cap : Nat) (l : List Ent) (w : World) (hl : EntsIs w ao len l) (h : len ≤ 16) (hg : goodB l = false) :
    Calls Tryz.prog 141 #[.slice ao len cap] w (PutEOut l w) := by
  have HL := Lib.hid hl
  have HG := Lib.hid hg
  clear hl hg
  have h' : ¬ (16 : Int) < len := by omega
  go_enter Tryz.func141, Tryz.ntmps141
  go_wp2_with fail
  refine (soundEntries_any ao len cap l _ HL.out).mono ?_
  rw [HG.out]
  rintro e w1 ⟨rfl, hk1⟩
  have HK := Lib.hid hk1
  clear hk1
  go_wp2_with fail
  go_ret2
  exact ⟨HK.out, .inr (.inl ⟨by rw [HL.out.1]; exact h, HG.out, rfl⟩)⟩

set_option maxRecDepth 100000 in
set_option maxHeartbeats 4000000 in
theorem putE_yes (ao : Option Addr) (len cap : Nat) (l : List Ent) (w : World) (hl : EntsIs w ao len l) (h : len ≤ 16) (hg : goodB l = true) :
    Calls Tryz.prog 141 #[.slice ao len cap] w (PutEOut l w) := by
  have HL := Lib.hid hl
  have HG := Lib.hid hg
  clear hl hg
  have h' : ¬ (16 : Int) < len := by omega
  go_enter Tryz.func141, Tryz.ntmps141
  go_wp2_with fail
  refine (soundEntries_any ao len cap l _ HL.out).mono ?_
  rw [HG.out]
  rintro e w1 ⟨rfl, hk1⟩
  have hmk := run_make_bytes (P := Tryz.prog) w1 22 5 Tryz.underlying22 (by kernel_rfl) (32 * (len : Int)) (by omega) (by omega)
  rw [show (32 * (len : Int)).toNat = 32 * len by omega] at hmk
  obtain ⟨g, hgs⟩ : ∃ g, w1.heap.size = g := ⟨_, rfl⟩
  obtain ⟨w2, hw2⟩ : ∃ w2, w1.alloc (.cells (bvA (zerosL (32 * len))) 5) = w2 := ⟨_, rfl⟩
  have HS0 : Hid (PeSt w g l 0 w2 ∧ w.heap.size ≤ g) := by
    refine ⟨⟨?_, by rw [← hw2]; exact hk1.trans (Kept.alloc _ _ _)⟩, by have := hk1.size; omega⟩
    rw [← hw2, ← hgs, HL.out.1]
    exact heap_alloc_last _ _
  rw [hgs, hw2] at hmk
  clear hw2 hk1
  go_wp2_with fail
  clear hmk hgs
  clear w1
  go_loopw [20] (fun i wr => ∃ k : Nat, k ≤ len ∧ i = .int .i64 k ∧ Hid (PeSt w g l k wr ∧ w.heap.size ≤ g)) (fun i _ => len - (intOf i).toNat)
  case atStart => exact ⟨0, by omega, rfl, HS0⟩
  case round =>
    clear HS0
    obtain ⟨k, hk, rfl, HS⟩ := hrel
    by_cases hlt : k < len
    · obtain ⟨b, o, rfl, hb, hc⟩ := (HL.out.kept HS.out.1.kept).cell (by omega)
      have hll : k < l.length := by rw [HL.out.1]; exact hlt
      obtain ⟨c0, c1⟩ := hc k hll
      obtain ⟨⟨g1, g2⟩, g3⟩ := good_ent HG.out k hll
      obtain ⟨n, hn⟩ : ∃ n : Nat, l[k].1 = n := ⟨l[k].1.toNat, by omega⟩
      obtain ⟨p, hp⟩ : ∃ p, l[k].2 = p := ⟨_, rfl⟩
      rw [hn] at c0 g1 g2
      rw [hp] at c1 g3
      have hpl := (nameB_le g3).2
      have HE : Hid (entL l[k].1.toNat l[k].2 = entL n p) := by show _ = _; rw [hn, hp, Int.toNat_natCast]
      clear hn hp hc g3
      go_wp2_with fail
      refine (entryRecord_any n p _ (by omega) (by omega)).mono ?_
      rintro e w3 ⟨rfl, hk3⟩
      have HS3 := Lib.hid (And.intro (HS.out.1.go ((Kept.alloc _ _ _).trans hk3)) HS.out.2)
      have hX3 := hk3.heap (by simp) (heap_alloc_last wr _)
      have hwr : wr.heap.size < w3.heap.size := (Array.getElem?_eq_some_iff.1 hX3).1
      clear hk3 hX3
      obtain ⟨R, hR⟩ : ∃ R, entL n p = R := ⟨_, rfl⟩
      have hRl : R.length = 32 := by rw [← hR]; exact entL_length (by omega)
      rw [hR] at HE ⊢
      clear hR
      have z32 := zero32 w3
      have hs0 : (bvA R).size = 32 := by rw [bvA_size]; exact hRl
      have hst := run_storeCells_new (P := Tryz.prog) w3 154 (bvA (zerosL 32)) (bvA R) (by rw [hs0]; exact size64) (by rw [hs0]; rfl) (bvA_one _)
      clear hRl
      go_wp2_with fail
      clear z32 hst hs0
      generalize hw4 : World.alloc w3 _ = w4
      have HS4 : Hid (PeSt w g l k w4.drew ∧ w.heap.size ≤ g ∧ w4.drew.heap[w3.heap.size]? = some (.cells (bvA R) 154)) := by
        refine ⟨(HS3.out.1.go (by rw [← hw4]; exact Kept.alloc _ _ _)).go (Kept.drew _ _), HS3.out.2, (Kept.drew [] _).heap (by simp) ?_⟩
        rw [← hw4]; exact heap_alloc_last _ _
      clear hw4 HS3 HS
      obtain ⟨w5, hrun, hs5⟩ := HS4.out.1.copy HS4.out.2.1 hll (good_len HG.out) w3.heap.size (by rw [HE.out]; exact HS4.out.2.2) (32 * len - 32 * k) (by rw [HL.out.1])
      have HR := Lib.hid hrun
      have HS5 := Lib.hid (And.intro hs5 HS4.out.2.1)
      clear hrun hs5
      have w32 : IntKind.i64.wrap (32 * (k : Int)) = 32 * (k : Int) := by rw [IntKind.wrap_i64]; omega
      have h0k : (0 : Int) ≤ 32 * (k : Int) := by omega
      have htn : (32 * (k : Int)).toNat = 32 * k := by omega
      have hnk : ¬ 32 * len = 32 * k := by omega
      have hlk : (32 * (k : Int)) ≤ 32 * (len : Int) := by omega
      refine wp_region_still_tail 5 (by kernel_rfl) (by kernel_rfl) ?_
      simp only [List.take_succ_cons, List.take_zero, List.drop_succ_cons, List.drop_zero]
      still_step
      still_step
      still_step
      still_step
      still_step
      refine wpStill_nil ?_
      refine wpList_copy_run rfl _ _ _ _ rfl _ _ _ rfl rfl HR.out ?_
      clear HR HS4
      go_wp2_with fail
      go_roundw
      case rel => exact ⟨k + 1, by omega, by go_num, HS5⟩
      case measure => simp [intOf]; omega
    · have hkl : k = l.length := by rw [HL.out.1]; omega
      have HF : Hid (wr.heap[g]? = some (.cells (bvA (entsL l)) 5)) := by
        have := HS.out.1.b
        rw [hkl, List.take_length, Nat.sub_self, Nat.mul_zero] at this
        show _ = _
        simpa [zerosL] using this
      have HK := Lib.hid HS.out.1.kept
      clear hkl HS
      go_wp2_with fail
      go_ret2
      refine ⟨HK.out, .inr (.inr ⟨by rw [HL.out.1]; exact h, HG.out, _, rfl, ?_, ⟨_, _, _, rfl, Nat.le_refl _, by omega⟩⟩)⟩
      exact SlIs.row HF.out (32 * len) (32 * len) (by rw [entsL_length (good_len HG.out), HL.out.1])
end Go.Proofs.YtiedoocgbajjjaaGreatDoor

namespace Go.Proofs.YtiedoocgbajjjaaGreatDoor
open Go.RowKit Go.Maps
set_option maxRecDepth 100000

def byteN (R : List UInt8) (i : Nat) : Nat := (R.getD i 0).toNat
def nmL (R : List UInt8) : List UInt8 := (R.drop 2).take (min (2 + byteN R 1) 32 - 2)
theorem byteN_lt (R : List UInt8) (i : Nat) : byteN R i < 256 := UInt8.toNat_lt _
theorem byteN_get {R : List UInt8} {i : Nat} (h : i < R.length) : (bv R)[i]? = some (.int .u8 (byteN R i : Int)) := by
  simp [bv, byteN, List.getD_eq_getElem?_getD, h]

set_option maxRecDepth 100000 in
set_option maxHeartbeats 4000000 in
theorem readEntry_any (R : List UInt8) (w : World) (hR : R.length = 32) :
    Calls Tryz.prog 155 #[.agg (bvA R)] w fun e w' => e = .returned (.agg #[.int .i64 (byteN R 0), .string (strL (nmL R))]) ∧ Kept [] w w' := by
  have hsz : (Tryz.prog.info? 154).map (·.size) = some R.length := by rw [hR]; exact size64
  obtain ⟨n, hn⟩ : ∃ n, byteN R 0 = n := ⟨_, rfl⟩
  obtain ⟨c, hc⟩ : ∃ c, byteN R 1 = c := ⟨_, rfl⟩
  obtain ⟨p, hp⟩ : ∃ p, nmL R = p := ⟨_, rfl⟩
  have g0 := byteN_get (R := R) (i := 0) (by omega)
  have g1 := byteN_get (R := R) (i := 1) (by omega)
  have n1 := byteN_lt R 0
  have n2 := byteN_lt R 1
  rw [hn] at g0 n1
  rw [hc] at g1 n2
  rw [hn, hp]
  obtain ⟨e, he⟩ : ∃ e, min (2 + c) 32 = e := ⟨_, rfl⟩
  have he2 : 2 ≤ e ∧ e ≤ 32 := by omega
  have hpl : p.length = e - 2 := by rw [← hp]; unfold nmL; rw [hc, he, List.length_take, List.length_drop]; omega
  have hpr : ∀ j v, (bv p)[j]? = some v → (bv R)[2 + j]? = some v := fun j v hv => by
    rw [← hp] at hv
    unfold nmL at hv
    have hj : j < p.length := by have := (List.getElem?_eq_some_iff.1 hv).1; rw [← hp]; simpa [bv, nmL] using this
    simp only [bv, List.getElem?_map] at hv ⊢
    rw [List.getElem?_take_of_lt (by rw [hc, he]; omega), List.getElem?_drop] at hv
    exact hv
  have HG0 := Lib.hid g0
  have HG1 := Lib.hid g1
  have HPR := Lib.hid hpr
  have HPL := Lib.hid hpl
  have HE := Lib.hid he
  have HR := Lib.hid hR
  clear g0 g1 hpr hpl hn hc hp hR
  go_enter Tryz.func155, Tryz.ntmps155
  go_upto_region 1 with (fail)
  generalize hw2 : World.alloc (World.alloc w _) _ = w2
  have H2 : Hid (w2.heap[w.heap.size]? = some (.cells (bvA R) 154) ∧ w2.heap[w.heap.size + 1]? = some (.cells #[.int .i64 0, .string (strL [])] 205) ∧ Kept [] w w2) := by
    rw [← hw2]
    refine ⟨(Kept.alloc [] _ _).heap (by simp) (heap_alloc_last w _), ?_, (Kept.alloc _ _ _).trans (Kept.alloc _ _ _)⟩
    have := heap_alloc_last (w.alloc (.cells (bvA R) 154)) (.cells #[.int .i64 0, .string (strL [])] 205)
    rw [size_alloc] at this
    exact this
  clear hw2
  have hrg := range_row H2.out.1
  have c0 : w2.cell? ⟨w.heap.size, 0, none⟩ = some (.int .u8 (n : Int)) := by have := hrg 0 _ HG0.out; simpa using this
  have c1 : w2.cell? ⟨w.heap.size, 1, none⟩ = some (.int .u8 (c : Int)) := by have := hrg 1 _ HG1.out; simpa using this
  have hmn : min (2 + (c : Int)) 32 = e := by have := HE.out; omega
  have cv : (convert 22 9 (.slice (some ⟨w.heap.size, 2, none⟩) (e - 2) 30)).run Tryz.prog w2.drew = .ok (.string (strL p)) w2.drew := by
    refine conv_of_range w2.drew _ _ _ Tryz.underlying22 Tryz.underlying5 Tryz.underlying9 w.heap.size 2 30 p _ HPL.out fun j v hv => ?_
    have := range_row ((Kept.drew [] w2).heap (by simp) H2.out.1) (2 + j) v (HPR.out j v hv)
    rwa [Nat.zero_add] at this
  have d0 : w2.drew.cell? ⟨w.heap.size, 0, none⟩ = some (.int .u8 (n : Int)) := c0
  have hte : ((e : Int)).toNat = e := by omega
  have wn : IntKind.i64.wrap (n : Int) = n := by rw [IntKind.wrap_i64]; omega
  have h2e : (2 : Int) ≤ (e : Int) := by omega
  have he32 : (e : Int) ≤ 32 := by omega
  clear hrg he
  go_wp2_with fail
  refine wp_region_still_tail 7 (by kernel_rfl) (by kernel_rfl) ?_
  simp only [List.take_succ_cons, List.take_zero, List.drop_succ_cons, List.drop_zero]
  still_step
  still_step
  still_step
  still_step
  still_step
  still_step
  still_step
  refine wpStill_nil ?_
  have HR2 := (Kept.drew [] w2).heap (by simp) H2.out.2.1
  have f0 : w2.drew.cell? ⟨w.heap.size + 1, 0, none⟩ = some (.int .i64 0) := cell_of_row _ _ 0 _ _ _ HR2
  have f1 : w2.drew.cell? ⟨w.heap.size + 1, 1, none⟩ = some (.string (strL [])) := cell_of_row _ _ 1 _ _ _ HR2
  have fz : ∀ q, w2.drew.frozen? ⟨w.heap.size + 1, q, none⟩ = false := fun q => frozen_of_row _ _ q _ _ HR2
  have k0 : w2.cell? ⟨w.heap.size + 1, 0, none⟩ = some (.int .i64 0) := f0
  have k1 : w2.cell? ⟨w.heap.size + 1, 1, none⟩ = some (.string (strL [])) := f1
  have kz : ∀ q, w2.frozen? ⟨w.heap.size + 1, q, none⟩ = false := fz
  clear f0 f1 fz
  go_wp2_with fail
  have a1 := heap_setCell_same w2 (w.heap.size + 1) 0 _ _ (.int .i64 (n : Int)) H2.out.2.1
  have a2 := heap_setCell_same _ (w.heap.size + 1) 1 _ _ (.string (strL p)) a1
  have a3 := (Kept.drew [] _).heap (by simp) a2
  have kk : Kept [w.heap.size + 1] w2 (((w2.setCell ⟨w.heap.size + 1, 0, none⟩ (.int .i64 (n : Int))).setCell ⟨w.heap.size + 1, 1, none⟩ (.string (strL p))).drew) := ((Kept.setCell _ _ _ _ (by simp)).trans (Kept.setCell _ _ _ _ (by simp))).trans (Kept.drew _ _)
  have KW := H2.out.2.2.into kk (by simp)
  refine bodyPost_ret_by (results_cell_row rfl _ _ (w.heap.size + 1) 205 #[.int .i64 (n : Int), .string (strL p)] (0, 0) _ rfl a3 Tryz.underlying205 rfl (by kernel_rfl)) rfl ⟨rfl, KW⟩
end Go.Proofs.YtiedoocgbajjjaaGreatDoor

namespace Go.Proofs.YtiedoocgbajjjaaGreatDoor
open Go.RowKit Go.Maps
set_option maxRecDepth 100000

theorem elemEnt : ElemOk Tryz.prog 201 205 (.agg #[.int .i64 0, .string (strL [])]) 2 24 := ⟨Tryz.underlying201, by kernel_rfl, rfl, by omega⟩

def recAt (B : List UInt8) (i : Nat) : List UInt8 := (B.drop (32 * i)).take 32
def entAt (B : List UInt8) (i : Nat) : Ent := ((byteN (recAt B i) 0 : Int), nmL (recAt B i))
def entsOf (B : List UInt8) (k : Nat) : List Ent := (List.range k).map (entAt B)
theorem entsOf_length (B : List UInt8) (k : Nat) : (entsOf B k).length = k := by simp [entsOf]
theorem entsOf_succ (B : List UInt8) (k : Nat) : entsOf B (k + 1) = entsOf B k ++ [entAt B k] := by simp [entsOf, List.range_succ]
theorem recAt_length {B : List UInt8} {i : Nat} (h : 32 * i + 32 ≤ B.length) : (recAt B i).length = 32 := by simp [recAt]; omega
theorem ev_one : ∀ (l : List Ent), ∀ u ∈ ev l, u.oneCell' = true
  | [], u, h => by cases h
  | x :: l, u, h => by
    simp only [ev, List.mem_cons] at h
    rcases h with rfl | rfl | h
    · rfl
    · rfl
    · exact ev_one l u h

structure TeSt (w : World) (B : List UInt8) (k : Nat) (v : Value) (wr : World) : Prop where
  own : wr.ownsRow w.heap.size 205 2 v k (ev (entsOf B k))
  kept : Kept [] w wr

theorem TeSt.next {w : World} {B : List UInt8} {k : Nat} {v : Value} {wr : World} (R : TeSt w B k v wr) (hk : k < 16) (n : Nat) (p : List UInt8) (hx : entAt B k = ((n : Int), p)) :
    ∃ v' w7, (Builtin.append_ #[201, 201] 201 #[v, .slice (some ⟨wr.heap.size, 0, none⟩) 1 1]).run Tryz.prog (wr.alloc (.cells #[.int .i64 (n : Int), .string (strL p)] 205)) = .ok v' w7 ∧ TeSt w B (k + 1) v' w7 := by
  have hs0 : w.heap.size ≤ (wr.alloc (.cells #[.int .i64 (n : Int), .string (strL p)] 205)).heap.size := by rw [size_alloc]; have := R.kept.size; omega
  obtain ⟨v', w7, hrun, hown, hk7, _⟩ := own_app elemEnt 201 (wr.alloc (.cells #[.int .i64 (n : Int), .string (strL p)] 205)) w.heap.size v k _ (World.ownsRow.alloc R.own _) ⟨wr.heap.size, 0, none⟩ 1 1 (ev [((n : Int), p)]) (by rw [ev_length]; rfl)
    (fun j u hu => by
      rw [Addr.add_mid, Nat.zero_add, cell_of_row _ _ j _ _ _ (heap_alloc_last wr _)]
      simpa [ev] using hu) (ev_one _) (by unfold maxLen; omega) (by omega) hs0
  refine ⟨v', w7, hrun, ?_, (R.kept.trans (Kept.alloc _ _ _)).own (World.ownsRow.alloc R.own _) (Nat.le_refl _) hk7⟩
  rw [entsOf_succ, hx, ev_append]
  exact hown
end Go.Proofs.YtiedoocgbajjjaaGreatDoor

namespace Go.Proofs.YtiedoocgbajjjaaGreatDoor
open Go.RowKit Go.Maps
set_option maxRecDepth 100000

theorem bytesEqual_any (v1 v2 : Value) (l1 l2 : List UInt8) (w : World) (h1 : ConvIs w v1 l1) (h2 : ConvIs w v2 l2) :
    Calls Tryz.prog 79 #[v1, v2] w fun e w' => e = .returned (.bool (decide (l1 = l2))) ∧ w = w' := by
  have hb : ∀ l : List UInt8, Lib.bytesOf (l.map fun b => (b.toNat : Int)) = l := fun l => by simp [Lib.bytesOf, Function.comp_def]
  have hs : ∀ l : List UInt8, strOfNums (l.map fun b => (b.toNat : Int)) = strL l := fun l => by simp [strOfNums, strL, Function.comp_def]
  refine (Any.bytes_Equal { Tryz.lays115 with } v1 v2 (l1.map fun b => (b.toNat : Int)) (l2.map fun b => (b.toNat : Int)) w (by rw [hs]; exact h1) (by rw [hs]; exact h2)).mono fun e w' ⟨he, hw⟩ => ⟨?_, hw.symm⟩
  rw [he, hb, hb]
  exact retB (by rw [Bool.eq_iff_iff]; simp)

theorem own_entsG {w : World} {base : Nat} {v : Value} {n : Nat} {l : List Ent} (h : w.ownsRow base 205 2 v n (ev l)) (hn : n ≤ 140737488355328) (hl : ∀ x ∈ l, x.2.length ≤ 140737488355328) : ∃ ao cap, v = .slice ao n cap ∧ n ≤ cap ∧ cap ≤ 9223372036854775807 ∧ EntsIs w ao n l := by
  have hll : l.length = n := by have := h.1; rw [ev_length] at this; omega
  obtain ⟨h1, ⟨rfl, h2⟩ | ⟨g, cap, cur, rfl, hb, hg, hc1, hc2, hcs, htk⟩⟩ := h
  · exact ⟨none, 0, by rw [h2], by omega, by omega, hll, by omega, .inl h2, hl⟩
  · refine ⟨_, _, rfl, hc1, by unfold maxLen at hc2; omega, hll, by omega, .inr ⟨g, 0, rfl, (Array.getElem?_eq_some_iff.1 hg).1, fun q u hu => ?_⟩, hl⟩
    rw [← htk] at hu
    have hq : q < n * 2 := by
      have := (List.getElem?_eq_some_iff.1 hu).1
      simp at this; omega
    rw [List.getElem?_take_of_lt hq] at hu
    rw [Nat.zero_add, cell_of_row w g q _ _ _ hg]
    simpa using hu
theorem own_ents {w : World} {base : Nat} {v : Value} {n : Nat} {l : List Ent} (h : w.ownsRow base 205 2 v n (ev l)) (hn : n ≤ 100000) (hl : ∀ x ∈ l, x.2.length ≤ 140737488355328) : ∃ ao cap, v = .slice ao n cap ∧ n ≤ cap ∧ cap ≤ 9223372036854775807 ∧ EntsIs w ao n l := own_entsG h (by omega) hl
end Go.Proofs.YtiedoocgbajjjaaGreatDoor

namespace Go.Proofs.YtiedoocgbajjjaaGreatDoor
open Go.RowKit Go.Maps
set_option maxRecDepth 100000

def takeEB (B : List UInt8) (N : Nat) : Bool := goodB (entsOf B N) && decide (entsL (entsOf B N) = B)
def TakeEOut (B : List UInt8) (N : Nat) (w : World) (e : Ending) (w' : World) : Prop :=
  Kept [] w w' ∧ ((takeEB B N = false ∧ e = .returned (.tuple #[.slice none 0 0, .int .i64 4])) ∨
    (takeEB B N = true ∧ ∃ v, e = .returned (.tuple #[v, .int .i64 0]) ∧ w'.ownsRow w.heap.size 205 2 v N (ev (entsOf B N))))
theorem nmL_le {R : List UInt8} (h : R.length ≤ 32) : (nmL R).length ≤ 30 := by unfold nmL; rw [List.length_take, List.length_drop]; omega
theorem entsOf_names (B : List UInt8) (N : Nat) : ∀ x ∈ entsOf B N, x.2.length ≤ 140737488355328 := fun x hx => by
  simp only [entsOf, List.mem_map] at hx
  obtain ⟨i, _, rfl⟩ := hx
  have : (nmL (recAt B i)).length ≤ 30 := nmL_le (by simp [recAt]; omega)
  show (nmL (recAt B i)).length ≤ _
  omega

set_option maxRecDepth 100000 in
set_option maxHeartbeats 4000000 in
theorem takeE_go (ao : Option Addr) (cap N : Nat) (B : List UInt8) (w : World) (hN : N ≤ 16) (hB : B.length = 32 * N) (hc : 32 * N ≤ cap) (hc63 : cap ≤ 9223372036854775807) (hnil : ao = none → cap = 0) (hS : N = 0 ∨ ∃ b o, ao = some ⟨b, o, none⟩ ∧ b < w.heap.size ∧ w.rangeAt b o (bv B)) :
    Calls Tryz.prog 136 #[.slice ao (32 * N) cap] w (TakeEOut B N w) := by
  have HBL := Lib.hid hB
  have HSS := Lib.hid hS
  have HNIL := Lib.hid hnil
  clear hB hS hnil
  have hm : ((32 * (N : Int)).tmod 32) = 0 := by rw [Int.tmod_eq_emod_of_nonneg (by omega)]; omega
  have h512 : 32 * (N : Int) ≤ 512 := by omega
  have h512' : ¬ (512 : Int) < 32 * (N : Int) := by omega
  go_enter Tryz.func136, Tryz.ntmps136
  go_wp2_with fail
  go_loopw [4, 5] (fun v i wr => ∃ k : Nat, k ≤ N ∧ i = .int .i64 (32 * (k : Int)) ∧ Hid (TeSt w B k v wr)) (fun _ i _ => 32 * N - (intOf i).toNat)
  case atStart => exact ⟨0, by omega, rfl, World.ownsRow_nil _ _ _ _, Kept.refl _ _⟩
  case round =>
    obtain ⟨k, hk, rfl, HS⟩ := hrel
    by_cases hlt : k < N
    · obtain ⟨b, o, rfl, hb, hrr⟩ : ∃ b o, ao = some ⟨b, o, none⟩ ∧ b < w.heap.size ∧ w.rangeAt b o (bv B) := by
        rcases HSS.out with h0 | h0
        · omega
        · exact h0
      have HRR := Lib.hid hrr
      clear hrr
      obtain ⟨R, hR⟩ : ∃ R, recAt B k = R := ⟨_, rfl⟩
      have hRl : R.length = 32 := by rw [← hR]; exact recAt_length (by rw [HBL.out]; omega)
      have hRg : Hid (∀ w', Kept [] w w' → w'.rangeAt b (o + 32 * k) (bv R)) := fun w' hk' j v hv => by
        have := hk'.range hb (by simp) HRR.out (32 * k + j) v (by
          rw [← hR] at hv
          unfold recAt at hv
          have hj : j < 32 := by have := (List.getElem?_eq_some_iff.1 hv).1; simp [bv] at this; omega
          simp only [bv, List.getElem?_map] at hv ⊢
          rw [List.getElem?_take_of_lt hj, List.getElem?_drop] at hv
          exact hv)
        rw [Nat.add_assoc]; exact this
      have har := run_arrayAt (P := Tryz.prog) 154 5 32 Tryz.underlying154 (some ⟨b, o + 32 * k, none⟩) 32 (cap - 32 * k) (Nat.le_refl _)
      have hsz : (Tryz.prog.info? 154).map (·.size) = some (bv R).length := by rw [bv_length, hRl]; exact size64
      have w32 : IntKind.i64.wrap (32 * (k : Int) + 32) = 32 * (k : Int) + 32 := by rw [IntKind.wrap_i64]; omega
      have a0 : (0 : Int) ≤ 32 * (k : Int) := by omega
      have a1 : (32 * (k : Int)) ≤ 32 * (k : Int) + 32 := by omega
      have a2 : (32 * (k : Int)) + 32 ≤ (cap : Int) := by omega
      have a3 : (32 * (k : Int)).toNat = 32 * k := by omega
      have a4 : (32 * (k : Int) + 32).toNat = 32 * k + 32 := by omega
      have a5 : ¬ cap = 32 * k := by omega
      have a6 : 32 * k + 32 - 32 * k = 32 := by omega
      have hrg := hRg.out wr HS.out.kept
      have HRL := Lib.hid hRl
      have HRE := Lib.hid hR
      clear hR hRl
      go_wp2_with (refine wpList_load_mid rfl 154 _ rfl _ (o + 32 * k) rfl (bv R) _ hrg Tryz.underlying154 rfl hsz ?_)
      refine (readEntry_any R _ HRL.out).mono ?_
      rintro e w5 ⟨rfl, hk5⟩
      obtain ⟨n, hn⟩ : ∃ n, byteN R 0 = n := ⟨_, rfl⟩
      obtain ⟨p, hp⟩ : ∃ p, nmL R = p := ⟨_, rfl⟩
      rw [hn, hp]
      have HX : Hid (entAt B k = ((n : Int), p)) := by show _ = _; unfold entAt; rw [HRE.out, hn, hp]
      have HS5 : Hid (TeSt w B k u4 w5) := ⟨owns_kept HS.out.own hk5 (by simp), HS.out.kept.trans hk5⟩
      obtain ⟨v', w7, hrun, hst7⟩ := HS5.out.next (by omega) n p HX.out
      have HRUN := Lib.hid hrun
      have H7 := Lib.hid hst7
      clear hk5 HS hrun hst7 hn hp hrg har
      go_wp2_with (at_builtin; refine wpList_append_run rfl _ _ 201 rfl _ _ _ rfl rfl HRUN.out ?_)
      go_roundw
      case rel => exact ⟨k + 1, by omega, by go_num, H7⟩
      case measure => simp [intOf]; omega
    · have hkn : k = N := by omega
      have HS2 : Hid (TeSt w B N u4 wr) := by have := HS.out; rw [hkn] at this; exact this
      clear HS
      have hlt2 : ¬ 32 * (k : Int) < 32 * (N : Int) := by omega
      clear hkn
      obtain ⟨ao4, cp4, rfl, _, hcp4, hents⟩ := own_ents HS2.out.own (by omega) (entsOf_names B N)
      have HEN := Lib.hid hents
      clear hents
      cases hg : goodB (entsOf B N)
      · have HG := Lib.hid hg
        have HT : Hid (takeEB B N = false) := by show _ = _; unfold takeEB; rw [hg, Bool.false_and]
        clear hg
        go_wp2_with fail
        refine (putE_no ao4 N cp4 (entsOf B N) _ HEN.out hN HG.out).mono ?_
        rintro e w8 ⟨hk8, ⟨h1, _⟩ | ⟨_, _, rfl⟩ | ⟨_, h1, _⟩⟩
        · rw [entsOf_length] at h1; omega
        · have HK8 := Lib.hid (HS2.out.kept.trans hk8)
          clear hk8
          go_wp2_with fail
          go_ret2
          exact ⟨HK8.out, .inl ⟨HT.out, rfl⟩⟩
        · rw [HG.out] at h1; cases h1
      · have HG := Lib.hid hg
        have HT : Hid (takeEB B N = decide (entsL (entsOf B N) = B)) := by show _ = _; unfold takeEB; rw [hg, Bool.true_and]
        clear hg
        go_wp2_with fail
        refine (putE_yes ao4 N cp4 (entsOf B N) _ HEN.out hN HG.out).mono ?_
        rintro e w8 ⟨hk8, ⟨h1, _⟩ | ⟨_, h1, _⟩ | ⟨_, _, v8, rfl, hv8, _⟩⟩
        · rw [entsOf_length] at h1; omega
        · rw [HG.out] at h1; cases h1
        · have HK8 := Lib.hid (HS2.out.kept.trans hk8)
          have HV8 := Lib.hid hv8
          have HO8 := Lib.hid (owns_kept HS2.out.own hk8 (by simp))
          have HB8 : Hid (ConvIs w8 (.slice ao (32 * N) cap) B) := by
            rcases HSS.out with h0 | ⟨b, o, rfl, hbs, hrr⟩
            · have hB0 : B = [] := List.eq_nil_of_length_eq_zero (by rw [HBL.out, h0])
              rw [hB0, h0]
              exact conv_empty w8 ao cap HNIL.out
            · exact (show SlIs w8 (.slice (some ⟨b, o, none⟩) (32 * N) cap) B from .inl ⟨b, o, cap, by rw [HBL.out], Nat.lt_of_lt_of_le hbs HK8.out.size, HK8.out.range hbs (by simp) hrr⟩).conv
          clear hk8 hv8
          cases hd : decide (entsL (entsOf B N) = B)
          · have HD := Lib.hid hd
            clear hd
            go_wp2_with fail
            refine (bytesEqual_any _ _ _ _ _ HV8.out.conv HB8.out).mono ?_
            rw [HD.out]
            rintro e w9 ⟨rfl, rfl⟩
            go_wp2_with fail
            go_ret2
            exact ⟨HK8.out, .inl ⟨by rw [HT.out]; exact HD.out, rfl⟩⟩
          · have HD := Lib.hid hd
            clear hd
            go_wp2_with fail
            refine (bytesEqual_any _ _ _ _ _ HV8.out.conv HB8.out).mono ?_
            rw [HD.out]
            rintro e w9 ⟨rfl, rfl⟩
            go_wp2_with fail
            go_ret2
            exact ⟨HK8.out, .inr ⟨by rw [HT.out]; exact HD.out, _, rfl, HO8.out⟩⟩

theorem takeE_bad (ao : Option Addr) (len cap : Nat) (w : World) (h63 : len ≤ 9223372036854775807) (h : 0 < len % 32 ∨ 512 < len) :
    Calls Tryz.prog 136 #[.slice ao len cap] w fun e w' => e = .returned (.tuple #[.slice none 0 0, .int .i64 4]) ∧ w = w' := by
  by_cases h1 : 0 < len % 32
  · have hm : (0 : Int) < (len : Int).tmod 32 := by rw [Int.tmod_eq_emod_of_nonneg (by omega)]; omega
    go_enter Tryz.func136, Tryz.ntmps136
    go_wp2_with fail
    go_ret2
    exact ⟨rfl, rfl⟩
  · have hm : (len : Int).tmod 32 = 0 := by rw [Int.tmod_eq_emod_of_nonneg (by omega)]; omega
    have h2 : (512 : Int) < (len : Int) := by omega
    go_enter Tryz.func136, Tryz.ntmps136
    go_wp2_with fail
    go_ret2
    exact ⟨rfl, rfl⟩
end Go.Proofs.YtiedoocgbajjjaaGreatDoor

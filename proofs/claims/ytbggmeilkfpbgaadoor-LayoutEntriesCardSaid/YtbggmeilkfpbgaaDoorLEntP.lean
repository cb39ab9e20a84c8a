/-
  Layer 3: the program's PutEntries.
  Conditions: those that each theorem states.
-/
import Derived.Test.YtbggmeilkfpbgaaDoorLEntR
namespace Go.Proofs.YtbggmeilkfpbgaaDoor
open Go.RowKit Go.Maps

/-- The bytes of a row of entries. -/
def entsL (l : List Ent) : List UInt8 := l.flatMap fun x => entL x.1.toNat x.2
theorem entsL_length : ∀ {l : List Ent}, (∀ x ∈ l, x.2.length ≤ 30) → (entsL l).length = 32 * l.length
  | [], _ => rfl
  | x :: l, h => by
    have e1 := entL_length (n := x.1.toNat) (h x (by simp))
    have e2 := entsL_length (l := l) (fun y hy => h y (by simp [hy]))
    have e3 : entsL (x :: l) = entL x.1.toNat x.2 ++ entsL l := rfl
    rw [e3, List.length_append, e1, e2, List.length_cons]; omega
theorem entsL_snoc (l : List Ent) (k : Nat) (hk : k < l.length) : entsL (l.take (k + 1)) = entsL (l.take k) ++ entL l[k].1.toNat l[k].2 := by
  unfold entsL
  rw [List.take_succ_eq_append_getElem hk, List.flatMap_append, List.flatMap_cons, List.flatMap_nil, List.append_nil]
theorem good_ent {l : List Ent} (h : goodB l = true) (k : Nat) (hk : k < l.length) : (1 ≤ l[k].1 ∧ l[k].1 < 64) ∧ nameB l[k].2 = true := by
  have := (of_decide_eq_true h k hk).1
  simpa [entB] using this
theorem nameB_le {p : List UInt8} (h : nameB p = true) : 1 ≤ p.length ∧ p.length ≤ 28 := by
  simp only [nameB, Bool.and_eq_true, decide_eq_true_eq] at h
  exact h.1
theorem good_len {l : List Ent} (h : goodB l = true) : ∀ x ∈ l, x.2.length ≤ 30 := fun x hx => by
  obtain ⟨k, hk, rfl⟩ := List.getElem_of_mem hx
  have := (nameB_le (good_ent h k hk).2).2
  omega
/-- A slice's capacity is no less than its length. -/
def CapOk (v : Value) : Prop := ∃ ao n c, v = .slice ao n c ∧ n ≤ c ∧ c ≤ 9223372036854775807
def PutEOut (l : List Ent) (w : World) (e : Ending) (w' : World) : Prop :=
  Kept [] w w' ∧ ((16 < l.length ∧ e = .returned (.tuple #[.slice none 0 0, .int .i64 5])) ∨ (l.length ≤ 16 ∧ goodB l = false ∧ e = .returned (.tuple #[.slice none 0 0, .int .i64 1])) ∨
    (l.length ≤ 16 ∧ goodB l = true ∧ ∃ v, e = .returned (.tuple #[v, .int .i64 0]) ∧ SlIs w' v (entsL l) ∧ CapOk v))

structure PeSt (w : World) (g : Nat) (l : List Ent) (k : Nat) (wr : World) : Prop where
  b : wr.heap[g]? = some (.cells (bvA (entsL (l.take k) ++ zerosL (32 * (l.length - k)))) 5)
  kept : Kept [] w wr
theorem PeSt.go {w : World} {g : Nat} {l : List Ent} {k : Nat} {wr w' : World} (h : PeSt w g l k wr) (hk : Kept [] wr w') : PeSt w g l k w' := ⟨hk.heap (by simp) h.b, h.kept.trans hk⟩

/-- 'copy(b[32*k:], r[:])'. -/
theorem PeSt.copy {w : World} {g : Nat} {l : List Ent} {k : Nat} {wr : World} (h : PeSt w g l k wr) (hgw : w.heap.size ≤ g) (hk : k < l.length) (hg : ∀ x ∈ l, x.2.length ≤ 30) (r : Nat) (hr : wr.heap[r]? = some (.cells (bvA (entL l[k].1.toNat l[k].2)) 55)) (dl : Nat) (hd : dl = 32 * l.length - 32 * k) :
    ∃ w', (Builtin.copy_ #[22, 22] 3 #[.slice (some ⟨g, 32 * k, none⟩) dl dl, .slice (some ⟨r, 0, none⟩) 32 32]).run Tryd.prog wr = .ok (goInt 32) w' ∧ PeSt w g l (k + 1) w' := by
  have e1 : (entsL (l.take k)).length = 32 * k := by rw [entsL_length fun x hx => hg x (List.mem_of_mem_take hx), List.length_take]; omega
  have e2 : (entL l[k].1.toNat l[k].2).length = 32 := entL_length (hg _ (List.getElem_mem hk))
  have e3 : 32 * (l.length - k) = 32 + 32 * (l.length - (k + 1)) := by omega
  have hrun := run_copy_row (P := Tryd.prog) wr 22 22 3 5 g (32 * k) dl dl ⟨r, 0, none⟩ 32 32 _ 5 (bv (entL l[k].1.toNat l[k].2)) Tryd.underlying22 (by kernel_rfl) h.b (by rw [bv_length, e2]; exact (Nat.min_eq_left (by omega)).symm)
    (fun j v hv => by rw [Addr.add_mid]; exact range_row hr j v hv) (by rw [bv_length, e2, bvA_size, List.length_append, e1, zerosL_length]; omega) (bv_one _)
  rw [bv_length, e2] at hrun
  refine ⟨_, hrun, ?_, h.kept.into (setRow_kept _ _ _) (by simp; omega)⟩
  rw [setRow_heap _ _ _ _ _ _ h.b]
  congr 2
  apply Array.toList_inj.1
  rw [bvA_toList, entsL_snoc l k hk, bvA_toList]
  generalize hX : entsL (l.take k) = X at *
  generalize hE : entL l[k].1.toNat l[k].2 = E at *
  rw [e3]
  have z : zerosL (32 + 32 * (l.length - (k + 1))) = zerosL 32 ++ zerosL (32 * (l.length - (k + 1))) := by unfold zerosL; rw [List.replicate_append_replicate]
  rw [z]
  have hb : ∀ a b : List UInt8, bv (a ++ b) = bv a ++ bv b := fun a b => by simp [bv]
  have l1 : (bv X).length = 32 * k := by rw [bv_length, e1]
  have l2 : (bv (zerosL 32)).length = 32 := by rw [bv_length, zerosL_length]
  rw [hb, hb, hb, hb]
  rw [List.take_append_of_le_length (by omega), List.take_of_length_le (by omega)]
  rw [List.drop_append, List.drop_of_length_le (by omega), l1, Nat.add_sub_cancel_left, List.drop_append, List.drop_of_length_le (by omega), l2]
  simp

set_option maxHeartbeats 1000000 in
theorem putE_long (ao : Option Addr) (len cap : Nat) (l : List Ent) (w : World) (hl : EntsIs w ao len l) (h : 16 < len) :
    Calls Tryd.prog 14 #[.slice ao len cap] w (PutEOut l w) := by
  have HLL := Lib.hid hl.1
  have hlen := hl.2.1
  clear hl
  have h' : (16 : Int) < len := by omega
  go_enter Tryd.func14, Tryd.ntmps14
  go_wp2_with fail
  go_ret2
  exact ⟨Kept.refl _ _, .inl ⟨by rw [HLL.out]; exact h, rfl⟩⟩

set_option maxHeartbeats 1000000 in
theorem putE_no (ao : Option Addr) (len cap : Nat) (l : List Ent) (w : World) (hl : EntsIs w ao len l) (h : len ≤ 16) (hg : goodB l = false) :
    Calls Tryd.prog 14 #[.slice ao len cap] w (PutEOut l w) := by
  have HL := Lib.hid hl
  have HG := Lib.hid hg
  clear hl hg
  have h' : ¬ (16 : Int) < len := by omega
  go_enter Tryd.func14, Tryd.ntmps14
  go_wp2_with fail
  refine (soundEntries_any ao len cap l _ HL.out).mono ?_
  rw [HG.out]
  rintro e w1 ⟨rfl, hk1⟩
  have HK := Lib.hid hk1
  clear hk1
  go_wp2_with fail
  go_ret2
  exact ⟨HK.out, .inr (.inl ⟨by rw [HL.out.1]; exact h, HG.out, rfl⟩)⟩

set_option maxRecDepth 100000 in
set_option maxHeartbeats 4000000 in
theorem putE_yes (ao : Option Addr) (len cap : Nat) (l : List Ent) (w : World) (hl : EntsIs w ao len l) (h : len ≤ 16) (hg : goodB l = true) :
    Calls Tryd.prog 14 #[.slice ao len cap] w (PutEOut l w) := by
  have HL := Lib.hid hl
  have HG := Lib.hid hg
  clear hl hg
  have h' : ¬ (16 : Int) < len := by omega
  go_enter Tryd.func14, Tryd.ntmps14
  go_wp2_with fail
  refine (soundEntries_any ao len cap l _ HL.out).mono ?_
  rw [HG.out]
  rintro e w1 ⟨rfl, hk1⟩
  have hmk := run_make_bytes (P := Tryd.prog) w1 22 5 Tryd.underlying22 (by kernel_rfl) (32 * (len : Int)) (by omega) (by omega)
  rw [show (32 * (len : Int)).toNat = 32 * len by omega] at hmk
  obtain ⟨g, hgs⟩ : ∃ g, w1.heap.size = g := ⟨_, rfl⟩
  obtain ⟨w2, hw2⟩ : ∃ w2, w1.alloc (.cells (bvA (zerosL (32 * len))) 5) = w2 := ⟨_, rfl⟩
  have HS0 : Hid (PeSt w g l 0 w2 ∧ w.heap.size ≤ g) := by
    refine ⟨⟨?_, by rw [← hw2]; exact hk1.trans (Kept.alloc _ _ _)⟩, by have := hk1.size; omega⟩
    rw [← hw2, ← hgs, HL.out.1]
    exact heap_alloc_last _ _
  rw [hgs, hw2] at hmk
  clear hw2 hk1
  go_wp2_with fail
  clear hmk hgs
  clear w1
  go_loopw [20] (fun i wr => ∃ k : Nat, k ≤ len ∧ i = .int .i64 k ∧ Hid (PeSt w g l k wr ∧ w.heap.size ≤ g)) (fun i _ => len - (intOf i).toNat)
  case atStart => exact ⟨0, by omega, rfl, HS0⟩
  case round =>
    clear HS0
    obtain ⟨k, hk, rfl, HS⟩ := hrel
    by_cases hlt : k < len
    · obtain ⟨b, o, rfl, hb, hc⟩ := (HL.out.kept HS.out.1.kept).cell (by omega)
      have hll : k < l.length := by rw [HL.out.1]; exact hlt
      obtain ⟨c0, c1⟩ := hc k hll
      obtain ⟨⟨g1, g2⟩, g3⟩ := good_ent HG.out k hll
      obtain ⟨n, hn⟩ : ∃ n : Nat, l[k].1 = n := ⟨l[k].1.toNat, by omega⟩
      obtain ⟨p, hp⟩ : ∃ p, l[k].2 = p := ⟨_, rfl⟩
      rw [hn] at c0 g1 g2
      rw [hp] at c1 g3
      have hpl := (nameB_le g3).2
      have HE : Hid (entL l[k].1.toNat l[k].2 = entL n p) := by show _ = _; rw [hn, hp, Int.toNat_natCast]
      clear hn hp hc g3
      go_wp2_with fail
      refine (entryRecord_any n p _ (by omega) (by omega)).mono ?_
      rintro e w3 ⟨rfl, hk3⟩
      have HS3 := Lib.hid (And.intro (HS.out.1.go ((Kept.alloc _ _ _).trans hk3)) HS.out.2)
      have hX3 := hk3.heap (by simp) (heap_alloc_last wr _)
      have hwr : wr.heap.size < w3.heap.size := (Array.getElem?_eq_some_iff.1 hX3).1
      clear hk3 hX3
      obtain ⟨R, hR⟩ : ∃ R, entL n p = R := ⟨_, rfl⟩
      have hRl : R.length = 32 := by rw [← hR]; exact entL_length (by omega)
      rw [hR] at HE ⊢
      clear hR
      have z32 := zero32 w3
      have hs0 : (bvA R).size = 32 := by rw [bvA_size]; exact hRl
      have hst := run_storeCells_new (P := Tryd.prog) w3 55 (bvA (zerosL 32)) (bvA R) (by rw [hs0]; exact size64) (by rw [hs0]; rfl) (bvA_one _)
      clear hRl
      go_wp2_with fail
      clear z32 hst hs0
      generalize hw4 : World.alloc w3 _ = w4
      have HS4 : Hid (PeSt w g l k w4.drew ∧ w.heap.size ≤ g ∧ w4.drew.heap[w3.heap.size]? = some (.cells (bvA R) 55)) := by
        refine ⟨(HS3.out.1.go (by rw [← hw4]; exact Kept.alloc _ _ _)).go (Kept.drew _ _), HS3.out.2, (Kept.drew [] _).heap (by simp) ?_⟩
        rw [← hw4]; exact heap_alloc_last _ _
      clear hw4 HS3 HS
      obtain ⟨w5, hrun, hs5⟩ := HS4.out.1.copy HS4.out.2.1 hll (good_len HG.out) w3.heap.size (by rw [HE.out]; exact HS4.out.2.2) (32 * len - 32 * k) (by rw [HL.out.1])
      have HR := Lib.hid hrun
      have HS5 := Lib.hid (And.intro hs5 HS4.out.2.1)
      clear hrun hs5
      have w32 : IntKind.i64.wrap (32 * (k : Int)) = 32 * (k : Int) := by rw [IntKind.wrap_i64]; omega
      have h0k : (0 : Int) ≤ 32 * (k : Int) := by omega
      have htn : (32 * (k : Int)).toNat = 32 * k := by omega
      have hnk : ¬ 32 * len = 32 * k := by omega
      have hlk : (32 * (k : Int)) ≤ 32 * (len : Int) := by omega
      refine wp_region_still_tail 5 (by kernel_rfl) (by kernel_rfl) ?_
      simp only [List.take_succ_cons, List.take_zero, List.drop_succ_cons, List.drop_zero]
      still_step
      still_step
      still_step
      still_step
      still_step
      refine wpStill_nil ?_
      refine wpList_copy_run rfl _ _ _ _ rfl _ _ _ rfl rfl HR.out ?_
      clear HR HS4
      go_wp2_with fail
      go_roundw
      case rel => exact ⟨k + 1, by omega, by go_num, HS5⟩
      case measure => simp [intOf]; omega
    · have hkl : k = l.length := by rw [HL.out.1]; omega
      have HF : Hid (wr.heap[g]? = some (.cells (bvA (entsL l)) 5)) := by
        have := HS.out.1.b
        rw [hkl, List.take_length, Nat.sub_self, Nat.mul_zero] at this
        show _ = _
        simpa [zerosL] using this
      have HK := Lib.hid HS.out.1.kept
      clear hkl HS
      go_wp2_with fail
      go_ret2
      refine ⟨HK.out, .inr (.inr ⟨by rw [HL.out.1]; exact h, HG.out, _, rfl, ?_, ⟨_, _, _, rfl, Nat.le_refl _, by omega⟩⟩)⟩
      exact SlIs.row HF.out (32 * len) (32 * len) (by rw [entsL_length (good_len HG.out), HL.out.1])
end Go.Proofs.YtbggmeilkfpbgaaDoor

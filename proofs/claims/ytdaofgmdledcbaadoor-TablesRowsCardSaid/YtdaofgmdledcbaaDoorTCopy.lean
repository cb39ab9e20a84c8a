/-
  Layer 5: the program's copyRow, Get, Drop and placeFor; the document's Get and Drop.
  Conditions: those that each theorem states.
-/
import Derived.Test.YtdaofgmdledcbaaDoorTRow
import Derived.Laws.CopyRow
import Derived.Laws.MakeOwn
namespace Go.Proofs.YtdaofgmdledcbaaDoor
open Go.RowKit Go.Maps

/-- 'copy' of elements of any size. -/
theorem run_copy_rows {P : Program} (w : World) (dT sT ty elem : TypeId) (g o dLen dCap : Nat) (a : Addr) (sLen sCap : Nat) (cur : Array Value) (t : TypeId) (cs : List Value) (size m : Nat)
    (hu : P.underlying dT = some (.slice elem)) (hs : (P.info? elem).map (·.size) = some size)
    (hg : w.heap[g]? = some (.cells cur t (0, 0))) (hm : m = Nat.min sLen dLen) (hn : cs.length = m * size)
    (hsrc : ∀ j v, cs[j]? = some v → w.cell? (a.add j) = some v) (hfit : o + cs.length ≤ cur.size) (h1 : ∀ v ∈ cs, v.oneCell' = true) :
    (Builtin.copy_ #[dT, sT] ty #[.slice (some ⟨g, o, none⟩) dLen dCap, .slice (some a) sLen sCap]).run P w =
      .ok (goInt m) (w.setRow g (cur.toList.take o ++ cs ++ cur.toList.drop (o + cs.length)).toArray) := by
  have hl := run_loadCells_list (P := P) w a cs hsrc
  have hst := run_storeCells_at P g o t cs 0 cur w hg (by simpa using hfit) h1
  cases hq : P.info? elem with
  | none => simp [hq] at hs
  | some i =>
    have hi : i.size = size := by simpa [hq] using hs
    simp [Builtin.copy_, run_underlying hu, Builtin.lenOf, Builtin.firstCells, sizeOf, typeInfo, hq, hi, ← hm, ← hn, hl, hst]

theorem row_setCell {w : World} {b : Nat} {A : Array Value} {t : TypeId} (h : w.heap[b]? = some (.cells A t)) (k : Nat) (v : Value) : (w.setCell ⟨b, k, none⟩ v).heap[b]? = some (.cells (A.setIfInBounds k v) t) := by
  simp only [World.setCell]
  rw [Array.getElem?_modify, if_pos rfl, h]
  rfl
def emptyS (n : Nat) : List (List UInt8) := List.replicate n []
theorem emptyS_length (n : Nat) : (emptyS n).length = n := by simp [emptyS]
theorem svA_size (l : List (List UInt8)) : (svA l).size = l.length := by simp [svA, sv]
theorem svA_toList (l : List (List UInt8)) : (svA l).toList = sv l := by simp [svA]
/-- 'make([]string, n)'. -/
theorem run_make_strs (w : World) (n : Nat) (h : n * 16 ≤ 140737488355328) :
    (Instr.makeSlice 32 (.int .i64 (n : Int)) (.int .i64 (n : Int))).run Tryd.prog w = .ok (.slice (some ⟨w.heap.size, 0, none⟩) n n) (w.alloc (.cells (svA (emptyS n)) 9)) := by
  obtain ⟨i, hi', hz, hs, hb⟩ := info_parts elemStr.info
  have hr := run_make (P := Tryd.prog) w 32 9 i _ elemStr.ht hi' hz .i64 .i64 n n (by omega) (Int.le_refl _) (by rw [hb]; omega) (by omega)
  rw [hr, hs]
  have hb2 : svA (emptyS n) = madeCells (Value.string (strL [])).cells ((n : Int).toNat * 1) := by
    apply Array.toList_inj.1
    rw [show (Value.string (strL [])).cells = #[Value.string (strL [])] from rfl, toList_madeCells_one, svA_toList]
    simp [sv, emptyS]
  rw [hb2, Int.toNat_natCast]

/-- What copyRow answers. -/
def CopyOut (k : List UInt8) (c : List (List UInt8)) (w : World) (e : Ending) (w' : World) : Prop :=
  ∃ v', e = .returned (rowV k v') ∧ Hid (DeepCell w.heap.size w' v' c ∧ CellsIs w' v' c ∧ Kept [] w w')

/-- 'copy(cells, r.Cells)'. -/
theorem copy_cells {w : World} {ao : Option Addr} {cap : Nat} {c : List (List UInt8)} (h : CellsIs w (.slice ao c.length cap) c) (g : Nat) (hg : w.heap[g]? = some (.cells (svA (emptyS c.length)) 9)) (hne : ao ≠ none) :
    (Builtin.copy_ #[32, 32] 3 #[.slice (some ⟨g, 0, none⟩) c.length c.length, .slice ao c.length cap]).run Tryd.prog w = .ok (goInt c.length) (w.setRow g (svA c)) := by
  obtain ⟨ao', cap', h1, _, _, h4, h5⟩ := h.val
  simp at h1
  obtain ⟨rfl, rfl⟩ := h1
  have key : ∀ ad, ao = some ad → (∀ j v, (sv c)[j]? = some v → w.cell? (ad.add j) = some v) → (Builtin.copy_ #[32, 32] 3 #[.slice (some ⟨g, 0, none⟩) c.length c.length, .slice ao c.length cap]).run Tryd.prog w = .ok (goInt c.length) (w.setRow g (svA c)) := by
    rintro ad rfl hs
    have := run_copy_rows (P := Tryd.prog) w 32 32 3 9 g 0 c.length c.length ad c.length cap _ 9 (sv c) 1 c.length Tryd.underlying32 (by kernel_rfl) hg (by simp) (by simp [sv]) hs (by rw [svA_size, emptyS_length, sv_length]; omega) (sv_one _)
    rw [this]
    congr 2
    rw [sv_length, Nat.zero_add, svA_toList, List.drop_of_length_le (by rw [sv_length, emptyS_length]; omega)]
    simp [svA]
  rcases h5 with h0 | ⟨b, o, rfl, hb, hr⟩
  · cases ao with
    | none => exact absurd rfl hne
    | some ad =>
      refine key ad rfl fun j v hv => ?_
      have : c = [] := List.eq_nil_of_length_eq_zero h0
      subst this
      simp [sv] at hv
  · exact key _ rfl fun j v hv => by rw [Addr.add_mid]; exact hr j v hv

set_option maxRecDepth 100000 in
set_option maxHeartbeats 2000000 in
theorem copyRow_any (k : List UInt8) (v : Value) (c : List (List UInt8)) (w : World) (hc : CellsIs w v c) :
    Calls Tryd.prog 33 #[rowV k v] w (CopyOut k c w) := by
  have HC := Lib.hid hc
  obtain ⟨ao, cap, rfl, h2, h3, h4, h5⟩ := hc.val
  have hcl : c.length * 16 ≤ 140737488355328 := hc.len
  have hcI : (c.length : Int) ≤ 9223372036854775807 := by omega
  clear hc h5
  unfold rowV
  obtain ⟨w1, hw1⟩ : ∃ w1, w.alloc (.cells #[.string (strL k), .slice ao c.length cap] 34) = w1 := ⟨_, rfl⟩
  obtain ⟨w2, hw2⟩ : ∃ w2, w1.alloc (.cells #[.string ⟨#[]⟩, .slice none 0 0] 34) = w2 := ⟨_, rfl⟩
  have hs1 : w1.heap.size = w.heap.size + 1 := by rw [← hw1, size_alloc]
  have hs2 : w2.heap.size = w.heap.size + 2 := by rw [← hw2, size_alloc, hs1]
  have hka : Kept [] w w1 := by rw [← hw1]; exact Kept.alloc _ _ _
  have hkb : Kept [] w1 w2 := by rw [← hw2]; exact Kept.alloc _ _ _
  have HK := Lib.hid (hka.trans hkb)
  have g1 : w2.heap[w.heap.size]? = some (.cells #[.string (strL k), .slice ao c.length cap] 34) := hkb.heap (by simp) (by rw [← hw1]; exact heap_alloc_last _ _)
  have g2 : w2.heap[w.heap.size + 1]? = some (.cells #[.string ⟨#[]⟩, .slice none 0 0] 34) := by rw [← hs1, ← hw2]; exact heap_alloc_last _ _
  have d1 : w2.cell? ⟨w.heap.size, 0, none⟩ = some (.string (strL k)) := cell_of_row _ _ 0 _ _ _ g1
  have d2 : w2.cell? ⟨w.heap.size, 1, none⟩ = some (.slice ao c.length cap) := cell_of_row _ _ 1 _ _ _ g1
  have d3 : w2.cell? ⟨w.heap.size + 1, 0, none⟩ = some (.string ⟨#[]⟩) := cell_of_row _ _ 0 _ _ _ g2
  have d4 : w2.cell? ⟨w.heap.size + 1, 1, none⟩ = some (.slice none 0 0) := cell_of_row _ _ 1 _ _ _ g2
  have G1 := Lib.hid g1
  have G2 := Lib.hid g2
  clear hka hkb g1 g2
  cases ao with
  | none =>
    obtain rfl := h4 rfl
    have hc0 : c = [] := List.eq_nil_of_length_eq_zero (by omega)
    subst hc0
    simp only [List.length_nil] at *
    have hbe : ∀ w', (binOp .eql 32 (.slice none 0 0) (.slice none 0 0)).run Tryd.prog w' = .ok (.bool true) w' := fun w' => by kernel_rfl
    go_enter Tryd.func33, Tryd.ntmps33
    have z0 := frozen_of_row _ _ 0 _ _ G2.out
    have z1 := frozen_of_row _ _ 1 _ _ G2.out
    go_wp2_with fail
    have r1 := row_setCell (row_setCell G2.out 0 (.string (strL k))) 1 (.slice none 0 0)
    refine bodyPost_ret_by (results_cell_row rfl _ _ (w.heap.size + 1) 34 _ (0, 0) _ rfl r1 Tryd.underlying34 rfl (by kernel_rfl)) rfl ⟨_, rfl, .inl ⟨rfl, rfl⟩, CellsIs.nil _, ?_⟩
    exact ((HK.out.setNew _ _ (by show w.heap.size ≤ w.heap.size + 1; omega)).setNew _ _ (by show w.heap.size ≤ w.heap.size + 1; omega))
  | some ad =>
    have hmk := run_make_strs w2 c.length hcl
    obtain ⟨w3, hw3⟩ : ∃ w3, w2.alloc (.cells (svA (emptyS c.length)) 9) = w3 := ⟨_, rfl⟩
    rw [hs2, hw3] at hmk
    have hk3 : Kept [] w2 w3 := by rw [← hw3]; exact Kept.alloc _ _ _
    have g3 : w3.heap[w.heap.size + 2]? = some (.cells (svA (emptyS c.length)) 9) := by rw [← hs2, ← hw3]; exact heap_alloc_last _ _
    have hcp := copy_cells ((HC.out.kept HK.out).kept hk3) (w.heap.size + 2) g3 (by simp)
    obtain ⟨w4, hw4⟩ : ∃ w4, w3.setRow (w.heap.size + 2) (svA c) = w4 := ⟨_, rfl⟩
    rw [hw4] at hcp
    have hk4 : Kept [w.heap.size + 2] w3 w4 := by rw [← hw4]; exact setRow_kept _ _ _
    have g4 : w4.heap[w.heap.size + 2]? = some (.cells (svA c) 9) := by rw [← hw4]; exact setRow_heap _ _ _ _ _ _ g3
    have e1 : w3.cell? ⟨w.heap.size, 1, none⟩ = some (.slice (some ad) c.length cap) := by rw [hk3.cell (by show w.heap.size < _; omega) (by simp)]; exact d2
    have f0 : w4.heap[w.heap.size]? = some (.cells #[.string (strL k), .slice (some ad) c.length cap] 34) := hk4.heap (by simp) (hk3.heap (by simp) G1.out)
    have f1 : w4.heap[w.heap.size + 1]? = some (.cells #[.string ⟨#[]⟩, .slice none 0 0] 34) := hk4.heap (by simp) (hk3.heap (by simp) G2.out)
    have i0 : w4.cell? ⟨w.heap.size, 0, none⟩ = some (.string (strL k)) := cell_of_row _ _ 0 _ _ _ f0
    have i1 : w4.cell? ⟨w.heap.size, 1, none⟩ = some (.slice (some ad) c.length cap) := cell_of_row _ _ 1 _ _ _ f0
    have i2 : w4.cell? ⟨w.heap.size + 1, 0, none⟩ = some (.string ⟨#[]⟩) := cell_of_row _ _ 0 _ _ _ f1
    have i3 : w4.cell? ⟨w.heap.size + 1, 1, none⟩ = some (.slice none 0 0) := cell_of_row _ _ 1 _ _ _ f1
    have hbe : ∀ w', (binOp .eql 32 (.slice (some ad) c.length cap) (.slice none 0 0)).run Tryd.prog w' = .ok (.bool false) w' := fun w' => by kernel_rfl
    have z0 := frozen_of_row _ _ 1 _ _ f0
    have z1 := frozen_of_row _ _ 0 _ _ f1
    have z2 := frozen_of_row _ _ 1 _ _ f1
    go_enter Tryd.func33, Tryd.ntmps33
    go_wp2_with (at_builtin; refine wpList_copy_run rfl _ _ _ _ rfl _ _ _ rfl rfl hcp ?_)
    have r1 := row_setCell f0 1 (.slice (some ⟨w.heap.size + 2, 0, none⟩) c.length c.length)
    have r2 := row_setCell (row_setCell (w := w4.setCell ⟨w.heap.size, 1, none⟩ (.slice (some ⟨w.heap.size + 2, 0, none⟩) c.length c.length)) (b := w.heap.size + 1) (by rw [Below.heap_setCell _ _ _ _ (by show w.heap.size + 1 ≠ w.heap.size; omega)]; exact f1) 0 (.string (strL k))) 1 (.slice (some ⟨w.heap.size + 2, 0, none⟩) c.length c.length)
    have hkf : Kept [w.heap.size, w.heap.size + 1] w4 (((w4.setCell ⟨w.heap.size, 1, none⟩ (.slice (some ⟨w.heap.size + 2, 0, none⟩) c.length c.length)).setCell ⟨w.heap.size + 1, 0, none⟩ (.string (strL k))).setCell ⟨w.heap.size + 1, 1, none⟩ (.slice (some ⟨w.heap.size + 2, 0, none⟩) c.length c.length)) :=
      ((Kept.setCell _ _ _ _ (by simp)).trans (Kept.setCell _ _ _ _ (by simp))).trans (Kept.setCell _ _ _ _ (by simp))
    have hdp : DeepCell w.heap.size (((w4.setCell ⟨w.heap.size, 1, none⟩ (.slice (some ⟨w.heap.size + 2, 0, none⟩) c.length c.length)).setCell ⟨w.heap.size + 1, 0, none⟩ (.string (strL k))).setCell ⟨w.heap.size + 1, 1, none⟩ (.slice (some ⟨w.heap.size + 2, 0, none⟩) c.length c.length)) (.slice (some ⟨w.heap.size + 2, 0, none⟩) c.length c.length) c :=
      .inr ⟨w.heap.size + 2, rfl, by omega, hkf.heap (by simp) g4⟩
    refine bodyPost_ret_by (results_cell_row rfl _ _ (w.heap.size + 1) 34 _ (0, 0) _ rfl r2 Tryd.underlying34 rfl (by kernel_rfl)) rfl ⟨_, rfl, hdp, hdp.cells HC.out.len HC.out.each, ?_⟩
    exact (((HK.out.trans hk3).into hk4 (by simp)).into hkf (by simp))
end Go.Proofs.YtdaofgmdledcbaaDoor

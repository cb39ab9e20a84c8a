/-
  Layer 5: the program's Get, Drop and placeFor; the document's Get and Drop.
  Conditions: those that each theorem states.
-/
import Derived.Test.YtdaofgmdledcbaaDoorTCopy
import Derived.Laws.ResultCell
namespace Go.Proofs.YtdaofgmdledcbaaDoor
open Go.RowKit Go.Maps

theorem results_row_tmp {P : Program} {fn : Func} {p u : Tmp} {ty : TypeId} (h : fn.results = #[.cell p ty, .tmp u]) (tmps : Array Value) (w : World) (g : Nat) (t : TypeId) (cs : Array Value) (d : TypeDesc)
    (hp : tmps.getD p undef = .pointer (some ⟨g, 0, none⟩)) (hg : w.heap[g]? = some (.cells cs t)) (hu : P.underlying ty = some d) (hd : d.isRow = true) (hi : (P.info? ty).map (·.size) = some cs.size) :
    (results fn tmps).run P w = .ok (.tuple #[.agg cs, tmps.getD u undef]) w := by
  have hl := run_loadVar_mid (P := P) w g 0 ty cs.toList d (fun j v hv => by rw [Nat.zero_add, cell_of_row w g j _ _ _ hg]; simpa using hv) hu hd (by simpa using hi)
  rw [results_cell_tmp h, hp]
  simp only [asAddr, Sem.run_pure, Result.andThen_ok, hl, Array.toArray_toList]
theorem str_beq2 (a b : List UInt8) : ((strL a).toList == (strL b).toList) = decide (a = b) := by
  rw [strL_bytes, strL_bytes, Bool.eq_iff_iff]; simp

def getO (l : List TRow) (k : List UInt8) : Option TRow := l.find? fun r => decide (r.1 = k)
theorem getO_yes {l : List TRow} {k : List UInt8} (i : Nat) (hi : i < l.length) (h : l[i].1 = k) (hn : ∀ j (hj : j < l.length), j < i → l[j].1 ≠ k) : getO l k = some l[i] := by
  unfold getO
  rw [List.find?_eq_some_iff_getElem]
  refine ⟨by simpa using h, i, hi, rfl, fun j hj => ?_⟩
  simpa using hn j (by omega) hj
theorem getO_no {l : List TRow} {k : List UInt8} (hn : ∀ j (hj : j < l.length), l[j].1 ≠ k) : getO l k = none := by
  unfold getO
  rw [List.find?_eq_none]
  intro x hx
  obtain ⟨i, hi, rfl⟩ := List.getElem_of_mem hx
  simpa using hn i hi
/-- What Get answers. -/
def GetOut (D : Option Nat) (l : List TRow) (key : List UInt8) (w : World) (e : Ending) (w' : World) : Prop :=
  ∃ k v c b, e = .returned (.tuple #[rowV k v, .bool b]) ∧ Hid (getO l key = (if b then some (k, c) else none) ∧ (b = false → k = [] ∧ c = []) ∧ CellsD D w' v c ∧ Kept [] w w' ∧ k.length ≤ 140737488355328)

/-- The state of Get's loop: the answer's block. -/
structure GtSt (w wr : World) : Prop where
  r : wr.heap[w.heap.size]? = some (.cells #[.string ⟨#[]⟩, .slice none 0 0] 34)
  kept : Kept [] w wr
theorem GtSt.go {w wr w' : World} (h : GtSt w wr) (hk : Kept [] wr w') : GtSt w w' := ⟨hk.heap (by simp) h.r, h.kept.trans hk⟩
theorem GtSt.lt {w wr : World} (h : GtSt w wr) : w.heap.size < wr.heap.size := (Array.getElem?_eq_some_iff.1 h.r).1
theorem GtSt.made (w : World) : GtSt w (w.alloc (.cells #[.string ⟨#[]⟩, .slice none 0 0] 34)) := ⟨heap_alloc_last _ _, Kept.alloc _ _ _⟩

set_option maxRecDepth 100000 in
set_option maxHeartbeats 4000000 in
theorem get_any (ao : Option Addr) (len cap : Nat) (l : List TRow) (key : List UInt8) (w : World) (hl : RowsIs w ao len l) :
    Calls Tryd.prog 19 #[.slice ao len cap, .string (strL key)] w (GetOut (some w.heap.size) l key w) := by
  have HL := Lib.hid hl
  have hlen : len ≤ 140737488355328 := by have := hl.bytes; omega
  have HLL := Lib.hid hl.hlen
  clear hl
  go_enter Tryd.func19, Tryd.ntmps19
  have HS0 := Lib.hid (GtSt.made w)
  go_wp2_with fail
  go_loopw [10] (fun i wr => ∃ k : Nat, k ≤ len ∧ i = .int .i64 k ∧ Hid (∀ j, (hj : j < l.length) → j < k → l[j].1 ≠ key) ∧ Hid (GtSt w wr)) (fun i _ => len - (intOf i).toNat)
  case atStart => exact ⟨0, by omega, rfl, fun j hj h0 => by omega, HS0⟩
  case round =>
    clear HS0
    obtain ⟨k, hk, rfl, HK, HS⟩ := hrel
    by_cases hlt : k < len
    · obtain ⟨b, o, rfl, hb, hc⟩ := (HL.out.kept HS.out.kept).cell (by omega)
      have hll : k < l.length := by rw [HLL.out]; exact hlt
      obtain ⟨v, c0, c1, hcv⟩ := hc k hll
      obtain ⟨p, hp⟩ : ∃ p, l[k].1 = p := ⟨_, rfl⟩
      obtain ⟨cs, hcs⟩ : ∃ cs, l[k].2 = cs := ⟨_, rfl⟩
      have HE : Hid (l[k] = (p, cs)) := by show _ = _; rw [← hp, ← hcs]
      rw [hp] at c0
      rw [hcs] at hcv
      have HP := Lib.hid hp
      have HCV := Lib.hid hcv
      have HPL : Hid (p.length ≤ 140737488355328) := by show _ ≤ _; rw [← hp]; exact HL.out.keys _ (List.getElem_mem hll)
      have hvs : ∃ u m c, v = .slice u m c := by obtain ⟨u, c, rfl, _⟩ := hcv.val; exact ⟨u, _, c, rfl⟩
      obtain ⟨vu, vm, vc, rfl⟩ := hvs
      clear hp hc hcs hcv
      have HS1 := Lib.hid (HS.out.go (Kept.alloc [] wr (.cells #[.string (strL p), .slice vu vm vc] 34)))
      by_cases hpk : p = key
      · have q1 : ((strL p).toList == (strL key).toList) = true := by rw [str_beq2, decide_eq_true hpk]
        have HG : Hid (getO l key = some (p, cs)) := by
          show _ = _
          rw [← HE.out]
          exact getO_yes k hll (by rw [HP.out]; exact hpk) fun j hj h => HK.out j hj h
        clear hpk
        go_wp2_with fail
        refine (copyRow_any p _ cs _ (HCV.out.kept (Kept.alloc _ _ _))).mono ?_
        rintro e w3 ⟨v', rfl, HV⟩
        have HS3 := Lib.hid (HS1.out.go HV.out.2.2)
        have hvs : ∃ u m c, v' = .slice u m c := by obtain ⟨u, c, rfl, _⟩ := HV.out.2.1.val; exact ⟨u, _, c, rfl⟩
        obtain ⟨vu', vm', vc', rfl⟩ := hvs
        have z0 := frozen_of_row _ _ 0 _ _ HS3.out.r
        have z1 := frozen_of_row _ _ 1 _ _ HS3.out.r
        have d0 : w3.cell? ⟨w.heap.size, 0, none⟩ = some (.string ⟨#[]⟩) := cell_of_row _ _ 0 _ _ _ HS3.out.r
        have d1 : w3.cell? ⟨w.heap.size, 1, none⟩ = some (.slice none 0 0) := cell_of_row _ _ 1 _ _ _ HS3.out.r
        unfold rowV
        go_wp2_with fail
        have r1 := row_setCell (row_setCell HS3.out.r 0 (.string (strL p))) 1 (.slice vu' vm' vc')
        have hkf : Kept [w.heap.size] w3 ((w3.setCell ⟨w.heap.size, 0, none⟩ (.string (strL p))).setCell ⟨w.heap.size, 1, none⟩ (.slice vu' vm' vc')) := (Kept.setCell _ _ _ _ (by simp)).trans (Kept.setCell _ _ _ _ (by simp))
        refine bodyPost_ret_by (results_row_tmp rfl _ _ w.heap.size 34 _ _ rfl r1 Tryd.underlying34 rfl (by kernel_rfl)) rfl ⟨p, .slice vu' vm' vc', cs, true, rfl, ?_⟩
        have hlt0 := HS.out.lt
        have hsa : (wr.alloc (.cells #[.string (strL p), .slice vu vm vc] 34)).heap.size = wr.heap.size + 1 := size_alloc _ _
        have hdp : DeepCell w.heap.size ((w3.setCell ⟨w.heap.size, 0, none⟩ (.string (strL p))).setCell ⟨w.heap.size, 1, none⟩ (.slice vu' vm' vc')) (.slice vu' vm' vc') cs := by
          rcases HV.out.1 with h | ⟨g, h1, h2, h3⟩
          · exact .inl h
          · exact .inr ⟨g, h1, by omega, hkf.heap (by simp; omega) h3⟩
        exact ⟨HG.out, fun h => (by cases h), ⟨hdp.cells HCV.out.len HCV.out.each, fun base hbase => by injection hbase with hbase; subst hbase; exact hdp⟩, HS3.out.kept.into hkf (by simp), HPL.out⟩
      · have q1 : ((strL p).toList == (strL key).toList) = false := by rw [str_beq2, decide_eq_false hpk]
        have HK2 : Hid (∀ j, (hj : j < l.length) → j < k + 1 → l[j].1 ≠ key) := fun j hj hjk => by
          by_cases e : j = k
          · subst e; rw [HP.out]; exact hpk
          · exact HK.out j hj (by omega)
        clear hpk
        go_wp2_with fail
        go_roundw
        case rel => exact ⟨k + 1, by omega, by go_num, HK2, HS1⟩
        case measure => simp [intOf]; omega
    · have HG : Hid (getO l key = none) := getO_no fun j hj => HK.out j hj (by rw [HLL.out] at hj; omega)
      have z0 := frozen_of_row _ _ 0 _ _ HS.out.r
      have z1 := frozen_of_row _ _ 1 _ _ HS.out.r
      have d0 : wr.cell? ⟨w.heap.size, 0, none⟩ = some (.string ⟨#[]⟩) := cell_of_row _ _ 0 _ _ _ HS.out.r
      have d1 : wr.cell? ⟨w.heap.size, 1, none⟩ = some (.slice none 0 0) := cell_of_row _ _ 1 _ _ _ HS.out.r
      go_wp2_with fail
      have r1 := row_setCell (row_setCell HS.out.r 0 (.string ⟨#[]⟩)) 1 (.slice none 0 0)
      have hkf : Kept [w.heap.size] wr ((wr.setCell ⟨w.heap.size, 0, none⟩ (.string ⟨#[]⟩)).setCell ⟨w.heap.size, 1, none⟩ (.slice none 0 0)) := (Kept.setCell _ _ _ _ (by simp)).trans (Kept.setCell _ _ _ _ (by simp))
      refine bodyPost_ret_by (results_row_tmp rfl _ _ w.heap.size 34 _ _ rfl r1 Tryd.underlying34 rfl (by kernel_rfl)) rfl ⟨[], .slice none 0 0, [], false, rfl, ?_⟩
      exact ⟨HG.out, fun _ => ⟨rfl, rfl⟩, ⟨CellsIs.nil _, fun base _ => .inl ⟨rfl, rfl⟩⟩, HS.out.kept.into hkf (by simp), by simp⟩

set_option maxRecDepth 100000 in
set_option maxHeartbeats 4000000 in
theorem rget_any (ao : Option Addr) (len cap : Nat) (l : List TRow) (key : List UInt8) (w : World) (hl : RowsIs w ao len l) :
    Calls Tryd.prog 20 #[.slice ao len cap, .string (strL key)] w (GetOut none l key w) := by
  have HL := Lib.hid hl
  have hlen : len ≤ 140737488355328 := by have := hl.bytes; omega
  have HLL := Lib.hid hl.hlen
  clear hl
  go_enter Tryd.func20, Tryd.ntmps20
  have HS0 := Lib.hid (GtSt.made w)
  go_wp2_with fail
  go_loopw [6] (fun i wr => ∃ k : Nat, k ≤ len ∧ i = .int .i64 k ∧ Hid (∀ j, (hj : j < l.length) → j < k → l[j].1 ≠ key) ∧ Hid (GtSt w wr)) (fun i _ => len - (intOf i).toNat)
  case atStart => exact ⟨0, by omega, rfl, fun j hj h0 => by omega, HS0⟩
  case round =>
    clear HS0
    obtain ⟨k, hk, rfl, HK, HS⟩ := hrel
    by_cases hlt : k < len
    · obtain ⟨b, o, rfl, hb, hc⟩ := (HL.out.kept HS.out.kept).cell (by omega)
      have hll : k < l.length := by rw [HLL.out]; exact hlt
      obtain ⟨v, c0, c1, hcv⟩ := hc k hll
      have hbw : b < w.heap.size := by
        obtain ⟨b', o', he, hb', _⟩ := HL.out.cell (by omega)
        simp at he
        omega
      obtain ⟨p, hp⟩ : ∃ p, l[k].1 = p := ⟨_, rfl⟩
      obtain ⟨cs, hcs⟩ : ∃ cs, l[k].2 = cs := ⟨_, rfl⟩
      have HE : Hid (l[k] = (p, cs)) := by show _ = _; rw [← hp, ← hcs]
      have HB0 : Hid (CellsIs w v cs) := by
        obtain ⟨b', o', he, hb', hc'⟩ := HL.out.cell (by omega)
        simp at he
        obtain ⟨rfl, rfl⟩ := he
        obtain ⟨v2, _, e1, e2⟩ := hc' k hll
        rw [← HS.out.kept.cell (p := ⟨b, o + k * 2 + 1, none⟩) hb' (by simp), c1] at e1
        injection e1 with e1
        subst e1
        rw [hcs] at e2
        exact e2
      rw [hp] at c0
      rw [hcs] at hcv
      have HP := Lib.hid hp
      have HPL : Hid (p.length ≤ 140737488355328) := by show _ ≤ _; rw [← hp]; exact HL.out.keys _ (List.getElem_mem hll)
      have hvs : ∃ u m c, v = .slice u m c := by obtain ⟨u, c, rfl, _⟩ := hcv.val; exact ⟨u, _, c, rfl⟩
      obtain ⟨vu, vm, vc, rfl⟩ := hvs
      clear hp hc hcs hcv
      by_cases hpk : p = key
      · have q1 : ((strL p).toList == (strL key).toList) = true := by rw [str_beq2, decide_eq_true hpk]
        have HG : Hid (getO l key = some (p, cs)) := by
          show _ = _
          rw [← HE.out]
          exact getO_yes k hll (by rw [HP.out]; exact hpk) fun j hj h => HK.out j hj h
        clear hpk
        have z0 := frozen_of_row _ _ 0 _ _ HS.out.r
        have z1 := frozen_of_row _ _ 1 _ _ HS.out.r
        have d0 : wr.cell? ⟨w.heap.size, 0, none⟩ = some (.string ⟨#[]⟩) := cell_of_row _ _ 0 _ _ _ HS.out.r
        have d1 : wr.cell? ⟨w.heap.size, 1, none⟩ = some (.slice none 0 0) := cell_of_row _ _ 1 _ _ _ HS.out.r
        go_wp2_with fail
        have r1 := row_setCell (row_setCell HS.out.r 0 (.string (strL p))) 1 (.slice vu vm vc)
        have hkf : Kept [w.heap.size] wr ((wr.setCell ⟨w.heap.size, 0, none⟩ (.string (strL p))).setCell ⟨w.heap.size, 1, none⟩ (.slice vu vm vc)) := (Kept.setCell _ _ _ _ (by simp)).trans (Kept.setCell _ _ _ _ (by simp))
        refine bodyPost_ret_by (results_row_tmp rfl _ _ w.heap.size 34 _ _ rfl r1 Tryd.underlying34 rfl (by kernel_rfl)) rfl ⟨p, .slice vu vm vc, cs, true, rfl, ?_⟩
        have hkk := HS.out.kept.into hkf (by simp)
        exact ⟨HG.out, fun h => (by cases h), (HB0.out.kept hkk).D, hkk, HPL.out⟩
      · have q1 : ((strL p).toList == (strL key).toList) = false := by rw [str_beq2, decide_eq_false hpk]
        have HK2 : Hid (∀ j, (hj : j < l.length) → j < k + 1 → l[j].1 ≠ key) := fun j hj hjk => by
          by_cases e : j = k
          · subst e; rw [HP.out]; exact hpk
          · exact HK.out j hj (by omega)
        clear hpk
        go_wp2_with fail
        go_roundw
        case rel => exact ⟨k + 1, by omega, by go_num, HK2, HS⟩
        case measure => simp [intOf]; omega
    · have HG : Hid (getO l key = none) := getO_no fun j hj => HK.out j hj (by rw [HLL.out] at hj; omega)
      have z0 := frozen_of_row _ _ 0 _ _ HS.out.r
      have z1 := frozen_of_row _ _ 1 _ _ HS.out.r
      have d0 : wr.cell? ⟨w.heap.size, 0, none⟩ = some (.string ⟨#[]⟩) := cell_of_row _ _ 0 _ _ _ HS.out.r
      have d1 : wr.cell? ⟨w.heap.size, 1, none⟩ = some (.slice none 0 0) := cell_of_row _ _ 1 _ _ _ HS.out.r
      go_wp2_with fail
      have r1 := row_setCell (row_setCell HS.out.r 0 (.string ⟨#[]⟩)) 1 (.slice none 0 0)
      have hkf : Kept [w.heap.size] wr ((wr.setCell ⟨w.heap.size, 0, none⟩ (.string ⟨#[]⟩)).setCell ⟨w.heap.size, 1, none⟩ (.slice none 0 0)) := (Kept.setCell _ _ _ _ (by simp)).trans (Kept.setCell _ _ _ _ (by simp))
      refine bodyPost_ret_by (results_row_tmp rfl _ _ w.heap.size 34 _ _ rfl r1 Tryd.underlying34 rfl (by kernel_rfl)) rfl ⟨[], .slice none 0 0, [], false, rfl, ?_⟩
      exact ⟨HG.out, fun _ => ⟨rfl, rfl⟩, (CellsIs.nil _).D, HS.out.kept.into hkf (by simp), by simp⟩
end Go.Proofs.YtdaofgmdledcbaaDoor

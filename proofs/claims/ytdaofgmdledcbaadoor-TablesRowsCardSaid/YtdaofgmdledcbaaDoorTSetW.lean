/-
  Layer 5: the program's Set.
  Conditions: those that each theorem states.
-/
import Derived.Test.YtdaofgmdledcbaaDoorTSet
namespace Go.Proofs.YtdaofgmdledcbaaDoor
open Go.RowKit Go.Maps

theorem AllCells.append {D : Option Nat} {w : World} {vs vs' : List Value} {l l' : List TRow} (h : AllCells D w vs l) (h' : AllCells D w vs' l') : AllCells D w (vs ++ vs') (l ++ l') := by
  refine ⟨by simp [h.1, h'.1], fun i hi hv => ?_⟩
  by_cases e : i < l.length
  · have e2 : i < vs.length := by rw [h.1]; exact e
    rw [List.getElem_append_left e2, List.getElem_append_left e]
    exact h.2 i e e2
  · rw [List.length_append] at hi hv
    have e1 : l.length ≤ i := by omega
    have e2 : vs.length ≤ i := by rw [h.1]; exact e1
    rw [List.getElem_append_right e2, List.getElem_append_right e1]
    have hvl : i - vs.length = i - l.length := by rw [h.1]
    simp only [hvl]
    exact h'.2 (i - l.length) (by omega) (by have := h'.1; omega)
theorem AllCells.take {D : Option Nat} {w : World} {vs : List Value} {l : List TRow} (h : AllCells D w vs l) (k : Nat) : AllCells D w (vs.take k) (l.take k) := by
  refine ⟨by simp [h.1], fun i hi hv => ?_⟩
  rw [List.length_take] at hi hv
  rw [List.getElem_take, List.getElem_take]
  exact h.2 i (by omega) (by omega)
theorem AllCells.drop {D : Option Nat} {w : World} {vs : List Value} {l : List TRow} (h : AllCells D w vs l) (k : Nat) : AllCells D w (vs.drop k) (l.drop k) := by
  refine ⟨by simp [h.1], fun i hi hv => ?_⟩
  rw [List.length_drop] at hi hv
  rw [List.getElem_drop, List.getElem_drop]
  exact h.2 (k + i) (by omega) (by omega)
theorem AllCells.one1 {D : Option Nat} {w : World} {v : Value} {r : TRow} (h : CellsD D w v r.2) : AllCells D w [v] [r] := ⟨rfl, fun i hi hv => by
  have e : i = 0 := by simp at hi; omega
  subst e
  exact h⟩
theorem rv_take : ∀ (l : List TRow) (vs : List Value) (_ : vs.length = l.length) (k : Nat), (rv l vs).take (2 * k) = rv (l.take k) (vs.take k)
  | [], [], _, k => by simp [rv]
  | r :: l, v :: vs, h, 0 => by simp [rv]
  | r :: l, v :: vs, h, k + 1 => by
    have ih := rv_take l vs (by simpa using h) k
    rw [show 2 * (k + 1) = 2 * k + 2 by omega]
    simp [rv, ih]
theorem rv_drop : ∀ (l : List TRow) (vs : List Value) (_ : vs.length = l.length) (k : Nat), (rv l vs).drop (2 * k) = rv (l.drop k) (vs.drop k)
  | [], [], _, k => by simp [rv]
  | r :: l, v :: vs, h, 0 => by simp [rv]
  | r :: l, v :: vs, h, k + 1 => by
    have ih := rv_drop l vs (by simpa using h) k
    rw [show 2 * (k + 1) = 2 * k + 2 by omega]
    simp [rv, ih]
/-- l without its rows of r's key, and r ahead of the first row with a greater one. -/
def insR (o : List TRow) (r : TRow) : List TRow := o.take (placeN o r.1) ++ r :: o.drop (placeN o r.1)
def setR (l : List TRow) (r : TRow) : List TRow := insR (dropR l r.1) r
theorem insR_len (o : List TRow) (r : TRow) : (insR o r).length = o.length + 1 := by
  have := placeN_le o r.1
  simp [insR]
  omega
/-- The new row of rows, when all is written. -/
theorem set_fin {base g a : Nat} {w : World} {O : List TRow} {vs : List Value} {r : TRow} {cv : Value} (ha : a = placeN O r.1) (hg : w.heap[g]? = some (.cells ((rv O vs).take (2 * a) ++ [.string (strL r.1), cv] ++ (rv O vs).drop (2 * a)).toArray 34))
    (hA : AllCells (some base) w vs O) (hc : CellsD (some base) w cv r.2) (hb : base ≤ g) (ho : ∀ x ∈ vs, OffV (some base) [g] x) (hco : OffV (some base) [g] cv) (hl : (O.length + 1) * 40 ≤ 140737488355328) (hk : ∀ x ∈ O, x.1.length ≤ 140737488355328) (hr : r.1.length ≤ 140737488355328) :
    OwnRows (some base) base w (.slice (some ⟨g, 0, none⟩) (O.length + 1) (O.length + 1)) (insR O r) := by
  have hal := placeN_le O r.1
  rw [← ha] at hal
  have hvs : vs.length = O.length := hA.1
  have e1 : rv (insR O r) (vs.take a ++ cv :: vs.drop a) = (rv O vs).take (2 * a) ++ [.string (strL r.1), cv] ++ (rv O vs).drop (2 * a) := by
    unfold insR
    rw [← ha, rv_append _ _ (by simp [hvs]), rv_take O vs hvs, rv_drop O vs hvs]
    simp [rv]
  refine ⟨⟨vs.take a ++ cv :: vs.drop a, ⟨?_, .inr ⟨g, O.length + 1, _, ?_, hb, hg, ?_, ?_, ?_, ?_⟩⟩, ?_, ?_⟩, by rw [insR_len]; exact hl, ?_⟩
  · rw [rv_length _ _ (by rw [insR_len]; simp [hvs]; omega)]; omega
  · rw [insR_len]
  · rw [insR_len]; exact Nat.le_refl _
  · unfold maxLen; omega
  · rw [← e1, List.size_toArray, rv_length _ _ (by rw [insR_len]; simp [hvs]; omega), insR_len]; omega
  · rw [← e1]
    rw [List.take_of_length_le]
    rw [rv_length _ _ (by rw [insR_len]; simp [hvs]; omega)]
    omega
  · unfold insR
    rw [← ha]
    exact (hA.take a).append ((AllCells.one1 hc).append (hA.drop a))
  · intro x hx
    have : x ∈ vs ∨ x = cv := by
      simp only [List.mem_append, List.mem_cons] at hx
      rcases hx with hx | rfl | hx
      · exact .inl (List.mem_of_mem_take hx)
      · exact .inr rfl
      · exact .inl (List.mem_of_mem_drop hx)
    rcases this with h | rfl
    · exact ho x h
    · exact hco
  · intro x hx
    simp only [insR, List.mem_append, List.mem_cons] at hx
    rcases hx with hx | rfl | hx
    · exact hk x (List.mem_of_mem_take hx)
    · exact hr
    · exact hk x (List.mem_of_mem_drop hx)

def zeroRows (n : Nat) : Array Value := madeCells (Value.agg #[.string ⟨#[]⟩, .slice none 0 0]).cells (n * 2)
theorem zeroRows_one : zeroRows 1 = #[.string ⟨#[]⟩, .slice none 0 0] := by
  apply Array.ext
  · unfold zeroRows; rw [size_madeCells]; rfl
  · intro i h1 h2
    have : i = 0 ∨ i = 1 := by simp at h2; omega
    rcases this with rfl | rfl <;> simp [zeroRows, madeCells, Value.cells]
/-- 'make([]api.Row, n)'. -/
theorem run_make_rows (w : World) (n : Nat) (h : n * 40 ≤ 140737488355328) :
    (Instr.makeSlice 22 (.int .i64 (n : Int)) (.int .i64 (n : Int))).run Tryd.prog w = .ok (.slice (some ⟨w.heap.size, 0, none⟩) n n) (w.alloc (.cells (zeroRows n) 34)) := by
  obtain ⟨i, hi', hz, hs, hb⟩ := info_parts elemRow.info
  have hr := run_make (P := Tryd.prog) w 22 34 i _ elemRow.ht hi' hz .i64 .i64 n n (by omega) (Int.le_refl _) (by rw [hb]; omega) (by omega)
  rw [hr, hs, Int.toNat_natCast]
  rfl
/-- The cells of the new row, step by step. -/
theorem set_cells (X A : List Value) (a : Nat) (k cv : Value) (ha : 2 * a ≤ X.length) (hA : A.length = X.length + 2) :
    ((((X.take (2 * a) ++ A.drop (2 * a)).set (2 * a) k).set (2 * a + 1) cv).take (2 * a + 2) ++ X.drop (2 * a)) = X.take (2 * a) ++ [k, cv] ++ X.drop (2 * a) := by
  congr 1
  have hl : (X.take (2 * a)).length = 2 * a := by rw [List.length_take]; omega
  obtain ⟨x, y, rest, hd⟩ : ∃ x y rest, A.drop (2 * a) = x :: y :: rest := by
    have h2 : 2 ≤ (A.drop (2 * a)).length := by rw [List.length_drop]; omega
    match h : A.drop (2 * a), h2 with
    | x :: y :: rest, _ => exact ⟨x, y, rest, rfl⟩
  rw [hd]
  generalize X.take (2 * a) = T at *
  rw [List.set_append_right _ _ (by omega), hl, Nat.sub_self, List.set_cons_zero, List.set_append_right _ _ (by omega), hl, Nat.add_sub_cancel_left, List.set_cons_succ, List.set_cons_zero]
  rw [List.take_append, hl, show 2 * a + 2 - 2 * a = 2 by omega, List.take_of_length_le (by omega)]
  simp

set_option maxRecDepth 100000 in
set_option maxHeartbeats 4000000 in
theorem set_any (ao : Option Addr) (len cap : Nat) (l : List TRow) (r : TRow) (v : Value) (w : World) (hl : RowsIs w ao len l) (hlen : (len + 1) * 40 ≤ 140737488355328) (hc : CellsIs w v r.2) (hr : r.1.length ≤ 140737488355328) :
    Calls Tryd.prog 21 #[.slice ao len cap, rowV r.1 v] w fun e w' => ∃ v', e = .returned v' ∧ Hid (DrSt (some w.heap.size) w (setR l r) v' w') := by
  have HL := Lib.hid hl
  have HC := Lib.hid hc
  have HLL := Lib.hid hl.hlen
  have hvs : ∃ u m c, v = .slice u m c := by obtain ⟨u, c, rfl, _⟩ := hc.val; exact ⟨u, _, c, rfl⟩
  obtain ⟨vu, vm, vc, rfl⟩ := hvs
  clear hl hc
  obtain ⟨rk, rc⟩ := r
  simp only at *
  unfold rowV
  have HB : Hid ((w.alloc (.cells #[.string (strL rk), .slice vu vm vc] 34)).heap[w.heap.size]? = some (.cells #[.string (strL rk), .slice vu vm vc] 34)) := heap_alloc_last _ _
  have HK0 := Lib.hid (Kept.alloc [] w (.cells #[.string (strL rk), .slice vu vm vc] 34))
  go_enter Tryd.func21, Tryd.ntmps21
  go_wp2_with fail
  refine (drop_any ao len cap l rk _ (HL.out.kept HK0.out)).mono ?_
  rintro e w2 ⟨v2, rfl, HD⟩
  obtain ⟨O, hO⟩ : ∃ O, dropR l rk = O := ⟨_, rfl⟩
  have HOL : Hid (O.length ≤ len) := by show _ ≤ _; rw [← hO, ← HLL.out]; exact dropR_len l rk
  have HOE : Hid (setR l (rk, rc) = insR O (rk, rc)) := by show _ = _; rw [← hO]; rfl
  rw [hO] at HD
  clear hO
  obtain ⟨⟨vs, hown, hall, hoff⟩, hby, hkeys⟩ := HD.out.own
  have HK2 := Lib.hid (HK0.out.trans HD.out.kept)
  have HBX : Hid (w2.heap[w.heap.size]? = some (.cells #[.string (strL rk), .slice vu vm vc] 34)) := HD.out.kept.heap (by simp) HB.out
  obtain ⟨ao2, cap2, hv2, hcap2, hcm2, hnil2, hrows2⟩ := HD.out.own.rows
  have HR2 := Lib.hid hrows2
  have HALL := Lib.hid hall
  have HOFF := Lib.hid hoff
  have HKEYS := Lib.hid hkeys
  have HOWN := Lib.hid hown
  subst hv2
  clear hrows2 hall hoff hkeys hown HD
  have b0 : w2.cell? ⟨w.heap.size, 0, none⟩ = some (.string (strL rk)) := cell_of_row _ _ 0 _ _ _ HBX.out
  go_wp2_with fail
  refine (placeFor_any ao2 O.length cap2 O rk _ HR2.out).mono ?_
  obtain ⟨a, ha⟩ : ∃ a, placeN O rk = a := ⟨_, rfl⟩
  have hal : a ≤ O.length := by rw [← ha]; exact placeN_le _ _
  have HA := Lib.hid ha
  rw [ha]
  clear ha
  rintro e w3 ⟨rfl, hk3⟩
  have HK3 := Lib.hid hk3
  have hol := HOL.out
  have hmk := run_make_rows w3 (O.length + 1) (by omega)
  rw [show ((O.length + 1 : Nat) : Int) = (O.length : Int) + 1 by omega] at hmk
  obtain ⟨g, hg⟩ : ∃ g, w3.heap.size = g := ⟨_, rfl⟩
  obtain ⟨w4, hw4⟩ : ∃ w4, w3.alloc (.cells (zeroRows (O.length + 1)) 34) = w4 := ⟨_, rfl⟩
  have HK4 : Hid (Kept [] w3 w4 ∧ w4.heap[g]? = some (.cells (zeroRows (O.length + 1)) 34)) := ⟨by rw [← hw4]; exact Kept.alloc _ _ _, by rw [← hw4, ← hg]; exact heap_alloc_last _ _⟩
  rw [hg, hw4] at hmk
  clear hw4 hk3
  have HGE : Hid (w3.heap.size = g) := hg
  clear hg
  have HZL : Hid ((zeroRows (O.length + 1)).size = O.length * 2 + 2) := by show _ = _; unfold zeroRows; rw [size_madeCells]; omega
  have HXL : Hid ((rv O vs).length = O.length * 2) := by show _ = _; rw [rv_length _ _ HALL.out.1]; omega
  have HBG : Hid (w.heap.size < g) := by
    show _ < _
    rw [← HGE.out]
    have := (Array.getElem?_eq_some_iff.1 HBX.out).1
    have := HK3.out.size
    omega
  have h0n : (O.length : Int) ≤ 140737488355328 := by omega
  cases ao2 with
  | none =>
    obtain rfl := hnil2 rfl
    have hO : O = [] := List.eq_nil_of_length_eq_zero (by omega)
    subst hO
    have ha0 : a = 0 := by simpa using hal
    subst ha0
    have hvs : vs = [] := List.eq_nil_of_length_eq_zero HALL.out.1
    subst hvs
    have hmk1 : (Instr.makeSlice 22 (.int .i64 1) (.int .i64 1)).run Tryd.prog w3 = .ok (.slice (some ⟨g, 0, none⟩) 1 1) w4 := hmk
    clear hmk
    have HG4 : Hid (w4.heap[g]? = some (.cells #[.string ⟨#[]⟩, .slice none 0 0] 34)) := by rw [← zeroRows_one]; exact HK4.out.2
    have hr1 := run_copy_nil (P := Tryd.prog) w4 22 22 3 34 ⟨g, 0, none⟩ 1 1 Tryd.underlying22 (by kernel_rfl)
    have HBX5 : Hid (w4.heap[w.heap.size]? = some (.cells #[.string (strL rk), .slice vu vm vc] 34)) := (HK3.out.trans HK4.out.1).heap (by simp) HBX.out
    have x0 : w4.cell? ⟨w.heap.size, 0, none⟩ = some (.string (strL rk)) := cell_of_row _ _ 0 _ _ _ HBX5.out
    have x1 : w4.cell? ⟨w.heap.size, 1, none⟩ = some (.slice vu vm vc) := cell_of_row _ _ 1 _ _ _ HBX5.out
    have HKW5 : Hid (Kept [] w w4) := (HK2.out.trans HK3.out).trans HK4.out.1
    simp only [List.length_nil] at *
    go_wp2_with fail
    clear hr1
    refine (copyRow_any rk _ rc _ (HC.out.kept HKW5.out)).mono ?_
    rintro e w6 ⟨cv, rfl, HV⟩
    have hcvs : ∃ u m c, cv = .slice u m c := by obtain ⟨u, c, rfl, _⟩ := HV.out.2.1.val; exact ⟨u, _, c, rfl⟩
    obtain ⟨cu, cm, cc, rfl⟩ := hcvs
    have HG6 : Hid (w6.heap[g]? = some (.cells #[.string ⟨#[]⟩, .slice none 0 0] 34)) := HV.out.2.2.heap (by simp) HG4.out
    have y0 : w6.cell? ⟨g, 0, none⟩ = some (.string ⟨#[]⟩) := cell_of_row _ _ 0 _ _ _ HG6.out
    have y1 : w6.cell? ⟨g, 1, none⟩ = some (.slice none 0 0) := cell_of_row _ _ 1 _ _ _ HG6.out
    have f0 := frozen_of_row _ _ 0 _ _ HG6.out
    have f1 := frozen_of_row _ _ 1 _ _ HG6.out
    unfold rowV
    clear x0 x1
    go_wp2_with fail
    clear y0 y1 f0 f1
    generalize hw7 : World.setCell (World.setCell w6 _ _) _ _ = w7
    have HG7 : Hid (w7.heap[g]? = some (.cells #[.string (strL rk), .slice cu cm cc] 34)) := by
      show _ = _
      rw [← hw7]
      exact row_setCell (row_setCell HG6.out 0 (.string (strL rk))) 1 (.slice cu cm cc)
    have HK7 : Hid (Kept [g] w6 w7) := by rw [← hw7]; exact (Kept.setCell _ _ _ _ (by simp)).trans (Kept.setCell _ _ _ _ (by simp))
    clear hw7
    have HD8 : Hid (DrSt (some w.heap.size) w (setR l (rk, rc)) (.slice (some ⟨g, 0, none⟩) 1 1) w7.drew) := by
      have hg4 := (Array.getElem?_eq_some_iff.1 HG4.out).1
      have k68 : Kept [g] w6 w7.drew := HK7.out.trans (Kept.drew _ _)
      have hcoff : OffV (some w.heap.size) [g] (.slice cu cm cc) := HV.out.1.off _ _ (by simpa using hg4)
      have hcd : CellsD (some w.heap.size) w6 (.slice cu cm cc) rc := CopyOut.cells HV.out w.heap.size (by have := HBG.out; omega)
      refine ⟨?_, (HKW5.out.trans HV.out.2.2).into k68 (by simp; have := HBG.out; omega)⟩
      rw [HOE.out]
      exact set_fin (r := (rk, rc)) (O := []) (vs := []) HA.out.symm (show w7.drew.heap[g]? = _ from HG7.out) (AllCells.nil _ _) (hcd.keptX k68 hcoff) (by have := HBG.out; omega) (by simp) hcoff (by simp) (by simp) hr
    have hr2 := run_copy_nil (P := Tryd.prog) w7.drew 22 22 3 34 ⟨g, 0, none⟩ 0 0 Tryd.underlying22 (by kernel_rfl)
    have HR2' := Lib.hid hr2
    clear hr2
    have wr1 : IntKind.i64.wrap 1 = 1 := by decide
    refine wp_region_still_tail 7 (by kernel_rfl) (by kernel_rfl) ?_
    simp only [List.take_succ_cons, List.take_zero, List.drop_succ_cons, List.drop_zero]
    still_step
    still_step
    still_step
    still_step
    still_step
    still_step
    still_step
    refine wpStill_nil ?_
    refine wpList_copy_run rfl _ _ _ _ rfl _ _ _ rfl rfl HR2'.out ?_
    go_wp2_with fail
    go_ret
    exact ⟨_, rfl, HD8⟩
  | some ad2 =>
    obtain ⟨g2, hg2, hb2, hgg⟩ : ∃ g2, ad2 = ⟨g2, 0, none⟩ ∧ w.heap.size < g2 ∧ g2 < w2.heap.size := by
      obtain ⟨_, ⟨he, _⟩ | ⟨g2, c2, cur, he, hb, hgg, _⟩⟩ := HOWN.out
      · simp at he
      · simp at he
        refine ⟨g2, he.1, ?_, (Array.getElem?_eq_some_iff.1 hgg).1⟩
        rw [size_alloc] at hb
        omega
    subst hg2
    have HX : Hid (∀ w', Kept [g] w2 w' → ∀ j u, (rv O vs)[j]? = some u → w'.cell? ⟨g2, j, none⟩ = some u) := fun w' hk j u hu => by
      rw [hk.cell hgg (by simp; have := HGE.out; have := HK3.out.size; omega)]
      have := HOWN.out.cells (g := g2) rfl j u hu
      rw [Addr.add_mid, Nat.zero_add] at this
      exact this
    have h1 : ∀ u ∈ rv O vs, u.oneCell' = true := rv_one _ _ HALL.out.one
    have HON := Lib.hid h1
    clear h1
    have hr1 := run_copy_rows (P := Tryd.prog) w4 22 22 3 34 g 0 (O.length + 1) (O.length + 1) ⟨g2, 0, none⟩ a cap2 _ 34 ((rv O vs).take (2 * a)) 2 a Tryd.underlying22 (by kernel_rfl) HK4.out.2 (by show a = min a (O.length + 1); omega) (by rw [List.length_take, HXL.out]; omega)
      (fun j u hu => by
        rw [Addr.add_mid, Nat.zero_add]
        have hj : j < 2 * a := by have := (List.getElem?_eq_some_iff.1 hu).1; rw [List.length_take] at this; omega
        rw [List.getElem?_take_of_lt hj] at hu
        exact HX.out w4 ((HK3.out.trans HK4.out.1).mono (by simp)) j u hu) (by rw [List.length_take, HXL.out, HZL.out]; omega) (fun u hu => HON.out u (List.mem_of_mem_take hu))
    obtain ⟨A1, hA1⟩ : ∃ A1 : List Value, (rv O vs).take (2 * a) ++ (zeroRows (O.length + 1)).toList.drop (2 * a) = A1 := ⟨_, rfl⟩
    have hA1' : (zeroRows (O.length + 1)).toList.take 0 ++ (rv O vs).take (2 * a) ++ (zeroRows (O.length + 1)).toList.drop (0 + ((rv O vs).take (2 * a)).length) = A1 := by
      rw [← hA1, List.length_take, HXL.out, show 0 + min (2 * a) (O.length * 2) = 2 * a by omega]
      simp
    rw [hA1'] at hr1
    clear hA1'
    have hA1l : A1.length = O.length * 2 + 2 := by
      have hz : (zeroRows (O.length + 1)).toList.length = O.length * 2 + 2 := by rw [Array.length_toList]; exact HZL.out
      rw [← hA1, List.length_append, List.length_take, List.length_drop, HXL.out, hz]; omega
    have HA1 := Lib.hid hA1
    obtain ⟨w5, hw5⟩ : ∃ w5, w4.setRow g A1.toArray = w5 := ⟨_, rfl⟩
    rw [hw5] at hr1
    have HG5 : Hid (w5.heap[g]? = some (.cells A1.toArray 34)) := by show _ = _; rw [← hw5]; exact setRow_heap _ _ _ _ _ _ HK4.out.2
    have HK5 : Hid (Kept [g] w4 w5) := by rw [← hw5]; exact setRow_kept _ _ _
    have HR1 := Lib.hid hr1
    clear hr1 hw5 hA1
    have HBX5 : Hid (w5.heap[w.heap.size]? = some (.cells #[.string (strL rk), .slice vu vm vc] 34)) := HK5.out.heap (by simp; have := HBG.out; omega) ((HK3.out.trans HK4.out.1).heap (by simp) HBX.out)
    have x0 : w5.cell? ⟨w.heap.size, 0, none⟩ = some (.string (strL rk)) := cell_of_row _ _ 0 _ _ _ HBX5.out
    have x1 : w5.cell? ⟨w.heap.size, 1, none⟩ = some (.slice vu vm vc) := cell_of_row _ _ 1 _ _ _ HBX5.out
    have HKW5 : Hid (Kept [] w w5) := (((HK2.out.trans HK3.out).trans HK4.out.1).into HK5.out (by simp; have := HBG.out; omega))
    have hr1 := HR1.out
    go_wp2_with fail
    clear hr1
    refine (copyRow_any rk _ rc _ (HC.out.kept HKW5.out)).mono ?_
    rintro e w6 ⟨cv, rfl, HV⟩
    have hcvs : ∃ u m c, cv = .slice u m c := by obtain ⟨u, c, rfl, _⟩ := HV.out.2.1.val; exact ⟨u, _, c, rfl⟩
    obtain ⟨cu, cm, cc, rfl⟩ := hcvs
    have HG6 : Hid (w6.heap[g]? = some (.cells A1.toArray 34)) := HV.out.2.2.heap (by simp) HG5.out
    have y0 : w6.cell? ⟨g, a * 2, none⟩ = some (A1[a * 2]'(by omega)) := by rw [cell_of_row _ _ (a * 2) _ _ _ HG6.out]; simp [show a * 2 < A1.length by omega]
    have y1 : w6.cell? ⟨g, a * 2 + 1, none⟩ = some (A1[a * 2 + 1]'(by omega)) := by rw [cell_of_row _ _ (a * 2 + 1) _ _ _ HG6.out]; simp [show a * 2 + 1 < A1.length by omega]
    obtain ⟨z0, hz0⟩ : ∃ z0, A1[a * 2]'(by omega) = z0 := ⟨_, rfl⟩
    obtain ⟨z1, hz1⟩ : ∃ z1, A1[a * 2 + 1]'(by omega) = z1 := ⟨_, rfl⟩
    rw [hz0] at y0
    rw [hz1] at y1
    clear hz0 hz1
    have f0 := frozen_of_row _ _ (a * 2) _ _ HG6.out
    have f1 := frozen_of_row _ _ (a * 2 + 1) _ _ HG6.out
    have haI : (a : Int) < (O.length : Int) + 1 := by omega
    unfold rowV
    clear x0 x1
    go_wp2_with fail
    clear y0 y1 f0 f1
    generalize hw7 : World.setCell (World.setCell w6 _ _) _ _ = w7
    obtain ⟨A2, hA2⟩ : ∃ A2 : List Value, (A1.set (a * 2) (.string (strL rk))).set (a * 2 + 1) (.slice cu cm cc) = A2 := ⟨_, rfl⟩
    have HA2l : Hid (A2.length = O.length * 2 + 2) := by show _ = _; rw [← hA2, List.length_set, List.length_set, hA1l]
    have HG7 : Hid (w7.heap[g]? = some (.cells A2.toArray 34)) := by
      show _ = _
      rw [← hw7, ← hA2]
      have := row_setCell (row_setCell HG6.out (a * 2) (.string (strL rk))) (a * 2 + 1) (.slice cu cm cc)
      rw [this]
      congr 2
      apply Array.toList_inj.1
      simp
    have HK7 : Hid (Kept [g] w6 w7) := by rw [← hw7]; exact (Kept.setCell _ _ _ _ (by simp)).trans (Kept.setCell _ _ _ _ (by simp))
    have HFIN : Hid (A2.take (2 * a + 2) ++ (rv O vs).drop (2 * a) = (rv O vs).take (2 * a) ++ [.string (strL rk), .slice cu cm cc] ++ (rv O vs).drop (2 * a)) := by
      have := set_cells (rv O vs) (zeroRows (O.length + 1)).toList a (.string (strL rk)) (.slice cu cm cc) (by rw [HXL.out]; omega) (by rw [Array.length_toList, HZL.out, HXL.out])
      rw [HA1.out, show 2 * a = a * 2 by omega, hA2] at this
      show _ = _
      rw [show 2 * a = a * 2 by omega]
      exact this
    clear hw7 hA2
    have HRES : Hid (∀ w8, Kept [g] w7.drew w8 → w8.heap[g]? = some (.cells (A2.take (2 * a + 2) ++ (rv O vs).drop (2 * a)).toArray 34) → DrSt (some w.heap.size) w (setR l (rk, rc)) (.slice (some ⟨g, 0, none⟩) (O.length + 1) (O.length + 1)) w8) := fun w8 hk8 hg8 => by
      rw [HFIN.out] at hg8
      have k28 : Kept [g] w2 w8 := (((HK3.out.trans HK4.out.1).mono (by simp)).trans HK5.out).trans (((HV.out.2.2.mono (by simp)).trans HK7.out).trans ((Kept.drew _ _).trans hk8))
      have k68 : Kept [g] w6 w8 := HK7.out.trans ((Kept.drew _ _).trans hk8)
      have hsz2 : w2.heap.size ≤ g := by rw [← HGE.out]; exact HK3.out.size
      have hsb : (w.alloc (.cells #[.string (strL rk), .slice vu vm vc] 34)).heap.size = w.heap.size + 1 := size_alloc _ _
      have hall : AllCells (some w.heap.size) w2 vs O := ⟨HALL.out.1, fun i hi hv => by
        have := HALL.out.2 i hi hv
        refine ⟨this.1, fun base e => ?_⟩
        injection e with e
        subst e
        rcases this.2 _ rfl with h | ⟨q, h1, h2, h3⟩
        · exact .inl h
        · exact .inr ⟨q, h1, by omega, h3⟩⟩
      have hoffg : ∀ x ∈ vs, OffV (some w.heap.size) [g] x := fun x hx b o n c e hn hm => by
        obtain ⟨i, hi, rfl⟩ := List.getElem_of_mem hx
        have := (hall.2 i (by rw [← hall.1]; exact hi) hi).lt b o n c e (.inr (by simp))
        simp at hm
        omega
      have hg5 := (Array.getElem?_eq_some_iff.1 HG5.out).1
      have hcoff : OffV (some w.heap.size) [g] (.slice cu cm cc) := HV.out.1.off _ _ (by simpa using hg5)
      have hcd : CellsD (some w.heap.size) w6 (.slice cu cm cc) rc := CopyOut.cells HV.out w.heap.size (by have := HBG.out; omega)
      refine ⟨?_, (HK2.out.mono (by simp)).into k28 (by simp; have := HBG.out; omega)⟩
      rw [HOE.out]
      exact set_fin (r := (rk, rc)) HA.out.symm hg8 (hall.keptX k28 hoffg) (hcd.keptX k68 hcoff) (by have := HBG.out; omega) hoffg hcoff (by omega) HKEYS.out hr
    have wq : IntKind.i64.wrap ((a : Int) + 1) = (a : Int) + 1 := by rw [IntKind.wrap_i64]; omega
    have h0a : (0 : Int) ≤ (a : Int) + 1 := by omega
    have hta : ((a : Int) + 1).toNat = a + 1 := by omega
    have haI1 : (a : Int) + 1 ≤ (O.length : Int) + 1 := by omega
    have haI2 : (a : Int) ≤ (O.length : Int) := by omega
    by_cases hlt : a < O.length
    · have hr2 := run_copy_rows (P := Tryd.prog) w7.drew 22 22 3 34 g ((a + 1) * 2) (O.length - a) (O.length - a) ⟨g2, a * 2, none⟩ (O.length - a) (cap2 - a) _ 34 ((rv O vs).drop (2 * a)) 2 (O.length - a) Tryd.underlying22 (by kernel_rfl) (show w7.drew.heap[g]? = _ from HG7.out) (by show O.length - a = min (O.length - a) (O.length - a); omega) (by rw [List.length_drop, HXL.out]; omega)
        (fun j u hu => by
          rw [Addr.add_mid]
          rw [List.getElem?_drop] at hu
          rw [show a * 2 + j = 2 * a + j by omega]
          exact HX.out _ ((((HK3.out.trans HK4.out.1).mono (by simp)).trans HK5.out).trans (((HV.out.2.2.mono (by simp)).trans HK7.out).trans (Kept.drew _ _))) _ u hu) (by rw [List.length_drop, HXL.out, List.size_toArray, HA2l.out]; omega) (fun u hu => HON.out u (List.mem_of_mem_drop hu))
      have hfa : A2.toArray.toList.take ((a + 1) * 2) ++ (rv O vs).drop (2 * a) ++ A2.toArray.toList.drop ((a + 1) * 2 + ((rv O vs).drop (2 * a)).length) = A2.take (2 * a + 2) ++ (rv O vs).drop (2 * a) := by
        rw [List.length_drop, HXL.out]
        simp only [List.drop_of_length_le (show A2.length ≤ (a + 1) * 2 + (O.length * 2 - 2 * a) by rw [HA2l.out]; omega), List.append_nil]
        rw [show (a + 1) * 2 = 2 * a + 2 by omega]
      rw [hfa] at hr2
      have HR2' := Lib.hid hr2
      have HD8 := Lib.hid (HRES.out _ (setRow_kept w7.drew g _) (setRow_heap _ _ _ _ _ _ (show w7.drew.heap[g]? = _ from HG7.out)))
      clear hr2 hfa
      have hn1 : ¬ O.length + 1 = a + 1 := by omega
      have hn0 : ¬ O.length = a := by omega
      have hn2 : ¬ cap2 = a := by omega
      have hs1 : O.length + 1 - (a + 1) = O.length - a := by omega
      refine wp_region_still_tail 7 (by kernel_rfl) (by kernel_rfl) ?_
      simp only [List.take_succ_cons, List.take_zero, List.drop_succ_cons, List.drop_zero]
      still_step
      still_step
      still_step
      still_step
      still_step
      still_step
      still_step
      refine wpStill_nil ?_
      refine wpList_copy_run rfl _ _ _ _ rfl _ _ _ rfl rfl HR2'.out ?_
      go_wp2_with fail
      go_ret
      exact ⟨_, rfl, HD8⟩
    · have hr2 : ∀ ad : Addr, ∀ m c2, m = 0 → (Builtin.copy_ #[22, 22] 3 #[.slice (some ⟨g, 0, none⟩) 0 0, .slice (some ad) m c2]).run Tryd.prog w7.drew = .ok (goInt 0) (w7.drew.setRow g (A2.take (2 * a + 2) ++ (rv O vs).drop (2 * a)).toArray) := fun ad m c2 hm => by
        subst hm
        have := run_copy_rows (P := Tryd.prog) w7.drew 22 22 3 34 g 0 0 0 ad 0 c2 _ 34 [] 2 0 Tryd.underlying22 (by kernel_rfl) (show w7.drew.heap[g]? = _ from HG7.out) (by rfl) (by simp) (fun j u hu => by simp at hu) (by simp) (by simp)
        rw [this]
        have e1 : (rv O vs).drop (2 * a) = [] := List.drop_of_length_le (by rw [HXL.out]; omega)
        have e2 : A2.take (2 * a + 2) = A2 := List.take_of_length_le (by rw [HA2l.out]; omega)
        rw [e1, e2]
        simp
      have HR2' := Lib.hid hr2
      have HD8 := Lib.hid (HRES.out _ (setRow_kept w7.drew g _) (setRow_heap _ _ _ _ _ _ (show w7.drew.heap[g]? = _ from HG7.out)))
      clear hr2
      have hn1 : O.length + 1 = a + 1 := by omega
      have HAO : Hid (O.length = a) := by show _ = _; omega
      rw [hn1] at HD8
      by_cases hcc : cap2 = a
      all_goals
        refine wp_region_still_tail 7 (by kernel_rfl) (by kernel_rfl) ?_
        simp only [List.take_succ_cons, List.take_zero, List.drop_succ_cons, List.drop_zero]
        still_step
        still_step
        still_step
        still_step
        still_step
        still_step
        still_step
        refine wpStill_nil ?_
        refine wpList_copy_run rfl _ _ _ _ rfl _ _ _ rfl rfl (HR2'.out _ _ _ (by have := HAO.out; omega)) ?_
        go_wp2_with fail
        go_ret
        exact ⟨_, rfl, HD8⟩
end Go.Proofs.YtdaofgmdledcbaaDoor

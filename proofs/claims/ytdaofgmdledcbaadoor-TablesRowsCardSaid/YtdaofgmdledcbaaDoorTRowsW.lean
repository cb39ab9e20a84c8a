/-
  Layer 5: the walk of TablesRows.
  Conditions: those that each theorem states.
-/
import Derived.Test.YtdaofgmdledcbaaDoorTSetR
import Derived.Test.YtdaofgmdledcbaaDoorTSpoil
import Derived.Test.YtdaofgmdledcbaaDoorTPrint
import Derived.Test.YtdaofgmdledcbaaDoorTSort
namespace Go.Proofs.YtdaofgmdledcbaaDoor
open Go.RowKit Go.Maps

theorem get_drop (l : List TRow) (k : List UInt8) : getO (dropR l k) k = none := by
  unfold getO
  rw [List.find?_eq_none]
  intro x hx
  have := (mem_dropR.1 hx).2
  simpa using this
theorem get_ins {r : TRow} : ∀ {o : List TRow}, (∀ y ∈ o, y.1 ≠ r.1) → getO (insR o r) r.1 = some r
  | [], _ => by rw [insR_nil]; simp [getO]
  | x :: o, h => by
    rw [insR_cons]
    split
    · simp [getO]
    · have hx := h x (by simp)
      unfold getO
      rw [List.find?_cons_of_neg (by simpa using hx)]
      exact get_ins fun y hy => h y (by simp [hy])
theorem get_set (l : List TRow) (r : TRow) : getO (setR l r) r.1 = some r := get_ins fun _ hy => (mem_dropR.1 hy).2

theorem OwnRows.spoil {b : Nat} {w : World} {v : Value} {l : List TRow} (h : OwnRows (some b) b w v l) : ∃ ao cap, v = .slice ao l.length cap ∧ SpOk b w.heap.size ao l.length w := by
  obtain ⟨⟨vs, h1, h3, h6⟩, _, _⟩ := h
  obtain ⟨h1, ⟨rfl, h2⟩ | ⟨g, cap, cur, rfl, hb, hg, hc1, hc2, hcs, htk⟩⟩ := h1
  · exact ⟨none, 0, by rw [h2], .inl h2⟩
  · refine ⟨_, _, rfl, .inr ⟨g, vs, rfl, ⟨cur, hg, by omega, fun i hi => ?_⟩, h3.1, ⟨hb, (Array.getElem?_eq_some_iff.1 hg).1⟩, fun x hx => ?_⟩⟩
    · have e := rv_get1 l vs h3.1 i hi
      rw [← htk, List.getElem?_take_of_lt (by omega)] at e
      rw [← e]
      simp [Nat.mul_comm]
    · obtain ⟨i, hi, rfl⟩ := List.getElem_of_mem hx
      have hd := h3.2 i (by rw [← h3.1]; exact hi) hi
      rcases hd.2 b rfl with ⟨e, _⟩ | ⟨q, e, hq, hqh⟩
      · exact .inl e
      · refine .inr ⟨q, _, _, e, hq, (Array.getElem?_eq_some_iff.1 hqh).1, ?_, hqh, svA_size _, ?_⟩
        · intro eq
          exact h6 _ hx q 0 _ _ e (.inr (by simp)) (by simp [Value.ownBlock, eq])
        · have := hd.1.len
          omega
theorem SpOk.keptX {lo hi n : Nat} {ao : Option Addr} {w w' : World} {ex : List Nat} (h : SpOk lo hi ao n w) (hk : Kept ex w w') (hx : ∀ q ∈ ex, q < lo ∨ hi ≤ q) : SpOk lo hi ao n w' := by
  rcases h with h | ⟨g, vs, e, h⟩
  · exact .inl h
  · refine .inr ⟨g, vs, e, ?_, h.len, h.glo, fun v hv => ?_⟩
    · obtain ⟨cur, h1, h2, h3⟩ := h.row
      have := h.glo
      exact ⟨cur, hk.heap (fun hm => by have := hx g hm; omega) h1, h2, h3⟩
    · rcases h.cells v hv with e | ⟨q, m, A, e, a1, a2, a3, a4, a5⟩
      · exact .inl e
      · exact .inr ⟨q, m, A, e, a1, a2, a3, hk.heap (fun hm => by have := hx q hm; omega) a4, a5⟩
/-- A row in a variable's block. -/
def VarRow (w : World) (b : Nat) (k : List UInt8) (v : Value) : Prop := w.heap[b]? = some (.cells #[.string (strL k), v] 34)
theorem VarRow.kept {w w' : World} {b : Nat} {k : List UInt8} {v : Value} {ex : List Nat} (h : VarRow w b k v) (hk : Kept ex w w') (hb : b ∉ ex) : VarRow w' b k v := hk.heap hb h
theorem VarRow.c0 {w : World} {b : Nat} {k : List UInt8} {v : Value} (h : VarRow w b k v) : w.cell? ⟨b, 0, none⟩ = some (.string (strL k)) := cell_of_row _ _ 0 _ _ _ h
theorem VarRow.c1 {w : World} {b : Nat} {k : List UInt8} {v : Value} (h : VarRow w b k v) : w.cell? ⟨b, 1, none⟩ = some v := cell_of_row _ _ 1 _ _ _ h
theorem VarRow.lt {w : World} {b : Nat} {k : List UInt8} {v : Value} (h : VarRow w b k v) : b < w.heap.size := (Array.getElem?_eq_some_iff.1 h).1
theorem VarRow.made (w : World) (k : List UInt8) (v : Value) : VarRow (w.alloc (.cells #[.string (strL k), v] 34)) w.heap.size k v := heap_alloc_last _ _

theorem rsameRow_self (k : List UInt8) (v1 v2 : Value) (c : List (List UInt8)) (w : World) (hc1 : CellsIs w v1 c) (hc2 : CellsIs w v2 c) :
    Calls Tryd.prog 25 #[rowV k v1, rowV k v2] w fun e w' => e = .returned (.bool true) ∧ Kept [] w w' :=
  (rsameRow_any k k v1 v2 c c w hc1 hc2).mono fun e w' ⟨h, hk⟩ => ⟨by rw [h, decide_eq_true rfl], hk⟩

set_option maxRecDepth 100000 in
set_option maxHeartbeats 8000000 in
theorem trows_walk (ao : Option Addr) (len cap : Nat) (l : List TRow) (rk : List UInt8) (rc : List (List UInt8)) (v : Value) (w : World) (hl : RowsIs w ao len l) (hlen : (len + 1) * 40 ≤ 140737488355328) (hc : CellsIs w v rc) (hr : rk.length ≤ 140737488355328) :
    Calls Tryd.prog 5 #[.slice ao len cap, rowV rk v] w fun e w' => e = .returned (.bool true) ∧ Kept [] w w' := by
  have HL := Lib.hid hl
  have HC := Lib.hid hc
  have HLL := Lib.hid hl.hlen
  have hvs : ∃ u m c, v = .slice u m c := by obtain ⟨u, c, rfl, _⟩ := hc.val; exact ⟨u, _, c, rfl⟩
  obtain ⟨vu, vm, vc, rfl⟩ := hvs
  clear hl hc
  unfold rowV
  have HK0 := Lib.hid (Kept.alloc [] w (.cells #[.string (strL rk), .slice vu vm vc] 34))
  have HB0 := Lib.hid (VarRow.made w rk (.slice vu vm vc))
  go_enter Tryd.func5, Tryd.ntmps5
  go_wp2_with fail
  refine (shown5_any _).mono ?_
  rintro e w1 ⟨rfl, hk1⟩
  have HK1 := Lib.hid (HK0.out.trans hk1)
  have HB1 := Lib.hid (HB0.out.kept hk1 (by simp))
  clear hk1 HK0 HB0
  go_wp2_with fail
  refine (lent_any ao len cap l _ (HL.out.kept HK1.out)).mono ?_
  rintro e w2 ⟨v2, rfl, HV⟩
  obtain ⟨oao, ocap, hv2, -, -, -, hrows⟩ := HV.out.1.rows
  subst hv2
  rw [HLL.out] at hrows ⊢
  have HO2 := Lib.hid hrows
  have HK2 := Lib.hid (HK1.out.trans HV.out.2)
  have HB2 := Lib.hid (HB1.out.kept HV.out.2 (by simp))
  clear hrows HV HK1 HB1
  have p0 := HB2.out.c0
  have p1 := HB2.out.c1
  go_wp2_with fail
  clear p0 p1
  obtain ⟨w2a, hw2a⟩ : ∃ w2a, w2.alloc (.cells #[.string (strL rk), .slice vu vm vc] 34) = w2a := ⟨_, rfl⟩
  rw [hw2a]
  have HK2a : Hid (Kept [] w2 w2a) := by rw [← hw2a]; exact Kept.alloc _ _ _
  have HR1 : Hid (RowsIs w2a (some ⟨w2.heap.size, 0, none⟩) 1 [(rk, rc)]) := by
    have hg : w2a.heap[w2.heap.size]? = some (.cells #[.string (strL rk), .slice vu vm vc] 34) := by rw [← hw2a]; exact heap_alloc_last _ _
    have hcc := HC.out.kept (HK2.out.trans HK2a.out)
    refine ⟨rfl, by omega, ⟨[.slice vu vm vc], AllCells.one1 (r := (rk, rc)) hcc.D, .inr ⟨_, _, rfl, (Array.getElem?_eq_some_iff.1 hg).1, fun j u hu => ?_⟩⟩, fun x hx => ?_⟩
    · rw [Nat.zero_add, cell_of_row _ _ j _ _ _ hg]
      simpa [rv] using hu
    · simp at hx
      subst hx
      exact hr
  clear hw2a
  refine (lent_any _ 1 1 [(rk, rc)] _ HR1.out).mono ?_
  rintro e w3 ⟨v3, rfl, HV3⟩
  obtain ⟨oao1, ocap1, hv3, -, -, -, hrows1⟩ := HV3.out.1.rows
  subst hv3
  have HK23 := Lib.hid (HK2a.out.trans HV3.out.2)
  obtain ⟨b3, o3, rfl, hb3, hcell3⟩ := hrows1.cell (by simp)
  obtain ⟨cv1, g0, g1, hcv1⟩ := hcell3 0 (by simp)
  simp only [List.getElem_cons_zero, Nat.zero_mul, Nat.add_zero] at g0 g1 hcv1
  have HCV1 := Lib.hid hcv1
  have hvs1 : ∃ u m c, cv1 = .slice u m c := by obtain ⟨u, c, rfl, _⟩ := hcv1.val; exact ⟨u, _, c, rfl⟩
  obtain ⟨yu, ym, yc, rfl⟩ := hvs1
  simp only [List.length_singleton]
  clear hrows1 hcell3 hcv1 HV3 HR1 HK2a
  obtain ⟨w3a, hw3a⟩ : ∃ w3a, w3.alloc (.cells #[.string (strL rk), .slice yu ym yc] 34) = w3a := ⟨_, rfl⟩
  have hk3a : Kept [] w3 w3a := by rw [← hw3a]; exact Kept.alloc _ _ _
  have HKB : Hid (Kept [] w w3a) := (HK2.out.trans HK23.out).trans hk3a
  have HT : Hid (∀ wk, Kept [] w3a wk → VarRow wk w.heap.size rk (.slice vu vm vc) ∧ VarRow wk w3.heap.size rk (.slice yu ym yc) ∧ RowsIs wk oao len l ∧ CellsIs wk (.slice yu ym yc) rc ∧ CellsIs wk (.slice vu vm vc) rc ∧ RowsIs wk ao len l) := fun wk hk =>
    ⟨((HB2.out.kept HK23.out (by simp)).kept hk3a (by simp)).kept hk (by simp), (by rw [← hw3a] at hk; exact (VarRow.made w3 rk (.slice yu ym yc)).kept hk (by simp)), ((HO2.out.kept HK23.out).kept hk3a).kept hk, (HCV1.out.kept hk3a).kept hk, HC.out.kept (HKB.out.trans hk), HL.out.kept (HKB.out.trans hk)⟩
  have p0 := (HT.out w3a (Kept.refl _ _)).1.c0
  clear hk3a HB2 HO2 HCV1 HK2 HK23
  go_wp2_with fail
  clear g0 g1 p0 hw3a
  refine (get_any oao len ocap l rk _ (HT.out w3a (Kept.refl _ _)).2.2.1).mono ?_
  rintro e w4 ⟨ka, va, ca, ba, rfl, HGA⟩
  have hvsa : ∃ u m c, va = .slice u m c := by obtain ⟨u, c, rfl, _⟩ := HGA.out.2.2.1.1.val; exact ⟨u, _, c, rfl⟩
  obtain ⟨au, am, ac, rfl⟩ := hvsa
  obtain ⟨w4a, hw4a⟩ : ∃ w4a, w4.alloc (.cells #[.string (strL ka), .slice au am ac] 34) = w4a := ⟨_, rfl⟩
  have HK4 : Hid (Kept [] w3a w4a) := HGA.out.2.2.2.1.trans (by rw [← hw4a]; exact Kept.alloc _ _ _)
  have HVA : Hid (VarRow w4a w4.heap.size ka (.slice au am ac) ∧ CellsD (some w3a.heap.size) w4a (.slice au am ac) ca) := by
    rw [← hw4a]
    exact ⟨VarRow.made _ _ _, HGA.out.2.2.1.kept (Kept.alloc _ _ _)⟩
  have HSA : Hid (w3a.heap.size ≤ w4.heap.size ∧ w4.heap.size < w4a.heap.size) := ⟨HGA.out.2.2.2.1.size, HVA.out.1.lt⟩
  have p0 := (HT.out w4a HK4.out).1.c0
  unfold rowV
  go_wp2_with fail
  clear p0 hw4a
  refine (rget_any ao len cap l rk _ (HT.out w4a HK4.out).2.2.2.2.2).mono ?_
  rintro e w5 ⟨kb, vb, cb, bb, rfl, HGB⟩
  have hvsb : ∃ u m c, vb = .slice u m c := by obtain ⟨u, c, rfl, _⟩ := HGB.out.2.2.1.1.val; exact ⟨u, _, c, rfl⟩
  obtain ⟨bu, bm, bc, rfl⟩ := hvsb
  have hsame : ba = bb ∧ (ka, ca) = (kb, cb) := by
    have h1 := HGA.out.1
    have h2 := HGB.out.1
    rw [h1] at h2
    cases ba <;> cases bb
    · obtain ⟨e1, e2⟩ := HGA.out.2.1 rfl
      obtain ⟨e3, e4⟩ := HGB.out.2.1 rfl
      rw [e1, e2, e3, e4]
      exact ⟨rfl, rfl⟩
    · simp at h2
    · simp at h2
    · simp at h2
      exact ⟨rfl, by rw [h2.1, h2.2]⟩
  obtain ⟨hbb, hrow⟩ := hsame
  subst hbb
  injection hrow with hkk hcc
  subst hkk hcc
  obtain ⟨w5a, hw5a⟩ : ∃ w5a, w5.alloc (.cells #[.string (strL ka), .slice bu bm bc] 34) = w5a := ⟨_, rfl⟩
  have hk45 : Kept [] w4a w5a := HGB.out.2.2.2.1.trans (by rw [← hw5a]; exact Kept.alloc _ _ _)
  have HK5 := Lib.hid (HK4.out.trans hk45)
  have HVA5 : Hid (VarRow w5a w4.heap.size ka (.slice au am ac) ∧ CellsD (some w3a.heap.size) w5a (.slice au am ac) ca) := ⟨HVA.out.1.kept hk45 (by simp), HVA.out.2.kept hk45⟩
  have HVB : Hid (VarRow w5a w5.heap.size ka (.slice bu bm bc) ∧ CellsIs w5a (.slice bu bm bc) ca) := by
    rw [← hw5a]
    exact ⟨VarRow.made _ _ _, HGB.out.2.2.1.1.kept (Kept.alloc _ _ _)⟩
  have HS5 : Hid (w4a.heap.size ≤ w5a.heap.size) := hk45.size
  have p0 := (HT.out w5a HK5.out).2.1.c0
  have p1 := (HT.out w5a HK5.out).2.1.c1
  clear HGA HGB HVA HK4 hk45
  unfold rowV
  go_wp2_with fail
  clear p0 p1 hw5a
  refine (set_any oao len ocap l (rk, rc) _ _ (HT.out w5a HK5.out).2.2.1 hlen (HT.out w5a HK5.out).2.2.2.1 hr).mono ?_
  rintro e w6 ⟨vx, rfl, HDX⟩
  obtain ⟨xao, xcap, hvx, hspx⟩ := HDX.out.own.spoil
  have hrx := HDX.out.own.rows
  obtain ⟨xao', xcap', hvx', -, -, -, hrowx⟩ := hrx
  rw [hvx] at hvx'
  simp only [Value.slice.injEq, true_and] at hvx'
  obtain ⟨rfl, rfl⟩ := hvx'
  subst hvx
  obtain ⟨X, hX⟩ : ∃ X, setR l (rk, rc) = X := ⟨_, rfl⟩
  rw [hX] at hspx hrowx ⊢
  have HXE := Lib.hid hX
  have HSPX := Lib.hid hspx
  have HRX := Lib.hid hrowx
  have HK56 := Lib.hid HDX.out.kept
  have hXl : X.length ≤ 140737488355328 := by have := hrowx.bytes; omega
  clear hX hspx hrowx HDX
  have HK6 := Lib.hid (HK5.out.trans HK56.out)
  have p0 := (HT.out w6 HK6.out).1.c0
  have p1 := (HT.out w6 HK6.out).1.c1
  go_wp2_with fail
  clear p0 p1
  refine (rset_any ao len cap l (rk, rc) _ _ (HT.out w6 HK6.out).2.2.2.2.2 hlen (HT.out w6 HK6.out).2.2.2.2.1 hr).mono ?_
  rintro e w7 ⟨vy, rfl, HY⟩
  obtain ⟨yao, ycap, hvy, hry, hk67⟩ := HY.out
  rw [HXE.out] at hvy hry
  subst hvy
  have HRY := Lib.hid hry
  have HK67 := Lib.hid hk67
  have HK7 := Lib.hid (HK6.out.trans hk67)
  clear hry hk67 HY
  have p0 := (HT.out w7 HK7.out).1.c0
  go_wp2_with fail
  clear p0
  refine (drop_any oao len ocap l rk _ (HT.out w7 HK7.out).2.2.1).mono ?_
  rintro e w8 ⟨vu8, rfl, HDU⟩
  obtain ⟨uao, ucap, hvu, hspu⟩ := HDU.out.own.spoil
  obtain ⟨uao', ucap', hvu', -, -, -, hrowu⟩ := HDU.out.own.rows
  rw [hvu] at hvu'
  simp only [Value.slice.injEq, true_and] at hvu'
  obtain ⟨rfl, rfl⟩ := hvu'
  subst hvu
  obtain ⟨U, hU⟩ : ∃ U, dropR l rk = U := ⟨_, rfl⟩
  rw [hU] at hspu hrowu ⊢
  have HUE := Lib.hid hU
  have HSPU := Lib.hid hspu
  have HRU := Lib.hid hrowu
  have HK78 := Lib.hid HDU.out.kept
  have hUl : U.length ≤ 140737488355328 := by have := hrowu.bytes; omega
  clear hU hspu hrowu HDU
  have HK8 := Lib.hid (HK7.out.trans HK78.out)
  have p0 := (HT.out w8 HK8.out).1.c0
  go_wp2_with fail
  clear p0
  refine (rdrop_any ao len cap l rk _ (HT.out w8 HK8.out).2.2.2.2.2).mono ?_
  rintro e w9 ⟨vv9, rfl, HDV⟩
  obtain ⟨wao, wcap, hvv, -, -, -, hrowv⟩ := HDV.out.own.rows
  subst hvv
  rw [HUE.out] at hrowv ⊢
  have HRV := Lib.hid hrowv
  have HK89 := Lib.hid HDV.out.kept
  have HK9 := Lib.hid (HK8.out.trans HK89.out)
  clear hrowv HDV
  have HK59 : Hid (Kept [] w5a w9) := ((HK56.out.trans HK67.out).trans HK78.out).trans HK89.out
  have p0 := (HVA5.out.1.kept HK59.out (by simp)).c0
  have p1 := (HVA5.out.1.kept HK59.out (by simp)).c1
  have p2 := (HVB.out.1.kept HK59.out (by simp)).c0
  have p3 := (HVB.out.1.kept HK59.out (by simp)).c1
  go_wp2_with fail
  clear p0 p1 p2 p3
  refine (rsameRow_self ka _ _ ca _ (HVA5.out.2.1.kept HK59.out) (HVB.out.2.kept HK59.out)).mono ?_
  rintro e w10 ⟨rfl, hk10⟩
  have HK910 := Lib.hid hk10
  clear hk10
  go_wp2_with fail
  refine (rsame_self xao X.length xcap X yao X.length ycap _ (HRX.out.kept (((HK67.out.trans HK78.out).trans HK89.out).trans HK910.out)) (HRY.out.kept ((HK78.out.trans HK89.out).trans HK910.out))).mono ?_
  rintro e w11 ⟨rfl, hk11⟩
  have HK911 := Lib.hid (HK910.out.trans hk11)
  clear hk11 HK910 HVB HRY
  go_wp2_with fail
  refine (rsame_self uao U.length ucap U wao U.length wcap _ (HRU.out.kept (HK89.out.trans HK911.out)) (HRV.out.kept HK911.out)).mono ?_
  rintro e w12 ⟨rfl, hk12⟩
  have HK912 := Lib.hid (HK911.out.trans hk12)
  clear hk12 HK911 HRV
  have HK12 := Lib.hid (HK9.out.trans HK912.out)
  have HK512 := Lib.hid (HK59.out.trans HK912.out)
  have p0 := (HT.out w12 HK12.out).1.c0
  have q1 : (ba != ba) = false := by simp
  have q1' : (ba == ba) = true := by simp
  go_wp2_with fail
  clear p0 q1 q1'
  refine (get_any xao X.length xcap X rk _ (HRX.out.kept (((HK67.out.trans HK78.out).trans HK89.out).trans HK912.out))).mono ?_
  rintro e w13 ⟨kc, vcx, cc, bc', rfl, HGC⟩
  have hgs : bc' = true ∧ (kc, cc) = (rk, rc) := by
    have h1 := HGC.out.1
    have h2 := get_set l (rk, rc)
    simp only [HXE.out] at h2
    rw [h1] at h2
    cases bc'
    · simp at h2
    · simpa using h2
  obtain ⟨rfl, hrow⟩ := hgs
  injection hrow with hkk hcc
  subst hkk hcc
  have hvsc : ∃ u m c, vcx = .slice u m c := by obtain ⟨u, c, rfl, _⟩ := HGC.out.2.2.1.1.val; exact ⟨u, _, c, rfl⟩
  obtain ⟨gu, gm, gc, rfl⟩ := hvsc
  obtain ⟨w13a, hw13a⟩ : ∃ w13a, w13.alloc (.cells #[.string (strL kc), .slice gu gm gc] 34) = w13a := ⟨_, rfl⟩
  have hk13 : Kept [] w12 w13a := HGC.out.2.2.2.1.trans (by rw [← hw13a]; exact Kept.alloc _ _ _)
  have HVC : Hid (VarRow w13a w13.heap.size kc (.slice gu gm gc) ∧ CellsIs w13a (.slice gu gm gc) cc) := by
    rw [← hw13a]
    exact ⟨VarRow.made _ _ _, HGC.out.2.2.1.1.kept (Kept.alloc _ _ _)⟩
  have HK13 := Lib.hid (HK12.out.trans hk13)
  have HK513 := Lib.hid (HK512.out.trans hk13)
  have HK913 := Lib.hid (HK912.out.trans hk13)
  have p0 := (HT.out w13a HK13.out).1.c0
  have p1 := (HT.out w13a HK13.out).1.c1
  have p2 := HVC.out.1.c0
  have p3 := HVC.out.1.c1
  clear HGC hk13 HK12 HK512 HK912
  unfold rowV
  go_wp2_with fail
  clear p0 p1 p2 p3 hw13a
  refine (rsameRow_self kc _ _ cc _ HVC.out.2 (HT.out w13a HK13.out).2.2.2.2.1).mono ?_
  rintro e w14 ⟨rfl, hk14⟩
  have HK14 := Lib.hid (HK13.out.trans hk14)
  have HK514 := Lib.hid (HK513.out.trans hk14)
  have HK914 := Lib.hid (HK913.out.trans hk14)
  clear hk14 HK13 HK513 HK913 HVC
  have p0 := (HT.out w14 HK14.out).1.c0
  go_wp2_with fail
  clear p0
  refine (get_any uao U.length ucap U kc _ (HRU.out.kept (HK89.out.trans HK914.out))).mono ?_
  rintro e w15 ⟨kd, vd, cd, bd, rfl, HGD⟩
  have hgd : bd = false := by
    have h1 := HGD.out.1
    rw [← HUE.out, get_drop] at h1
    cases bd
    · rfl
    · simp at h1
  subst hgd
  have hvsd : ∃ u m c, vd = .slice u m c := by obtain ⟨u, c, rfl, _⟩ := HGD.out.2.2.1.1.val; exact ⟨u, _, c, rfl⟩
  obtain ⟨du, dm, dc, rfl⟩ := hvsd
  obtain ⟨w15a, hw15a⟩ : ∃ w15a, w15.alloc (.cells #[.string (strL kd), .slice du dm dc] 34) = w15a := ⟨_, rfl⟩
  have hk15 : Kept [] w14 w15a := HGD.out.2.2.2.1.trans (by rw [← hw15a]; exact Kept.alloc _ _ _)
  have HK15 := Lib.hid (HK14.out.trans hk15)
  have HK515 := Lib.hid (HK514.out.trans hk15)
  have HK615 : Hid (Kept [] w6 w15a) := ((HK67.out.trans HK78.out).trans HK89.out).trans (HK914.out.trans hk15)
  have HK815 : Hid (Kept [] w8 w15a) := HK89.out.trans (HK914.out.trans hk15)
  clear HGD hk15 HK14 HK514 HK914
  have z56 : w5a.heap.size ≤ w6.heap.size := HK56.out.size
  have z67 : w6.heap.size ≤ w7.heap.size := HK67.out.size
  have z78 : w7.heap.size ≤ w8.heap.size := HK78.out.size
  have z35 : w3a.heap.size ≤ w5a.heap.size := HK5.out.size
  have HZ := Lib.hid (And.intro z56 (And.intro z67 (And.intro z78 z35)))
  clear z56 z67 z78 z35
  unfold rowV
  go_wp2_with fail
  clear hw15a
  refine (spoil_any w5a.heap.size w6.heap.size HZ.out.1 xao X.length xcap w15a hXl (HSPX.out.keptX HK615.out (by simp))).mono ?_
  rintro e w16 ⟨rfl, hk16⟩
  have HS16 := Lib.hid hk16
  clear hk16
  go_wp2_with fail
  refine (spoil_any w7.heap.size w8.heap.size HZ.out.2.2.1 uao U.length ucap w16 hUl ((HSPU.out.keptX HK815.out (by simp)).keptX HS16.out (fun q hq => by
    have h1 := (mem_rng HZ.out.1).1 hq
    have h2 := HZ.out.2.1
    omega))).mono ?_
  rintro e w17 ⟨rfl, hk17⟩
  have HK517 : Hid (Kept [] w5a w17) := (HK515.out.into HS16.out (fun q hq => ((mem_rng HZ.out.1).1 hq).1)).into hk17 (fun q hq => by
    have h1 := ((mem_rng HZ.out.2.2.1).1 hq).1
    have h2 := HZ.out.1
    have h3 := HZ.out.2.1
    omega)
  clear hk17 HS16 HK615 HK815 HSPX HSPU HRX HRU
  have p0 := (HVA5.out.1.kept HK517.out (by simp)).c0
  have p1 := (HVA5.out.1.kept HK517.out (by simp)).c1
  obtain ⟨w17a, hw17a⟩ : ∃ w17a, w17.alloc (.cells #[.string (strL ka), .slice au am ac] 34) = w17a := ⟨_, rfl⟩
  have hk17a : Kept [] w17 w17a := by rw [← hw17a]; exact Kept.alloc _ _ _
  have hg17 : w17a.heap[w17.heap.size]? = some (.cells #[.string (strL ka), .slice au am ac] 34) := by rw [← hw17a]; exact heap_alloc_last _ _
  have hs17 : w17a.heap.size = w17.heap.size + 1 := by rw [← hw17a, size_alloc]
  have h57 := HK517.out.size
  have h35 := HZ.out.2.2.2
  have HSPA : Hid (SpOk w3a.heap.size w17a.heap.size (some ⟨w17.heap.size, 0, none⟩) 1 w17a) := by
    refine .inr ⟨w17.heap.size, [.slice au am ac], rfl, ⟨_, hg17, by simp, fun i hi => ?_⟩, rfl, ⟨by omega, by omega⟩, fun x hx => ?_⟩
    · have e : i = 0 := by omega
      subst e
      rfl
    · simp at hx
      subst hx
      rcases HVA5.out.2.2 _ rfl with ⟨e, _⟩ | ⟨q, e, hq, hqh⟩
      · exact .inl e
      · have hqs := (Array.getElem?_eq_some_iff.1 hqh).1
        exact .inr ⟨q, _, _, e, hq, by omega, by omega, (HK517.out.trans hk17a).heap (by simp) hqh, svA_size _, by have := HVA5.out.2.1.len; omega⟩
  have HLW : Hid (w3a.heap.size ≤ w17a.heap.size) := by show _ ≤ _; omega
  have HKA17 : Hid (Kept [] w3a w17a) := (HK5.out.trans HK517.out).trans hk17a
  clear hk17a hg17 hs17 h57 h35 HK517 HVA5
  go_wp2_with fail
  clear p0 p1 hw17a
  refine (spoil_any w3a.heap.size w17a.heap.size HLW.out _ 1 1 w17a (by omega) HSPA.out).mono ?_
  rintro e w18 ⟨rfl, hk18⟩
  have HK18 : Hid (Kept [] w3a w18) := HKA17.out.into hk18 (fun q hq => ((mem_rng HLW.out).1 hq).1)
  clear hk18 HSPA HKA17 HLW
  go_wp2_with fail
  refine (rsame_self oao len ocap l ao len cap _ (HT.out w18 HK18.out).2.2.1 (HT.out w18 HK18.out).2.2.2.2.2).mono ?_
  rintro e w19 ⟨rfl, hk19⟩
  have HK19 := Lib.hid (HK18.out.trans hk19)
  clear hk19 HK18
  have p0 := (HT.out w19 HK19.out).1.c0
  have p1 := (HT.out w19 HK19.out).1.c1
  have p2 := (HT.out w19 HK19.out).2.1.c0
  have p3 := (HT.out w19 HK19.out).2.1.c1
  go_wp2_with fail
  clear p0 p1 p2 p3
  refine (rsameRow_self kc _ _ cc _ (HT.out w19 HK19.out).2.2.2.1 (HT.out w19 HK19.out).2.2.2.2.1).mono ?_
  rintro e w20 ⟨rfl, hk20⟩
  have HK20 := Lib.hid ((HKB.out.trans HK19.out).trans hk20)
  clear hk20
  go_wp2_with fail
  go_ret
  exact ⟨rfl, HK20.out⟩
end Go.Proofs.YtdaofgmdledcbaaDoor

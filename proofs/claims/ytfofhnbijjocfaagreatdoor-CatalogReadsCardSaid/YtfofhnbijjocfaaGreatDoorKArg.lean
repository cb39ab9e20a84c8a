/-
  Rows of rows as arguments, opened: []api.Row, api.Row.
  Conditions: none.
  Resources as arguments, opened: api.Resource, []api.Param, api.Param.
  Conditions: none.
  Catalogs as arguments, opened: api.Catalog, []api.Resource, []api.Edge; and a row of bytes.
  Conditions: none.
-/
import Derived.Test.YtfofhnbijjocfaaGreatDoorTSound
import Derived.Test.YtfofhnbijjocfaaGreatDoorGArg
import Derived.Deep.Slices
import Derived.SliceStrings
import Derived.SizedLaws
import Derived.OpenShut
import Derived.ChangeSame
import Derived.Deep.Fields23
import Derived.Test.YtfofhnbijjocfaaGreatDoorQVal
import Derived.Deep.Strs
import Derived.Test.YtfofhnbijjocfaaGreatDoorKMem
import Derived.Test.YtfofhnbijjocfaaGreatDoorBytesArg
namespace Go.Proofs.YtfofhnbijjocfaaGreatDoor
open Go.RowKit Go.ChangeShapes Go.WideShapes Go.Deep
set_option maxRecDepth 100000

theorem slice_cellsT {H : Type} {enc : TypeId × Value → H} {w : World} {base fuel : Nat} {sp : Nat → Bool} {held : Bool} {cs : List Value} {x : DataW H × List MemPlace} {t e : TypeId} (ht : Tryz.prog.underlying t = some (.slice e))
    (h : DataW.trod enc Tryz.prog w base sp held fuel t cs = some x) : ∃ ao len cap, cs = [.slice ao len cap] := by
  rcases open_slice ht h with ⟨hcs, _⟩ | ⟨a, len', cap', m, n, D, Pl, hcs, _⟩
  · exact ⟨_, _, _, hcs⟩
  · exact ⟨_, _, _, hcs⟩
theorem weightsAll_inT {H : Type} {P : Program} {e : TypeId} : ∀ {l : List (DataW H)} {d : DataW H}, d ∈ l → ∀ n ∈ d.weights P e, n ∈ DataW.weightsAll P e l
  | x :: l, d, hd, n, hn => by
    simp only [DataW.weightsAll, List.mem_append]
    rcases List.mem_cons.1 hd with rfl | hd
    · exact .inl hn
    · exact .inr (weightsAll_inT hd n hn)
/-- A slice of texts that came in. -/
theorem open_cells {H : Type} {enc : TypeId × Value → H} {w : World} {base fuel : Nat} {sp : Nat → Bool} {held : Bool} {v : Value} {d : DataW H} {ps : List MemPlace}
    (h : DataW.trod enc Tryz.prog w base sp held fuel 58 [v] = some (d, ps)) (hsz : ∀ n ∈ d.weights Tryz.prog 58, n ≤ reachBytes) : ∃ l : List (List UInt8), CellsIs w v l := by
  have h47 := reachBytes_lt
  rcases open_strings Tryz.underlying58 Tryz.underlying9 (by kernel_rfl) h with ⟨hcs, _⟩ | ⟨a, len, cap, ss, hcs, hcap, hl, hm, hs, hx, hcell, hwz⟩
  · simp at hcs
    subst hcs
    exact ⟨[], CellsIs.nil w⟩
  · simp at hcs
    subst hcs
    have hzl : len ≤ ss.length := by rw [hs]; split <;> omega
    have hb16 : Tryz.prog.bytesOf 9 = 16 := by kernel_rfl
    simp only [Prod.mk.injEq] at hx
    have hll : ((ss.take len).map fun s => s.data.toList).length = len := by simp; omega
    have hw : ∀ z ∈ d.weights Tryz.prog 58, z ≤ reachBytes := hsz
    rw [hx.1] at hw
    simp only [DataW.weights, Tryz.underlying58, hb16] at hw
    have hlen16 : len * 16 ≤ reachBytes := by
      have := hw _ List.mem_cons_self
      simp [strs] at this
      omega
    refine ⟨(ss.take len).map fun s => s.data.toList, ⟨⟨some a, cap, by rw [hll], by rw [hll]; exact hl, by unfold maxLen at hm; omega, fun e => (by cases e), ?_⟩, by rw [hll]; omega, ?_⟩⟩
    · rw [hll]
      by_cases h0 : len = 0
      · exact .inl h0
      · right
        have hc0 := hcell 0 (by omega)
        have hs := spot_noneT hc0 (.inl rfl)
        have hlt := World.block_lt_of_cell? w _ hc0
        obtain ⟨b, o, s⟩ := a
        simp only at hs
        subst hs
        refine ⟨b, o, rfl, by simpa [Addr.add] using hlt, fun i v hv => ?_⟩
        have hil : i < len := by
          have := (List.getElem?_eq_some_iff.1 hv).1
          simp [sv] at this; omega
        have hiz : i < ss.length := by omega
        have := hcell i hiz
        rw [Addr.add_mid] at this
        rw [this, ← hv]
        simp [sv, List.getElem?_take_of_lt hil, hiz, strL_of]
    · intro p hp
      simp only [List.mem_map] at hp
      obtain ⟨s, hs', rfl⟩ := hp
      have := hw s.data.toList.length (List.mem_cons_of_mem _ (List.mem_append.2 (.inl (weightsAll_inT (d := .lit (.string s.data.toList)) (by simp only [strs, List.mem_map]; exact ⟨s, hs', rfl⟩) _ (by simp [DataW.weights])))))
      omega
/-- A row that came in. -/
theorem open_row {H : Type} {enc : TypeId × Value → H} {w : World} {base fuel : Nat} {sp : Nat → Bool} {held : Bool} {cs : List Value} {x : DataW H × List MemPlace}
    (h : DataW.trod enc Tryz.prog w base sp held fuel 116 cs = some x) (hsz : ∀ n ∈ x.1.weights Tryz.prog 116, n ≤ reachBytes) : ∃ (k : List UInt8) (v : Value) (c : List (List UInt8)), cs = [.string (strL k), v] ∧ CellsIs w v c ∧ k.length ≤ 140737488355328 := by
  have h47 := reachBytes_lt
  obtain ⟨y0, y1, n, hx, hl, h0, h1⟩ := trod_struct2 Tryz.underlying116 h
  have ci : Tryz.prog.cellsOf 9 = 1 := by kernel_rfl
  have cl : Tryz.prog.cellsOf 58 = 1 := by kernel_rfl
  rw [show Tryz.prog.cellsOf 116 = 2 by kernel_rfl] at hl
  match cs, hl with
  | [c0, c1], _ =>
    have i0 : DataW.trod enc Tryz.prog w base sp held n 9 [c0] = some y0 := by simpa [ci, cl] using h0
    have i1 : DataW.trod enc Tryz.prog w base sp held n 58 [c1] = some (y1.1, y1.2) := by simpa [ci, cl] using h1
    obtain ⟨s, hs, hy, _⟩ := DataW.trod_string Tryz.underlying9 i0
    simp only [List.cons.injEq, and_true] at hs
    subst hs
    rw [hx] at hsz
    simp only [DataW.weights, Tryz.underlying116] at hsz
    obtain ⟨c, hc⟩ := open_cells i1 (fun z hz => hsz z (DataW.weights_mem_each (j := 1) (t := 58) (d := y1.1) rfl rfl z hz))
    refine ⟨s.data.toList, c1, c, by simp [strL_of], hc, ?_⟩
    have := hsz s.data.toList.length (DataW.weights_mem_each (j := 0) (t := 9) (d := y0.1) rfl rfl _ (by rw [hy]; simp [DataW.weights]))
    omega
end Go.Proofs.YtfofhnbijjocfaaGreatDoor

namespace Go.Proofs.YtfofhnbijjocfaaGreatDoor
open Go.RowKit Go.ChangeShapes Go.WideShapes Go.Deep
set_option maxRecDepth 100000

/-- A parameter that came in. -/
theorem open_prm {H : Type} {enc : TypeId × Value → H} {w : World} {base fuel : Nat} {sp : Nat → Bool} {held : Bool} {cs : List Value} {x : DataW H × List MemPlace}
    (h : DataW.trod enc Tryz.prog w base sp held fuel 61 cs = some x) (hsz : ∀ n ∈ x.1.weights Tryz.prog 61, n ≤ reachBytes) : ∃ p : Prm, cs = [.string (strL p.1), .string (strL p.2)] ∧ p.1.length ≤ 140737488355328 ∧ p.2.length ≤ 140737488355328 := by
  have h47 := reachBytes_lt
  obtain ⟨y0, y1, n, hx, hl, h0, h1⟩ := trod_struct2 Tryz.underlying61 h
  have ci : Tryz.prog.cellsOf 9 = 1 := by kernel_rfl
  rw [show Tryz.prog.cellsOf 61 = 2 by kernel_rfl] at hl
  match cs, hl with
  | [c0, c1], _ =>
    have i0 : DataW.trod enc Tryz.prog w base sp held n 9 [c0] = some y0 := by simpa [ci] using h0
    have i1 : DataW.trod enc Tryz.prog w base sp held n 9 [c1] = some y1 := by simpa [ci] using h1
    obtain ⟨s, hs, hy, _⟩ := DataW.trod_string Tryz.underlying9 i0
    obtain ⟨r, hr, hz, _⟩ := DataW.trod_string Tryz.underlying9 i1
    simp only [List.cons.injEq, and_true] at hs hr
    subst hs hr
    rw [hx] at hsz
    simp only [DataW.weights, Tryz.underlying61] at hsz
    have g0 := hsz s.data.toList.length (DataW.weights_mem_each (j := 0) (t := 9) (d := y0.1) rfl rfl _ (by rw [hy]; simp [DataW.weights]))
    have g1 := hsz r.data.toList.length (DataW.weights_mem_each (j := 1) (t := 9) (d := y1.1) rfl rfl _ (by rw [hz]; simp [DataW.weights]))
    exact ⟨(s.data.toList, r.data.toList), by simp [strL_of], by show s.data.toList.length ≤ _; omega, by show r.data.toList.length ≤ _; omega⟩
/-- A slice of parameters that came in. -/
theorem open_params {H : Type} {enc : TypeId × Value → H} {w : World} {base fuel : Nat} {sp : Nat → Bool} {held : Bool} {ao : Option Addr} {len cap : Nat} {d : DataW H} {ps : List MemPlace}
    (h : DataW.trod enc Tryz.prog w base sp held fuel 38 [.slice ao len cap] = some (d, ps)) (hsz : ∀ n ∈ d.weights Tryz.prog 38, n ≤ reachBytes) :
    ∃ l : List Prm, PsIs w (.slice ao len cap) l := by
  have h47 := reachBytes_lt
  rcases open_slice Tryz.underlying38 h with ⟨hcs, _⟩ | ⟨a, len', cap', m, n, D, Pl, hcs, hb, hl, hm, hmm, hx, hi⟩
  · simp at hcs
    obtain ⟨rfl, rfl, rfl⟩ := hcs
    exact ⟨[], PsIs.nil _⟩
  · simp at hcs
    obtain ⟨rfl, rfl, rfl⟩ := hcs
    have hlm : len ≤ m := by rw [hmm]; split <;> omega
    simp only [Prod.mk.injEq] at hx
    have c2 : Tryz.prog.cellsOf 61 = 2 := by kernel_rfl
    have hb32 : Tryz.prog.bytesOf 61 = 32 := by kernel_rfl
    have hw : ∀ z ∈ ((((List.range len).map D).length + ((List.range (m - len)).map fun j => D (len + j)).length) * 32 :: (DataW.weightsAll Tryz.prog 61 ((List.range len).map D) ++ DataW.weightsAll Tryz.prog 61 ((List.range (m - len)).map fun j => D (len + j)))), z ≤ reachBytes := fun z hz => hsz z (by
      rw [hx.1]
      simp only [DataW.weights, Tryz.underlying38, hb32]
      exact hz)
    have hel : ∀ i, i < len → ∃ p : Prm, p.1.length ≤ 140737488355328 ∧ p.2.length ≤ 140737488355328 ∧ w.cell? (a.add (i * 2)) = some (.string (strL p.1)) ∧ w.cell? (a.add (i * 2 + 1)) = some (.string (strL p.2)) := fun i hil => by
      obtain ⟨cs', hc, ht'⟩ := hi i (by omega)
      obtain ⟨p, rfl, hp1, hp2⟩ := open_prm ht' (fun z hz => hw z (List.mem_cons_of_mem _ (List.mem_append.2 (.inl (weightsAll_inT (d := D i) (List.mem_map.2 ⟨i, List.mem_range.2 hil, rfl⟩) _ hz)))))
      rw [c2] at hc
      obtain ⟨_, _, hat⟩ := World.cells?_some hc
      refine ⟨p, hp1, hp2, ?_, ?_⟩
      · have := hat 0 (by omega)
        simpa [Addr.add] using this
      · have := hat 1 (by omega)
        rw [Go.Deep.add_add] at this
        simpa using this
    obtain ⟨f, hf⟩ := choose_lt hel
    have hlen32 : len * 32 ≤ reachBytes := by
      have := hw _ List.mem_cons_self
      simp at this
      omega
    have hll : ((List.range len).map f).length = len := by simp
    refine ⟨(List.range len).map f, ⟨⟨some a, cap, by rw [hll], by rw [hll]; exact hl, by unfold maxLen at hm; omega, fun e => (by cases e), ?_⟩, by rw [hll]; omega, fun r hr => ?_⟩⟩
    · rw [hll]
      by_cases h0 : len = 0
      · exact .inl h0
      · right
        obtain ⟨_, _, hc0, _⟩ := hf 0 (by omega)
        have hs := spot_noneT hc0 (.inl (by omega))
        have hlt := World.block_lt_of_cell? w _ hc0
        obtain ⟨b, o, s⟩ := a
        simp only at hs
        subst hs
        refine ⟨b, o, rfl, by simpa [Addr.add] using hlt, fun j v hv => ?_⟩
        have hjl := (List.getElem?_eq_some_iff.1 hv).1
        rw [sv_length, fl_length] at hjl
        simp at hjl
        obtain ⟨_, _, e1, e2⟩ := hf (j / 2) (by omega)
        rw [Addr.add_mid] at e1 e2
        have hjr : j / 2 < ((List.range len).map f).length := by simp; omega
        rcases (by omega : j = 2 * (j / 2) ∨ j = 2 * (j / 2) + 1) with e | e
        · rw [e, sv_some _ _ _ (fl_get0 _ (j / 2) hjr)] at hv
          rw [e, Nat.mul_comm 2, e1, ← hv]
          simp
        · rw [e, sv_some _ _ _ (fl_get1 _ (j / 2) hjr)] at hv
          rw [e, Nat.mul_comm 2, e2, ← hv]
          simp
    · simp only [List.mem_map, List.mem_range] at hr
      obtain ⟨i, hi', rfl⟩ := hr
      exact ⟨(hf i hi').1, (hf i hi').2.1⟩
/-- A resource that came in. -/
theorem open_res {H : Type} {enc : TypeId × Value → H} {w : World} {base b0 : Nat} {r : Reach} {sp : Nat → Bool} {held : Bool} {v : Value} {d : DataW H} {ps : List MemPlace}
    (hv : Value.okWide Tryz.prog w r b0 40 v) (h : DataW.Trod enc Tryz.prog w base sp held 40 v d ps) (hsz : ∀ n ∈ d.weights Tryz.prog 40, n ≤ reachBytes) :
    ∃ (t ti : List UInt8) (ao : Option Addr) (len cap : Nat) (P : List Prm), v = resV t ti (.slice ao len cap) ∧ PsIs w (.slice ao len cap) P ∧ t.length ≤ 140737488355328 ∧ ti.length ≤ 140737488355328 := by
  have h47 := reachBytes_lt
  obtain ⟨cs, rfl, hcs⟩ := okWide_struct Tryz.underlying40 hv
  rw [show Tryz.prog.cellsOf 40 = 3 by kernel_rfl] at hcs
  obtain ⟨fuel, hf⟩ := h
  obtain ⟨y0, y1, y2, n, hx, hl, h0, h1, h2⟩ := trod_struct3 Tryz.underlying40 hf
  have ci : Tryz.prog.cellsOf 9 = 1 := by kernel_rfl
  have cl : Tryz.prog.cellsOf 38 = 1 := by kernel_rfl
  match cs, hcs with
  | ⟨[c0, c1, c2]⟩, _ =>
    have i0 : DataW.trod enc Tryz.prog w base sp held n 9 [c0] = some y0 := by simpa [Value.cells, ci, cl] using h0
    have i1 : DataW.trod enc Tryz.prog w base sp held n 9 [c1] = some y1 := by simpa [Value.cells, ci, cl] using h1
    have i2 : DataW.trod enc Tryz.prog w base sp held n 38 [c2] = some (y2.1, y2.2) := by simpa [Value.cells, ci, cl] using h2
    obtain ⟨s, hs, hy, _⟩ := DataW.trod_string Tryz.underlying9 i0
    obtain ⟨s2, hs2, hy2, _⟩ := DataW.trod_string Tryz.underlying9 i1
    simp only [List.cons.injEq, and_true] at hs hs2
    subst hs hs2
    simp only [Prod.mk.injEq] at hx
    rw [hx.1] at hsz
    simp only [DataW.weights, Tryz.underlying40] at hsz
    have g0 := hsz s.data.toList.length (DataW.weights_mem_each (j := 0) (t := 9) (d := y0.1) rfl rfl _ (by rw [hy]; simp [DataW.weights]))
    have g1 := hsz s2.data.toList.length (DataW.weights_mem_each (j := 1) (t := 9) (d := y1.1) rfl rfl _ (by rw [hy2]; simp [DataW.weights]))
    obtain ⟨ao, len, cap, hc2⟩ := slice_cellsT Tryz.underlying38 i2
    simp only [List.cons.injEq, and_true] at hc2
    subst hc2
    obtain ⟨P, hP⟩ := open_params i2 (fun z hz => hsz z (DataW.weights_mem_each (j := 2) (t := 38) (d := y2.1) rfl rfl z hz))
    refine ⟨s.data.toList, s2.data.toList, ao, len, cap, P, ?_, hP, by omega, by omega⟩
    simp [resV, strL_of]
end Go.Proofs.YtfofhnbijjocfaaGreatDoor

namespace Go.Proofs.YtfofhnbijjocfaaGreatDoor
open Go.RowKit Go.ChangeShapes Go.WideShapes Go.Deep
set_option maxRecDepth 100000

instance : Inhabited Res := ⟨⟨[], [], []⟩⟩
/-- A resource's cells. -/
theorem open_resc {H : Type} {enc : TypeId × Value → H} {w : World} {base fuel : Nat} {sp : Nat → Bool} {held : Bool} {cs : List Value} {x : DataW H × List MemPlace}
    (h : DataW.trod enc Tryz.prog w base sp held fuel 40 cs = some x) (hsz : ∀ n ∈ x.1.weights Tryz.prog 40, n ≤ reachBytes) :
    ∃ (r : Res) (v : Value), cs = [.string (strL r.t), .string (strL r.ti), v] ∧ PsIs w v r.P ∧ r.t.length ≤ 140737488355328 ∧ r.ti.length ≤ 140737488355328 := by
  have h47 := reachBytes_lt
  obtain ⟨y0, y1, y2, n, hx, hl, h0, h1, h2⟩ := trod_struct3 Tryz.underlying40 h
  have ci : Tryz.prog.cellsOf 9 = 1 := by kernel_rfl
  have cl : Tryz.prog.cellsOf 38 = 1 := by kernel_rfl
  rw [show Tryz.prog.cellsOf 40 = 3 by kernel_rfl] at hl
  match cs, hl with
  | [c0, c1, c2], _ =>
    have i0 : DataW.trod enc Tryz.prog w base sp held n 9 [c0] = some y0 := by simpa [ci, cl] using h0
    have i1 : DataW.trod enc Tryz.prog w base sp held n 9 [c1] = some y1 := by simpa [ci, cl] using h1
    have i2 : DataW.trod enc Tryz.prog w base sp held n 38 [c2] = some (y2.1, y2.2) := by simpa [ci, cl] using h2
    obtain ⟨s, hs, hy, _⟩ := DataW.trod_string Tryz.underlying9 i0
    obtain ⟨s2, hs2, hy2, _⟩ := DataW.trod_string Tryz.underlying9 i1
    simp only [List.cons.injEq, and_true] at hs hs2
    subst hs hs2
    rw [hx] at hsz
    simp only [DataW.weights, Tryz.underlying40] at hsz
    have g0 := hsz s.data.toList.length (DataW.weights_mem_each (j := 0) (t := 9) (d := y0.1) rfl rfl _ (by rw [hy]; simp [DataW.weights]))
    have g1 := hsz s2.data.toList.length (DataW.weights_mem_each (j := 1) (t := 9) (d := y1.1) rfl rfl _ (by rw [hy2]; simp [DataW.weights]))
    obtain ⟨ao, len, cap, hc2⟩ := slice_cellsT Tryz.underlying38 i2
    simp only [List.cons.injEq, and_true] at hc2
    subst hc2
    obtain ⟨P, hP⟩ := open_params i2 (fun z hz => hsz z (DataW.weights_mem_each (j := 2) (t := 38) (d := y2.1) rfl rfl z hz))
    exact ⟨⟨s.data.toList, s2.data.toList, P⟩, _, by simp [strL_of], hP, by show s.data.toList.length ≤ _; omega, by show s2.data.toList.length ≤ _; omega⟩
/-- A slice of resources that came in. -/
theorem open_ress {H : Type} {enc : TypeId × Value → H} {w : World} {base fuel : Nat} {sp : Nat → Bool} {held : Bool} {ao : Option Addr} {len cap : Nat} {d : DataW H} {ps : List MemPlace}
    (h : DataW.trod enc Tryz.prog w base sp held fuel 22 [.slice ao len cap] = some (d, ps)) (hsz : ∀ n ∈ d.weights Tryz.prog 22, n ≤ reachBytes) :
    ∃ l : List Res, RsIs w (.slice ao len cap) l := by
  have h47 := reachBytes_lt
  rcases open_slice Tryz.underlying22 h with ⟨hcs, _⟩ | ⟨a, len', cap', m, n, D, Pl, hcs, hb, hl, hm, hmm, hx, hi⟩
  · simp at hcs
    obtain ⟨rfl, rfl, rfl⟩ := hcs
    exact ⟨[], RsIs.nil _⟩
  · simp at hcs
    obtain ⟨rfl, rfl, rfl⟩ := hcs
    have hlm : len ≤ m := by rw [hmm]; split <;> omega
    simp only [Prod.mk.injEq] at hx
    have c3 : Tryz.prog.cellsOf 40 = 3 := by kernel_rfl
    have hb56 : Tryz.prog.bytesOf 40 = 56 := by kernel_rfl
    have hw : ∀ z ∈ ((((List.range len).map D).length + ((List.range (m - len)).map fun j => D (len + j)).length) * 56 :: (DataW.weightsAll Tryz.prog 40 ((List.range len).map D) ++ DataW.weightsAll Tryz.prog 40 ((List.range (m - len)).map fun j => D (len + j)))), z ≤ reachBytes := fun z hz => hsz z (by
      rw [hx.1]
      simp only [DataW.weights, Tryz.underlying22, hb56]
      exact hz)
    have hel : ∀ i, i < len → ∃ o : Res × Value, PsIs w o.2 o.1.P ∧ (o.1.t.length ≤ 140737488355328 ∧ o.1.ti.length ≤ 140737488355328) ∧ w.cell? (a.add (i * 3)) = some (.string (strL o.1.t)) ∧ w.cell? (a.add (i * 3 + 1)) = some (.string (strL o.1.ti)) ∧ w.cell? (a.add (i * 3 + 2)) = some o.2 := fun i hil => by
      obtain ⟨cs', hc, ht'⟩ := hi i (by omega)
      obtain ⟨r, v, rfl, hp, hr1, hr2⟩ := open_resc ht' (fun z hz => hw z (List.mem_cons_of_mem _ (List.mem_append.2 (.inl (weightsAll_inT (d := D i) (List.mem_map.2 ⟨i, List.mem_range.2 hil, rfl⟩) _ hz)))))
      rw [c3] at hc
      obtain ⟨_, _, hat⟩ := World.cells?_some hc
      refine ⟨(r, v), hp, ⟨hr1, hr2⟩, ?_, ?_, ?_⟩
      · have := hat 0 (by omega)
        simpa [Addr.add] using this
      · have := hat 1 (by omega)
        rw [Go.Deep.add_add] at this
        simpa using this
      · have := hat 2 (by omega)
        rw [Go.Deep.add_add] at this
        simpa using this
    obtain ⟨f, hf⟩ := choose_lt hel
    have hlen56 : len * 56 ≤ reachBytes := by
      have := hw _ List.mem_cons_self
      simp at this
      omega
    have hvl : ((List.range len).map fun i => (f i).2).length = ((List.range len).map fun i => (f i).1).length := by simp
    have hll : ((List.range len).map fun i => (f i).1).length = len := by simp
    refine ⟨(List.range len).map fun i => (f i).1, ⟨⟨some a, cap, (List.range len).map fun i => (f i).2, by rw [hll], by rw [hll]; exact hl, by unfold maxLen at hm; omega, fun e => (by cases e), ⟨hvl, fun i hi' hv => ?_⟩, ?_⟩, by rw [hll]; omega, fun r hr => ?_⟩⟩
    · simp at hi'
      simpa using (hf i hi').1
    · rw [hll]
      by_cases h0 : len = 0
      · exact .inl h0
      · right
        obtain ⟨_, _, hc0, _⟩ := hf 0 (by omega)
        have hs := spot_noneT hc0 (.inl (by omega))
        have hlt := World.block_lt_of_cell? w _ hc0
        obtain ⟨b, o, s⟩ := a
        simp only at hs
        subst hs
        refine ⟨b, o, rfl, by simpa [Addr.add] using hlt, fun j v hv => ?_⟩
        have hjl := (List.getElem?_eq_some_iff.1 hv).1
        rw [rcv_length _ _ hvl] at hjl
        simp at hjl
        obtain ⟨_, _, e1, e2, e3⟩ := hf (j / 3) (by omega)
        rw [Addr.add_mid] at e1 e2 e3
        rcases (by omega : j = 3 * (j / 3) ∨ j = 3 * (j / 3) + 1 ∨ j = 3 * (j / 3) + 2) with e | e | e
        · rw [e, rcv_get0 _ _ hvl (j / 3) (by simp; omega)] at hv
          rw [e, Nat.mul_comm 3, e1, ← hv]
          simp
        · rw [e, rcv_get1 _ _ hvl (j / 3) (by simp; omega)] at hv
          rw [e, Nat.mul_comm 3, e2, ← hv]
          simp
        · rw [e, rcv_get2 _ _ hvl (j / 3) (by simp; omega)] at hv
          rw [e, Nat.mul_comm 3, e3, ← hv, List.getElem?_map, List.getElem?_range (by omega)]
          rfl
    · simp only [List.mem_map, List.mem_range] at hr
      obtain ⟨i, hi', rfl⟩ := hr
      exact (hf i hi').2.1
/-- A catalog that came in. -/
theorem open_cat {H : Type} {enc : TypeId × Value → H} {w : World} {base b0 : Nat} {r : Reach} {sp : Nat → Bool} {held : Bool} {v : Value} {d : DataW H} {ps : List MemPlace}
    (hv : Value.okWide Tryz.prog w r b0 25 v) (h : DataW.Trod enc Tryz.prog w base sp held 25 v d ps) (hsz : ∀ n ∈ d.weights Tryz.prog 25, n ≤ reachBytes) : ∃ c : Cat, CatIs w v c := by
  have h47 := reachBytes_lt
  obtain ⟨cs, rfl, hcs⟩ := okWide_struct Tryz.underlying25 hv
  rw [show Tryz.prog.cellsOf 25 = 4 by kernel_rfl] at hcs
  obtain ⟨fuel, hf⟩ := h
  obtain ⟨xs, n, _, hx, hl, hlen, hfd⟩ := DataW.trod_struct Tryz.underlying25 hf
  have ci : Tryz.prog.cellsOf 9 = 1 := by kernel_rfl
  have cn : Tryz.prog.cellsOf 3 = 1 := by kernel_rfl
  have cr : Tryz.prog.cellsOf 22 = 1 := by kernel_rfl
  have ce : Tryz.prog.cellsOf 23 = 1 := by kernel_rfl
  match cs, hcs, xs, hlen with
  | ⟨[c0, c1, c2, c3]⟩, _, [y0, y1, y2, y3], _ =>
    have i0 : DataW.trod enc Tryz.prog w base sp held n 3 [c0] = some y0 := by simpa [Value.cells, ci, cn, cr, ce] using hfd 0 _ rfl
    have i1 : DataW.trod enc Tryz.prog w base sp held n 9 [c1] = some y1 := by simpa [Value.cells, ci, cn, cr, ce] using hfd 1 _ rfl
    have i2 : DataW.trod enc Tryz.prog w base sp held n 22 [c2] = some (y2.1, y2.2) := by simpa [Value.cells, ci, cn, cr, ce] using hfd 2 _ rfl
    have i3 : DataW.trod enc Tryz.prog w base sp held n 23 [c3] = some (y3.1, y3.2) := by simpa [Value.cells, ci, cn, cr, ce] using hfd 3 _ rfl
    obtain ⟨a, ha, _⟩ := DataW.trod_int Tryz.underlying3 i0
    obtain ⟨s, hs, hy, _⟩ := DataW.trod_string Tryz.underlying9 i1
    simp only [List.cons.injEq, and_true] at ha hs
    subst ha hs
    simp only [Prod.mk.injEq] at hx
    rw [hx.1] at hsz
    simp only [List.map_cons, List.map_nil, DataW.weights, Tryz.underlying25] at hsz
    have g1 := hsz s.data.toList.length (DataW.weights_mem_each (j := 1) (t := 9) (d := y1.1) rfl rfl _ (by rw [hy]; simp [DataW.weights]))
    obtain ⟨ra, rl, rc, hc2⟩ := slice_cellsT Tryz.underlying22 i2
    obtain ⟨ea, el, ec, hc3⟩ := slice_cellsT Tryz.underlying23 i3
    simp only [List.cons.injEq, and_true] at hc2 hc3
    subst hc2 hc3
    obtain ⟨R, hR⟩ := open_ress i2 (fun z hz => hsz z (DataW.weights_mem_each (j := 2) (t := 22) (d := y2.1) rfl rfl z hz))
    obtain ⟨E, hE, _⟩ := open_edges i3 (fun z hz => hsz z (DataW.weights_mem_each (j := 3) (t := 23) (d := y3.1) rfl rfl z hz))
    exact ⟨⟨a, s.data.toList, R, E⟩, ⟨_, _, by simp [catV, strL_of], hR, hE⟩, by show s.data.toList.length ≤ _; omega⟩
/-- A slice of bytes that came in: what a walk is told of it, and that memory bounds it. -/
theorem open_argK {H : Type} {enc : TypeId × Value → H} {w : World} {base fuel : Nat} {sp : Nat → Bool} {held : Bool} {ao : Option Addr} {len cap : Nat} {d : DataW H} {ps : List MemPlace}
    (h : DataW.trod enc Tryz.prog w base sp held fuel 28 [.slice ao len cap] = some (d, ps)) (hsz : ∀ n ∈ d.weights Tryz.prog 28, n ≤ reachBytes) :
    ∃ l : List UInt8, ArgB w ao len cap l ∧ len ≤ 140737488351232 := by
  have h47 : reachBytes = 140737488351232 := by kernel_rfl
  obtain ⟨l, hl1, hl2, hl3⟩ := open_bytes h
  rcases open_ints Tryz.underlying28 Tryz.underlying5 (by kernel_rfl) h with ⟨hcs, _⟩ | ⟨a, l', c', zs, hcs, _, hl, hm, hz, hx, hcell, hwz⟩
  · simp at hcs
    obtain ⟨rfl, rfl, rfl⟩ := hcs
    exact ⟨l, ⟨hl1, by omega, by omega, by omega, fun _ => rfl, hl3⟩, by omega⟩
  · simp at hcs
    obtain ⟨rfl, rfl, rfl⟩ := hcs
    have hzl : len ≤ zs.length := by rw [hz]; split <;> omega
    have hmax : cap ≤ 9223372036854775807 := by unfold maxLen at hm; omega
    simp only [Prod.mk.injEq] at hx
    have hb8 : Tryz.prog.bytesOf 5 = 1 := by kernel_rfl
    have h8 : len ≤ reachBytes := by
      have hlz : (lits (H := H) .u8 (zs.take len)).length + (lits (H := H) .u8 (zs.drop len)).length = zs.length := by simp [lits]; omega
      have := hsz (((lits (H := H) .u8 (zs.take len)).length + (lits (H := H) .u8 (zs.drop len)).length) * 1) (by
        rw [hx.1]
        simp only [DataW.weights, Tryz.underlying28, hb8]
        exact List.mem_cons_self)
      rw [hlz] at this
      omega
    exact ⟨l, ⟨hl1, by omega, hl, hmax, fun e => (by cases e), hl3⟩, by omega⟩
end Go.Proofs.YtfofhnbijjocfaaGreatDoor

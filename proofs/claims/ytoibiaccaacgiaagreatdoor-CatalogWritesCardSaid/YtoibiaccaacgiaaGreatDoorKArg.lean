/-
  Catalogs as arguments, opened: api.Catalog, []api.Resource, []api.Edge; and a row of bytes.
  Conditions: none.
-/
import Derived.Test.YtoibiaccaacgiaaGreatDoorKMem
import Derived.Test.YtoibiaccaacgiaaGreatDoorQArg
import Derived.Test.YtoibiaccaacgiaaGreatDoorBytesArg
namespace Go.Proofs.YtoibiaccaacgiaaGreatDoor
open Go.RowKit Go.ChangeShapes Go.WideShapes Go.Deep
set_option maxRecDepth 100000

instance : Inhabited Res := ⟨⟨[], [], []⟩⟩
instance : Inhabited Edg := ⟨⟨0, 0, false⟩⟩
/-- A resource's cells. -/
theorem open_resc {H : Type} {enc : TypeId × Value → H} {w : World} {base fuel : Nat} {sp : Nat → Bool} {held : Bool} {cs : List Value} {x : DataW H × List MemPlace}
    (h : DataW.trod enc Tryz.prog w base sp held fuel 40 cs = some x) (hsz : ∀ n ∈ x.1.weights Tryz.prog 40, n ≤ reachBytes) :
    ∃ (r : Res) (v : Value), cs = [.string (strL r.t), .string (strL r.ti), v] ∧ PsIs w v r.P ∧ r.t.length ≤ 140737488355328 ∧ r.ti.length ≤ 140737488355328 := by
  have h47 := reachBytes_lt
  obtain ⟨y0, y1, y2, n, hx, hl, h0, h1, h2⟩ := trod_struct3 Tryz.underlying40 h
  have ci : Tryz.prog.cellsOf 9 = 1 := by kernel_rfl
  have cl : Tryz.prog.cellsOf 38 = 1 := by kernel_rfl
  rw [show Tryz.prog.cellsOf 40 = 3 by kernel_rfl] at hl
  match cs, hl with
  | [c0, c1, c2], _ =>
    have i0 : DataW.trod enc Tryz.prog w base sp held n 9 [c0] = some y0 := by simpa [ci, cl] using h0
    have i1 : DataW.trod enc Tryz.prog w base sp held n 9 [c1] = some y1 := by simpa [ci, cl] using h1
    have i2 : DataW.trod enc Tryz.prog w base sp held n 38 [c2] = some (y2.1, y2.2) := by simpa [ci, cl] using h2
    obtain ⟨s, hs, hy, _⟩ := DataW.trod_string Tryz.underlying9 i0
    obtain ⟨s2, hs2, hy2, _⟩ := DataW.trod_string Tryz.underlying9 i1
    simp only [List.cons.injEq, and_true] at hs hs2
    subst hs hs2
    rw [hx] at hsz
    simp only [DataW.weights, Tryz.underlying40] at hsz
    have g0 := hsz s.data.toList.length (DataW.weights_mem_each (j := 0) (t := 9) (d := y0.1) rfl rfl _ (by rw [hy]; simp [DataW.weights]))
    have g1 := hsz s2.data.toList.length (DataW.weights_mem_each (j := 1) (t := 9) (d := y1.1) rfl rfl _ (by rw [hy2]; simp [DataW.weights]))
    obtain ⟨ao, len, cap, hc2⟩ := slice_cellsT Tryz.underlying38 i2
    simp only [List.cons.injEq, and_true] at hc2
    subst hc2
    obtain ⟨P, hP⟩ := open_params i2 (fun z hz => hsz z (DataW.weights_mem_each (j := 2) (t := 38) (d := y2.1) rfl rfl z hz))
    exact ⟨⟨s.data.toList, s2.data.toList, P⟩, _, by simp [strL_of], hP, by show s.data.toList.length ≤ _; omega, by show s2.data.toList.length ≤ _; omega⟩
/-- A slice of resources that came in. -/
theorem open_ress {H : Type} {enc : TypeId × Value → H} {w : World} {base fuel : Nat} {sp : Nat → Bool} {held : Bool} {ao : Option Addr} {len cap : Nat} {d : DataW H} {ps : List MemPlace}
    (h : DataW.trod enc Tryz.prog w base sp held fuel 22 [.slice ao len cap] = some (d, ps)) (hsz : ∀ n ∈ d.weights Tryz.prog 22, n ≤ reachBytes) :
    ∃ l : List Res, RsIs w (.slice ao len cap) l := by
  have h47 := reachBytes_lt
  rcases open_slice Tryz.underlying22 h with ⟨hcs, _⟩ | ⟨a, len', cap', m, n, D, Pl, hcs, hb, hl, hm, hmm, hx, hi⟩
  · simp at hcs
    obtain ⟨rfl, rfl, rfl⟩ := hcs
    exact ⟨[], RsIs.nil _⟩
  · simp at hcs
    obtain ⟨rfl, rfl, rfl⟩ := hcs
    have hlm : len ≤ m := by rw [hmm]; split <;> omega
    simp only [Prod.mk.injEq] at hx
    have c3 : Tryz.prog.cellsOf 40 = 3 := by kernel_rfl
    have hb56 : Tryz.prog.bytesOf 40 = 56 := by kernel_rfl
    have hw : ∀ z ∈ ((((List.range len).map D).length + ((List.range (m - len)).map fun j => D (len + j)).length) * 56 :: (DataW.weightsAll Tryz.prog 40 ((List.range len).map D) ++ DataW.weightsAll Tryz.prog 40 ((List.range (m - len)).map fun j => D (len + j)))), z ≤ reachBytes := fun z hz => hsz z (by
      rw [hx.1]
      simp only [DataW.weights, Tryz.underlying22, hb56]
      exact hz)
    have hel : ∀ i, i < len → ∃ o : Res × Value, PsIs w o.2 o.1.P ∧ (o.1.t.length ≤ 140737488355328 ∧ o.1.ti.length ≤ 140737488355328) ∧ w.cell? (a.add (i * 3)) = some (.string (strL o.1.t)) ∧ w.cell? (a.add (i * 3 + 1)) = some (.string (strL o.1.ti)) ∧ w.cell? (a.add (i * 3 + 2)) = some o.2 := fun i hil => by
      obtain ⟨cs', hc, ht'⟩ := hi i (by omega)
      obtain ⟨r, v, rfl, hp, hr1, hr2⟩ := open_resc ht' (fun z hz => hw z (List.mem_cons_of_mem _ (List.mem_append.2 (.inl (weightsAll_inT (d := D i) (List.mem_map.2 ⟨i, List.mem_range.2 hil, rfl⟩) _ hz)))))
      rw [c3] at hc
      obtain ⟨_, _, hat⟩ := World.cells?_some hc
      refine ⟨(r, v), hp, ⟨hr1, hr2⟩, ?_, ?_, ?_⟩
      · have := hat 0 (by omega)
        simpa [Addr.add] using this
      · have := hat 1 (by omega)
        rw [Go.Deep.add_add] at this
        simpa using this
      · have := hat 2 (by omega)
        rw [Go.Deep.add_add] at this
        simpa using this
    obtain ⟨f, hf⟩ := choose_lt hel
    have hlen56 : len * 56 ≤ reachBytes := by
      have := hw _ List.mem_cons_self
      simp at this
      omega
    have hvl : ((List.range len).map fun i => (f i).2).length = ((List.range len).map fun i => (f i).1).length := by simp
    have hll : ((List.range len).map fun i => (f i).1).length = len := by simp
    refine ⟨(List.range len).map fun i => (f i).1, ⟨⟨some a, cap, (List.range len).map fun i => (f i).2, by rw [hll], by rw [hll]; exact hl, by unfold maxLen at hm; omega, fun e => (by cases e), ⟨hvl, fun i hi' hv => ?_⟩, ?_⟩, by rw [hll]; omega, fun r hr => ?_⟩⟩
    · simp at hi'
      simpa using (hf i hi').1
    · rw [hll]
      by_cases h0 : len = 0
      · exact .inl h0
      · right
        obtain ⟨_, _, hc0, _⟩ := hf 0 (by omega)
        have hs := spot_noneT hc0 (.inl (by omega))
        have hlt := World.block_lt_of_cell? w _ hc0
        obtain ⟨b, o, s⟩ := a
        simp only at hs
        subst hs
        refine ⟨b, o, rfl, by simpa [Addr.add] using hlt, fun j v hv => ?_⟩
        have hjl := (List.getElem?_eq_some_iff.1 hv).1
        rw [rcv_length _ _ hvl] at hjl
        simp at hjl
        obtain ⟨_, _, e1, e2, e3⟩ := hf (j / 3) (by omega)
        rw [Addr.add_mid] at e1 e2 e3
        rcases (by omega : j = 3 * (j / 3) ∨ j = 3 * (j / 3) + 1 ∨ j = 3 * (j / 3) + 2) with e | e | e
        · rw [e, rcv_get0 _ _ hvl (j / 3) (by simp; omega)] at hv
          rw [e, Nat.mul_comm 3, e1, ← hv]
          simp
        · rw [e, rcv_get1 _ _ hvl (j / 3) (by simp; omega)] at hv
          rw [e, Nat.mul_comm 3, e2, ← hv]
          simp
        · rw [e, rcv_get2 _ _ hvl (j / 3) (by simp; omega)] at hv
          rw [e, Nat.mul_comm 3, e3, ← hv, List.getElem?_map, List.getElem?_range (by omega)]
          rfl
    · simp only [List.mem_map, List.mem_range] at hr
      obtain ⟨i, hi', rfl⟩ := hr
      exact (hf i hi').2.1
/-- An edge's cells. -/
theorem open_edgc {H : Type} {enc : TypeId × Value → H} {w : World} {base fuel : Nat} {sp : Nat → Bool} {held : Bool} {cs : List Value} {x : DataW H × List MemPlace}
    (h : DataW.trod enc Tryz.prog w base sp held fuel 44 cs = some x) : ∃ e : Edg, cs = [.int .i64 e.fr, .int .i64 e.tw, .bool e.nt] := by
  obtain ⟨y0, y1, y2, n, hx, hl, h0, h1, h2⟩ := trod_struct3 Tryz.underlying44 h
  have ci : Tryz.prog.cellsOf 3 = 1 := by kernel_rfl
  have cb : Tryz.prog.cellsOf 4 = 1 := by kernel_rfl
  rw [show Tryz.prog.cellsOf 44 = 3 by kernel_rfl] at hl
  match cs, hl with
  | [c0, c1, c2], _ =>
    have i0 : DataW.trod enc Tryz.prog w base sp held n 3 [c0] = some y0 := by simpa [ci, cb] using h0
    have i1 : DataW.trod enc Tryz.prog w base sp held n 3 [c1] = some y1 := by simpa [ci, cb] using h1
    have i2 : DataW.trod enc Tryz.prog w base sp held n 4 [c2] = some y2 := by simpa [ci, cb] using h2
    obtain ⟨a, ha, _⟩ := DataW.trod_int Tryz.underlying3 i0
    obtain ⟨b, hb, _⟩ := DataW.trod_int Tryz.underlying3 i1
    obtain ⟨c, hc, _⟩ := DataW.trod_bool Tryz.underlying4 i2
    simp only [List.cons.injEq, and_true] at ha hb hc
    exact ⟨⟨a, b, c⟩, by rw [ha, hb, hc]⟩
/-- A slice of edges that came in. -/
theorem open_edges {H : Type} {enc : TypeId × Value → H} {w : World} {base fuel : Nat} {sp : Nat → Bool} {held : Bool} {ao : Option Addr} {len cap : Nat} {d : DataW H} {ps : List MemPlace}
    (h : DataW.trod enc Tryz.prog w base sp held fuel 23 [.slice ao len cap] = some (d, ps)) (hsz : ∀ n ∈ d.weights Tryz.prog 23, n ≤ reachBytes) :
    ∃ l : List Edg, EsIs w (.slice ao len cap) l := by
  have h47 := reachBytes_lt
  rcases open_slice Tryz.underlying23 h with ⟨hcs, _⟩ | ⟨a, len', cap', m, n, D, Pl, hcs, hb, hl, hm, hmm, hx, hi⟩
  · simp at hcs
    obtain ⟨rfl, rfl, rfl⟩ := hcs
    exact ⟨[], EsIs.nil _⟩
  · simp at hcs
    obtain ⟨rfl, rfl, rfl⟩ := hcs
    have hlm : len ≤ m := by rw [hmm]; split <;> omega
    simp only [Prod.mk.injEq] at hx
    have c3 : Tryz.prog.cellsOf 44 = 3 := by kernel_rfl
    have hb24 : Tryz.prog.bytesOf 44 = 24 := by kernel_rfl
    have hel : ∀ i, i < len → ∃ o : Edg, w.cell? (a.add (i * 3)) = some (.int .i64 o.fr) ∧ w.cell? (a.add (i * 3 + 1)) = some (.int .i64 o.tw) ∧ w.cell? (a.add (i * 3 + 2)) = some (.bool o.nt) := fun i hil => by
      obtain ⟨cs', hc, ht'⟩ := hi i (by omega)
      obtain ⟨e, rfl⟩ := open_edgc ht'
      rw [c3] at hc
      obtain ⟨_, _, hat⟩ := World.cells?_some hc
      refine ⟨e, ?_, ?_, ?_⟩
      · have := hat 0 (by omega)
        simpa [Addr.add] using this
      · have := hat 1 (by omega)
        rw [Go.Deep.add_add] at this
        simpa using this
      · have := hat 2 (by omega)
        rw [Go.Deep.add_add] at this
        simpa using this
    obtain ⟨f, hf⟩ := choose_lt hel
    have hlen24 : len * 24 ≤ reachBytes := by
      have := hsz ((((List.range len).map D).length + ((List.range (m - len)).map fun j => D (len + j)).length) * 24) (by
        rw [hx.1]
        simp only [DataW.weights, Tryz.underlying23, hb24]
        exact List.mem_cons_self)
      simp at this
      omega
    have hll : ((List.range len).map f).length = len := by simp
    refine ⟨(List.range len).map f, ⟨⟨some a, cap, by rw [hll], by rw [hll]; exact hl, by unfold maxLen at hm; omega, fun e => (by cases e), ?_⟩, by rw [hll]; omega⟩⟩
    rw [hll]
    by_cases h0 : len = 0
    · exact .inl h0
    · right
      obtain ⟨hc0, _⟩ := hf 0 (by omega)
      have hs := spot_noneT hc0 (.inl (by omega))
      have hlt := World.block_lt_of_cell? w _ hc0
      obtain ⟨b, o, s⟩ := a
      simp only at hs
      subst hs
      refine ⟨b, o, rfl, by simpa [Addr.add] using hlt, fun j v hv => ?_⟩
      have hjl := (List.getElem?_eq_some_iff.1 hv).1
      rw [ecv_length] at hjl
      simp at hjl
      obtain ⟨e1, e2, e3⟩ := hf (j / 3) (by omega)
      rw [Addr.add_mid] at e1 e2 e3
      have hjr : j / 3 < ((List.range len).map f).length := by simp; omega
      obtain ⟨g0, g1, g2⟩ := ecv_get ((List.range len).map f) (j / 3) hjr
      rcases (by omega : j = 3 * (j / 3) ∨ j = 3 * (j / 3) + 1 ∨ j = 3 * (j / 3) + 2) with e | e | e
      · rw [e, g0] at hv
        rw [e, Nat.mul_comm 3, e1, ← hv]
        simp
      · rw [e, g1] at hv
        rw [e, Nat.mul_comm 3, e2, ← hv]
        simp
      · rw [e, g2] at hv
        rw [e, Nat.mul_comm 3, e3, ← hv]
        simp
/-- A catalog that came in. -/
theorem open_cat {H : Type} {enc : TypeId × Value → H} {w : World} {base b0 : Nat} {r : Reach} {sp : Nat → Bool} {held : Bool} {v : Value} {d : DataW H} {ps : List MemPlace}
    (hv : Value.okWide Tryz.prog w r b0 25 v) (h : DataW.Trod enc Tryz.prog w base sp held 25 v d ps) (hsz : ∀ n ∈ d.weights Tryz.prog 25, n ≤ reachBytes) : ∃ c : Cat, CatIs w v c := by
  have h47 := reachBytes_lt
  obtain ⟨cs, rfl, hcs⟩ := okWide_struct Tryz.underlying25 hv
  rw [show Tryz.prog.cellsOf 25 = 4 by kernel_rfl] at hcs
  obtain ⟨fuel, hf⟩ := h
  obtain ⟨xs, n, _, hx, hl, hlen, hfd⟩ := DataW.trod_struct Tryz.underlying25 hf
  have ci : Tryz.prog.cellsOf 9 = 1 := by kernel_rfl
  have cn : Tryz.prog.cellsOf 3 = 1 := by kernel_rfl
  have cr : Tryz.prog.cellsOf 22 = 1 := by kernel_rfl
  have ce : Tryz.prog.cellsOf 23 = 1 := by kernel_rfl
  match cs, hcs, xs, hlen with
  | ⟨[c0, c1, c2, c3]⟩, _, [y0, y1, y2, y3], _ =>
    have i0 : DataW.trod enc Tryz.prog w base sp held n 3 [c0] = some y0 := by simpa [Value.cells, ci, cn, cr, ce] using hfd 0 _ rfl
    have i1 : DataW.trod enc Tryz.prog w base sp held n 9 [c1] = some y1 := by simpa [Value.cells, ci, cn, cr, ce] using hfd 1 _ rfl
    have i2 : DataW.trod enc Tryz.prog w base sp held n 22 [c2] = some (y2.1, y2.2) := by simpa [Value.cells, ci, cn, cr, ce] using hfd 2 _ rfl
    have i3 : DataW.trod enc Tryz.prog w base sp held n 23 [c3] = some (y3.1, y3.2) := by simpa [Value.cells, ci, cn, cr, ce] using hfd 3 _ rfl
    obtain ⟨a, ha, _⟩ := DataW.trod_int Tryz.underlying3 i0
    obtain ⟨s, hs, hy, _⟩ := DataW.trod_string Tryz.underlying9 i1
    simp only [List.cons.injEq, and_true] at ha hs
    subst ha hs
    simp only [Prod.mk.injEq] at hx
    rw [hx.1] at hsz
    simp only [List.map_cons, List.map_nil, DataW.weights, Tryz.underlying25] at hsz
    have g1 := hsz s.data.toList.length (DataW.weights_mem_each (j := 1) (t := 9) (d := y1.1) rfl rfl _ (by rw [hy]; simp [DataW.weights]))
    obtain ⟨ra, rl, rc, hc2⟩ := slice_cellsT Tryz.underlying22 i2
    obtain ⟨ea, el, ec, hc3⟩ := slice_cellsT Tryz.underlying23 i3
    simp only [List.cons.injEq, and_true] at hc2 hc3
    subst hc2 hc3
    obtain ⟨R, hR⟩ := open_ress i2 (fun z hz => hsz z (DataW.weights_mem_each (j := 2) (t := 22) (d := y2.1) rfl rfl z hz))
    obtain ⟨E, hE⟩ := open_edges i3 (fun z hz => hsz z (DataW.weights_mem_each (j := 3) (t := 23) (d := y3.1) rfl rfl z hz))
    exact ⟨⟨a, s.data.toList, R, E⟩, ⟨_, _, by simp [catV, strL_of], hR, hE⟩, by show s.data.toList.length ≤ _; omega⟩
/-- A slice of bytes that came in: what a walk is told of it, and that memory bounds it. -/
theorem open_argK {H : Type} {enc : TypeId × Value → H} {w : World} {base fuel : Nat} {sp : Nat → Bool} {held : Bool} {ao : Option Addr} {len cap : Nat} {d : DataW H} {ps : List MemPlace}
    (h : DataW.trod enc Tryz.prog w base sp held fuel 28 [.slice ao len cap] = some (d, ps)) (hsz : ∀ n ∈ d.weights Tryz.prog 28, n ≤ reachBytes) :
    ∃ l : List UInt8, ArgB w ao len cap l ∧ len ≤ 140737488351232 := by
  have h47 : reachBytes = 140737488351232 := by kernel_rfl
  obtain ⟨l, hl1, hl2, hl3⟩ := open_bytes h
  rcases open_ints Tryz.underlying28 Tryz.underlying5 (by kernel_rfl) h with ⟨hcs, _⟩ | ⟨a, l', c', zs, hcs, _, hl, hm, hz, hx, hcell, hwz⟩
  · simp at hcs
    obtain ⟨rfl, rfl, rfl⟩ := hcs
    exact ⟨l, ⟨hl1, by omega, by omega, by omega, fun _ => rfl, hl3⟩, by omega⟩
  · simp at hcs
    obtain ⟨rfl, rfl, rfl⟩ := hcs
    have hzl : len ≤ zs.length := by rw [hz]; split <;> omega
    have hmax : cap ≤ 9223372036854775807 := by unfold maxLen at hm; omega
    simp only [Prod.mk.injEq] at hx
    have hb8 : Tryz.prog.bytesOf 5 = 1 := by kernel_rfl
    have h8 : len ≤ reachBytes := by
      have hlz : (lits (H := H) .u8 (zs.take len)).length + (lits (H := H) .u8 (zs.drop len)).length = zs.length := by simp [lits]; omega
      have := hsz (((lits (H := H) .u8 (zs.take len)).length + (lits (H := H) .u8 (zs.drop len)).length) * 1) (by
        rw [hx.1]
        simp only [DataW.weights, Tryz.underlying28, hb8]
        exact List.mem_cons_self)
      rw [hlz] at this
      omega
    exact ⟨l, ⟨hl1, by omega, hl, hmax, fun e => (by cases e), hl3⟩, by omega⟩
end Go.Proofs.YtoibiaccaacgiaaGreatDoor

/-
  Layer 4's arguments, opened: []api.Edit, [][]byte, []string, []int, []byte.
  Conditions: none.
  Layer 4: at: a path is resolved; two results in variables of their own.
  Conditions: those that each theorem states.
-/
import Derived.Test.YtiedoocgbajjjaaGreatDoorFDo
import Derived.Test.YtiedoocgbajjjaaGreatDoorOrder
import Derived.Deep.Slices
import Derived.SliceStrings
import Derived.SizedLaws
import Derived.OpenShut
import Derived.ChangeSame
import Derived.Deep.Fields23
import Derived.Deep.Strs
namespace Go.Proofs.YtiedoocgbajjjaaGreatDoor
open Go.RowKit Go.ChangeShapes Go.WideShapes Go.Deep
set_option maxRecDepth 100000

theorem spot_noneF {w : World} {a : Addr} {i : Nat} {v : Value} (hc : w.cell? (a.add i) = some v) (hi : i = 0 ∨ a.spot = none) : a.spot = none := by
  rcases hi with rfl | h
  · simp only [Addr.add, if_true] at hc
    unfold World.cell? at hc
    split at hc
    · split at hc
      · cases hc
      · rename_i hh
        simpa using hh
    · cases hc
  · exact h
theorem slice_cellsF {H : Type} {enc : TypeId × Value → H} {w : World} {base fuel : Nat} {sp : Nat → Bool} {held : Bool} {cs : List Value} {x : DataW H × List MemPlace} {t e : TypeId} (ht : Tryz.prog.underlying t = some (.slice e))
    (h : DataW.trod enc Tryz.prog w base sp held fuel t cs = some x) : ∃ ao len cap, cs = [.slice ao len cap] := by
  rcases open_slice ht h with ⟨hcs, _⟩ | ⟨a, len', cap', m, n, D, Pl, hcs, _⟩
  · exact ⟨_, _, _, hcs⟩
  · exact ⟨_, _, _, hcs⟩
theorem weightsAll_inF {H : Type} {P : Program} {e : TypeId} : ∀ {l : List (DataW H)} {d : DataW H}, d ∈ l → ∀ n ∈ d.weights P e, n ∈ DataW.weightsAll P e l
  | x :: l, d, hd, n, hn => by
    simp only [DataW.weightsAll, List.mem_append]
    rcases List.mem_cons.1 hd with rfl | hd
    · exact .inl hn
    · exact .inr (weightsAll_inF hd n hn)
/-- A slice of bytes that came in. -/
theorem open_argF {H : Type} {enc : TypeId × Value → H} {w : World} {base fuel : Nat} {sp : Nat → Bool} {held : Bool} {ao : Option Addr} {len cap : Nat} {d : DataW H} {ps : List MemPlace}
    (h : DataW.trod enc Tryz.prog w base sp held fuel 22 [.slice ao len cap] = some (d, ps)) (hsz : ∀ n ∈ d.weights Tryz.prog 22, n ≤ reachBytes) :
    ∃ l : List UInt8, ArgB w ao len cap l ∧ len ≤ 140737488351232 := by
  have h47 : reachBytes = 140737488351232 := by kernel_rfl
  obtain ⟨l, hl1, hl2, hl3⟩ := open_bytes h
  rcases open_ints Tryz.underlying22 Tryz.underlying5 (by kernel_rfl) h with ⟨hcs, _⟩ | ⟨a, l', c', zs, hcs, _, hl, hm, hz, hx, hcell, hwz⟩
  · simp at hcs
    obtain ⟨rfl, rfl, rfl⟩ := hcs
    exact ⟨l, ⟨hl1, by omega, by omega, by omega, fun _ => rfl, hl3⟩, by omega⟩
  · simp at hcs
    obtain ⟨rfl, rfl, rfl⟩ := hcs
    have hzl : len ≤ zs.length := by rw [hz]; split <;> omega
    have hmax : cap ≤ 9223372036854775807 := by unfold maxLen at hm; omega
    simp only [Prod.mk.injEq] at hx
    have hb8 : Tryz.prog.bytesOf 5 = 1 := by kernel_rfl
    have h8 : len ≤ reachBytes := by
      have hlz : (lits (H := H) .u8 (zs.take len)).length + (lits (H := H) .u8 (zs.drop len)).length = zs.length := by simp [lits]; omega
      have := hsz (((lits (H := H) .u8 (zs.take len)).length + (lits (H := H) .u8 (zs.drop len)).length) * 1) (by
        rw [hx.1]
        simp only [DataW.weights, Tryz.underlying22, hb8]
        exact List.mem_cons_self)
      rw [hlz] at this
      omega
    exact ⟨l, ⟨hl1, by omega, hl, hmax, fun e => (by cases e), hl3⟩, by omega⟩

/-- An edit that came in. -/
theorem open_editc {H : Type} {enc : TypeId × Value → H} {w : World} {base fuel : Nat} {sp : Nat → Bool} {held : Bool} {cs : List Value} {d : DataW H} {ps : List MemPlace}
    (h : DataW.trod enc Tryz.prog w base sp held fuel 35 cs = some (d, ps)) (hsz : ∀ n ∈ d.weights Tryz.prog 35, n ≤ reachBytes) :
    ∃ o : EdH × EdP, cs = [.int .i64 o.1.kind, .string (strL o.1.path), .int .i64 o.1.mode, .slice o.1.ao o.1.len o.1.cap] ∧ EdOk w o.1 o.2 ∧ o.1.path.length ≤ 140737488355328 := by
  have h47 := reachBytes_lt
  obtain ⟨xs, n, _, hx, hl0, hlen, hfd⟩ := DataW.trod_struct Tryz.underlying35 h
  have hl : cs.length = 4 := by rw [hl0]; kernel_rfl
  have hy : xs.length = 4 := hlen
  have ci : Tryz.prog.cellsOf 3 = 1 := by kernel_rfl
  have cs' : Tryz.prog.cellsOf 9 = 1 := by kernel_rfl
  have cb : Tryz.prog.cellsOf 22 = 1 := by kernel_rfl
  match cs, hl, xs, hy with
  | [c0, c1, c2, c3], _, [y0, y1, y2, y3], _ =>
    have i0 : DataW.trod enc Tryz.prog w base sp held n 3 [c0] = some y0 := by simpa [ci, cs', cb] using hfd 0 _ rfl
    have i1 : DataW.trod enc Tryz.prog w base sp held n 9 [c1] = some y1 := by simpa [ci, cs', cb] using hfd 1 _ rfl
    have i2 : DataW.trod enc Tryz.prog w base sp held n 3 [c2] = some y2 := by simpa [ci, cs', cb] using hfd 2 _ rfl
    have i3 : DataW.trod enc Tryz.prog w base sp held n 22 [c3] = some (y3.1, y3.2) := by simpa [ci, cs', cb] using hfd 3 _ rfl
    obtain ⟨a, ha, _⟩ := DataW.trod_int Tryz.underlying3 i0
    obtain ⟨s, hs, hy1, _⟩ := DataW.trod_string Tryz.underlying9 i1
    obtain ⟨b, hb, _⟩ := DataW.trod_int Tryz.underlying3 i2
    simp only [List.cons.injEq, and_true] at ha hs hb
    subst ha hs hb
    obtain ⟨ao, len, cap, hc3⟩ := slice_cellsF Tryz.underlying22 i3
    simp only [List.cons.injEq, and_true] at hc3
    subst hc3
    simp only [Prod.mk.injEq] at hx
    rw [hx.1] at hsz
    simp only [List.map_cons, List.map_nil, DataW.weights, Tryz.underlying35] at hsz
    have g1 := hsz s.data.toList.length (DataW.weights_mem_each (j := 1) (t := 9) (d := y1.1) rfl rfl _ (by rw [hy1]; simp [DataW.weights]))
    obtain ⟨L, hL, _⟩ := open_argF i3 (fun z hz => hsz z (DataW.weights_mem_each (j := 3) (t := 22) (d := y3.1) rfl rfl z hz))
    exact ⟨(⟨a, s.data.toList, b, ao, len, cap⟩, ⟨a, b, s.data.toList, L⟩), by simp [strL_of], ⟨rfl, rfl, rfl, hL, by show s.data.toList.length ≤ _; omega⟩, by show s.data.toList.length ≤ _; omega⟩

/-- Edits that came in. -/
structure EdsIn (w : World) (ao : Option Addr) (len cap : Nat) (H : List EdH) (P : List EdP) : Prop where
  arg : EdArg w ao len H P
  short : ∀ p ∈ P, p.path.length ≤ 140737488355328
  caps : len ≤ cap ∧ cap ≤ 9223372036854775807 ∧ (ao = none → cap = 0)
theorem open_edits {H : Type} {enc : TypeId × Value → H} {w : World} {base fuel : Nat} {sp : Nat → Bool} {held : Bool} {ao : Option Addr} {len cap : Nat} {d : DataW H} {ps : List MemPlace}
    (h : DataW.trod enc Tryz.prog w base sp held fuel 36 [.slice ao len cap] = some (d, ps)) (hsz : ∀ n ∈ d.weights Tryz.prog 36, n ≤ reachBytes) :
    ∃ H P, EdsIn w ao len cap H P := by
  have h47 := reachBytes_lt
  rcases open_slice Tryz.underlying36 h with ⟨hcs, _⟩ | ⟨a, len', cap', m, n, D, Pl, hcs, hb, hl, hm, hmm, hx, hi⟩
  · simp at hcs
    obtain ⟨rfl, rfl, rfl⟩ := hcs
    exact ⟨[], [], ⟨⟨rfl, .inl rfl⟩, rfl, fun k hk => (by cases hk), by omega⟩, fun p hp => (by cases hp), by omega, by omega, fun _ => rfl⟩
  · simp at hcs
    obtain ⟨rfl, rfl, rfl⟩ := hcs
    have hlm : len ≤ m := by rw [hmm]; split <;> omega
    simp only [Prod.mk.injEq] at hx
    have c4 : Tryz.prog.cellsOf 35 = 4 := by kernel_rfl
    have hb56 : Tryz.prog.bytesOf 35 = 56 := by kernel_rfl
    have hw : ∀ z ∈ ((((List.range len).map D).length + ((List.range (m - len)).map fun j => D (len + j)).length) * 56 :: (DataW.weightsAll Tryz.prog 35 ((List.range len).map D) ++ DataW.weightsAll Tryz.prog 35 ((List.range (m - len)).map fun j => D (len + j)))), z ≤ reachBytes := fun z hz => hsz z (by
      rw [hx.1]
      simp only [DataW.weights, Tryz.underlying36, hb56]
      exact hz)
    have hel : ∀ i, i < len → ∃ o : EdH × EdP, (EdOk w o.1 o.2 ∧ o.1.path.length ≤ 140737488355328) ∧ w.cell? (a.add (i * 4)) = some (.int .i64 o.1.kind) ∧ w.cell? (a.add (i * 4 + 1)) = some (.string (strL o.1.path)) ∧ w.cell? (a.add (i * 4 + 2)) = some (.int .i64 o.1.mode) ∧ w.cell? (a.add (i * 4 + 3)) = some (.slice o.1.ao o.1.len o.1.cap) := fun i hil => by
      obtain ⟨cs', hc, ht'⟩ := hi i (by omega)
      obtain ⟨o, rfl, ho⟩ := open_editc ht' (fun z hz => hw z (List.mem_cons_of_mem _ (List.mem_append.2 (.inl (weightsAll_inF (d := D i) (List.mem_map.2 ⟨i, List.mem_range.2 hil, rfl⟩) _ hz)))))
      rw [c4] at hc
      obtain ⟨_, _, hat⟩ := World.cells?_some hc
      refine ⟨o, ho, ?_, ?_, ?_, ?_⟩
      · have := hat 0 (by omega)
        simpa [Addr.add] using this
      · have := hat 1 (by omega)
        rw [Go.Deep.add_add] at this
        simpa using this
      · have := hat 2 (by omega)
        rw [Go.Deep.add_add] at this
        simpa using this
      · have := hat 3 (by omega)
        rw [Go.Deep.add_add] at this
        simpa using this
    have : Inhabited (EdH × EdP) := ⟨⟨⟨0, [], 0, none, 0, 0⟩, ⟨0, 0, [], []⟩⟩⟩
    obtain ⟨f, hf⟩ := choose_lt hel
    have hlen56 : len * 56 ≤ reachBytes := by
      have := hw _ List.mem_cons_self
      simp at this
      omega
    refine ⟨(List.range len).map fun i => (f i).1, (List.range len).map fun i => (f i).2, ⟨⟨by simp, ?_⟩, by simp, fun k hk hp => ?_, by omega⟩, fun p hp => ?_, hl, by unfold maxLen at hm; omega, fun e => (by cases e)⟩
    · by_cases h0 : len = 0
      · exact .inl h0
      · right
        obtain ⟨_, hc0, _⟩ := hf 0 (by omega)
        have hs := spot_noneF hc0 (.inl (by omega))
        have hlt := World.block_lt_of_cell? w _ hc0
        obtain ⟨b, o, s⟩ := a
        simp only at hs
        subst hs
        refine ⟨b, o, rfl, by simpa [Addr.add] using hlt, fun k hk => ?_⟩
        simp at hk
        obtain ⟨_, e0, e1, e2, e3⟩ := hf k hk
        rw [Addr.add_mid] at e0 e1 e2 e3
        simp only [List.getElem_map, List.getElem_range]
        exact ⟨e0, by rw [Nat.add_assoc]; exact e1, by rw [Nat.add_assoc]; exact e2, by rw [Nat.add_assoc]; exact e3⟩
    · simp at hk
      simp only [List.getElem_map, List.getElem_range]
      exact (hf k hk).1.1
    · simp only [List.mem_map, List.mem_range] at hp
      obtain ⟨i, hi', rfl⟩ := hp
      have h1 := (hf i hi').1
      rw [h1.1.path]
      exact h1.2
theorem EdsIn.kept {w w' : World} {ao : Option Addr} {len cap : Nat} {H : List EdH} {P : List EdP} (h : EdsIn w ao len cap H P) (hk : Kept [] w w') : EdsIn w' ao len cap H P :=
  ⟨⟨h.arg.is.kept hk (by simp), h.arg.plen, fun k h1 h2 => (h.arg.each k h1 h2).kept hk, h.arg.le⟩, h.short, h.caps⟩
theorem EdsIn.len {w : World} {ao : Option Addr} {len cap : Nat} {H : List EdH} {P : List EdP} (h : EdsIn w ao len cap H P) : H.length = len ∧ P.length = len := ⟨h.arg.is.1, by rw [h.arg.plen, h.arg.is.1]⟩
/-- One of them, as a slice. -/
theorem EdsIn.one {w : World} {ao : Option Addr} {len cap : Nat} {H : List EdH} {P : List EdP} (h : EdsIn w ao len cap H P) {i : Nat} (hi : i < len) (hp : i < P.length) : ∃ b o x, ao = some ⟨b, o, none⟩ ∧ EdArg w (some ⟨b, o + i * 4, none⟩) 1 [x] [P[i]] := by
  have hH : i < H.length := by rw [h.len.1]; exact hi
  obtain ⟨b, o, e, c0, c1, c2, c3⟩ := h.arg.is.at hH
  have hb : b < w.heap.size := World.block_lt_of_cell? w _ c0
  refine ⟨b, o, H[i], e, ⟨rfl, .inr ⟨b, o + i * 4, rfl, hb, fun k hk => ?_⟩⟩, rfl, fun k hk hp => ?_, by omega⟩
  · obtain rfl : k = 0 := by simpa using hk
    simpa using ⟨c0, c1, c2, c3⟩
  · obtain rfl : k = 0 := by simpa using hk
    exact h.arg.each i hH _
/-- Its cells, and its bytes. -/
theorem EdsIn.cells {w : World} {ao : Option Addr} {len cap : Nat} {H : List EdH} {P : List EdP} (h : EdsIn w ao len cap H P) {i : Nat} (hi : i < len) (hp : i < P.length) : ∃ b o x, ao = some ⟨b, o, none⟩ ∧ b < w.heap.size ∧ EdOk w x P[i] ∧
    w.cell? ⟨b, o + i * 4, none⟩ = some (.int .i64 P[i].kind) ∧ w.cell? ⟨b, o + i * 4 + 1, none⟩ = some (.string (strL P[i].path)) ∧ w.cell? ⟨b, o + i * 4 + 2, none⟩ = some (.int .i64 P[i].mode) ∧ w.cell? ⟨b, o + i * 4 + 3, none⟩ = some (.slice x.ao x.len x.cap) := by
  have hH : i < H.length := by rw [h.len.1]; exact hi
  obtain ⟨b, o, e, c0, c1, c2, c3⟩ := h.arg.is.at hH
  have hx := h.arg.each i hH hp
  exact ⟨b, o, H[i], e, World.block_lt_of_cell? w _ c0, hx, by rw [hx.kind]; exact c0, by rw [hx.path]; exact c1, by rw [hx.mode]; exact c2, c3⟩

/-- A row of bytes that came in among others. -/
structure BRow where
  ao : Option Addr
  len : Nat
  cap : Nat
  b : List UInt8
/-- A [][]byte that came in. -/
structure RowsIn (w : World) (ao : Option Addr) (len : Nat) (l : List BRow) : Prop where
  len : l.length = len ∧ len ≤ 140737488355328
  at' : ∀ (k : Nat) (hk : k < l.length), ∃ b o, ao = some ⟨b, o, none⟩ ∧ w.cell? ⟨b, o + k, none⟩ = some (.slice l[k].ao l[k].len l[k].cap)
  each : ∀ x ∈ l, ArgB w x.ao x.len x.cap x.b
theorem open_rowsF {H : Type} {enc : TypeId × Value → H} {w : World} {base fuel : Nat} {sp : Nat → Bool} {held : Bool} {ao : Option Addr} {len cap : Nat} {d : DataW H} {ps : List MemPlace}
    (h : DataW.trod enc Tryz.prog w base sp held fuel 41 [.slice ao len cap] = some (d, ps)) (hsz : ∀ n ∈ d.weights Tryz.prog 41, n ≤ reachBytes) :
    ∃ l : List BRow, RowsIn w ao len l := by
  have h47 := reachBytes_lt
  rcases open_slice Tryz.underlying41 h with ⟨hcs, _⟩ | ⟨a, len', cap', m, n, D, Pl, hcs, hb, hl, hm, hmm, hx, hi⟩
  · simp at hcs
    obtain ⟨rfl, rfl, rfl⟩ := hcs
    exact ⟨[], ⟨rfl, by omega⟩, fun k hk => (by cases hk), fun x hx => (by cases hx)⟩
  · simp at hcs
    obtain ⟨rfl, rfl, rfl⟩ := hcs
    have hlm : len ≤ m := by rw [hmm]; split <;> omega
    simp only [Prod.mk.injEq] at hx
    have c1 : Tryz.prog.cellsOf 22 = 1 := by kernel_rfl
    have hb24 : Tryz.prog.bytesOf 22 = 24 := by kernel_rfl
    have hw : ∀ z ∈ ((((List.range len).map D).length + ((List.range (m - len)).map fun j => D (len + j)).length) * 24 :: (DataW.weightsAll Tryz.prog 22 ((List.range len).map D) ++ DataW.weightsAll Tryz.prog 22 ((List.range (m - len)).map fun j => D (len + j)))), z ≤ reachBytes := fun z hz => hsz z (by
      rw [hx.1]
      simp only [DataW.weights, Tryz.underlying41, hb24]
      exact hz)
    have hel : ∀ i, i < len → ∃ o : BRow, ArgB w o.ao o.len o.cap o.b ∧ w.cell? (a.add (i * 1)) = some (.slice o.ao o.len o.cap) := fun i hil => by
      obtain ⟨cs', hc, ht'⟩ := hi i (by omega)
      obtain ⟨ao, l1, c1', rfl⟩ := slice_cellsF Tryz.underlying22 ht'
      obtain ⟨L, hL, _⟩ := open_argF (d := D i) (ps := Pl i) ht' (fun z hz => hw z (List.mem_cons_of_mem _ (List.mem_append.2 (.inl (weightsAll_inF (d := D i) (List.mem_map.2 ⟨i, List.mem_range.2 hil, rfl⟩) _ hz)))))
      rw [c1] at hc
      obtain ⟨_, _, hat⟩ := World.cells?_some hc
      refine ⟨⟨ao, l1, c1', L⟩, hL, ?_⟩
      have := hat 0 (by omega)
      simpa [Addr.add] using this
    have : Inhabited BRow := ⟨⟨none, 0, 0, []⟩⟩
    obtain ⟨f, hf⟩ := choose_lt hel
    have hlen24 : len * 24 ≤ reachBytes := by
      have := hw _ List.mem_cons_self
      simp at this
      omega
    refine ⟨(List.range len).map f, ⟨by simp, by omega⟩, fun k hk => ?_, fun x hx => ?_⟩
    · simp at hk
      obtain ⟨_, hc0⟩ := hf 0 (by omega)
      have hs := spot_noneF hc0 (.inl (by omega))
      obtain ⟨b, o, s⟩ := a
      simp only at hs
      subst hs
      refine ⟨b, o, rfl, ?_⟩
      have e0 := (hf k hk).2
      rw [Addr.add_mid, Nat.mul_one] at e0
      simpa using e0
    · simp only [List.mem_map, List.mem_range] at hx
      obtain ⟨i, hi', rfl⟩ := hx
      exact (hf i hi').1
theorem RowsIn.kept {w w' : World} {ao : Option Addr} {len : Nat} {l : List BRow} (h : RowsIn w ao len l) (hk : Kept [] w w') : RowsIn w' ao len l :=
  ⟨h.len, fun k hk' => by obtain ⟨b, o, e, hc⟩ := h.at' k hk'; exact ⟨b, o, e, (hk.cell (World.block_lt_of_cell? w _ hc) (by simp)).trans hc⟩, fun x hx => (h.each x hx).kept hk⟩

/-- A []string that came in. -/
structure TextsIn (w : World) (ao : Option Addr) (len : Nat) (l : List (List UInt8)) : Prop where
  len : l.length = len ∧ len ≤ 140737488355328
  at' : ∀ (k : Nat) (hk : k < l.length), ∃ b o, ao = some ⟨b, o, none⟩ ∧ w.cell? ⟨b, o + k, none⟩ = some (.string (strL l[k]))
  short : ∀ x ∈ l, x.length ≤ 140737488355328
theorem open_textsF {H : Type} {enc : TypeId × Value → H} {w : World} {base fuel : Nat} {sp : Nat → Bool} {held : Bool} {ao : Option Addr} {len cap : Nat} {d : DataW H} {ps : List MemPlace}
    (h : DataW.trod enc Tryz.prog w base sp held fuel 44 [.slice ao len cap] = some (d, ps)) (hsz : ∀ n ∈ d.weights Tryz.prog 44, n ≤ reachBytes) : ∃ l : List (List UInt8), TextsIn w ao len l := by
  have h47 := reachBytes_lt
  rcases open_strings Tryz.underlying44 Tryz.underlying9 (by kernel_rfl) h with ⟨hcs, _⟩ | ⟨a, len', cap', ss, hcs, hcap, hl, hm, hs, hx, hcell, hwz⟩
  · simp at hcs
    obtain ⟨rfl, rfl, rfl⟩ := hcs
    exact ⟨[], ⟨rfl, by omega⟩, fun k hk => (by cases hk), fun x hx => (by cases hx)⟩
  · simp at hcs
    obtain ⟨rfl, rfl, rfl⟩ := hcs
    have hzl : len ≤ ss.length := by rw [hs]; split <;> omega
    have hb16 : Tryz.prog.bytesOf 9 = 16 := by kernel_rfl
    simp only [Prod.mk.injEq] at hx
    have hll : ((ss.take len).map fun s => s.data.toList).length = len := by simp; omega
    have hw : ∀ z ∈ d.weights Tryz.prog 44, z ≤ reachBytes := hsz
    rw [hx.1] at hw
    simp only [DataW.weights, Tryz.underlying44, hb16] at hw
    have hlen16 : len * 16 ≤ reachBytes := by
      have := hw _ List.mem_cons_self
      simp [strs] at this
      omega
    refine ⟨(ss.take len).map fun s => s.data.toList, ⟨hll, by omega⟩, fun k hk => ?_, fun p hp => ?_⟩
    · rw [hll] at hk
      have hc0 := hcell 0 (by omega)
      have hs := spot_noneF hc0 (.inl rfl)
      obtain ⟨b, o, s⟩ := a
      simp only at hs
      subst hs
      refine ⟨b, o, rfl, ?_⟩
      have hiz : k < ss.length := by omega
      have := hcell k hiz
      rw [Addr.add_mid] at this
      rw [this]
      simp [hiz, strL_of]
    · simp only [List.mem_map] at hp
      obtain ⟨s, hs', rfl⟩ := hp
      have := hw s.data.toList.length (List.mem_cons_of_mem _ (List.mem_append.2 (.inl (weightsAll_inF (d := .lit (.string s.data.toList)) (by simp only [strs, List.mem_map]; exact ⟨s, hs', rfl⟩) _ (by simp [DataW.weights])))))
      omega
theorem TextsIn.kept {w w' : World} {ao : Option Addr} {len : Nat} {l : List (List UInt8)} (h : TextsIn w ao len l) (hk : Kept [] w w') : TextsIn w' ao len l :=
  ⟨h.len, fun k hk' => by obtain ⟨b, o, e, hc⟩ := h.at' k hk'; exact ⟨b, o, e, (hk.cell (World.block_lt_of_cell? w _ hc) (by simp)).trans hc⟩, h.short⟩

/-- A []int that came in. -/
structure NumsIn (w : World) (ao : Option Addr) (len : Nat) (l : List Int) : Prop where
  len : l.length = len ∧ len ≤ 140737488355328
  at' : ∀ (k : Nat) (hk : k < l.length), ∃ b o, ao = some ⟨b, o, none⟩ ∧ w.cell? ⟨b, o + k, none⟩ = some (.int .i64 l[k])
  each : ∀ x ∈ l, -9223372036854775808 ≤ x ∧ x ≤ 9223372036854775807
theorem open_numsF {H : Type} {enc : TypeId × Value → H} {w : World} {base fuel : Nat} {sp : Nat → Bool} {held : Bool} {ao : Option Addr} {len cap : Nat} {d : DataW H} {ps : List MemPlace}
    (h : DataW.trod enc Tryz.prog w base sp held fuel 56 [.slice ao len cap] = some (d, ps)) (hsz : ∀ n ∈ d.weights Tryz.prog 56, n ≤ reachBytes) : ∃ l : List Int, NumsIn w ao len l := by
  have h47 := reachBytes_lt
  rcases open_ints Tryz.underlying56 Tryz.underlying3 (by kernel_rfl) h with ⟨hcs, _⟩ | ⟨a, l', c', zs, hcs, _, hl, hm, hz, hx, hcell, hwz⟩
  · simp at hcs
    obtain ⟨rfl, rfl, rfl⟩ := hcs
    exact ⟨[], ⟨rfl, by omega⟩, fun k hk => (by cases hk), fun x hx => (by cases hx)⟩
  · simp at hcs
    obtain ⟨rfl, rfl, rfl⟩ := hcs
    have hzl : len ≤ zs.length := by rw [hz]; split <;> omega
    simp only [Prod.mk.injEq] at hx
    have hb8 : Tryz.prog.bytesOf 3 = 8 := by kernel_rfl
    have h8 : zs.length * 8 ≤ reachBytes := by
      have hlz : (lits (H := H) .i64 (zs.take len)).length + (lits (H := H) .i64 (zs.drop len)).length = zs.length := by simp [lits]; omega
      have := hsz (((lits (H := H) .i64 (zs.take len)).length + (lits (H := H) .i64 (zs.drop len)).length) * 8) (by
        rw [hx.1]
        simp only [DataW.weights, Tryz.underlying56, hb8]
        exact List.mem_cons_self)
      rwa [hlz] at this
    refine ⟨zs.take len, ⟨by simp; omega, by omega⟩, fun k hk => ?_, fun x hx => ?_⟩
    · simp at hk
      have hc0 := hcell 0 (by omega)
      have hs := spot_noneF hc0 (.inl rfl)
      obtain ⟨b, o, s⟩ := a
      simp only at hs
      subst hs
      refine ⟨b, o, rfl, ?_⟩
      have hiz : k < zs.length := by omega
      have := hcell k hiz
      rw [Addr.add_mid] at this
      rw [this]
      simp [hiz]
    · have := hwz x (List.mem_of_mem_take hx)
      simpa [Lit.wf, IntKind.min, IntKind.max, IntKind.signed, IntKind.bits] using this
theorem NumsIn.kept {w w' : World} {ao : Option Addr} {len : Nat} {l : List Int} (h : NumsIn w ao len l) (hk : Kept [] w w') : NumsIn w' ao len l :=
  ⟨h.len, fun k hk' => by obtain ⟨b, o, e, hc⟩ := h.at' k hk'; exact ⟨b, o, e, (hk.cell (World.block_lt_of_cell? w _ hc) (by simp)).trans hc⟩, h.each⟩
end Go.Proofs.YtiedoocgbajjjaaGreatDoor

namespace Go.Proofs.YtiedoocgbajjjaaGreatDoor
open Go.RowKit Go.Maps
set_option maxRecDepth 100000

theorem rowSet {w : World} {b : Nat} {A : Array Value} {t : TypeId} (h : w.heap[b]? = some (.cells A t)) (k : Nat) (v : Value) : (w.setCell ⟨b, k, none⟩ v).heap[b]? = some (.cells (A.setIfInBounds k v) t) := by
  simp only [World.setCell]
  rw [Array.getElem?_modify, if_pos rfl, h]
  rfl
/-- What is at a path. -/
def atP (p : PTr) (path : List UInt8) : Int × Option PTr := match pathO path with
  | none => (40, none)
  | some ns => folP p ns
def atA (t : ATr) (path : List UInt8) : Int × Option ATr := match pathO path with
  | none => (40, none)
  | some ns => fol t ns
theorem at_er (t : ATr) (path : List UInt8) : atP t.er path = ((atA t path).1, (atA t path).2.map ATr.er) := by
  unfold atP atA
  cases pathO path with
  | none => rfl
  | some ns => exact er_fol ns t

set_option maxRecDepth 100000 in
set_option maxHeartbeats 2000000 in
theorem bat_any (base : Nat) (t : ATr) (path : List UInt8) (w : World) (h : MTr base w t) (hp : path.length ≤ 9223372036854775807) :
    Calls Tryz.prog 53 #[.pointer (some ⟨t.addr, 0, none⟩), .string (strL path)] w fun e w' => e = .returned (.tuple #[ptrO (atA t path).2, .int .i64 (atA t path).1]) ∧ Kept [] w w' := by
  have HH := Lib.hid h
  have HP := Lib.hid (path_cap path w hp)
  have HAT : Hid ((pathO path = none → atA t path = (40, none)) ∧ ∀ ns, pathO path = some ns → atA t path = fol t ns) := ⟨fun hz => by unfold atA; rw [hz], fun ns hz => by unfold atA; rw [hz]⟩
  clear h hp
  go_enter Tryz.func53, Tryz.ntmps53
  go_wp2_with fail
  refine HP.out.mono ?_
  rintro e w3 ⟨hk3, ⟨hpo, rfl⟩ | ⟨ns, ao3, cp3, hpo, rfl, ⟨hcp, hcp2⟩, hr3⟩⟩
  · have HF := Lib.hid (And.intro (HAT.out.1 hpo) hk3)
    clear hk3 hpo
    go_wp2_with fail
    go_ret2
    exact ⟨by rw [HF.out.1]; rfl, HF.out.2⟩
  · have hpp := path_parts hpo
    have HF := Lib.hid (And.intro (HAT.out.2 ns hpo) hk3)
    have hm3 : MTr base w3 t := HH.out.frame hk3 (by simp)
    obtain ⟨nl, hnl⟩ : ∃ nl, ns.length = nl := ⟨_, rfl⟩
    rw [hnl] at hr3 hcp hpp
    have HC : Hid (Calls Tryz.prog 77 #[.pointer (some ⟨t.addr, 0, none⟩), .slice ao3 nl cp3] w3 fun e w' => e = .returned (.tuple #[ptrO (fol t ns).2, .int .i64 (fol t ns).1]) ∧ w3 = w') := by
      have h28 : ∀ p ∈ ns, p.length ≤ 28 := fun p hp => (nameB_le (hpp.2 p hp)).2
      rcases hr3 with h0 | ⟨b, o, rfl, _, hr⟩
      · exact nfollow_any t ns 0 0 nl cp3 ao3 w3 hm3.ok hnl (.inl h0) h28 (by omega)
      · exact nfollow_any t ns b o nl cp3 _ w3 hm3.ok hnl (.inr ⟨rfl, hr⟩) h28 (by omega)
    have hnl8 : nl ≤ 8 := hpp.1
    rw [hnl]
    clear hk3 hpo hr3 hpp hm3 hnl
    go_wp2_with fail
    refine HC.out.mono ?_
    rintro e w4 ⟨rfl, rfl⟩
    go_wp2_with fail
    go_ret2
    exact ⟨by rw [HF.out.1]; rfl, HF.out.2⟩

/-- Two results in variables: a row, and an error. -/
structure TwoV (gc : Nat) (V : Array Value) (ty : TypeId) (x : Value) (w : World) : Prop where
  c : w.heap[gc]? = some (.cells V ty)
  e : w.heap[gc + 1]? = some (.cells #[x] 25)
theorem TwoV.go {gc : Nat} {V : Array Value} {ty : TypeId} {x : Value} {w w' : World} (h : TwoV gc V ty x w) (hk : Kept [] w w') : TwoV gc V ty x w' := ⟨hk.heap (by simp) h.c, hk.heap (by simp) h.e⟩
theorem TwoV.setC {gc : Nat} {V : Array Value} {ty : TypeId} {x : Value} {w : World} (h : TwoV gc V ty x w) (q : Nat) (v : Value) : TwoV gc (V.setIfInBounds q v) ty x (w.setCell ⟨gc, q, none⟩ v) ∧ Kept [gc, gc + 1] w (w.setCell ⟨gc, q, none⟩ v) :=
  have hk : Kept [gc] w (w.setCell ⟨gc, q, none⟩ v) := Kept.setCell _ _ _ _ (by simp)
  ⟨⟨rowSet h.c q v, hk.heap (by simp) h.e⟩, hk.mono (by simp)⟩
theorem TwoV.setE {gc : Nat} {V : Array Value} {ty : TypeId} {x : Value} {w : World} (h : TwoV gc V ty x w) (v : Value) : TwoV gc V ty v (w.setCell ⟨gc + 1, 0, none⟩ v) ∧ Kept [gc, gc + 1] w (w.setCell ⟨gc + 1, 0, none⟩ v) :=
  have hk : Kept [gc + 1] w (w.setCell ⟨gc + 1, 0, none⟩ v) := Kept.setCell _ _ _ _ (by simp)
  ⟨⟨hk.heap (by simp) h.c, rowSet h.e 0 v⟩, hk.mono (by simp)⟩
theorem results_twoV {P : Program} {fn : Func} {p q : Tmp} {ty ty2 : TypeId} (h : fn.results = #[.cell p ty, .cell q ty2]) (tmps : Array Value) (w : World) (g k : Nat) (x y : Value)
    (hp : tmps.getD p undef = .pointer (some ⟨g, 0, none⟩)) (hq : tmps.getD q undef = .pointer (some ⟨k, 0, none⟩)) (hx : (loadVar ty ⟨g, 0, none⟩).run P w = .ok x w) (hy : (loadVar ty2 ⟨k, 0, none⟩).run P w = .ok y w) :
    (results fn tmps).run P w = .ok (.tuple #[x, y]) w := by
  have hp' : tmps[p]?.getD undef = .pointer (some ⟨g, 0, none⟩) := by simpa using hp
  have hq' : tmps[q]?.getD undef = .pointer (some ⟨k, 0, none⟩) := by simpa using hq
  simp [results, h, hp', hq', asAddr, hx, hy, Sem.run_bind, Result.andThen]
theorem TwoV.loadE {gc : Nat} {V : Array Value} {ty : TypeId} {n : Int} {w : World} (h : TwoV gc V ty (.int .i64 n) w) : (loadVar 25 ⟨gc + 1, 0, none⟩).run Tryz.prog w = .ok (.int .i64 n) w := by
  have e0 : w.cell? ⟨gc + 1, 0, none⟩ = some (.int .i64 n) := cell_of_row _ _ 0 _ _ _ h.e
  simp [loadVar, go_sem, e0]
theorem TwoV.loadB {gc : Nat} {v : Value} {x : Value} {w : World} (h : TwoV gc #[v] 22 x w) : (loadVar 22 ⟨gc, 0, none⟩).run Tryz.prog w = .ok v w := by
  have e0 : w.cell? ⟨gc, 0, none⟩ = some v := cell_of_row _ _ 0 _ _ _ h.c
  simp [loadVar, go_sem, e0]
theorem TwoV.loadS {gc : Nat} {v : Value} {x : Value} {w : World} (h : TwoV gc #[v] 44 x w) : (loadVar 44 ⟨gc, 0, none⟩).run Tryz.prog w = .ok v w := by
  have e0 : w.cell? ⟨gc, 0, none⟩ = some v := cell_of_row _ _ 0 _ _ _ h.c
  simp [loadVar, go_sem, e0]
theorem TwoV.loadN {gc : Nat} {a b c : Value} {x : Value} {w : World} (h : TwoV gc #[a, b, c] 48 x w) : (loadVar 48 ⟨gc, 0, none⟩).run Tryz.prog w = .ok (.agg #[a, b, c]) w := by
  have hl := run_loadVar_mid (P := Tryz.prog) w gc 0 48 [a, b, c] _ (fun j v hv => by rw [Nat.zero_add, cell_of_row w gc j _ _ _ h.c]; simpa using hv) Tryz.underlying48 rfl (by kernel_rfl)
  exact hl
end Go.Proofs.YtiedoocgbajjjaaGreatDoor

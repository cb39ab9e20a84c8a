/-
  Layer 12: words of any kind, and nodes, in memory; rows of numbers of the call's own.
  Conditions: those that each theorem states.
-/
import Derived.Test.YtfpdgdacifiejaaGreatUMem
import Derived.Test.YtfpdgdacifiejaaGreatVPure
namespace Go.Proofs.YtfpdgdacifiejaaGreat
open Go.RowKit Go.Maps

/-- A row of words as a parser sees it: what it reads as. -/
structure TkIs (w : World) (v : Value) (l : List Tok) : Prop where
  val : ∃ ao cap, v = .slice ao l.length cap ∧ l.length ≤ cap ∧ cap ≤ 9223372036854775807 ∧ (0 < l.length → ∃ b o, ao = some ⟨b, o, none⟩ ∧ b < w.heap.size ∧
    ∀ k (hk : k < l.length), w.cell? ⟨b, o + k * 3, none⟩ = some (.int .i64 l[k].kd) ∧ w.cell? ⟨b, o + k * 3 + 1, none⟩ = some (.string (strL l[k].tx)) ∧ ∃ at' : Int, w.cell? ⟨b, o + k * 3 + 2, none⟩ = some (.int .i64 at'))
  len : l.length * 32 ≤ 140737488355328
theorem TkIs.kept {w w' : World} {v : Value} {l : List Tok} (h : TkIs w v l) (hk : Kept [] w w') : TkIs w' v l := by
  obtain ⟨⟨ao, cap, h1, h2, h3, h4⟩, h5⟩ := h
  refine ⟨⟨ao, cap, h1, h2, h3, fun h0 => ?_⟩, h5⟩
  obtain ⟨b, o, rfl, hb, hc⟩ := h4 h0
  refine ⟨b, o, rfl, Nat.lt_of_lt_of_le hb hk.size, fun k hkl => ?_⟩
  obtain ⟨c0, c1, a, c2⟩ := hc k hkl
  exact ⟨(hk.cell (p := ⟨b, o + k * 3, none⟩) hb (by simp)).trans c0, (hk.cell (p := ⟨b, o + k * 3 + 1, none⟩) hb (by simp)).trans c1, a, (hk.cell (p := ⟨b, o + k * 3 + 2, none⟩) hb (by simp)).trans c2⟩
def tkW (x : Wd) : Tok := ⟨x.kd, x.tx⟩
theorem WsIs.tk {w : World} {v : Value} {L : List Wd} (h : WsIs w v L) : TkIs w v (L.map tkW) := by
  obtain ⟨ao, cap, h1, h2, h3, _, h4⟩ := h.open
  refine ⟨⟨ao, cap, by rw [List.length_map]; exact h1, by rw [List.length_map]; exact h2, h3, fun h0 => ?_⟩, by rw [List.length_map]; exact h.len⟩
  rw [List.length_map] at h0
  obtain ⟨b, o, rfl, hb, hc⟩ := h4 h0
  refine ⟨b, o, rfl, hb, fun k hk => ?_⟩
  rw [List.length_map] at hk
  obtain ⟨c0, c1, c2⟩ := hc k hk
  rw [List.getElem_map]
  exact ⟨c0, c1, _, c2⟩

/-- A row of numbers that is read. -/
def KsIs (w : World) (v : Value) (ks : List Nat) : Prop :=
  ∃ ao cap, v = .slice ao ks.length cap ∧ ks.length ≤ cap ∧ cap ≤ 9223372036854775807 ∧ (0 < ks.length → ∃ b o, ao = some ⟨b, o, none⟩ ∧ b < w.heap.size ∧ ∀ j (hj : j < ks.length), w.cell? ⟨b, o + j, none⟩ = some (.int .i64 (ks[j] : Int)))
theorem KsIs.kept {w w' : World} {v : Value} {l : List Nat} (h : KsIs w v l) (hk : Kept [] w w') : KsIs w' v l := by
  obtain ⟨ao, cap, h1, h2, h3, h4⟩ := h
  refine ⟨ao, cap, h1, h2, h3, fun h0 => ?_⟩
  obtain ⟨b, o, rfl, hb, hc⟩ := h4 h0
  exact ⟨b, o, rfl, Nat.lt_of_lt_of_le hb hk.size, fun k hkl => (hk.cell (p := ⟨b, o + k, none⟩) hb (by simp)).trans (hc k hkl)⟩
/-- A row of nodes that is read. -/
def NdIs (w : World) (v : Value) (ns : List Nod) : Prop :=
  ∃ ao cap, v = .slice ao ns.length cap ∧ ns.length ≤ cap ∧ cap ≤ 9223372036854775807 ∧ (0 < ns.length → ∃ b o, ao = some ⟨b, o, none⟩ ∧ b < w.heap.size ∧
    ∀ k (hk : k < ns.length), w.cell? ⟨b, o + k * 3, none⟩ = some (.int .i64 (ns[k].kd : Int)) ∧ w.cell? ⟨b, o + k * 3 + 1, none⟩ = some (.string (strL ns[k].tx)) ∧ ∃ lv, w.cell? ⟨b, o + k * 3 + 2, none⟩ = some lv ∧ KsIs w lv ns[k].ks)
theorem NdIs.kept {w w' : World} {v : Value} {l : List Nod} (h : NdIs w v l) (hk : Kept [] w w') : NdIs w' v l := by
  obtain ⟨ao, cap, h1, h2, h3, h4⟩ := h
  refine ⟨ao, cap, h1, h2, h3, fun h0 => ?_⟩
  obtain ⟨b, o, rfl, hb, hc⟩ := h4 h0
  refine ⟨b, o, rfl, Nat.lt_of_lt_of_le hb hk.size, fun k hkl => ?_⟩
  obtain ⟨c0, c1, lv, c2, c3⟩ := hc k hkl
  exact ⟨(hk.cell (p := ⟨b, o + k * 3, none⟩) hb (by simp)).trans c0, (hk.cell (p := ⟨b, o + k * 3 + 1, none⟩) hb (by simp)).trans c1, lv, (hk.cell (p := ⟨b, o + k * 3 + 2, none⟩) hb (by simp)).trans c2, c3.kept hk⟩
/-- What Parse answers. -/
def ParOut (l : List Tok) (w : World) (e : Ending) (w' : World) : Prop :=
  ∃ v, e = .returned (.tuple #[.agg #[v], .int .i64 ((parO l).2.1 : Int), .int .i64 ((parO l).2.2 : Int)]) ∧ NdIs w' v (parO l).1 ∧ Kept [] w w'
/-- Parse, as a contract. -/
def ParC : Prop := ∀ (v : Value) (l : List Tok) (w : World), TkIs w v l → Calls Tryz.prog 8 #[v] w (ParOut l w)

/-- Numbers as the cells that hold them. -/
def nvA (l : List Nat) : Array Value := ivA (l.map fun (n : Nat) => (n : Int))
theorem nvA_set (l : List Nat) (k c : Nat) : (nvA l).setIfInBounds k (.int .i64 (c : Int)) = nvA (l.set k c) := by
  unfold nvA
  rw [ivA_set, List.map_set]
theorem nvA_get (l : List Nat) (k : Nat) (hk : k < l.length) : (nvA l)[k]? = some (.int .i64 (l[k] : Int)) := by
  simp [nvA, ivA, iv, hk]
theorem run_make_ints {P : Program} (w : World) (t e : TypeId) (ht : P.underlying t = some (.slice e)) (hi : (P.info? e).map (fun i => (i.zero, i.size, i.bytes)) = some (some (.int .i64 0), 1, 8))
    (n : Nat) (h1 : n ≤ 1000000) :
    (Instr.makeSlice t (.int .i64 (n : Int)) (.int .i64 (n : Int))).run P w = .ok (.slice (some ⟨w.heap.size, 0, none⟩) n n) (w.alloc (.cells (nvA (List.replicate n 0)) e)) := by
  obtain ⟨i, hi', hz, hs, hb⟩ := info_parts hi
  have hr := run_make (P := P) w t e i _ ht hi' hz .i64 .i64 n n (by omega) (Int.le_refl _) (by rw [hb]; omega) (by omega)
  rw [hr, hs]
  have hb2 : nvA (List.replicate n 0) = madeCells (Value.int .i64 0).cells (n * 1) := by
    apply Array.toList_inj.1
    rw [show (Value.int .i64 0).cells = #[Value.int .i64 0] from rfl, toList_madeCells_one]
    simp [nvA, ivA, iv]
  simp only [Int.toNat_natCast]
  rw [hb2]
end Go.Proofs.YtfpdgdacifiejaaGreat

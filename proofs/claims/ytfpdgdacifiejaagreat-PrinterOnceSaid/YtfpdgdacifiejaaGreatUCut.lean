/-
  Layer 12: words of any kind, and nodes, in memory; rows of numbers of the call's own.
  Conditions: those that each theorem states.
  Layer 11: a rune's class.
  Conditions: those that each theorem states.
  Layer 11: runes and bytes, a rune's class, a row of classes that is searched, how far a text is of some classes, and a name's part.
  Conditions: those that each theorem states.
  Layer 11: what the program cuts off a text: comment, name, number, variable, quoted, sign.
  Conditions: those that each theorem states.
-/
import Derived.Test.YtfpdgdacifiejaaGreatUMem
import Derived.Test.YtfpdgdacifiejaaGreatVPure
import Derived.Test.YtfpdgdacifiejaaGreatUPure
import Derived.Test.YtfpdgdacifiejaaGreatUShelf
import Derived.Lib.OthersKept
import Derived.Lib.TrimU
import Derived.Lib.FieldsU
import Derived.Laws.RangeAny
namespace Go.Proofs.YtfpdgdacifiejaaGreat
open Go.RowKit Go.Maps

/-- A row of words as a parser sees it: what it reads as. -/
structure TkIs (w : World) (v : Value) (l : List Tok) : Prop where
  val : ∃ ao cap, v = .slice ao l.length cap ∧ l.length ≤ cap ∧ cap ≤ 9223372036854775807 ∧ (0 < l.length → ∃ b o, ao = some ⟨b, o, none⟩ ∧ b < w.heap.size ∧
    ∀ k (hk : k < l.length), w.cell? ⟨b, o + k * 3, none⟩ = some (.int .i64 l[k].kd) ∧ w.cell? ⟨b, o + k * 3 + 1, none⟩ = some (.string (strL l[k].tx)) ∧ ∃ at' : Int, w.cell? ⟨b, o + k * 3 + 2, none⟩ = some (.int .i64 at'))
  len : l.length * 32 ≤ 140737488355328
theorem TkIs.kept {w w' : World} {v : Value} {l : List Tok} (h : TkIs w v l) (hk : Kept [] w w') : TkIs w' v l := by
  obtain ⟨⟨ao, cap, h1, h2, h3, h4⟩, h5⟩ := h
  refine ⟨⟨ao, cap, h1, h2, h3, fun h0 => ?_⟩, h5⟩
  obtain ⟨b, o, rfl, hb, hc⟩ := h4 h0
  refine ⟨b, o, rfl, Nat.lt_of_lt_of_le hb hk.size, fun k hkl => ?_⟩
  obtain ⟨c0, c1, a, c2⟩ := hc k hkl
  exact ⟨(hk.cell (p := ⟨b, o + k * 3, none⟩) hb (by simp)).trans c0, (hk.cell (p := ⟨b, o + k * 3 + 1, none⟩) hb (by simp)).trans c1, a, (hk.cell (p := ⟨b, o + k * 3 + 2, none⟩) hb (by simp)).trans c2⟩
def tkW (x : Wd) : Tok := ⟨x.kd, x.tx⟩
theorem WsIs.tk {w : World} {v : Value} {L : List Wd} (h : WsIs w v L) : TkIs w v (L.map tkW) := by
  obtain ⟨ao, cap, h1, h2, h3, _, h4⟩ := h.open
  refine ⟨⟨ao, cap, by rw [List.length_map]; exact h1, by rw [List.length_map]; exact h2, h3, fun h0 => ?_⟩, by rw [List.length_map]; exact h.len⟩
  rw [List.length_map] at h0
  obtain ⟨b, o, rfl, hb, hc⟩ := h4 h0
  refine ⟨b, o, rfl, hb, fun k hk => ?_⟩
  rw [List.length_map] at hk
  obtain ⟨c0, c1, c2⟩ := hc k hk
  rw [List.getElem_map]
  exact ⟨c0, c1, _, c2⟩

/-- A row of numbers that is read. -/
def KsIs (w : World) (v : Value) (ks : List Nat) : Prop :=
  ∃ ao cap, v = .slice ao ks.length cap ∧ ks.length ≤ cap ∧ cap ≤ 9223372036854775807 ∧ (0 < ks.length → ∃ b o, ao = some ⟨b, o, none⟩ ∧ b < w.heap.size ∧ ∀ j (hj : j < ks.length), w.cell? ⟨b, o + j, none⟩ = some (.int .i64 (ks[j] : Int)))
theorem KsIs.kept {w w' : World} {v : Value} {l : List Nat} (h : KsIs w v l) (hk : Kept [] w w') : KsIs w' v l := by
  obtain ⟨ao, cap, h1, h2, h3, h4⟩ := h
  refine ⟨ao, cap, h1, h2, h3, fun h0 => ?_⟩
  obtain ⟨b, o, rfl, hb, hc⟩ := h4 h0
  exact ⟨b, o, rfl, Nat.lt_of_lt_of_le hb hk.size, fun k hkl => (hk.cell (p := ⟨b, o + k, none⟩) hb (by simp)).trans (hc k hkl)⟩
/-- A row of nodes that is read. -/
def NdIs (w : World) (v : Value) (ns : List Nod) : Prop :=
  ∃ ao cap, v = .slice ao ns.length cap ∧ ns.length ≤ cap ∧ cap ≤ 9223372036854775807 ∧ (0 < ns.length → ∃ b o, ao = some ⟨b, o, none⟩ ∧ b < w.heap.size ∧
    ∀ k (hk : k < ns.length), w.cell? ⟨b, o + k * 3, none⟩ = some (.int .i64 (ns[k].kd : Int)) ∧ w.cell? ⟨b, o + k * 3 + 1, none⟩ = some (.string (strL ns[k].tx)) ∧ ∃ lv, w.cell? ⟨b, o + k * 3 + 2, none⟩ = some lv ∧ KsIs w lv ns[k].ks)
theorem NdIs.kept {w w' : World} {v : Value} {l : List Nod} (h : NdIs w v l) (hk : Kept [] w w') : NdIs w' v l := by
  obtain ⟨ao, cap, h1, h2, h3, h4⟩ := h
  refine ⟨ao, cap, h1, h2, h3, fun h0 => ?_⟩
  obtain ⟨b, o, rfl, hb, hc⟩ := h4 h0
  refine ⟨b, o, rfl, Nat.lt_of_lt_of_le hb hk.size, fun k hkl => ?_⟩
  obtain ⟨c0, c1, lv, c2, c3⟩ := hc k hkl
  exact ⟨(hk.cell (p := ⟨b, o + k * 3, none⟩) hb (by simp)).trans c0, (hk.cell (p := ⟨b, o + k * 3 + 1, none⟩) hb (by simp)).trans c1, lv, (hk.cell (p := ⟨b, o + k * 3 + 2, none⟩) hb (by simp)).trans c2, c3.kept hk⟩
/-- What Parse answers. -/
def ParOut (l : List Tok) (w : World) (e : Ending) (w' : World) : Prop :=
  ∃ v, e = .returned (.tuple #[.agg #[v], .int .i64 ((parO l).2.1 : Int), .int .i64 ((parO l).2.2 : Int)]) ∧ NdIs w' v (parO l).1 ∧ Kept [] w w'
/-- Parse, as a contract. -/
def ParC : Prop := ∀ (v : Value) (l : List Tok) (w : World), TkIs w v l → Calls Tryz.prog 8 #[v] w (ParOut l w)

/-- Numbers as the cells that hold them. -/
def nvA (l : List Nat) : Array Value := ivA (l.map fun (n : Nat) => (n : Int))
theorem nvA_set (l : List Nat) (k c : Nat) : (nvA l).setIfInBounds k (.int .i64 (c : Int)) = nvA (l.set k c) := by
  unfold nvA
  rw [ivA_set, List.map_set]
theorem nvA_get (l : List Nat) (k : Nat) (hk : k < l.length) : (nvA l)[k]? = some (.int .i64 (l[k] : Int)) := by
  simp [nvA, ivA, iv, hk]
theorem run_make_ints {P : Program} (w : World) (t e : TypeId) (ht : P.underlying t = some (.slice e)) (hi : (P.info? e).map (fun i => (i.zero, i.size, i.bytes)) = some (some (.int .i64 0), 1, 8))
    (n : Nat) (h1 : n ≤ 1000000) :
    (Instr.makeSlice t (.int .i64 (n : Int)) (.int .i64 (n : Int))).run P w = .ok (.slice (some ⟨w.heap.size, 0, none⟩) n n) (w.alloc (.cells (nvA (List.replicate n 0)) e)) := by
  obtain ⟨i, hi', hz, hs, hb⟩ := info_parts hi
  have hr := run_make (P := P) w t e i _ ht hi' hz .i64 .i64 n n (by omega) (Int.le_refl _) (by rw [hb]; omega) (by omega)
  rw [hr, hs]
  have hb2 : nvA (List.replicate n 0) = madeCells (Value.int .i64 0).cells (n * 1) := by
    apply Array.toList_inj.1
    rw [show (Value.int .i64 0).cells = #[Value.int .i64 0] from rfl, toList_madeCells_one]
    simp [nvA, ivA, iv]
  simp only [Int.toNat_natCast]
  rw [hb2]
end Go.Proofs.YtfpdgdacifiejaaGreat

namespace Go.Proofs.YtfpdgdacifiejaaGreat
open Go.RowKit Go.Maps

set_option maxHeartbeats 2000000 in
theorem classOf_any (r : Nat) (w : World) (h1 : r < 2147483648) :
    Calls Tryz.prog 16 #[.int .i32 r] w fun e w' => e = .returned (.int .i64 (clsN r)) ∧ w = w' := by
  go_enter Tryz.func16, Tryz.ntmps16
  go_wp2
  all_goals
    go_ret
    refine ⟨ret1 ?_, rfl⟩
    unfold clsN
    repeat' split
    all_goals first | rfl | (exfalso; omega) | (exfalso; simp only [beq_iff_eq, beq_eq_false_iff_ne, ne_eq] at *; omega)
end Go.Proofs.YtfpdgdacifiejaaGreat

namespace Go.Proofs.YtfpdgdacifiejaaGreat
open Go.RowKit Go.Maps

abbrev bl (S : ByteArray) : List UInt8 := S.data.toList
theorem bl_len (S : ByteArray) : (bl S).length = S.size := size_toList S
theorem bl_get (S : ByteArray) (i : Nat) (h : i < S.size) : (bl S)[i]'(by rw [bl_len]; exact h) = S[i] := rfl
theorem bl_get? (S : ByteArray) (i : Nat) (h : i < S.size) : (bl S)[i]? = some S[i] := by
  rw [List.getElem?_eq_getElem (by rw [bl_len]; exact h)]
  rfl
theorem bl_ext (S : ByteArray) (a b : Nat) : bl (S.extract a b) = ((bl S).drop a).take (b - a) := by
  have h := Lib.extract_toList S a b
  rw [Lib.toList_data] at h
  exact h
theorem bl_eq {S T : ByteArray} (h : bl S = bl T) : S = T := by
  cases S; cases T
  congr
  exact Array.toList_inj.1 h
theorem str_bl (S : ByteArray) : strL (bl S) = S := rfl
theorem bl_str (l : List UInt8) : bl (strL l) = l := rfl

theorem Kept.iterAt {w wr : World} (h : Kept [] w wr) {k : Nat} (hk : w.heap.size ≤ k) (s : ByteArray) (pos : Nat) : Kept [] w (wr.iterAt k s pos) :=
  ⟨h.os, h.tape, h.output, by rw [Lib.iterAt_size]; exact h.size, fun i hi hn => by rw [Lib.iterAt_other wr k i s pos (by omega)]; exact h.block i hi hn⟩

/-- What a rune is to a word hangs on its first byte alone. -/
theorem dec_cls (S : ByteArray) (pos : Nat) (h : pos < S.size) : clsN (Utf8.decode S pos).1 = clsN (S[pos]'h).toNat := by
  by_cases ha : (S[pos]'h).toNat < 128
  · rw [decode_ascii S pos h ha]
  · have h1 := (decode_high S pos h (by omega)).1
    have : ∀ n, 128 ≤ n → clsN n = 0 := fun n hn => by
      unfold clsN
      repeat' split
      all_goals omega
    rw [this _ h1, this _ (by omega)]
/-- A rune of several bytes has none below 128. -/
theorem dec_wide (S : ByteArray) (pos : Nat) (h : pos < S.size) : (Utf8.decode S pos).2 = 1 ∨ ∀ j, j < (Utf8.decode S pos).2 → ∃ h2 : pos + j < S.size, 128 ≤ (S[pos + j]'h2).toNat := by
  have gb : ∀ k (hk : pos + k < S.size), (S.get! (pos + k)).toNat = (S[pos + k]'hk).toNat := fun k hk => by
    rw [show S.get! (pos + k) = S[pos + k] from get_at S (pos + k) hk]
  by_cases ha : (S[pos]'h).toNat < 128
  · left; rw [decode_ascii S pos h ha]
  · have g0 := gb 0 (by omega)
    simp only [Nat.add_zero] at g0
    unfold Utf8.decode
    simp only [Nat.add_zero]
    have c (k : Nat) : (decide (pos + k < S.size) && (S.get! (pos + k)).toNat / 64 == 2) = true → ∃ h2 : pos + k < S.size, 128 ≤ (S[pos + k]'h2).toNat := by
      intro hh
      simp only [Bool.and_eq_true, decide_eq_true_eq, beq_iff_eq] at hh
      refine ⟨hh.1, ?_⟩
      have := gb k hh.1
      omega
    have z : ∃ h2 : pos + 0 < S.size, 128 ≤ (S[pos + 0]'h2).toNat := ⟨h, by simp only [Nat.add_zero]; omega⟩
    have e2 : ∀ b : Bool, b = true → (b && (decide (pos + 1 < S.size) && (S.get! (pos + 1)).toNat / 64 == 2)) = true → ∀ j, j < 2 → ∃ h2 : pos + j < S.size, 128 ≤ (S[pos + j]'h2).toNat := by
      intro b hb hh j hj
      rw [hb, Bool.true_and] at hh
      match j, hj with
      | 0, _ => exact z
      | 1, _ => exact c 1 hh
    split
    · left; rfl
    split
    · rename_i hh
      split
      · right
        simp only [Bool.and_eq_true] at hh
        intro j hj
        match j, hj with
        | 0, _ => exact z
        | 1, _ => exact c 1 (by simp only [Bool.and_eq_true]; exact hh.2)
      · left; rfl
    split
    · rename_i hh
      split
      · right
        simp only [Bool.and_eq_true] at hh
        intro j hj
        match j, hj with
        | 0, _ => exact z
        | 1, _ => exact c 1 (by simp only [Bool.and_eq_true]; exact hh.1.2)
        | 2, _ => exact c 2 (by simp only [Bool.and_eq_true]; exact hh.2)
      · left; rfl
    split
    · rename_i hh
      split
      · right
        simp only [Bool.and_eq_true] at hh
        intro j hj
        match j, hj with
        | 0, _ => exact z
        | 1, _ => exact c 1 (by simp only [Bool.and_eq_true]; exact hh.1.1.2)
        | 2, _ => exact c 2 (by simp only [Bool.and_eq_true]; exact hh.1.2)
        | 3, _ => exact c 3 (by simp only [Bool.and_eq_true]; exact hh.2)
      · left; rfl
    · left; rfl
/-- A byte below 128, or what stands behind one, begins a rune: no rune goes over it. -/
theorem dec_edge (S : ByteArray) (pos e : Nat) (h : pos < e) (he : e ≤ S.size) (hb : e = S.size ∨ (∃ h1 : e - 1 < S.size, (S[e - 1]'h1).toNat < 128) ∨ (∃ h1 : e < S.size, (S[e]'h1).toNat < 128)) : pos + (Utf8.decode S pos).2 ≤ e := by
  have hp : pos < S.size := by omega
  rcases dec_wide S pos hp with h1 | hw
  · omega
  · apply Nat.le_of_not_lt
    intro hlt
    rcases hb with rfl | ⟨h1, h2⟩ | ⟨h1, h2⟩
    · obtain ⟨h3, _⟩ := hw (S.size - pos) (by omega)
      omega
    · obtain ⟨h3, h4⟩ := hw (e - 1 - pos) (by omega)
      simp only [show pos + (e - 1 - pos) = e - 1 by omega] at h4
      omega
    · obtain ⟨h3, h4⟩ := hw (e - pos) (by omega)
      simp only [show pos + (e - pos) = e by omega] at h4
      omega

/-- A row of classes that is read. -/
def ClsIs (w : World) (v : Value) (C : List Int) : Prop :=
  ∃ b cap, v = .slice (some ⟨b, 0, none⟩) C.length cap ∧ C.length ≤ cap ∧ b < w.heap.size ∧ ∀ k (hk : k < C.length), w.cell? ⟨b, k, none⟩ = some (.int .i64 C[k])
theorem ClsIs.kept {w w' : World} {v : Value} {C : List Int} (h : ClsIs w v C) (hk : Kept [] w w') : ClsIs w' v C := by
  obtain ⟨b, cap, h1, h2, h3, h4⟩ := h
  exact ⟨b, cap, h1, h2, Nat.lt_of_lt_of_le h3 hk.size, fun k hk2 => by rw [hk.cell (p := ⟨b, k, none⟩) h3 (by simp)]; exact h4 k hk2⟩
theorem ClsIs.made (w : World) (C : List Int) (t : TypeId) : ClsIs (w.alloc (.cells (ivA C) t)) (.slice (some ⟨w.heap.size, 0, none⟩) C.length C.length) C :=
  ⟨w.heap.size, C.length, rfl, Nat.le_refl _, by simp, fun k hk => by rw [cell_of_row _ _ _ _ _ _ (heap_alloc_last w _)]; simp [ivA, iv, hk]⟩

/-- A place tells whether the number is there. -/
def IdxOk (C : List Int) (c i : Int) : Prop := decide (0 ≤ i) = C.contains c
set_option maxHeartbeats 2000000 in
theorem index_any (v : Value) (C : List Int) (c : Int) (w : World) (h : ClsIs w v C) (hl : C.length ≤ 1000) :
    Calls Tryz.prog 132 #[v, .int .i64 c] w fun e w' => ∃ i : Int, e = .returned (.int .i64 i) ∧ IdxOk C c i ∧ w = w' := by
  obtain ⟨b, cap, rfl, hcap, hb, hcell⟩ := h
  obtain ⟨m, hm⟩ : ∃ m, C.length = m := ⟨_, rfl⟩
  have HC := Lib.hid hcell
  have HM := Lib.hid hm
  rw [hm] at hcap hl
  rw [hm]
  clear hcell hm
  go_enter Tryz.func132, Tryz.ntmps132
  go_wp2_with fail
  go_loop [8] (fun i => ∃ k : Nat, k ≤ m ∧ i = .int .i64 k ∧ Hid (∀ j (hj : j < C.length), j < k → C[j] ≠ c)) (fun i => m - (intOf i).toNat)
  case atStart => exact ⟨0, by omega, rfl, fun j hj h0 => by omega⟩
  case round =>
    obtain ⟨k, hk, rfl, HS⟩ := hrel
    by_cases hlt : k < m
    · have hkc : k < C.length := by rw [HM.out]; exact hlt
      have hc := HC.out k hkc
      obtain ⟨x, hx⟩ : ∃ x, C[k] = x := ⟨_, rfl⟩
      rw [hx] at hc
      have HX := Lib.hid hx
      clear hx
      by_cases hxc : c = x
      · subst hxc
        have HQ : Hid (C.contains c = true) := by
          show _ = _
          rw [List.contains_iff_mem, ← HX.out]
          exact List.getElem_mem hkc
        clear HX
        go_wp2_with fail
        go_ret
        exact ⟨k, rfl, (by unfold IdxOk; rw [HQ.out]; simp), rfl⟩
      · have HN : Hid (∀ j (hj : j < C.length), j < k + 1 → C[j] ≠ c) := fun j hj h0 => by
          by_cases e : j = k
          · subst e; rw [HX.out]; exact fun q => hxc q.symm
          · exact HS.out j hj (by omega)
        go_wp2_with fail
        go_round
        case rel => exact ⟨k + 1, by omega, by go_num, HN⟩
        case measure => simp [intOf]; omega
    · have HQ : Hid (C.contains c = false) := by
        show _ = _
        rw [Bool.eq_false_iff]
        intro hh
        rw [List.contains_iff_mem] at hh
        obtain ⟨j, hj, e⟩ := List.getElem_of_mem hh
        exact HS.out j hj (by rw [HM.out] at hj; omega) e
      go_wp2_with fail
      go_ret
      exact ⟨-1, rfl, (by unfold IdxOk; rw [HQ.out]; rfl), rfl⟩
set_option maxHeartbeats 2000000 in
theorem contains_any (v : Value) (C : List Int) (c : Int) (w : World) (h : ClsIs w v C) (hl : C.length ≤ 1000) :
    Calls Tryz.prog 105 #[v, .int .i64 c] w fun e w' => e = .returned (.bool (C.contains c)) ∧ w = w' := by
  go_enter Tryz.func105, Tryz.ntmps105
  go_wp2_with fail
  refine (index_any v C c w h hl).mono ?_
  rintro e w' ⟨i, rfl, hi, rfl⟩
  go_wp2_with fail
  all_goals
    go_ret
    exact ⟨retB hi, rfl⟩

/-- Whether a byte is of these classes. -/
def inC (C : List Int) (c : UInt8) : Bool := C.contains (clsN c.toNat : Int)
set_option maxHeartbeats 4000000 in
theorem span_any (S : ByteArray) (v : Value) (C : List Int) (w : World) (hs : S.size ≤ 9223372036854775807) (h : ClsIs w v C) (hl : C.length ≤ 1000) (h0 : C.contains 0 = false) :
    Calls Tryz.prog 61 #[.string S, v] w fun e w' => e = .returned (.int .i64 (spanN (inC C) (bl S))) ∧ Kept [] w w' := by
  have HCL := Lib.hid h
  have HZ := Lib.hid h0
  clear h h0
  go_enter Tryz.func61, Tryz.ntmps61
  go_wp2_with fail
  go_loopw [] (fun wr => ∃ k : Nat, k ≤ S.size ∧ wr.heap[w.heap.size]? = some (.stringIter S k) ∧ Hid ((∀ j (hj : j < S.size), j < k → inC C S[j] = true) ∧ Kept [] w wr)) (fun wr => S.size - wr.iterPos w.heap.size)
  case atStart => exact ⟨0, by omega, World.iter_heap w S 0, fun j hj h0 => by omega, Kept.alloc _ _ _⟩
  case round =>
    obtain ⟨k, hk, hit, HS⟩ := hrel
    by_cases hlt : k < S.size
    · have hnx : ∀ ty, (Instr.next (.pointer (some ⟨w.heap.size, 0, none⟩)) true ty).run Tryz.prog wr = _ := fun ty => Lib.run_next_any_at wr w.heap.size S k ty hit hlt
      obtain ⟨R, hR⟩ : ∃ R, (Utf8.decode S k).1 = R := ⟨_, rfl⟩
      obtain ⟨K, hK⟩ : ∃ K, (Utf8.decode S k).2 = K := ⟨_, rfl⟩
      have hrl : R < 2147483648 := by have := Lib.rune_le S k; omega
      have hcl : clsN R = clsN (S[k]'hlt).toNat := by rw [← hR]; exact dec_cls S k hlt
      rw [hR, hK] at hnx
      have hit2 := Lib.iterAt_heap wr w.heap.size S k (k + K) hit
      have HK2 : Hid (Kept [] w (wr.iterAt w.heap.size S (k + K))) := HS.out.2.iterAt (Nat.le_refl _) S _
      obtain ⟨W, hWd⟩ : ∃ W, wr.iterAt w.heap.size S (k + K) = W := ⟨_, rfl⟩
      rw [hWd] at hnx hit2 HK2
      have HC2 : Hid (ClsIs W v C) := HCL.out.kept HK2.out
      obtain ⟨q, hq⟩ : ∃ q, inC C (S[k]'hlt) = q := ⟨_, rfl⟩
      have HQ := Lib.hid hq
      have HEQ : Hid (C.contains (clsN R : Int) = q) := by show _ = _; rw [hcl]; exact hq
      have HDC := Lib.hid (show S.size = S.size ∧ (Utf8.decode S k).2 = K from ⟨rfl, hK⟩)
      have HZ2 : Hid (q = true → K = 1) := fun hqt => by
        have hne : clsN (S[k]'hlt).toNat ≠ 0 := by
          intro e
          rw [hqt] at hq
          unfold inC at hq
          rw [e] at hq
          have := HZ.out
          simp only [Int.natCast_zero] at hq
          rw [this] at hq
          cases hq
        rw [← hK, decode_ascii S k hlt (cls_ascii hne)]
      have HPos : Hid (wr.iterPos w.heap.size = k) := iterPos_of hit
      clear hq hR hK hit hWd hcl
      go_wp2_with fail
      refine (classOf_any R _ hrl).mono ?_
      rintro e w2 ⟨rfl, rfl⟩
      go_wp2_with fail
      refine (contains_any v C _ _ HC2.out hl).mono ?_
      rw [HEQ.out]
      rintro e w2 ⟨rfl, rfl⟩
      cases q
      · have HN : Hid (spanN (inC C) (bl S) = k) := spanN_is (by rw [bl_len]; exact hk) (fun j hj h0 => HS.out.1 j (by rwa [bl_len] at hj) h0) (fun hh => HQ.out)
        go_wp2_with fail
        go_ret
        exact ⟨ret1 (by rw [HN.out]), HK2.out⟩
      · have hK1 := HZ2.out rfl
        subst hK1
        go_wp2_with fail
        go_roundw
        case rel =>
          refine ⟨k + 1, by omega, hit2, fun j hj h0 => ?_, HK2.out⟩
          by_cases e : j = k
          · subst e; exact HQ.out
          · exact HS.out.1 j hj (by omega)
        case measure =>
          rw [HPos.out, iterPos_of hit2]
          omega
    · have hnx : ∀ ty, (Instr.next (.pointer (some ⟨w.heap.size, 0, none⟩)) true ty).run Tryz.prog wr = _ := fun ty => Lib.run_next_end_at wr w.heap.size S k ty hit hlt
      have HN : Hid (spanN (inC C) (bl S) = S.size) := spanN_is (by rw [bl_len]; exact Nat.le_refl _) (fun j hj h0 => HS.out.1 j (by rwa [bl_len] at hj) (by rw [bl_len] at hj; omega)) (fun hh => by rw [bl_len] at hh; omega)
      go_wp2_with fail
      go_ret
      exact ⟨ret1 (by rw [HN.out]), HS.out.2⟩
end Go.Proofs.YtfpdgdacifiejaaGreat

namespace Go.Proofs.YtfpdgdacifiejaaGreat
open Go.RowKit Go.Maps

theorem inC_tl : inC [3, 5, 6] = tlB := by
  funext c
  unfold inC tlB
  have h6 : decide (c.toNat = 95) = decide (clsN c.toNat = 6) := by
    have := cls_eq c 6 95 (by simp)
    rw [← UInt8.toNat_inj] at this
    exact decide_eq_decide.2 this
  rw [cls_sm, cls_dg, h6]
  generalize clsN c.toNat = n
  rw [Bool.eq_iff_iff]
  simp
  omega
theorem inC_dg : inC [5] = dgB := by
  funext c
  unfold inC
  rw [cls_dg]
  generalize clsN c.toNat = n
  rw [Bool.eq_iff_iff]
  simp
  omega
theorem bl_nil {S : ByteArray} (h : S.size = 0) : bl S = [] := by
  apply List.eq_nil_of_length_eq_zero
  rw [bl_len, h]
theorem bl_cons {S : ByteArray} (h : 0 < S.size) : bl S = S[0] :: bl (S.extract 1 S.size) := by
  rw [bl_ext, List.take_of_length_le (by rw [List.length_drop, bl_len]; omega)]
  have := List.drop_eq_getElem_cons (l := bl S) (i := 0) (by rw [bl_len]; exact h)
  rw [List.drop_zero] at this
  exact this
theorem bl_from (S : ByteArray) (k : Nat) : bl (S.extract k S.size) = (bl S).drop k := by
  rw [bl_ext, List.take_of_length_le (by rw [List.length_drop, bl_len]; omega)]
theorem size_from (S : ByteArray) (k : Nat) : (S.extract k S.size).size = S.size - k := by
  rw [← bl_len, bl_from, List.length_drop, bl_len]

set_option maxHeartbeats 4000000 in
theorem part_any (S : ByteArray) (p : UInt8 → Bool) (f : Nat) (w : World) (hs : S.size ≤ 9223372036854775807) (hp : ∀ c, p c = decide (clsN c.toNat = f)) :
    Calls Tryz.prog 34 #[.string S, .int .i64 (f : Int)] w fun e w' => e = .returned (.int .i64 (partN p (bl S))) ∧ Kept [] w w' := by
  by_cases h0 : S.size = 0
  · have HP : Hid (partN p (bl S) = 0) := by show _ = _; rw [bl_nil h0]; rfl
    have he : (S.toList == []) = true := by rw [Lib.toList_data, show S.data.toList = [] from bl_nil h0]; rfl
    clear hp
    go_enter Tryz.func34, Tryz.ntmps34
    go_wp2_with fail
    go_ret
    exact ⟨ret1 (by rw [HP.out]; rfl), Kept.refl _ _⟩
  · have hpos : 0 < S.size := by omega
    have he : (S.toList == []) = false := by rw [Lib.toList_data, show S.data.toList = _ from bl_cons hpos]; rfl
    have hc := UInt8.toNat_lt S[0]
    obtain ⟨n, hn⟩ : ∃ n, clsN (S[0]'hpos).toNat = n := ⟨_, rfl⟩
    by_cases hf : n = f
    · subst hf
      have HP : Hid (partN p (bl S) = 1 + spanN tlB (bl (S.extract 1 S.size))) := by
        show _ = _
        rw [bl_cons hpos]
        simp only [partN]
        rw [if_pos (by rw [hp, hn]; simp)]
      have HN := Lib.hid hn
      clear hp hn
      obtain ⟨w2, hw2⟩ : ∃ w2, w.alloc (.cells #[.int .i64 3, .int .i64 5, .int .i64 6] 48) = w2 := ⟨_, rfl⟩
      have HCI : Hid (ClsIs w2 (.slice (some ⟨w.heap.size, 0, none⟩) 3 3) [3, 5, 6]) := by rw [← hw2]; exact ClsIs.made w [3, 5, 6] _
      have HK : Hid (Kept [] w w2) := by rw [← hw2]; exact Kept.alloc _ _ _
      go_enter Tryz.func34, Tryz.ntmps34
      go_wp2_with fail
      refine (classOf_any _ _ (by omega)).mono ?_
      rw [HN.out]
      rintro e w3 ⟨rfl, rfl⟩
      go_wp2_with fail
      refine (span_any (S.extract 1 S.size) _ [3, 5, 6] _ (by rw [size_from]; omega) HCI.out (by decide) (by decide)).mono ?_
      rw [inC_tl]
      obtain ⟨q, hq⟩ : ∃ q, spanN tlB (bl (S.extract 1 S.size)) = q := ⟨_, rfl⟩
      have hql : q + 1 ≤ S.size := by have := spanN_le tlB (bl (S.extract 1 S.size)); rw [hq, bl_len, size_from] at this; omega
      have HQ := Lib.hid hq
      rw [hq]
      clear hq
      rintro e w4 ⟨rfl, hk4⟩
      have HK4 : Hid (Kept [] w w4) := HK.out.trans hk4
      clear hk4
      go_wp2_with fail
      go_ret
      exact ⟨ret1 (by rw [HP.out, HQ.out]; go_num), HK4.out⟩
    · have HP : Hid (partN p (bl S) = 0) := by
        show _ = _
        rw [bl_cons hpos]
        simp only [partN]
        rw [if_neg (by rw [hp, hn]; simpa using hf)]
      have HN := Lib.hid hn
      have hf2 : ¬ (n : Int) = (f : Int) := by omega
      clear hp hn
      go_enter Tryz.func34, Tryz.ntmps34
      go_wp2_with fail
      refine (classOf_any _ _ (by omega)).mono ?_
      rw [HN.out]
      rintro e w3 ⟨rfl, rfl⟩
      go_wp2_with fail
      go_ret
      exact ⟨ret1 (by rw [HP.out]; rfl), Kept.refl _ _⟩

theorem idx_span : ∀ (l : List UInt8) (c : UInt8), Lib.indexByte l c = if spanN (notB c) l = l.length then -1 else (spanN (notB c) l : Int)
  | [], c => rfl
  | b :: l, c => by
    unfold Lib.indexByte
    rw [idx_span l c]
    have hle := spanN_le (notB c) l
    by_cases hb : b = c
    · subst hb
      simp [spanN, notB]
    · have h1 : notB c b = true := by simp [notB, hb]
      have h2 : (b == c) = false := by simpa using hb
      simp only [spanN, h1, h2, if_true, Bool.false_eq_true, if_false, List.length_cons]
      by_cases hf : spanN (notB c) l = l.length
      · simp [hf]
      · have : ¬ (spanN (notB c) l : Int) = -1 := by omega
        simp [hf, this]
theorem idxByte_any (S : ByteArray) (c : UInt8) (w : World) :
    Calls Tryz.prog 59 #[.string S, .int .u8 (c.toNat : Int)] w fun e w' => e = .returned (.int .i64 (if spanN (notB c) (bl S) = S.size then -1 else (spanN (notB c) (bl S) : Int))) ∧ w = w' := by
  refine (Any.strings_IndexByte Tryz.lays137 S (c.toNat : Int) w).mono fun e w' ⟨he, hw⟩ => ⟨?_, hw.symm⟩
  rw [he, idx_span]
  have : (c.toNat : Int).toNat.toUInt8 = c := by simp
  rw [this, ← bl_len S]
theorem prefix_any (S T : ByteArray) (w : World) :
    Calls Tryz.prog 60 #[.string S, .string T] w fun e w' => e = .returned (.bool (decide ((bl S).take (bl T).length = bl T))) ∧ w = w' := by
  refine (Any.strings_HasPrefix Tryz.lays99 S T w).mono fun e w' ⟨he, hw⟩ => ⟨?_, hw.symm⟩
  rw [he]
  refine retB ?_
  show Lib.hasPrefix (bl S) (bl T) = _
  rw [Bool.eq_iff_iff]
  simp only [Lib.hasPrefix, decide_eq_true_eq, List.isPrefixOf_iff_prefix]
  rw [List.prefix_iff_eq_take]
  exact eq_comm

set_option maxHeartbeats 4000000 in
theorem comment_any (S : ByteArray) (w : World) :
    Calls Tryz.prog 32 #[.string S] w fun e w' => e = .returned (.int .i64 (spanN (notB 10) (bl S))) ∧ w = w' := by
  have hle := spanN_le (notB 10) (bl S)
  rw [bl_len] at hle
  obtain ⟨n, hn⟩ : ∃ n, spanN (notB 10) (bl S) = n := ⟨_, rfl⟩
  rw [hn] at hle ⊢
  have HN := Lib.hid hn
  clear hn
  by_cases he : n = S.size
  · have HE : Hid ((if n = S.size then (-1 : Int) else n) = -1) := by show _ = _; rw [if_pos he]
    go_enter Tryz.func32, Tryz.ntmps32
    go_wp2_with fail
    refine (idxByte_any S 10 w).mono ?_
    rw [HN.out, HE.out]
    rintro e w2 ⟨rfl, rfl⟩
    go_wp2_with fail
    go_ret
    exact ⟨ret1 (by rw [he]), rfl⟩
  · have HE : Hid ((if n = S.size then (-1 : Int) else n) = n) := by show _ = _; rw [if_neg he]
    go_enter Tryz.func32, Tryz.ntmps32
    go_wp2_with fail
    refine (idxByte_any S 10 w).mono ?_
    rw [HN.out, HE.out]
    rintro e w2 ⟨rfl, rfl⟩
    go_wp2_with fail
    go_ret
    exact ⟨rfl, rfl⟩

set_option maxHeartbeats 4000000 in
theorem number_any (S : ByteArray) (w : World) (hs : S.size ≤ 9223372036854775807) :
    Calls Tryz.prog 35 #[.string S] w fun e w' => e = .returned (.int .i64 (numN (bl S))) ∧ Kept [] w w' := by
  have hle := spanN_le dgB (bl S)
  rw [bl_len] at hle
  obtain ⟨n, hn⟩ : ∃ n, spanN dgB (bl S) = n := ⟨_, rfl⟩
  rw [hn] at hle
  have HN := Lib.hid hn
  obtain ⟨w2, hw2⟩ : ∃ w2, w.alloc (.cells #[.int .i64 5] 48) = w2 := ⟨_, rfl⟩
  have HCI : Hid (ClsIs w2 (.slice (some ⟨w.heap.size, 0, none⟩) 1 1) [5]) := by rw [← hw2]; exact ClsIs.made w [5] _
  have HK : Hid (Kept [] w w2) := by rw [← hw2]; exact Kept.alloc _ _ _
  by_cases h9 : n ≤ 9
  all_goals
    have HU : Hid (numN (bl S) = if n ≤ 9 then n else 0) := by show _ = _; unfold numN; rw [hn]
    clear hn
    go_enter Tryz.func35, Tryz.ntmps35
    go_wp2_with fail
    refine (span_any S _ [5] _ hs HCI.out (by decide) (by decide)).mono ?_
    rw [inC_dg, HN.out]
    rintro e w4 ⟨rfl, hk4⟩
    have HK4 : Hid (Kept [] w w4) := HK.out.trans hk4
    clear hk4
    go_wp2_with fail
    go_ret
    refine ⟨ret1 ?_, HK4.out⟩
    rw [HU.out]
    simp [h9]

set_option maxHeartbeats 4000000 in
theorem variable_any (S : ByteArray) (w : World) (hs : S.size ≤ 9223372036854775807) (hp : 0 < S.size) :
    Calls Tryz.prog 36 #[.string S] w fun e w' => e = .returned (.int .i64 (varN (bl S))) ∧ Kept [] w w' := by
  have hle := partN_le smB (bl (S.extract 1 S.size))
  rw [bl_len, size_from] at hle
  obtain ⟨n, hn⟩ : ∃ n, partN smB (bl (S.extract 1 S.size)) = n := ⟨_, rfl⟩
  rw [hn] at hle
  have HN := Lib.hid hn
  have HU : Hid (varN (bl S) = if n = 0 then 0 else 1 + n) := by
    show _ = _
    unfold varN
    have : (bl S).tail = bl (S.extract 1 S.size) := by rw [bl_from, List.drop_one]
    rw [this, hn]
  clear hn
  by_cases h0 : n = 0
  · have HV : Hid (varN (bl S) = 0) := by show _ = _; rw [HU.out, if_pos h0]
    go_enter Tryz.func36, Tryz.ntmps36
    go_wp2_with fail
    refine (part_any (S.extract 1 S.size) smB 3 _ (by rw [size_from]; omega) cls_sm).mono ?_
    rw [HN.out, h0]
    rintro e w2 ⟨rfl, hk2⟩
    have HK2 := Lib.hid hk2
    clear hk2
    go_wp2_with fail
    go_ret
    exact ⟨ret1 (by rw [HV.out]; rfl), HK2.out⟩
  · have HV : Hid (varN (bl S) = 1 + n) := by show _ = _; rw [HU.out, if_neg h0]
    have hn0 : ¬ (n : Int) = 0 := by omega
    go_enter Tryz.func36, Tryz.ntmps36
    go_wp2_with fail
    refine (part_any (S.extract 1 S.size) smB 3 _ (by rw [size_from]; omega) cls_sm).mono ?_
    rw [HN.out]
    rintro e w2 ⟨rfl, hk2⟩
    have HK2 := Lib.hid hk2
    clear hk2
    go_wp2_with fail
    go_ret
    exact ⟨ret1 (by rw [HV.out]; go_num), HK2.out⟩

set_option maxHeartbeats 4000000 in
theorem quoted_any (S : ByteArray) (w : World) (hs : S.size ≤ 9223372036854775807) (hp : 0 < S.size) :
    Calls Tryz.prog 37 #[.string S] w fun e w' => e = .returned (.int .i64 (quoN (bl S))) ∧ Kept [] w w' := by
  have hle := spanN_le (notB S[0]) (bl (S.extract 1 S.size))
  rw [bl_len, size_from] at hle
  obtain ⟨n, hn⟩ : ∃ n, spanN (notB S[0]) (bl (S.extract 1 S.size)) = n := ⟨_, rfl⟩
  rw [hn] at hle
  have HN := Lib.hid hn
  have HU : Hid (quoN (bl S) = if n = S.size - 1 then 0 else n + 2) := by
    show _ = _
    unfold quoN
    have : (bl S).tail = bl (S.extract 1 S.size) := by rw [bl_from, List.drop_one]
    have hh : (bl S).headD 0 = S[0] := by rw [bl_cons hp]; rfl
    rw [this, hh, hn, bl_len, size_from]
  clear hn
  by_cases h0 : n = S.size - 1
  · have HV : Hid (quoN (bl S) = 0) := by show _ = _; rw [HU.out, if_pos h0]
    have HE : Hid (∀ wx, Calls Tryz.prog 59 #[.string (S.extract 1 S.size), .int .u8 ((S[0]'hp).toNat : Int)] wx fun e w' => e = .returned (.int .i64 (-1)) ∧ w' = wx) := fun wx => by
      have := idxByte_any (S.extract 1 S.size) S[0] wx
      rw [HN.out, size_from, if_pos h0] at this
      exact this.mono fun e w' ⟨a, b⟩ => ⟨a, b.symm⟩
    have N := HE.out
    have h1s : 1 ≤ S.size := hp
    go_enter Tryz.func37, Tryz.ntmps37
    go_wp2_with fail
    go_quiet ((go_at_call 59; exact Calls.quiet_of_same (N _)))
    go_wp2_with fail
    go_ret
    exact ⟨ret1 (by rw [HV.out]; rfl), Kept.drewN _ _ _⟩
  · have HV : Hid (quoN (bl S) = n + 2) := by show _ = _; rw [HU.out, if_neg h0]
    have HE : Hid (∀ wx, Calls Tryz.prog 59 #[.string (S.extract 1 S.size), .int .u8 ((S[0]'hp).toNat : Int)] wx fun e w' => e = .returned (.int .i64 n) ∧ w' = wx) := fun wx => by
      have := idxByte_any (S.extract 1 S.size) S[0] wx
      rw [HN.out, size_from, if_neg h0] at this
      exact this.mono fun e w' ⟨a, b⟩ => ⟨a, b.symm⟩
    have N := HE.out
    have h1s : 1 ≤ S.size := hp
    go_enter Tryz.func37, Tryz.ntmps37
    go_wp2_with fail
    go_quiet ((go_at_call 59; exact Calls.quiet_of_same (N _)))
    go_wp2_with fail
    go_ret
    exact ⟨ret1 (by rw [HV.out]; go_num), Kept.drewN _ _ _⟩

theorem col_lit : ({ data := #[58, 58] } : ByteArray) = strL [58, 58] := rfl
set_option maxHeartbeats 4000000 in
theorem name_any (S : ByteArray) (w : World) (hs : S.size ≤ 9223372036854775807) :
    Calls Tryz.prog 33 #[.string S] w fun e w' => e = .returned (.int .i64 (nameN (bl S))) ∧ Kept [] w w' := by
  obtain ⟨n, hn⟩ : ∃ n, partN smB (bl S) = n := ⟨_, rfl⟩
  have hnl := partN_le smB (bl S)
  rw [hn, bl_len] at hnl
  have HN := Lib.hid hn
  have HU : Hid (nameN (bl S) = if n = 0 then 0 else n + moreN ((bl S).drop n)) := by show _ = _; unfold nameN; rw [hn]
  clear hn
  by_cases h0 : n = 0
  · have HV : Hid (nameN (bl S) = 0) := by show _ = _; rw [HU.out, if_pos h0]
    go_enter Tryz.func33, Tryz.ntmps33
    go_wp2_with fail
    refine (part_any S smB 3 _ hs cls_sm).mono ?_
    rw [HN.out, h0]
    rintro e w2 ⟨rfl, hk2⟩
    have HK2 := Lib.hid hk2
    clear hk2
    go_wp2_with fail
    go_loopw [3] (fun i wr => i = .int .i64 0 ∧ wr = w2) (fun _ _ => 0)
    case atStart => exact ⟨rfl, rfl⟩
    case round =>
      obtain ⟨rfl, rfl⟩ := hrel
      go_wp2_with fail
      go_ret
      exact ⟨ret1 (by rw [HV.out]; rfl), HK2.out⟩
  · have HV : Hid (nameN (bl S) = n + moreN ((bl S).drop n)) := by show _ = _; rw [HU.out, if_neg h0]
    go_enter Tryz.func33, Tryz.ntmps33
    go_wp2_with fail
    refine (part_any S smB 3 _ hs cls_sm).mono ?_
    rw [HN.out]
    rintro e w2 ⟨rfl, hk2⟩
    have HK2 := Lib.hid hk2
    clear hk2
    go_wp2_with fail
    go_loopw [3] (fun i wr => ∃ q : Nat, i = .int .i64 q ∧ 0 < q ∧ q ≤ S.size ∧ Hid (nameN (bl S) = q + moreN ((bl S).drop q) ∧ Kept [] w wr)) (fun i _ => S.size - (intOf i).toNat)
    case atStart => exact ⟨n, rfl, by omega, hnl, HV.out, HK2.out⟩
    case round =>
      obtain ⟨q, rfl, hq0, hq, HS⟩ := hrel
      have hle : moreN ((bl S).drop q) ≤ S.size - q := by have := moreN_le ((bl S).drop q); rwa [List.length_drop, bl_len] at this
      by_cases ht : ((bl S).drop q).take 2 = [58, 58]
      · have HP : Hid (decide ((bl (S.extract q S.size)).take (bl (strL [58, 58])).length = bl (strL [58, 58])) = true) := by show _ = _; rw [bl_from]; exact decide_eq_true ht
        have hq2 : q + 2 ≤ S.size := by have := congrArg List.length ht; simp at this; omega
        obtain ⟨m, hm⟩ : ∃ m, partN smB (bl (S.extract (q + 2) S.size)) = m := ⟨_, rfl⟩
        have hml := partN_le smB (bl (S.extract (q + 2) S.size))
        rw [hm, bl_len, size_from] at hml
        have HM := Lib.hid hm
        have hm2 : partN smB (((bl S).drop q).drop 2) = m := by rw [List.drop_drop, ← bl_from]; exact hm
        clear hm
        by_cases hm0 : m = 0
        · have HE : Hid (nameN (bl S) = q) := by
            show _ = _
            rw [HS.out.1, moreN, if_neg (fun h => by rw [hm2] at h; omega)]
            rfl
          clear hm2 ht hle
          go_wp2_with fail
          rw [col_lit]
          refine (prefix_any _ _ _).mono ?_
          rw [HP.out]
          rintro e w3 ⟨rfl, rfl⟩
          go_wp2_with fail
          refine (part_any (S.extract (q + 2) S.size) smB 3 _ (by rw [size_from]; omega) cls_sm).mono ?_
          rw [HM.out, hm0]
          rintro e w4 ⟨rfl, hk4⟩
          have HK4 : Hid (Kept [] w w4) := HS.out.2.trans hk4
          clear hk4
          go_wp2_with fail
          go_ret
          exact ⟨ret1 (by rw [HE.out]), HK4.out⟩
        · have HE : Hid (nameN (bl S) = (q + (2 + m)) + moreN ((bl S).drop (q + (2 + m)))) := by
            show _ = _
            rw [HS.out.1, moreN, if_pos ⟨ht, by rw [hm2]; omega⟩, hm2, List.drop_drop]
            omega
          have hmi : ¬ (m : Int) = 0 := by omega
          clear hm2 ht hle
          go_wp2_with fail
          rw [col_lit]
          refine (prefix_any _ _ _).mono ?_
          rw [HP.out]
          rintro e w3 ⟨rfl, rfl⟩
          go_wp2_with fail
          refine (part_any (S.extract (q + 2) S.size) smB 3 _ (by rw [size_from]; omega) cls_sm).mono ?_
          rw [HM.out]
          rintro e w4 ⟨rfl, hk4⟩
          have HK4 : Hid (Kept [] w w4) := HS.out.2.trans hk4
          clear hk4
          go_wp2_with fail
          go_roundw
          case rel => exact ⟨q + (2 + m), by go_num, by omega, by omega, HE.out, HK4.out⟩
          case measure => simp [intOf]; omega
      · have HP : Hid (decide ((bl (S.extract q S.size)).take (bl (strL [58, 58])).length = bl (strL [58, 58])) = false) := by show _ = _; rw [bl_from]; exact decide_eq_false ht
        have HE : Hid (nameN (bl S) = q) := by
          show _ = _
          rw [HS.out.1, moreN, if_neg (fun h => ht h.1)]
          rfl
        clear ht hle
        go_wp2_with fail
        rw [col_lit]
        refine (prefix_any _ _ _).mono ?_
        rw [HP.out]
        rintro e w3 ⟨rfl, rfl⟩
        go_wp2_with fail
        go_ret
        exact ⟨ret1 (by rw [HE.out]), HS.out.2⟩
end Go.Proofs.YtfpdgdacifiejaaGreat

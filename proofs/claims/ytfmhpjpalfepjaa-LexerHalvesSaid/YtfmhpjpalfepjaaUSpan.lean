/-
  Layer 11: runes and bytes, a rune's class, a row of classes that is searched, how far a text is of some classes, and a name's part.
  Conditions: those that each theorem states.
-/
import Derived.Test.YtfmhpjpalfepjaaUCls
import Derived.Test.YtfmhpjpalfepjaaUShelf
import Derived.Lib.OthersKept
import Derived.Lib.TrimU
import Derived.Lib.FieldsU
import Derived.Laws.RangeAny
namespace Go.Proofs.Ytfmhpjpalfepjaa
open Go.RowKit Go.Maps

abbrev bl (S : ByteArray) : List UInt8 := S.data.toList
theorem bl_len (S : ByteArray) : (bl S).length = S.size := size_toList S
theorem bl_get (S : ByteArray) (i : Nat) (h : i < S.size) : (bl S)[i]'(by rw [bl_len]; exact h) = S[i] := rfl
theorem bl_get? (S : ByteArray) (i : Nat) (h : i < S.size) : (bl S)[i]? = some S[i] := by
  rw [List.getElem?_eq_getElem (by rw [bl_len]; exact h)]
  rfl
theorem bl_ext (S : ByteArray) (a b : Nat) : bl (S.extract a b) = ((bl S).drop a).take (b - a) := by
  have h := Lib.extract_toList S a b
  rw [Lib.toList_data] at h
  exact h
theorem bl_eq {S T : ByteArray} (h : bl S = bl T) : S = T := by
  cases S; cases T
  congr
  exact Array.toList_inj.1 h
theorem str_bl (S : ByteArray) : strL (bl S) = S := rfl
theorem bl_str (l : List UInt8) : bl (strL l) = l := rfl

theorem Kept.iterAt {w wr : World} (h : Kept [] w wr) {k : Nat} (hk : w.heap.size ≤ k) (s : ByteArray) (pos : Nat) : Kept [] w (wr.iterAt k s pos) :=
  ⟨h.os, h.tape, h.output, by rw [Lib.iterAt_size]; exact h.size, fun i hi hn => by rw [Lib.iterAt_other wr k i s pos (by omega)]; exact h.block i hi hn⟩

/-- What a rune is to a word hangs on its first byte alone. -/
theorem dec_cls (S : ByteArray) (pos : Nat) (h : pos < S.size) : clsN (Utf8.decode S pos).1 = clsN (S[pos]'h).toNat := by
  by_cases ha : (S[pos]'h).toNat < 128
  · rw [decode_ascii S pos h ha]
  · have h1 := (decode_high S pos h (by omega)).1
    have : ∀ n, 128 ≤ n → clsN n = 0 := fun n hn => by
      unfold clsN
      repeat' split
      all_goals omega
    rw [this _ h1, this _ (by omega)]
/-- A rune of several bytes has none below 128. -/
theorem dec_wide (S : ByteArray) (pos : Nat) (h : pos < S.size) : (Utf8.decode S pos).2 = 1 ∨ ∀ j, j < (Utf8.decode S pos).2 → ∃ h2 : pos + j < S.size, 128 ≤ (S[pos + j]'h2).toNat := by
  have gb : ∀ k (hk : pos + k < S.size), (S.get! (pos + k)).toNat = (S[pos + k]'hk).toNat := fun k hk => by
    rw [show S.get! (pos + k) = S[pos + k] from get_at S (pos + k) hk]
  by_cases ha : (S[pos]'h).toNat < 128
  · left; rw [decode_ascii S pos h ha]
  · have g0 := gb 0 (by omega)
    simp only [Nat.add_zero] at g0
    unfold Utf8.decode
    simp only [Nat.add_zero]
    have c (k : Nat) : (decide (pos + k < S.size) && (S.get! (pos + k)).toNat / 64 == 2) = true → ∃ h2 : pos + k < S.size, 128 ≤ (S[pos + k]'h2).toNat := by
      intro hh
      simp only [Bool.and_eq_true, decide_eq_true_eq, beq_iff_eq] at hh
      refine ⟨hh.1, ?_⟩
      have := gb k hh.1
      omega
    have z : ∃ h2 : pos + 0 < S.size, 128 ≤ (S[pos + 0]'h2).toNat := ⟨h, by simp only [Nat.add_zero]; omega⟩
    have e2 : ∀ b : Bool, b = true → (b && (decide (pos + 1 < S.size) && (S.get! (pos + 1)).toNat / 64 == 2)) = true → ∀ j, j < 2 → ∃ h2 : pos + j < S.size, 128 ≤ (S[pos + j]'h2).toNat := by
      intro b hb hh j hj
      rw [hb, Bool.true_and] at hh
      match j, hj with
      | 0, _ => exact z
      | 1, _ => exact c 1 hh
    split
    · left; rfl
    split
    · rename_i hh
      split
      · right
        simp only [Bool.and_eq_true] at hh
        intro j hj
        match j, hj with
        | 0, _ => exact z
        | 1, _ => exact c 1 (by simp only [Bool.and_eq_true]; exact hh.2)
      · left; rfl
    split
    · rename_i hh
      split
      · right
        simp only [Bool.and_eq_true] at hh
        intro j hj
        match j, hj with
        | 0, _ => exact z
        | 1, _ => exact c 1 (by simp only [Bool.and_eq_true]; exact hh.1.2)
        | 2, _ => exact c 2 (by simp only [Bool.and_eq_true]; exact hh.2)
      · left; rfl
    split
    · rename_i hh
      split
      · right
        simp only [Bool.and_eq_true] at hh
        intro j hj
        match j, hj with
        | 0, _ => exact z
        | 1, _ => exact c 1 (by simp only [Bool.and_eq_true]; exact hh.1.1.2)
        | 2, _ => exact c 2 (by simp only [Bool.and_eq_true]; exact hh.1.2)
        | 3, _ => exact c 3 (by simp only [Bool.and_eq_true]; exact hh.2)
      · left; rfl
    · left; rfl
/-- A byte below 128, or what stands behind one, begins a rune: no rune goes over it. -/
theorem dec_edge (S : ByteArray) (pos e : Nat) (h : pos < e) (he : e ≤ S.size) (hb : e = S.size ∨ (∃ h1 : e - 1 < S.size, (S[e - 1]'h1).toNat < 128) ∨ (∃ h1 : e < S.size, (S[e]'h1).toNat < 128)) : pos + (Utf8.decode S pos).2 ≤ e := by
  have hp : pos < S.size := by omega
  rcases dec_wide S pos hp with h1 | hw
  · omega
  · apply Nat.le_of_not_lt
    intro hlt
    rcases hb with rfl | ⟨h1, h2⟩ | ⟨h1, h2⟩
    · obtain ⟨h3, _⟩ := hw (S.size - pos) (by omega)
      omega
    · obtain ⟨h3, h4⟩ := hw (e - 1 - pos) (by omega)
      simp only [show pos + (e - 1 - pos) = e - 1 by omega] at h4
      omega
    · obtain ⟨h3, h4⟩ := hw (e - pos) (by omega)
      simp only [show pos + (e - pos) = e by omega] at h4
      omega

/-- A row of classes that is read. -/
def ClsIs (w : World) (v : Value) (C : List Int) : Prop :=
  ∃ b cap, v = .slice (some ⟨b, 0, none⟩) C.length cap ∧ C.length ≤ cap ∧ b < w.heap.size ∧ ∀ k (hk : k < C.length), w.cell? ⟨b, k, none⟩ = some (.int .i64 C[k])
theorem ClsIs.kept {w w' : World} {v : Value} {C : List Int} (h : ClsIs w v C) (hk : Kept [] w w') : ClsIs w' v C := by
  obtain ⟨b, cap, h1, h2, h3, h4⟩ := h
  exact ⟨b, cap, h1, h2, Nat.lt_of_lt_of_le h3 hk.size, fun k hk2 => by rw [hk.cell (p := ⟨b, k, none⟩) h3 (by simp)]; exact h4 k hk2⟩
theorem ClsIs.made (w : World) (C : List Int) (t : TypeId) : ClsIs (w.alloc (.cells (ivA C) t)) (.slice (some ⟨w.heap.size, 0, none⟩) C.length C.length) C :=
  ⟨w.heap.size, C.length, rfl, Nat.le_refl _, by simp, fun k hk => by rw [cell_of_row _ _ _ _ _ _ (heap_alloc_last w _)]; simp [ivA, iv, hk]⟩

/-- A place tells whether the number is there. -/
def IdxOk (C : List Int) (c i : Int) : Prop := decide (0 ≤ i) = C.contains c
set_option maxHeartbeats 2000000 in
theorem index_any (v : Value) (C : List Int) (c : Int) (w : World) (h : ClsIs w v C) (hl : C.length ≤ 1000) :
    Calls Try.prog 41 #[v, .int .i64 c] w fun e w' => ∃ i : Int, e = .returned (.int .i64 i) ∧ IdxOk C c i ∧ w = w' := by
  obtain ⟨b, cap, rfl, hcap, hb, hcell⟩ := h
  obtain ⟨m, hm⟩ : ∃ m, C.length = m := ⟨_, rfl⟩
  have HC := Lib.hid hcell
  have HM := Lib.hid hm
  rw [hm] at hcap hl
  rw [hm]
  clear hcell hm
  go_enter Try.func41, Try.ntmps41
  go_wp2_with fail
  go_loop [8] (fun i => ∃ k : Nat, k ≤ m ∧ i = .int .i64 k ∧ Hid (∀ j (hj : j < C.length), j < k → C[j] ≠ c)) (fun i => m - (intOf i).toNat)
  case atStart => exact ⟨0, by omega, rfl, fun j hj h0 => by omega⟩
  case round =>
    obtain ⟨k, hk, rfl, HS⟩ := hrel
    by_cases hlt : k < m
    · have hkc : k < C.length := by rw [HM.out]; exact hlt
      have hc := HC.out k hkc
      obtain ⟨x, hx⟩ : ∃ x, C[k] = x := ⟨_, rfl⟩
      rw [hx] at hc
      have HX := Lib.hid hx
      clear hx
      by_cases hxc : c = x
      · subst hxc
        have HQ : Hid (C.contains c = true) := by
          show _ = _
          rw [List.contains_iff_mem, ← HX.out]
          exact List.getElem_mem hkc
        clear HX
        go_wp2_with fail
        go_ret
        exact ⟨k, rfl, (by unfold IdxOk; rw [HQ.out]; simp), rfl⟩
      · have HN : Hid (∀ j (hj : j < C.length), j < k + 1 → C[j] ≠ c) := fun j hj h0 => by
          by_cases e : j = k
          · subst e; rw [HX.out]; exact fun q => hxc q.symm
          · exact HS.out j hj (by omega)
        go_wp2_with fail
        go_round
        case rel => exact ⟨k + 1, by omega, by go_num, HN⟩
        case measure => simp [intOf]; omega
    · have HQ : Hid (C.contains c = false) := by
        show _ = _
        rw [Bool.eq_false_iff]
        intro hh
        rw [List.contains_iff_mem] at hh
        obtain ⟨j, hj, e⟩ := List.getElem_of_mem hh
        exact HS.out j hj (by rw [HM.out] at hj; omega) e
      go_wp2_with fail
      go_ret
      exact ⟨-1, rfl, (by unfold IdxOk; rw [HQ.out]; rfl), rfl⟩
set_option maxHeartbeats 2000000 in
theorem contains_any (v : Value) (C : List Int) (c : Int) (w : World) (h : ClsIs w v C) (hl : C.length ≤ 1000) :
    Calls Try.prog 39 #[v, .int .i64 c] w fun e w' => e = .returned (.bool (C.contains c)) ∧ w = w' := by
  go_enter Try.func39, Try.ntmps39
  go_wp2_with fail
  refine (index_any v C c w h hl).mono ?_
  rintro e w' ⟨i, rfl, hi, rfl⟩
  go_wp2_with fail
  all_goals
    go_ret
    exact ⟨retB hi, rfl⟩

/-- Whether a byte is of these classes. -/
def inC (C : List Int) (c : UInt8) : Bool := C.contains (clsN c.toNat : Int)
set_option maxHeartbeats 4000000 in
theorem span_any (S : ByteArray) (v : Value) (C : List Int) (w : World) (hs : S.size ≤ 9223372036854775807) (h : ClsIs w v C) (hl : C.length ≤ 1000) (h0 : C.contains 0 = false) :
    Calls Try.prog 36 #[.string S, v] w fun e w' => e = .returned (.int .i64 (spanN (inC C) (bl S))) ∧ Kept [] w w' := by
  have HCL := Lib.hid h
  have HZ := Lib.hid h0
  clear h h0
  go_enter Try.func36, Try.ntmps36
  go_wp2_with fail
  go_loopw [] (fun wr => ∃ k : Nat, k ≤ S.size ∧ wr.heap[w.heap.size]? = some (.stringIter S k) ∧ Hid ((∀ j (hj : j < S.size), j < k → inC C S[j] = true) ∧ Kept [] w wr)) (fun wr => S.size - wr.iterPos w.heap.size)
  case atStart => exact ⟨0, by omega, World.iter_heap w S 0, fun j hj h0 => by omega, Kept.alloc _ _ _⟩
  case round =>
    obtain ⟨k, hk, hit, HS⟩ := hrel
    by_cases hlt : k < S.size
    · have hnx : ∀ ty, (Instr.next (.pointer (some ⟨w.heap.size, 0, none⟩)) true ty).run Try.prog wr = _ := fun ty => Lib.run_next_any_at wr w.heap.size S k ty hit hlt
      obtain ⟨R, hR⟩ : ∃ R, (Utf8.decode S k).1 = R := ⟨_, rfl⟩
      obtain ⟨K, hK⟩ : ∃ K, (Utf8.decode S k).2 = K := ⟨_, rfl⟩
      have hrl : R < 2147483648 := by have := Lib.rune_le S k; omega
      have hcl : clsN R = clsN (S[k]'hlt).toNat := by rw [← hR]; exact dec_cls S k hlt
      rw [hR, hK] at hnx
      have hit2 := Lib.iterAt_heap wr w.heap.size S k (k + K) hit
      have HK2 : Hid (Kept [] w (wr.iterAt w.heap.size S (k + K))) := HS.out.2.iterAt (Nat.le_refl _) S _
      obtain ⟨W, hWd⟩ : ∃ W, wr.iterAt w.heap.size S (k + K) = W := ⟨_, rfl⟩
      rw [hWd] at hnx hit2 HK2
      have HC2 : Hid (ClsIs W v C) := HCL.out.kept HK2.out
      obtain ⟨q, hq⟩ : ∃ q, inC C (S[k]'hlt) = q := ⟨_, rfl⟩
      have HQ := Lib.hid hq
      have HEQ : Hid (C.contains (clsN R : Int) = q) := by show _ = _; rw [hcl]; exact hq
      have HDC := Lib.hid (show S.size = S.size ∧ (Utf8.decode S k).2 = K from ⟨rfl, hK⟩)
      have HZ2 : Hid (q = true → K = 1) := fun hqt => by
        have hne : clsN (S[k]'hlt).toNat ≠ 0 := by
          intro e
          rw [hqt] at hq
          unfold inC at hq
          rw [e] at hq
          have := HZ.out
          simp only [Int.natCast_zero] at hq
          rw [this] at hq
          cases hq
        rw [← hK, decode_ascii S k hlt (cls_ascii hne)]
      have HPos : Hid (wr.iterPos w.heap.size = k) := iterPos_of hit
      clear hq hR hK hit hWd hcl
      go_wp2_with fail
      refine (classOf_any R _ hrl).mono ?_
      rintro e w2 ⟨rfl, rfl⟩
      go_wp2_with fail
      refine (contains_any v C _ _ HC2.out hl).mono ?_
      rw [HEQ.out]
      rintro e w2 ⟨rfl, rfl⟩
      cases q
      · have HN : Hid (spanN (inC C) (bl S) = k) := spanN_is (by rw [bl_len]; exact hk) (fun j hj h0 => HS.out.1 j (by rwa [bl_len] at hj) h0) (fun hh => HQ.out)
        go_wp2_with fail
        go_ret
        exact ⟨ret1 (by rw [HN.out]), HK2.out⟩
      · have hK1 := HZ2.out rfl
        subst hK1
        go_wp2_with fail
        go_roundw
        case rel =>
          refine ⟨k + 1, by omega, hit2, fun j hj h0 => ?_, HK2.out⟩
          by_cases e : j = k
          · subst e; exact HQ.out
          · exact HS.out.1 j hj (by omega)
        case measure =>
          rw [HPos.out, iterPos_of hit2]
          omega
    · have hnx : ∀ ty, (Instr.next (.pointer (some ⟨w.heap.size, 0, none⟩)) true ty).run Try.prog wr = _ := fun ty => Lib.run_next_end_at wr w.heap.size S k ty hit hlt
      have HN : Hid (spanN (inC C) (bl S) = S.size) := spanN_is (by rw [bl_len]; exact Nat.le_refl _) (fun j hj h0 => HS.out.1 j (by rwa [bl_len] at hj) (by rw [bl_len] at hj; omega)) (fun hh => by rw [bl_len] at hh; omega)
      go_wp2_with fail
      go_ret
      exact ⟨ret1 (by rw [HN.out]), HS.out.2⟩
end Go.Proofs.Ytfmhpjpalfepjaa

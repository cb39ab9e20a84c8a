/-
  Texts that are cut at one byte: the library's Cut and Split, by the library's own contracts, and the document's Split.
  Conditions: those that each theorem states.
-/
import Derived.Test.YtdaofgmdledcbaaDoorTRow
import Derived.Test.YtdaofgmdledcbaaDoorLShelf
import Derived.Lib.SplitLaws
import Derived.BigQuiet
namespace Go.Proofs.YtdaofgmdledcbaaDoor
open Go.RowKit Go.Maps Go.Shelf

def oneS (c : UInt8) : ByteArray := ⟨#[c]⟩
/-- A text's pieces between the bytes c. -/
def cutC (c : UInt8) : List UInt8 → List (List UInt8)
  | [] => [[]]
  | x :: l => if x = c then [] :: cutC c l else match cutC c l with
    | [] => [[x]]
    | p :: ps => (x :: p) :: ps
theorem cutC_miss {c : UInt8} : ∀ (a : List UInt8), (∀ x ∈ a, x ≠ c) → cutC c a = [a]
  | [], _ => rfl
  | x :: a, h => by
    rw [cutC, if_neg (h x (by simp)), cutC_miss a fun y hy => h y (by simp [hy])]
theorem cutC_hit {c : UInt8} : ∀ (a b : List UInt8), (∀ x ∈ a, x ≠ c) → cutC c (a ++ c :: b) = a :: cutC c b
  | [], b, _ => by simp [cutC]
  | x :: a, b, h => by
    rw [List.cons_append, cutC, if_neg (h x (by simp)), cutC_hit a b fun y hy => h y (by simp [hy])]
theorem cutC_ne {c : UInt8} : ∀ l : List UInt8, cutC c l ≠ []
  | [] => by simp [cutC]
  | x :: l => by
    rw [cutC]
    split
    · simp
    · split <;> simp
theorem occ_oneC (c : UInt8) (s : List UInt8) (j : Nat) (h : Lib.occAt s [c] j = false) (hj : j < s.length) : s[j] ≠ c := by
  intro e
  rw [Lib.occAt_iff_take s [c] j (by simp; omega)] at h
  rw [List.drop_eq_getElem_cons hj, e] at h
  simp at h
theorem splitK_cutC (c : UInt8) : ∀ (n : Nat) (s : List UInt8), s.length ≤ n → Lib.splitK [c] 0 (Lib.count s [c]) s = cutC c s
  | n, s, hn => by
    rcases Lib.index_spec s [c] with ⟨hi, hno⟩ | ⟨i, hi, hil, hocc, hno⟩
    · rw [Lib.count_miss hi, Lib.splitK]
      symm
      refine cutC_miss s fun x hx => ?_
      obtain ⟨j, hj, rfl⟩ := List.getElem_of_mem hx
      exact occ_oneC c s j (hno j (by omega)) hj
    · have hc := Lib.count_hit (sub := [c]) (by simp) hi
      rw [hc, Nat.add_comm, Lib.splitK]
      have hm : ¬ (Lib.index s [c] == -1) = true := fun e => by have := beq_iff_eq.1 e; omega
      rw [if_neg hm, hi]
      have hg := Lib.occAt_head (t := []) rfl hocc
      obtain ⟨hlt, hge⟩ := List.getElem?_eq_some_iff.1 hg
      have hsp : s = s.take i ++ c :: s.drop (i + 1) := by
        conv => lhs; rw [← List.take_append_drop i s, List.drop_eq_getElem_cons hlt, hge]
      have hfree : ∀ x ∈ s.take i, x ≠ c := fun x hx => by
        obtain ⟨j, hj, rfl⟩ := List.getElem_of_mem hx
        rw [List.length_take] at hj
        rw [List.getElem_take]
        exact occ_oneC c s j (hno j (by omega)) (by omega)
      have hcut : cutC c s = s.take i :: cutC c (s.drop (i + 1)) := by
        conv => lhs; rw [hsp]
        exact cutC_hit _ _ hfree
      rw [hcut]
      cases n with
      | zero => omega
      | succ n =>
        have ih := splitK_cutC c n (s.drop (i + 1)) (by rw [List.length_drop]; omega)
        simp only [Int.toNat_natCast, Nat.add_zero, List.length_singleton]
        rw [ih]
theorem splitB_cutC (c : UInt8) (l : List UInt8) : Lib.splitB (oneS c) 0 (Lib.countB (strL l) (oneS c)) (strL l) = (cutC c l).map strL := by
  have h := Lib.splitB_data (oneS c) 0 (Lib.countB (strL l) (oneS c)) (strL l)
  have h2 : Lib.splitK (oneS c).data.toList 0 (Lib.countB (strL l) (oneS c)) (strL l).data.toList = cutC c l := splitK_cutC c l.length l (Nat.le_refl _)
  rw [h2] at h
  rw [← h, List.map_map]
  symm
  exact List.map_id _
theorem count_oneC (c : UInt8) (s : ByteArray) (w : World) : Calls Tryd.prog 43 #[.string s, .string (oneS c)] w fun e w' => e = .returned (.int .i64 (Lib.countB s (oneS c))) ∧ w' = w := by
  refine (Any.strings_Count_one Tryd.lays138 s c w).mono fun e w' ⟨he, hw⟩ => ⟨?_, hw⟩
  rw [he]
  show _ = Ending.returned (Value.int .i64 ((Lib.count s.data.toList [c] : Nat) : Int))
  rw [Lib.count_one]
  rfl
theorem index_oneC (c : UInt8) (s : ByteArray) (w : World) : Calls Tryd.prog 44 #[.string s, .string (oneS c)] w fun e w' => e = .returned (.int .i64 (Lib.indexB s (oneS c))) ∧ w' = w := by
  refine (Any.strings_Index_one Tryd.lays143 s c w).mono fun e w' ⟨he, hw⟩ => ⟨?_, hw⟩
  rw [he]
  show _ = Ending.returned (Value.int .i64 (Lib.index s.data.toList [c]))
  rw [Lib.index_one]
theorem cutC_count (c : UInt8) (l : List UInt8) : (cutC c l).length = Lib.countB (strL l) (oneS c) + 1 := by
  have := Lib.splitB_all (oneS c) (by show 0 < 1; omega) 0 _ (strL l) rfl
  rw [splitB_cutC, List.length_map] at this
  exact this
theorem cutC_len (c : UInt8) (l : List UInt8) : (cutC c l).length ≤ l.length + 1 := by
  have := Lib.countB_le (oneS c) (by show 0 < 1; omega) _ (strL l) (Nat.le_refl _)
  rw [cutC_count]
  rw [strL_size] at this
  omega
theorem cutC_le {c : UInt8} : ∀ (l : List UInt8), ∀ x ∈ cutC c l, x.length ≤ l.length
  | [], x, hx => by simp [cutC] at hx; simp [hx]
  | y :: l, x, hx => by
    have ih := cutC_le (c := c) l
    rw [cutC] at hx
    split at hx
    · simp at hx
      rcases hx with rfl | hx
      · simp
      · have := ih x hx; simp; omega
    · split at hx
      · simp at hx; simp [hx]
      · rename_i p ps hp
        simp at hx
        rcases hx with rfl | hx
        · have := ih p (by rw [hp]; simp); simp; omega
        · have := ih x (by rw [hp]; simp [hx]); simp; omega

set_option maxHeartbeats 1000000 in
/-- strings.Split(s, c). -/
theorem split_oneC (c : UInt8) (l : List UInt8) (w : World) (hs : l.length < 4294967281) :
    Calls Tryd.prog 37 #[.string (strL l), .string (oneS c)] w fun e w' =>
      e = .returned (.slice (some ⟨w.heap.size, 0, none⟩) (cutC c l).length (cutC c l).length) ∧ w' = w.alloc (.cells (svA (cutC c l)) 9) := by
  have hss : (strL l).size < 4294967281 := by rw [strL_size]; exact hs
  have hle := Lib.countB_le (oneS c) (by show 0 < 1; omega) _ (strL l) (Nat.le_refl _)
  have hcc := cutC_count c l
  have cc := Any.strings_genSplit_core Tryd.lays221 (by kernel_rfl) (strL l) (oneS c) 0 (-1) (cutC c l).length w hss (by show 0 < 1; omega) (Nat.zero_le _)
    (fun x _ _ => index_oneC c x _) (count_oneC c (strL l) w) (by decide) (by decide) (by rw [if_pos (by decide), hcc]; omega)
  have e1 : (cutC c l).length - 1 = Lib.countB (strL l) (oneS c) := by omega
  rw [e1, splitB_cutC, List.length_map] at cc
  have e2 : Lib.cellsOf ((cutC c l).map strL) (cutC c l).length = svA (cutC c l) := by
    have := Lib.cellsOf_full ((cutC c l).map strL)
    rw [List.length_map] at this
    rw [this]
    simp [svA, sv]
  rw [e2] at cc
  have c' : Calls Tryd.prog 40 #[.string (strL l), .string (oneS c), .int .i64 0, .int .i64 (-1)] w fun e w' => e = .returned (.slice (some ⟨w.heap.size, 0, none⟩) (cutC c l).length (cutC c l).length) ∧ w' = w.alloc (.cells (svA (cutC c l)) 9) := cc
  have HC := Lib.hid c'
  clear hle hcc cc c' e1 e2 hss
  go_enter Tryd.func37, Tryd.ntmps37
  go_wp2_with fail
  refine HC.out.mono ?_
  rintro e w' ⟨rfl, rfl⟩
  go_wp2_with fail
  go_ret
  exact ⟨rfl, rfl⟩

/-- A text ahead of the first byte c, and behind it. -/
def firstC (c : UInt8) (l : List UInt8) : List UInt8 × List UInt8 := match Lib.index l [c] with
  | .ofNat i => (l.take i, l.drop (i + 1))
  | .negSucc _ => (l, [])
theorem firstC_miss {c : UInt8} {l : List UInt8} (h : Lib.index l [c] = -1) : firstC c l = (l, []) := by
  unfold firstC
  rw [h]
  rfl
theorem firstC_hit {c : UInt8} {l : List UInt8} {i : Nat} (h : Lib.index l [c] = (i : Int)) : firstC c l = (l.take i, l.drop (i + 1)) := by
  unfold firstC
  rw [h]
theorem slIndex_oneC (c : UInt8) (l : List UInt8) (w : World) : Calls Tryd.prog 41 #[.string (strL l), .string (oneS c)] w fun e w' => e = .returned (.int .i64 (Lib.index l [c])) ∧ w' = w := by
  refine (Any.stringslite_Index_one { Tryd.lays143 with } (strL l) c w).mono fun e w' ⟨he, hw⟩ => ⟨?_, hw⟩
  rw [he]
  show _ = Ending.returned (Value.int .i64 (Lib.index (strL l).data.toList [c]))
  rw [Lib.index_one]
theorem extract_take (l : List UInt8) (i : Nat) : (strL l).extract 0 i = strL (l.take i) := by
  apply ByteArray.ext
  apply Array.toList_inj.1
  rw [Lib.extract_data]
  simp [strL]
theorem extract_drop (l : List UInt8) (i : Nat) : (strL l).extract i (strL l).size = strL (l.drop i) := by
  apply ByteArray.ext
  apply Array.toList_inj.1
  rw [Lib.extract_data, strL_size]
  simp [strL]
  exact List.take_of_length_le (by simp)

set_option maxHeartbeats 1000000 in
theorem slCut_oneC (c : UInt8) (l : List UInt8) (w : World) (hs : l.length ≤ 9223372036854775806) :
    Calls Tryd.prog 39 #[.string (strL l), .string (oneS c)] w fun e w' => ∃ b, e = .returned (.tuple #[.string (strL (firstC c l).1), .string (strL (firstC c l).2), .bool b]) ∧ Drawn w w' := by
  have HSZ := Lib.hid (strL_size l)
  have hsz : (strL l).size ≤ 9223372036854775806 := by rw [HSZ.out]; exact hs
  have hone : (oneS c).size = 1 := rfl
  rcases Lib.index_spec l [c] with ⟨hi, _⟩ | ⟨i, hi, _, hocc, _⟩
  · have HF := Lib.hid (firstC_miss hi)
    have HI := Lib.hid hi
    clear hi
    go_enter Tryd.func39, Tryd.ntmps39
    go_wp2_with fail
    refine (slIndex_oneC c l _).mono ?_
    rw [HI.out]
    rintro e w' ⟨rfl, rfl⟩
    go_wp2_with fail
    go_ret3
    exact ⟨false, by rw [HF.out]; rfl, ⟨0, rfl⟩⟩
  · have HF := Lib.hid (firstC_hit hi)
    have HI := Lib.hid hi
    have hil : i + 1 ≤ l.length := by
      obtain ⟨hlt, _⟩ := List.getElem?_eq_some_iff.1 (Lib.occAt_head (t := []) rfl hocc)
      exact hlt
    clear hocc
    have hil' : i + 1 ≤ (strL l).size := by rw [HSZ.out]; exact hil
    have x1 := extract_take l i
    have x2 := extract_drop l (i + 1)
    clear hi
    go_enter Tryd.func39, Tryd.ntmps39
    go_wp2_with fail
    refine (slIndex_oneC c l _).mono ?_
    rw [HI.out]
    rintro e w' ⟨rfl, rfl⟩
    go_wp2_with fail
    go_quiet (fail)
    go_wp2_with fail
    go_ret3
    refine ⟨true, ?_, ⟨_, rfl⟩⟩
    rw [HF.out]
    first
      | rfl
      | (show Ending.returned (.tuple #[.string ((strL l).extract 0 i), .string ((strL l).extract (i + 1) (strL l).size), .bool true]) = _; rw [x1, x2])

set_option maxHeartbeats 1000000 in
theorem cut_oneC (c : UInt8) (l : List UInt8) (w : World) (hs : l.length ≤ 9223372036854775806) :
    Calls Tryd.prog 36 #[.string (strL l), .string (oneS c)] w fun e w' => ∃ b, e = .returned (.tuple #[.string (strL (firstC c l).1), .string (strL (firstC c l).2), .bool b]) ∧ Drawn w w' := by
  go_enter Tryd.func36, Tryd.ntmps36
  go_wp2_with fail
  refine (slCut_oneC c l _ hs).mono ?_
  rintro e w' ⟨b, rfl, hd⟩
  have HD := Lib.hid hd
  clear hd
  go_wp2_with fail
  go_ret3
  exact ⟨b, rfl, HD.out⟩
end Go.Proofs.YtdaofgmdledcbaaDoor

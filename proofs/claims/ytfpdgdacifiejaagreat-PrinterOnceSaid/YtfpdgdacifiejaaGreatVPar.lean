/-
  Layer 11: the document's letters, parts, Name and Type; Keyword; the program's Name and Type.
  Conditions: those that each theorem states.
  Layer 11: the document's Name; Keyword on both sides; the program's Name and Type.
  Conditions: those that each theorem states.
  Layer 12: the program's parser in memory: its words, its place, its nodes, and rows of numbers of the call's own; what a call may change.
  Conditions: those that each theorem states.
-/
import Derived.Test.YtfpdgdacifiejaaGreatUCut
import Derived.Laws.AppendOwnNone
namespace Go.Proofs.YtfpdgdacifiejaaGreat
open Go.RowKit Go.Maps

set_option maxHeartbeats 1000000 in
theorem rsmall_any (c : UInt8) (w : World) : Calls Tryz.prog 71 #[.int .u8 (c.toNat : Int)] w fun e w' => e = .returned (.bool (smB c)) ∧ w = w' := by
  have hc := UInt8.toNat_lt c
  go_enter Tryz.func71, Tryz.ntmps71
  go_wp2
  all_goals
    go_ret
    refine ⟨retB ?_, rfl⟩
    unfold smB
    rw [Bool.eq_iff_iff]
    first
      | (simp; done)
      | (simp; omega)
set_option maxHeartbeats 1000000 in
theorem rdigit_any (c : UInt8) (w : World) : Calls Tryz.prog 72 #[.int .u8 (c.toNat : Int)] w fun e w' => e = .returned (.bool (dgB c)) ∧ w = w' := by
  have hc := UInt8.toNat_lt c
  go_enter Tryz.func72, Tryz.ntmps72
  go_wp2
  all_goals
    go_ret
    refine ⟨retB ?_, rfl⟩
    unfold dgB
    rw [Bool.eq_iff_iff]
    first
      | (simp; done)
      | (simp; omega)
set_option maxHeartbeats 1000000 in
theorem rtail_any (c : UInt8) (w : World) : Calls Tryz.prog 73 #[.int .u8 (c.toNat : Int)] w fun e w' => e = .returned (.bool (tlB c)) ∧ w = w' := by
  have hc := UInt8.toNat_lt c
  cases h1 : smB c
  · cases h2 : dgB c
    · have HT : Hid (tlB c = decide (c.toNat = 95)) := by show _ = _; unfold tlB; rw [h1, h2]; rfl
      have H1 := Lib.hid h1
      have H2 := Lib.hid h2
      clear h1 h2
      go_enter Tryz.func73, Tryz.ntmps73
      go_wp2_with fail
      refine (rsmall_any c _).mono ?_
      rw [H1.out]
      rintro e w2 ⟨rfl, rfl⟩
      go_wp2_with fail
      refine (rdigit_any c _).mono ?_
      rw [H2.out]
      rintro e w2 ⟨rfl, rfl⟩
      go_wp2_with fail
      all_goals
        go_ret
        refine ⟨retB ?_, rfl⟩
        rw [HT.out, Bool.eq_iff_iff]
        first
          | (simp; done)
          | (simp; omega)
    · have HT : Hid (tlB c = true) := by show _ = _; unfold tlB; rw [h1, h2]; rfl
      have H1 := Lib.hid h1
      have H2 := Lib.hid h2
      clear h1 h2
      go_enter Tryz.func73, Tryz.ntmps73
      go_wp2_with fail
      refine (rsmall_any c _).mono ?_
      rw [H1.out]
      rintro e w2 ⟨rfl, rfl⟩
      go_wp2_with fail
      refine (rdigit_any c _).mono ?_
      rw [H2.out]
      rintro e w2 ⟨rfl, rfl⟩
      go_wp2_with fail
      go_ret
      exact ⟨retB HT.out.symm, rfl⟩
  · have HT : Hid (tlB c = true) := by show _ = _; unfold tlB; rw [h1]; rfl
    have H1 := Lib.hid h1
    clear h1
    go_enter Tryz.func73, Tryz.ntmps73
    go_wp2_with fail
    refine (rsmall_any c _).mono ?_
    rw [H1.out]
    rintro e w2 ⟨rfl, rfl⟩
    go_wp2_with fail
    go_ret
    exact ⟨retB HT.out.symm, rfl⟩

theorem partN_full {p : UInt8 → Bool} {S : ByteArray} (h : 0 < S.size) : decide (0 < (bl S).length ∧ partN p (bl S) = (bl S).length) = (p S[0] && decide (∀ j (hj : j < S.size), 1 ≤ j → tlB S[j] = true)) := by
  rw [Bool.eq_iff_iff, Bool.and_eq_true, decide_eq_true_iff, decide_eq_true_iff, bl_len, bl_cons h]
  simp only [partN]
  have hle := spanN_le tlB (bl (S.extract 1 S.size))
  rw [bl_len, size_from] at hle
  have hg : ∀ j (hj : j < S.size) (h1 : 1 ≤ j) (hb : j - 1 < (bl (S.extract 1 S.size)).length), (bl (S.extract 1 S.size))[j - 1] = S[j] := by
    intro j hj h1 hb
    have : (bl (S.extract 1 S.size))[j - 1]? = some S[j] := by
      rw [bl_from, List.getElem?_drop, show 1 + (j - 1) = j by omega, bl_get? S j hj]
    rw [List.getElem?_eq_getElem hb] at this
    exact Option.some.inj this
  constructor
  · rintro ⟨_, h2⟩
    split at h2
    · rename_i hp
      refine ⟨hp, fun j hj h1 => ?_⟩
      have hb : j - 1 < (bl (S.extract 1 S.size)).length := by rw [bl_len, size_from]; omega
      have := spanN_all tlB _ (j - 1) hb (by omega)
      rwa [hg j hj h1 hb] at this
    · omega
  · rintro ⟨hp, h2⟩
    refine ⟨h, ?_⟩
    rw [if_pos hp]
    have : spanN tlB (bl (S.extract 1 S.size)) = S.size - 1 := by
      rw [spanN_full]
      · rw [bl_len, size_from]
      · intro c hc
        obtain ⟨k, hk, rfl⟩ := List.getElem_of_mem hc
        have hk2 : k < S.size - 1 := by rw [bl_len, size_from] at hk; exact hk
        have := hg (k + 1) (by omega) (by omega) (by simpa using hk)
        simp only [Nat.add_sub_cancel] at this
        rw [this]
        exact h2 (k + 1) (by omega) (by omega)
    omega
theorem part_yes {p : UInt8 → Bool} {S : ByteArray} (h : 0 < S.size) (ht : ∀ j (hj : j < S.size), 1 ≤ j → tlB S[j] = true) : decide (0 < (bl S).length ∧ partN p (bl S) = (bl S).length) = p S[0] := by
  rw [partN_full h, decide_eq_true ht, Bool.and_true]
theorem part_no {p : UInt8 → Bool} {S : ByteArray} (j : Nat) (hj : j < S.size) (h1 : 1 ≤ j) (ht : tlB S[j] = false) : decide (0 < (bl S).length ∧ partN p (bl S) = (bl S).length) = false := by
  rw [partN_full (by omega), decide_eq_false, Bool.and_false]
  intro hh
  rw [hh j hj h1] at ht
  cases ht
theorem part_nil {p : UInt8 → Bool} {S : ByteArray} (h : S.size = 0) : decide (0 < (bl S).length ∧ partN p (bl S) = (bl S).length) = false := by
  rw [bl_len, h]
  simp

set_option maxHeartbeats 4000000 in
theorem rpart_any (S : ByteArray) (w : World) (hs : S.size ≤ 9223372036854775807) : Calls Tryz.prog 76 #[.string S] w fun e w' => e = .returned (.bool (partB (bl S))) ∧ w = w' := by
  go_enter Tryz.func76, Tryz.ntmps76
  go_wp2_with fail
  go_loop [3] (fun i => ∃ k : Nat, i = .int .i64 k ∧ 1 ≤ k ∧ (k ≤ S.size ∨ k = 1) ∧ Hid (∀ j (hj : j < S.size), 1 ≤ j → j < k → tlB S[j] = true)) (fun i => S.size - (intOf i).toNat)
  case atStart => exact ⟨1, rfl, by omega, .inr rfl, fun j hj h1 h0 => by omega⟩
  case round =>
    obtain ⟨k, rfl, hk1, hk, HS⟩ := hrel
    by_cases hlt : k < S.size
    · have hc := UInt8.toNat_lt S[k]
      cases q : tlB (S[k]'hlt)
      · have HQ := Lib.hid q
        have HF : Hid (partB (bl S) = false) := part_no k hlt hk1 q
        clear q hk
        go_wp2_with fail
        refine (rtail_any S[k] _).mono ?_
        rw [HQ.out]
        rintro e w2 ⟨rfl, rfl⟩
        go_wp2_with fail
        go_ret
        exact ⟨retB HF.out.symm, rfl⟩
      · have HQ := Lib.hid q
        clear q hk
        go_wp2_with fail
        refine (rtail_any S[k] _).mono ?_
        rw [HQ.out]
        rintro e w2 ⟨rfl, rfl⟩
        go_wp2_with fail
        go_round
        case rel =>
          refine ⟨k + 1, by go_num, by omega, .inl (by omega), fun j hj h1 h0 => ?_⟩
          by_cases e : j = k
          · subst e; exact HQ.out
          · exact HS.out j hj h1 (by omega)
        case measure => simp [intOf]; omega
    · clear hk
      by_cases h0 : S.size = 0
      · have HF : Hid (partB (bl S) = false) := part_nil h0
        go_wp2_with fail
        go_ret
        exact ⟨retB HF.out.symm, rfl⟩
      · have hpos : 0 < S.size := by omega
        have hc := UInt8.toNat_lt S[0]
        have HF : Hid (partB (bl S) = smB S[0]) := part_yes hpos (fun j hj h1 => HS.out j hj h1 (by omega))
        go_wp2_with fail
        refine (rsmall_any S[0] _).mono ?_
        rw [← HF.out]
        rintro e w2 ⟨rfl, rfl⟩
        go_wp2_with fail
        go_ret
        exact ⟨rfl, rfl⟩
set_option maxHeartbeats 4000000 in
theorem rtype_any (S : ByteArray) (w : World) (hs : S.size ≤ 9223372036854775807) : Calls Tryz.prog 75 #[.string S] w fun e w' => e = .returned (.bool (typeB (bl S))) ∧ w = w' := by
  go_enter Tryz.func75, Tryz.ntmps75
  go_wp2_with fail
  go_loop [3] (fun i => ∃ k : Nat, i = .int .i64 k ∧ 1 ≤ k ∧ (k ≤ S.size ∨ k = 1) ∧ Hid (∀ j (hj : j < S.size), 1 ≤ j → j < k → tlB S[j] = true)) (fun i => S.size - (intOf i).toNat)
  case atStart => exact ⟨1, rfl, by omega, .inr rfl, fun j hj h1 h0 => by omega⟩
  case round =>
    obtain ⟨k, rfl, hk1, hk, HS⟩ := hrel
    by_cases hlt : k < S.size
    · have hc := UInt8.toNat_lt S[k]
      cases q : tlB (S[k]'hlt)
      · have HQ := Lib.hid q
        have HF : Hid (typeB (bl S) = false) := part_no k hlt hk1 q
        clear q hk
        go_wp2_with fail
        refine (rtail_any S[k] _).mono ?_
        rw [HQ.out]
        rintro e w2 ⟨rfl, rfl⟩
        go_wp2_with fail
        go_ret
        exact ⟨retB HF.out.symm, rfl⟩
      · have HQ := Lib.hid q
        clear q hk
        go_wp2_with fail
        refine (rtail_any S[k] _).mono ?_
        rw [HQ.out]
        rintro e w2 ⟨rfl, rfl⟩
        go_wp2_with fail
        go_round
        case rel =>
          refine ⟨k + 1, by go_num, by omega, .inl (by omega), fun j hj h1 h0 => ?_⟩
          by_cases e : j = k
          · subst e; exact HQ.out
          · exact HS.out j hj h1 (by omega)
        case measure => simp [intOf]; omega
    · clear hk
      by_cases h0 : S.size = 0
      · have HF : Hid (typeB (bl S) = false) := part_nil h0
        go_wp2_with fail
        go_ret
        exact ⟨retB HF.out.symm, rfl⟩
      · have hpos : 0 < S.size := by omega
        have hc := UInt8.toNat_lt S[0]
        have HF : Hid (typeB (bl S) = grB S[0]) := part_yes hpos (fun j hj h1 => HS.out j hj h1 (by omega))
        go_wp2_with fail
        all_goals
          go_ret
          refine ⟨retB ?_, rfl⟩
          rw [HF.out]
          unfold grB
          rw [Bool.eq_iff_iff]
          first
            | (simp; done)
            | (simp; omega)
end Go.Proofs.YtfpdgdacifiejaaGreat

namespace Go.Proofs.YtfpdgdacifiejaaGreat
open Go.RowKit Go.Maps

def keys11 : List (List UInt8) := [[99, 108, 97, 115, 115], [100, 101, 102, 105, 110, 101], [105, 110, 99, 108, 117, 100, 101], [105, 102], [101, 108, 115, 101], [116, 114, 117, 101], [102, 97, 108, 115, 101], [97, 110, 100], [111, 114]]
def keyB (l : List UInt8) : Bool := decide (l ∈ keys11)
set_option maxHeartbeats 2000000 in
theorem key_any (S : ByteArray) (w : World) : Calls Tryz.prog 120 #[.string S] w fun e w' => e = .returned (.bool (keyB (bl S))) ∧ w = w' := by
  have ht : S.toList = bl S := Lib.toList_data S
  obtain ⟨l, hl⟩ : ∃ l, bl S = l := ⟨_, rfl⟩
  rw [hl] at ht ⊢
  clear hl
  go_enter Tryz.func120, Tryz.ntmps120
  go_wp2
  all_goals
    go_ret
    refine ⟨retB ?_, rfl⟩
    unfold keyB keys11
    simp_all
set_option maxHeartbeats 2000000 in
theorem rkey_any (S : ByteArray) (w : World) : Calls Tryz.prog 114 #[.string S] w fun e w' => e = .returned (.bool (keyB (bl S))) ∧ w = w' := by
  have ht : S.toList = bl S := Lib.toList_data S
  obtain ⟨l, hl⟩ : ∃ l, bl S = l := ⟨_, rfl⟩
  rw [hl] at ht ⊢
  clear hl
  go_enter Tryz.func114, Tryz.ntmps114
  go_wp2
  all_goals
    go_ret
    refine ⟨retB ?_, rfl⟩
    unfold keyB keys11
    simp_all

/-- How far the document's Name is: what is left from m on decides, and there are no two ':' side by side between m and k. -/
structure NmSt (l : List UInt8) (m k : Nat) : Prop where
  le : m ≤ k
  top : m ≤ l.length
  no : NoCol (l.drop m) (k - m)
  all : nameB l = nameB (l.drop m)
theorem NmSt.first (l : List UInt8) : NmSt l 0 0 := ⟨Nat.le_refl _, Nat.zero_le _, fun j hj => absurd hj (by omega), rfl⟩
theorem NmSt.end' {l : List UInt8} {m k : Nat} (h : NmSt l m k) (hk : l.length ≤ k + 1) : nameB l = partB (l.drop m) := by
  rw [h.all, nameB_none]
  intro j hj
  exact h.no j (by rw [List.length_drop] at hj; have := h.le; omega)
theorem NmSt.on {l : List UInt8} {m k : Nat} (h : NmSt l m k) (hk : ¬ (l[k]? = some 58 ∧ l[k + 1]? = some 58)) : NmSt l m (k + 1) := by
  refine ⟨by have := h.le; omega, h.top, fun j hj => ?_, h.all⟩
  have hle := h.le
  by_cases e : j = k - m
  · subst e
    rw [List.getElem?_drop, List.getElem?_drop, show m + (k - m) = k by omega, show m + (k - m + 1) = k + 1 by omega]
    exact hk
  · exact h.no j (by omega)
theorem NmSt.hit {l : List UInt8} {m k : Nat} (h : NmSt l m k) (h1 : l[k]? = some 58) (h2 : l[k + 1]? = some 58) : nameB l = (partB ((l.drop m).take (k - m)) && nameB (l.drop (k + 2))) := by
  have hle := h.le
  rw [h.all, nameB_first h.no (by rw [List.getElem?_drop, show m + (k - m) = k by omega]; exact h1) (by rw [List.getElem?_drop, show m + (k - m + 1) = k + 1 by omega]; exact h2), List.drop_drop, show m + (k - m + 2) = k + 2 by omega]
theorem NmSt.next {l : List UInt8} {m k : Nat} (h : NmSt l m k) (h1 : l[k]? = some 58) (h2 : l[k + 1]? = some 58) (hp : partB ((l.drop m).take (k - m)) = true) : NmSt l (k + 2) (k + 2) := by
  have hlen : k + 1 < l.length := (List.getElem?_eq_some_iff.1 h2).1
  exact ⟨Nat.le_refl _, by omega, fun j hj => absurd hj (by omega), by rw [h.hit h1 h2, hp, Bool.true_and]⟩
theorem get58 {S : ByteArray} {k : Nat} (hk : k < S.size) : (bl S)[k]? = some 58 ↔ (S[k].toNat : Int) = 58 := by
  rw [bl_get? S k hk, Option.some.injEq, ← UInt8.toNat_inj]
  show _ = 58 ↔ _
  omega

set_option maxHeartbeats 4000000 in
theorem rname_any (S : ByteArray) (w : World) (hs : S.size ≤ 4611686018427387904) : Calls Tryz.prog 74 #[.string S] w fun e w' => e = .returned (.bool (nameB (bl S))) ∧ w = w' := by
  go_enter Tryz.func74, Tryz.ntmps74
  go_wp2_with fail
  go_loop [3, 4] (fun sm sk => ∃ m k : Nat, sm = .int .i64 m ∧ sk = .int .i64 k ∧ m ≤ k ∧ m ≤ S.size ∧ k ≤ S.size ∧ Hid (NmSt (bl S) m k)) (fun _ i => S.size - (intOf i).toNat)
  case atStart => exact ⟨0, 0, rfl, rfl, by omega, by omega, by omega, NmSt.first _⟩
  case round =>
    obtain ⟨m, k, rfl, rfl, hmk, hm, hk, HS⟩ := hrel
    by_cases hlt : k + 1 < S.size
    · have hk0 : k < S.size := by omega
      have hg0 := get58 hk0
      have hg1 := get58 hlt
      have hc0 := UInt8.toNat_lt S[k]
      have hc1 := UInt8.toNat_lt S[k + 1]
      obtain ⟨c0, hc0e⟩ : ∃ c : Int, (S[k].toNat : Int) = c := ⟨_, rfl⟩
      obtain ⟨c1, hc1e⟩ : ∃ c : Int, (S[k + 1].toNat : Int) = c := ⟨_, rfl⟩
      rw [hc0e] at hg0
      rw [hc1e] at hg1
      have i0 : ∀ wx, (Instr.index 9 (.string S) (.int .i64 (k : Int))).run Tryz.prog wx = .ok (.int .u8 c0) wx := fun wx => by
        rw [← hc0e]
        simp [Instr.index, run_underlying Tryz.underlying9, asIntOf, go_sem, hk0]
      have i1 : ∀ wx, (Instr.index 9 (.string S) (.int .i64 ((k : Int) + 1))).run Tryz.prog wx = .ok (.int .u8 c1) wx := fun wx => by
        rw [← hc1e]
        rw [show (k : Int) + 1 = ((k + 1 : Nat) : Int) by omega]
        have h0 : (0 : Int) ≤ (k : Int) + 1 := by omega
        simp [Instr.index, asIntOf, go_sem, hlt, h0]
      by_cases hcol : c0 = 58 ∧ c1 = 58
      · obtain ⟨rfl, rfl⟩ := hcol
        have h1 := hg0.2 rfl
        have h2 := hg1.2 rfl
        have HP : Hid (bl (S.extract m k) = ((bl S).drop m).take (k - m)) := bl_ext S m k
        cases q : partB (((bl S).drop m).take (k - m))
        · have HQ := Lib.hid q
          have HF : Hid (nameB (bl S) = false) := by show _ = _; rw [HS.out.hit h1 h2, q]; rfl
          clear q h1 h2 hg0 hg1 hc0 hc1 hc0e hc1e
          go_wp2_with fail
          refine (rpart_any (S.extract m k) _ (by rw [← bl_len, bl_ext, List.length_take, List.length_drop, bl_len]; omega)).mono ?_
          rw [HP.out, HQ.out]
          rintro e w2 ⟨rfl, rfl⟩
          go_wp2_with fail
          go_ret
          exact ⟨retB HF.out.symm, rfl⟩
        · have HQ := Lib.hid q
          have HN : Hid (NmSt (bl S) (k + 2) (k + 2)) := HS.out.next h1 h2 q
          clear q h1 h2 hg0 hg1 hc0 hc1 hc0e hc1e
          go_wp2_with fail
          refine (rpart_any (S.extract m k) _ (by rw [← bl_len, bl_ext, List.length_take, List.length_drop, bl_len]; omega)).mono ?_
          rw [HP.out, HQ.out]
          rintro e w2 ⟨rfl, rfl⟩
          go_wp2_with fail
          go_round
          case rel => exact ⟨k + 2, k + 2, by go_num, by go_num, by omega, by omega, by omega, HN.out⟩
          case measure => simp [intOf]; omega
      · have HN : Hid (NmSt (bl S) m (k + 1)) := HS.out.on (fun h => hcol ⟨hg0.1 h.1, hg1.1 h.2⟩)
        clear hg0 hg1 hc0e hc1e
        by_cases h58 : c0 = 58
        · have hc1n : ¬ c1 = 58 := fun h => hcol ⟨h58, h⟩
          subst h58
          clear hcol
          go_wp2_with fail
          go_round
          case rel => exact ⟨m, k + 1, rfl, by go_num, by omega, by omega, by omega, HN.out⟩
          case measure => simp [intOf]; omega
        · clear hcol
          go_wp2_with fail
          go_round
          case rel => exact ⟨m, k + 1, rfl, by go_num, by omega, by omega, by omega, HN.out⟩
          case measure => simp [intOf]; omega
    · have HF : Hid (nameB (bl S) = partB (bl (S.extract m S.size))) := by
        show _ = _
        rw [bl_from]
        exact HS.out.end' (by rw [bl_len]; omega)
      go_wp2_with fail
      refine (rpart_any (S.extract m S.size) _ (by rw [size_from]; omega)).mono ?_
      rw [← HF.out]
      rintro e w2 ⟨rfl, rfl⟩
      go_wp2_with fail
      go_ret
      exact ⟨rfl, rfl⟩
theorem get_i {S : ByteArray} (k : Nat) (hk : k < S.size) (wx : World) : (Instr.index 9 (.string S) (.int .i64 (k : Int))).run Tryz.prog wx = .ok (.int .u8 (S[k].toNat : Int)) wx := by
  simp [Instr.index, run_underlying Tryz.underlying9, asIntOf, go_sem, hk]
theorem hd_S {S : ByteArray} (h : 0 < S.size) : (bl S).headD 0 = S[0] := by rw [bl_cons h]; rfl
theorem last_S {S : ByteArray} (h : 0 < S.size) : (bl S).getD ((bl S).length - 1) 0 = S[S.size - 1] := by
  rw [bl_len, List.getD_eq_getElem?_getD, bl_get? S _ (by omega)]
  rfl
theorem byte_eq {c d : UInt8} : c = d ↔ (c.toNat : Int) = (d.toNat : Int) := by
  rw [← UInt8.toNat_inj]
  omega
end Go.Proofs.YtfpdgdacifiejaaGreat

namespace Go.Proofs.YtfpdgdacifiejaaGreat
open Go.RowKit Go.Maps

/- Rows of numbers. -/
def nJ (l : List Nat) : List Int := l.map fun (k : Nat) => (k : Int)
theorem nJ_length (l : List Nat) : (nJ l).length = l.length := by simp [nJ]
theorem elemJ : ElemOk Tryz.prog 39 3 (.int .i64 0) 1 8 := ⟨Tryz.underlying39, by kernel_rfl, rfl, by omega⟩
/-- Numbers of the call's own. -/
def OwnJ (base : Nat) (w : World) (v : Value) (l : List Nat) : Prop := w.ownsRow base 3 1 v l.length (iv (nJ l))
theorem OwnJ.nil (base : Nat) (w : World) : OwnJ base w (.slice none 0 0) [] := World.ownsRow_nil w base _ 1
theorem OwnJ.keptX {base : Nat} {w w' : World} {v : Value} {l : List Nat} (h : OwnJ base w v l) {ex : List Nat} (hk : Kept ex w w') (hne : ∀ k, v.ownBlock = some k → k ∉ ex) : OwnJ base w' v l := owns_kept h hk hne
theorem OwnJ.kept {base : Nat} {w w' : World} {v : Value} {l : List Nat} (h : OwnJ base w v l) (hk : Kept [] w w') : OwnJ base w' v l := h.keptX hk (by simp)
theorem OwnJ.blk {base : Nat} {w : World} {v : Value} {l : List Nat} (h : OwnJ base w v l) : ∀ q, v.ownBlock = some q → base ≤ q ∧ q < w.heap.size := World.ownsRow.lt h
theorem OwnJ.lower {base b2 : Nat} {w : World} {v : Value} {l : List Nat} (h : OwnJ base w v l) (hb : b2 ≤ base) : OwnJ b2 w v l := by
  obtain ⟨h1, h2 | ⟨g, cap, cur, e, hb', r⟩⟩ := h
  · exact ⟨h1, .inl h2⟩
  · exact ⟨h1, .inr ⟨g, cap, cur, e, Nat.le_trans hb hb', r⟩⟩
theorem OwnJ.ks {base : Nat} {w : World} {v : Value} {l : List Nat} (h : OwnJ base w v l) : KsIs w v l := by
  rcases owns_range h with ⟨g, cap, rfl, _, hg, hc, hm, hr⟩ | ⟨rfl, hn, _⟩
  · exact ⟨_, _, rfl, hc, by unfold maxLen at hm; omega, fun _ => ⟨g, 0, rfl, hg, fun j hj => hr j _ (by simp [iv, nJ, hj])⟩⟩
  · have : l = [] := List.eq_nil_of_length_eq_zero hn
    subst this
    exact ⟨none, 0, rfl, by simp, by omega, fun h0 => by simp at h0⟩
theorem OwnJ.slice {base : Nat} {w : World} {v : Value} {l : List Nat} (h : OwnJ base w v l) : ∃ ao cap, v = .slice ao l.length cap := by
  obtain ⟨ao, cap, h1, _⟩ := h.ks
  exact ⟨ao, cap, h1⟩
theorem OwnJ.made (w : World) (l : List Nat) (n : Nat) (hn : l.length = n) (base : Nat) (hb : base ≤ w.heap.size) (hl : n ≤ 10000) : OwnJ base (w.alloc (.cells (nvA l) 3)) (.slice (some ⟨w.heap.size, 0, none⟩) n n) l := by
  subst hn
  refine ⟨by simp [iv, nJ], .inr ⟨w.heap.size, l.length, nvA l, rfl, hb, heap_alloc_last _ _, Nat.le_refl _, by unfold maxLen; omega, by simp [nvA, ivA, iv], ?_⟩⟩
  rw [Nat.mul_one]
  exact List.take_of_length_le (by simp [nvA, ivA, iv])
/-- Numbers are appended. -/
theorem OwnJ.app {base b2 : Nat} {w : World} {v s : Value} {l B : List Nat} (h : OwnJ base w v l) (hb : base ≤ w.heap.size) (hs : OwnJ b2 w s B) (hl : l.length + B.length ≤ 20000) :
    ∃ v' w', (Builtin.append_ #[39, 39] 39 #[v, s]).run Tryz.prog w = .ok v' w' ∧ OwnJ base w' v' (l ++ B) ∧ Kept v.ownBlock.toList w w' ∧ (v'.ownBlock = v.ownBlock ∨ v'.ownBlock = some w.heap.size) := by
  rcases owns_range hs with ⟨g, cap, rfl, _, hg, hc, hm, hr⟩ | ⟨rfl, hn, _⟩
  · obtain ⟨v', w', hrun, ho, hk, hor⟩ := own_app elemJ 39 w base v l.length (iv (nJ l)) h ⟨g, 0, none⟩ B.length cap (iv (nJ B)) (by simp [iv, nJ])
      (fun j u hu => by rw [Addr.add_mid]; exact hr j u hu) (iv_one _) (by unfold maxLen; omega) (by omega) hb
    refine ⟨v', w', hrun, ?_, hk, hor⟩
    unfold OwnJ
    rw [List.length_append, show iv (nJ (l ++ B)) = iv (nJ l) ++ iv (nJ B) by simp [iv, nJ]]
    exact ho
  · have hB : B = [] := List.eq_nil_of_length_eq_zero hn
    obtain ⟨i, hi, _, hsz, _⟩ := info_parts elemJ.info
    have hrun := run_append_owned_none (P := Tryz.prog) (w := w) base 39 39 3 i 1 Tryz.underlying39 hi v l.length (iv (nJ l)) h
    rw [hB, List.append_nil]
    exact ⟨_, _, hrun, h, Kept.refl _ _, .inl rfl⟩
theorem own_apart {w : World} {b1 b2 : Nat} {e1 e2 : TypeId} {s1 s2 n1 n2 : Nat} {v1 v2 : Value} {x1 x2 : List Value} (h1 : w.ownsRow b1 e1 s1 v1 n1 x1) (h2 : w.ownsRow b2 e2 s2 v2 n2 x2) (he : e1 ≠ e2) : ∀ q, v1.ownBlock = some q → v2.ownBlock ≠ some q := by
  intro q hq1 hq2
  obtain ⟨_, ⟨rfl, _⟩ | ⟨g, cap, cur, rfl, _, hg, _⟩⟩ := h1
  · cases hq1
  obtain ⟨_, ⟨rfl, _⟩ | ⟨g2, cap2, cur2, rfl, _, hg2, _⟩⟩ := h2
  · cases hq2
  injection hq1 with e1'
  injection hq2 with e2'
  subst e1' e2'
  rw [hg] at hg2
  injection hg2 with hg2
  injection hg2 with _ hg2
  exact he hg2

theorem row_setJ {w : World} {b : Nat} {cs : Array Value} {t : TypeId} (h : w.heap[b]? = some (.cells cs t)) (i : Nat) (v : Value) : (w.setCell ⟨b, i, none⟩ v).heap[b]? = some (.cells (cs.setIfInBounds i v) t) := by
  simp only [World.setCell]
  rw [Array.getElem?_modify, if_pos rfl, h]
  rfl
/- Nodes. -/
def ndcv : List (Nod × Value) → List Value
  | [] => []
  | x :: r => .int .i64 (x.1.kd : Int) :: .string (strL x.1.tx) :: x.2 :: ndcv r
theorem ndcv_length : ∀ l : List (Nod × Value), (ndcv l).length = 3 * l.length
  | [] => rfl
  | x :: l => by have := ndcv_length l; simp [ndcv, this]; omega
theorem ndcv_get : ∀ (l : List (Nod × Value)) (k : Nat) (hk : k < l.length), (ndcv l)[3 * k]? = some (.int .i64 (l[k].1.kd : Int)) ∧ (ndcv l)[3 * k + 1]? = some (.string (strL l[k].1.tx)) ∧ (ndcv l)[3 * k + 2]? = some l[k].2
  | x :: l, 0, _ => ⟨rfl, rfl, rfl⟩
  | x :: l, k + 1, hk => by
    have := ndcv_get l k (by simpa using hk)
    rw [show 3 * (k + 1) = 3 * k + 3 by omega, show 3 * k + 3 + 1 = 3 * k + 1 + 3 by omega, show 3 * k + 3 + 2 = 3 * k + 2 + 3 by omega]
    simpa [ndcv] using this
theorem ndcv_append : ∀ l m : List (Nod × Value), ndcv (l ++ m) = ndcv l ++ ndcv m
  | [], _ => rfl
  | x :: l, m => by simp [ndcv, ndcv_append l m]
theorem elemNd : ElemOk Tryz.prog 27 41 (.agg #[.int .i64 0, .string ⟨#[]⟩, .slice none 0 0]) 3 48 := ⟨Tryz.underlying27, by kernel_rfl, rfl, by omega⟩

/-- What a parser is of: the world in which the words lie, the parser's block, the words. -/
structure PCx where
  W : World
  g : Nat
  va : Value
  l : List Tok
/-- Nodes of the parser's own; A: blocks that are others'. -/
structure NdsIs (c : PCx) (A : List Nat) (w : World) (v : Value) (ns : List Nod) : Prop where
  out : ∃ L : List (Nod × Value), L.map (·.1) = ns ∧ w.ownsRow (c.g + 1) 41 3 v L.length (ndcv L) ∧ (∀ q, v.ownBlock = some q → q ∉ A) ∧ ∀ x ∈ L, OwnJ (c.g + 1) w x.2 x.1.ks ∧ ∀ q, x.2.ownBlock = some q → q ∉ A
theorem NdsIs.go {c : PCx} {A1 A2 ex : List Nat} {w w' : World} {v : Value} {ns : List Nod} (h : NdsIs c A1 w v ns) (hk : Kept ex w w') (hx : ∀ q ∈ ex, q ∈ A1) (h2 : ∀ q ∈ A2, q ∈ A1 ∨ w.heap.size ≤ q) : NdsIs c A2 w' v ns := by
  obtain ⟨L, hL, ho, hv, hl⟩ := h.out
  have key : ∀ q, q < w.heap.size → q ∉ A1 → q ∉ A2 := fun q hq hn hm => by
    rcases h2 q hm with h | h
    · exact hn h
    · omega
  refine ⟨L, hL, owns_kept ho hk (fun q hq hm => hv q hq (hx q hm)), fun q hq => key q (ho.lt q hq).2 (hv q hq), fun x hxL => ?_⟩
  obtain ⟨h3, h4⟩ := hl x hxL
  exact ⟨h3.keptX hk (fun q hq hm => h4 q hq (hx q hm)), fun q hq => key q (h3.blk q hq).2 (h4 q hq)⟩
theorem own_slice {w : World} {base : Nat} {e : TypeId} {size : Nat} {v : Value} {n : Nat} {xs : List Value} (h : w.ownsRow base e size v n xs) : ∃ ao cap, v = .slice ao n cap := by
  obtain ⟨_, ⟨rfl, h2⟩ | ⟨g, cap, cur, e, _⟩⟩ := h
  · exact ⟨none, 0, by rw [h2]⟩
  · exact ⟨_, _, e⟩
/-- A node that lies in a new block is appended. -/
theorem NdsIs.app {c : PCx} {A1 A : List Nat} {w : World} {nv lv : Value} {ns : List Nod} {ks : List Nat} (h : NdsIs c A1 w nv ns) (hA : ∀ q ∈ A, q ∈ A1 ∧ q < w.heap.size) (hc : c.g < w.heap.size) (ho : OwnJ (c.g + 1) w lv ks) (hlv : ∀ q, lv.ownBlock = some q → q ∉ A) (k : Nat) (tx : List UInt8) (hl : ns.length ≤ 5000) :
    ∃ v' w', (Builtin.append_ #[27, 27] 27 #[nv, .slice (some ⟨w.heap.size, 0, none⟩) 1 1]).run Tryz.prog (w.alloc (.cells #[.int .i64 (k : Int), .string (strL tx), lv] 41)) = .ok v' w' ∧
      NdsIs c A w' v' (ns ++ [⟨k, tx, ks⟩]) ∧ Kept nv.ownBlock.toList (w.alloc (.cells #[.int .i64 (k : Int), .string (strL tx), lv] 41)) w' ∧ (∃ ao cap, v' = .slice ao (ns.length + 1) cap) ∧ (∀ q, nv.ownBlock = some q → c.g < q ∧ q ∉ A1) := by
  obtain ⟨L, hL, hn, hv, hx⟩ := h.out
  have hlen : L.length = ns.length := by rw [← hL]; simp
  obtain ⟨w1, hw1⟩ : ∃ w1, w.alloc (.cells #[.int .i64 (k : Int), .string (strL tx), lv] 41) = w1 := ⟨_, rfl⟩
  have hk1 : Kept [] w w1 := by rw [← hw1]; exact Kept.alloc _ _ _
  have hc1 : w1.heap[w.heap.size]? = some (.cells #[.int .i64 (k : Int), .string (strL tx), lv] 41) := by rw [← hw1]; exact heap_alloc_last _ _
  have hs1 : w1.heap.size = w.heap.size + 1 := by rw [← hw1, size_alloc]
  have hone : ∀ u ∈ ndcv [((⟨k, tx, ks⟩ : Nod), lv)], u.oneCell' = true := by
    obtain ⟨ao, cap, e⟩ := ho.slice
    intro u hu
    simp only [ndcv, List.mem_cons, List.not_mem_nil, or_false] at hu
    rcases hu with rfl | rfl | rfl
    · rfl
    · rfl
    · rw [e]; rfl
  obtain ⟨v', w', hrun, hown, hk, hor⟩ := own_app elemNd 27 w1 (c.g + 1) nv L.length (ndcv L) (owns_kept hn hk1 (by simp)) ⟨w.heap.size, 0, none⟩ 1 1 (ndcv [((⟨k, tx, ks⟩ : Nod), lv)]) rfl
    (fun j u hu => by
      rw [Addr.add_mid, Nat.zero_add, cell_of_row _ _ j _ _ _ hc1]
      simpa [ndcv] using hu) hone (by unfold maxLen; omega) (by omega) (by omega)
  have hnv : ∀ q, nv.ownBlock = some q → c.g < q ∧ q < w.heap.size ∧ q ∉ A1 := fun q hq => ⟨(hn.lt q hq).1, (hn.lt q hq).2, hv q hq⟩
  have hnx : ∀ q, nv.ownBlock = some q → lv.ownBlock ≠ some q := own_apart hn ho (by decide)
  rw [hw1]
  refine ⟨v', w', hrun, ⟨L ++ [((⟨k, tx, ks⟩ : Nod), lv)], by simp [hL], ?_, fun q hq hm => ?_, fun x hxm => ?_⟩, hk, ?_, fun q hq => ⟨(hnv q hq).1, (hnv q hq).2.2⟩⟩
  · rw [List.length_append, ndcv_append]
    exact hown
  · rcases hor with e | e
    · rw [e] at hq
      exact (hnv q hq).2.2 (hA q hm).1
    · rw [e] at hq
      injection hq with hq
      have := (hA q hm).2
      omega
  · rcases List.mem_append.1 hxm with hxm | hxm
    · obtain ⟨h1, h2⟩ := hx x hxm
      refine ⟨(h1.kept hk1).keptX hk (fun q hq hm => ?_), fun q hq hm => h2 q hq (hA q hm).1⟩
      simp at hm
      exact own_apart hn h1 (by decide) q hm hq
    · simp only [List.mem_singleton] at hxm
      subst hxm
      refine ⟨(ho.kept hk1).keptX hk (fun q hq hm => ?_), hlv⟩
      simp at hm
      exact hnx q hm hq
  · obtain ⟨h1, ⟨rfl, h2⟩ | ⟨g, cap, cur, e, _⟩⟩ := hown
    · omega
    · exact ⟨_, _, by rw [e, hlen]⟩

/-- A parser in memory. -/
structure PrSt (c : PCx) (A : List Nat) (m : Nat) (s : PSt) (w : World) : Prop where
  hg : c.W.heap.size ≤ c.g
  hA : ∀ q ∈ A, c.g < q ∧ q < w.heap.size
  row : ∃ v, w.heap[c.g]? = some (.cells #[c.va, .int .i64 ((c.l.length - s.r.length : Nat) : Int), v] 53) ∧ NdsIs c A w v s.ns
  suf : c.l.drop (c.l.length - s.r.length) = s.r
  le : s.r.length ≤ c.l.length
  few : s.ns.length + s.r.length ≤ m
  tk : TkIs c.W c.va c.l
  kept : Kept [] c.W w
theorem PrSt.lt {c : PCx} {A : List Nat} {m : Nat} {s : PSt} {w : World} (h : PrSt c A m s w) : c.g < w.heap.size := by
  obtain ⟨v, h1, _⟩ := h.row
  exact (Array.getElem?_eq_some_iff.1 h1).1
theorem PrSt.go {c : PCx} {A1 A2 ex : List Nat} {m : Nat} {s : PSt} {w w' : World} (h : PrSt c A1 m s w) (hk : Kept ex w w') (hx : ∀ q ∈ ex, q ∈ A1) (h2 : ∀ q ∈ A2, (q ∈ A1 ∨ w.heap.size ≤ q) ∧ q < w'.heap.size) : PrSt c A2 m s w' := by
  have hlt := h.lt
  obtain ⟨v, h3, h4⟩ := h.row
  refine ⟨h.hg, fun q hq => ⟨?_, (h2 q hq).2⟩, ⟨v, hk.heap (fun hm => ?_) h3, h4.go hk hx (fun q hq => (h2 q hq).1)⟩, h.suf, h.le, h.few, h.tk, h.kept.into hk (fun q hq => ?_)⟩
  · rcases (h2 q hq).1 with h5 | h5
    · exact (h.hA q h5).1
    · omega
  · have := (h.hA _ (hx _ hm)).1
    omega
  · have := (h.hA _ (hx _ hq)).1
    have := h.hg
    omega
theorem PrSt.keep {c : PCx} {A : List Nat} {m : Nat} {s : PSt} {w w' : World} (h : PrSt c A m s w) (hk : Kept [] w w') : PrSt c A m s w' :=
  h.go hk (by simp) (fun q hq => ⟨.inl hq, Nat.lt_of_lt_of_le (h.hA q hq).2 hk.size⟩)
theorem PrSt.less {c : PCx} {A A2 : List Nat} {m : Nat} {s : PSt} {w : World} (h : PrSt c A m s w) (h2 : ∀ q ∈ A2, q ∈ A) : PrSt c A2 m s w :=
  h.go (Kept.refl [] w) (by simp) (fun q hq => ⟨.inl (h2 q hq), (h.hA q (h2 q hq)).2⟩)
theorem PrSt.more {c : PCx} {A : List Nat} {m n : Nat} {s : PSt} {w : World} (h : PrSt c A m s w) (hn : m ≤ n) : PrSt c A n s w :=
  ⟨h.hg, h.hA, h.row, h.suf, h.le, Nat.le_trans h.few hn, h.tk, h.kept⟩

/-- What a call leaves: all but blocks that are not in A. -/
def KA (c : PCx) (A : List Nat) (w w' : World) : Prop := ∃ ex, Kept ex w w' ∧ ∀ q ∈ ex, q ∉ A ∧ c.g ≤ q
theorem KA.of {c : PCx} {A : List Nat} {w w' : World} (h : Kept [] w w') : KA c A w w' := ⟨[], h, by simp⟩
theorem KA.trans {c : PCx} {A A2 : List Nat} {w w1 w2 : World} (h : KA c A w w1) (k : KA c A2 w1 w2) (hA : ∀ q ∈ A, q ∈ A2) : KA c A w w2 := by
  obtain ⟨e1, h1, h2⟩ := h
  obtain ⟨e2, k1, k2⟩ := k
  refine ⟨e1 ++ e2, (h1.mono (by intro q hq _; simp [hq])).trans (k1.mono (by intro q hq _; simp [hq])), fun q hq => ?_⟩
  rcases List.mem_append.1 hq with hq | hq
  · exact h2 q hq
  · exact ⟨fun hm => (k2 q hq).1 (hA q hm), (k2 q hq).2⟩
theorem KA.own {c : PCx} {A : List Nat} {base : Nat} {w w' : World} {v : Value} {l : List Nat} (h : KA c A w w') (ho : OwnJ base w v l) (hv : ∀ q, v.ownBlock = some q → q ∈ A) : OwnJ base w' v l := by
  obtain ⟨ex, h1, h2⟩ := h
  exact ho.keptX h1 (fun q hq hm => (h2 q hm).1 (hv q hq))
theorem KA.heap {c : PCx} {A : List Nat} {w w' : World} {b : Nat} {o : Obj} (h : KA c A w w') (hb : w.heap[b]? = some o) (hA : b ∈ A) : w'.heap[b]? = some o := by
  obtain ⟨ex, h1, h2⟩ := h
  exact h1.heap (fun hm => (h2 b hm).1 hA) hb
theorem KA.size {c : PCx} {A : List Nat} {w w' : World} (h : KA c A w w') : w.heap.size ≤ w'.heap.size := by
  obtain ⟨ex, h1, _⟩ := h
  exact h1.size

/-- What the parser panics with. -/
def refP (at' : Nat) : List PanicEntry := [{ v := .iface 66 (.agg #[.int .i64 (at' : Int)]), recovered := false }]
/-- What a call that reads a part of the grammar answers. -/
def PRes {α : Type} (c : PCx) (o : POut α) (val : α → Value) (A : List Nat) (m : Nat) (w : World) (e : Ending) (w' : World) : Prop := match o with
  | .ok s a => e = .returned (val a) ∧ PrSt c A m s w' ∧ KA c A w w'
  | .err r => e = .panicked (refP (c.l.length - r.length)) ∧ Kept [] c.W w' ∧ r.length ≤ c.l.length
theorem PRes.ok {α : Type} {c : PCx} {o : POut α} {val : α → Value} {A : List Nat} {m : Nat} {w : World} {e : Ending} {w' : World} {s : PSt} {a : α} (h : o = .ok s a) (he : e = .returned (val a)) (hs : PrSt c A m s w') (hk : KA c A w w') : PRes c o val A m w e w' := by subst h; exact ⟨he, hs, hk⟩
theorem PRes.err {α : Type} {c : PCx} {o : POut α} {val : α → Value} {A : List Nat} {m : Nat} {w : World} {e : Ending} {w' : World} {r : List Tok} (h : o = .err r) (he : e = .panicked (refP (c.l.length - r.length))) (hk : Kept [] c.W w') (hr : r.length ≤ c.l.length) : PRes c o val A m w e w' := by subst h; exact ⟨he, hk, hr⟩
theorem PRes.way {α : Type} {c : PCx} {o : POut α} {val : α → Value} {A : List Nat} {m : Nat} {w : World} {e : Ending} {w' : World} (h : PRes c o val A m w e w') :
    (∃ r, o = .err r ∧ e = .panicked (refP (c.l.length - r.length)) ∧ Kept [] c.W w' ∧ r.length ≤ c.l.length) ∨ (∃ s a, o = .ok s a ∧ e = .returned (val a) ∧ PrSt c A m s w' ∧ KA c A w w') := by
  cases o with
  | ok s a => exact .inr ⟨s, a, rfl, h⟩
  | err r => exact .inl ⟨r, rfl, h⟩
def nV (x : Nat) : Value := .int .i64 (x : Int)
def tV (x : List UInt8) : Value := .string (strL x)
def uV {α : Type} (_ : α) : Value := .tuple #[]
/-- A call that reads a part. -/
def PC (c : PCx) (fid : FuncId) (f : Prs Nat) (n : Nat) : Prop := ∀ A m s w, m ≤ 5000 → s.r.length < n → PrSt c A m s w → Calls Tryz.prog fid #[.pointer (some ⟨c.g, 0, none⟩)] w (PRes c (f s) nV A m w)

/- Words ahead. -/
def hdK : List Tok → Int
  | [] => 0
  | t :: _ => t.kd
def hdT : List Tok → List UInt8
  | [] => []
  | t :: _ => t.tx
def tkB (p : Tok → Bool) : List Tok → Bool
  | [] => false
  | t :: _ => p t
def isTk (k : Int) (tx : List UInt8) (t : Tok) : Bool := decide (t.kd = k) && decide (t.tx = tx)
theorem tkB_tk (k : Int) (tx : List UInt8) (r : List Tok) (hk : k ≠ 0) : tkB (isTk k tx) r = (decide (hdK r = k) && decide (hdT r = tx)) := by
  cases r with
  | nil => simp [tkB, hdK, Ne.symm hk]
  | cons t r => rfl
theorem tkB_kd (k : Int) (r : List Tok) (hk : k ≠ 0) : tkB (isKd k) r = decide (hdK r = k) := by
  cases r with
  | nil => simp [tkB, hdK, Ne.symm hk]
  | cons t r => rfl
theorem tk_split {p : Tok → Bool} {s : PSt} (h : tkB p s.r = true) : ∃ t r, s.r = t :: r ∧ p t = true ∧ s.r.tail = r ∧ hdT s.r = t.tx := by
  cases hr : s.r with
  | nil => rw [hr] at h; cases h
  | cons t r => rw [hr] at h; exact ⟨t, r, rfl, h, rfl, rfl⟩
theorem ifT_t {α : Type} {p : Tok → Bool} {f : List UInt8 → Prs α} {g : Prs α} {s : PSt} (h : tkB p s.r = true) : ifT p f g s = f (hdT s.r) ⟨s.r.tail, s.ns⟩ := by
  obtain ⟨t, r, h1, h2, h3, h4⟩ := tk_split h
  rw [h3, h4]
  obtain ⟨sr, ns⟩ := s
  simp only at h1
  subst h1
  unfold ifT
  simp only
  rw [if_pos h2]
theorem ifT_f {α : Type} {p : Tok → Bool} {f : List UInt8 → Prs α} {g : Prs α} {s : PSt} (h : tkB p s.r = false) : ifT p f g s = g s := by
  obtain ⟨sr, ns⟩ := s
  unfold ifT
  cases sr with
  | nil => rfl
  | cons t r =>
    simp only
    rw [if_neg (by simpa [tkB] using h)]
theorem must_t {p : Tok → Bool} {s : PSt} (h : tkB p s.r = true) : must p s = .ok ⟨s.r.tail, s.ns⟩ (hdT s.r) := by
  obtain ⟨t, r, h1, h2, h3, h4⟩ := tk_split h
  rw [h3, h4]
  obtain ⟨sr, ns⟩ := s
  simp only at h1
  subst h1
  unfold must
  simp only
  rw [if_pos h2]
theorem must_f {p : Tok → Bool} {s : PSt} (h : tkB p s.r = false) : must p s = .err s.r := by
  obtain ⟨sr, ns⟩ := s
  unfold must
  cases sr with
  | nil => rfl
  | cons t r =>
    simp only
    rw [if_neg (by simpa [tkB] using h)]
theorem bind_ok {α β : Type} {f : Prs α} {g : α → Prs β} {s s1 : PSt} {a : α} (h : f s = .ok s1 a) : pbind f g s = g a s1 := by unfold pbind; rw [h]
theorem bind_err {α β : Type} {f : Prs α} {g : α → Prs β} {s : PSt} {r : List Tok} (h : f s = .err r) : pbind f g s = .err r := by unfold pbind; rw [h]

/-- One word is taken. -/
theorem PrSt.eat {c : PCx} {A : List Nat} {m : Nat} {s : PSt} {w : World} (h : PrSt c A m s w) (h0 : s.r ≠ []) :
    let w' := w.setCell ⟨c.g, 1, none⟩ (.int .i64 ((c.l.length - s.r.length : Nat) + 1 : Int))
    PrSt c A (m - 1) ⟨s.r.tail, s.ns⟩ w' ∧ KA c A w w' := by
  have hk : Kept [c.g] w (w.setCell ⟨c.g, 1, none⟩ (.int .i64 ((c.l.length - s.r.length : Nat) + 1 : Int))) := Kept.setCell _ _ _ _ (by simp)
  have hgA : c.g ∉ A := fun hm => by have := (h.hA _ hm).1; omega
  obtain ⟨v, h3, h4⟩ := h.row
  have hlen : s.r.tail.length + 1 = s.r.length := by
    cases hr : s.r with
    | nil => exact absurd hr h0
    | cons t r => rfl
  have hle := h.le
  have hfew := h.few
  have hat : c.l.length - s.r.tail.length = c.l.length - s.r.length + 1 := by omega
  intro w'
  refine ⟨⟨h.hg, fun q hq => ⟨(h.hA q hq).1, Nat.lt_of_lt_of_le (h.hA q hq).2 hk.size⟩, ⟨v, ?_, ?_⟩, ?_, by show s.r.tail.length ≤ _; omega, by show s.ns.length + s.r.tail.length ≤ _; omega, h.tk, h.kept.into hk (by simpa using h.hg)⟩, ⟨[c.g], hk, by simpa using hgA⟩⟩
  · have := row_setJ h3 1 (.int .i64 ((c.l.length - s.r.length : Nat) + 1 : Int))
    show w'.heap[c.g]? = some (.cells #[c.va, .int .i64 ((c.l.length - s.r.tail.length : Nat) : Int), v] 53)
    rw [hat]
    exact this
  · obtain ⟨L, hL, ho, hv, hl⟩ := h4.out
    refine ⟨L, hL, owns_kept ho hk (fun q hq hm => ?_), hv, fun x hx => ⟨(hl x hx).1.keptX hk (fun q hq hm => ?_), (hl x hx).2⟩⟩
    · have := (ho.lt q hq).1; simp at hm; omega
    · have := ((hl x hx).1.blk q hq).1; simp at hm; omega
  · show c.l.drop (c.l.length - s.r.tail.length) = s.r.tail
    rw [hat, ← List.drop_drop, h.suf, List.drop_one]
/-- What a parser's cells hold. -/
theorem PrSt.open {c : PCx} {A : List Nat} {m : Nat} {s : PSt} {w : World} (h : PrSt c A m s w) : ∃ nv, w.cell? ⟨c.g, 0, none⟩ = some c.va ∧ w.cell? ⟨c.g, 1, none⟩ = some (.int .i64 ((c.l.length - s.r.length : Nat) : Int)) ∧ w.cell? ⟨c.g, 2, none⟩ = some nv ∧ (∀ q, w.frozen? ⟨c.g, q, none⟩ = false) ∧ NdsIs c A w nv s.ns ∧ w.heap[c.g]? = some (.cells #[c.va, .int .i64 ((c.l.length - s.r.length : Nat) : Int), nv] 53) := by
  obtain ⟨v, h3, h4⟩ := h.row
  exact ⟨v, cell_of_row _ _ 0 _ _ _ h3, cell_of_row _ _ 1 _ _ _ h3, cell_of_row _ _ 2 _ _ _ h3, fun q => frozen_of_row _ _ q _ _ h3, h4, h3⟩
end Go.Proofs.YtfpdgdacifiejaaGreat

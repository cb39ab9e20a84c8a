/-
  Layer 11: the document's Name; Keyword on both sides; the program's Name and Type.
  Conditions: those that each theorem states.
-/
import Derived.Test.YtlbenaodpfhjeaaURef
namespace Go.Proofs.Ytlbenaodpfhjeaa
open Go.RowKit Go.Maps

def keys11 : List (List UInt8) := [[99, 108, 97, 115, 115], [100, 101, 102, 105, 110, 101], [105, 110, 99, 108, 117, 100, 101], [105, 102], [101, 108, 115, 101], [116, 114, 117, 101], [102, 97, 108, 115, 101], [97, 110, 100], [111, 114]]
def keyB (l : List UInt8) : Bool := decide (l ∈ keys11)
set_option maxHeartbeats 2000000 in
theorem key_any (S : ByteArray) (w : World) : Calls Try.prog 52 #[.string S] w fun e w' => e = .returned (.bool (keyB (bl S))) ∧ w = w' := by
  have ht : S.toList = bl S := Lib.toList_data S
  obtain ⟨l, hl⟩ : ∃ l, bl S = l := ⟨_, rfl⟩
  rw [hl] at ht ⊢
  clear hl
  go_enter Try.func52, Try.ntmps52
  go_wp2
  all_goals
    go_ret
    refine ⟨retB ?_, rfl⟩
    unfold keyB keys11
    simp_all
/-- How far the document's Name is: what is left from m on decides, and there are no two ':' side by side between m and k. -/
structure NmSt (l : List UInt8) (m k : Nat) : Prop where
  le : m ≤ k
  top : m ≤ l.length
  no : NoCol (l.drop m) (k - m)
  all : nameB l = nameB (l.drop m)
theorem NmSt.first (l : List UInt8) : NmSt l 0 0 := ⟨Nat.le_refl _, Nat.zero_le _, fun j hj => absurd hj (by omega), rfl⟩
theorem NmSt.end' {l : List UInt8} {m k : Nat} (h : NmSt l m k) (hk : l.length ≤ k + 1) : nameB l = partB (l.drop m) := by
  rw [h.all, nameB_none]
  intro j hj
  exact h.no j (by rw [List.length_drop] at hj; have := h.le; omega)
theorem NmSt.on {l : List UInt8} {m k : Nat} (h : NmSt l m k) (hk : ¬ (l[k]? = some 58 ∧ l[k + 1]? = some 58)) : NmSt l m (k + 1) := by
  refine ⟨by have := h.le; omega, h.top, fun j hj => ?_, h.all⟩
  have hle := h.le
  by_cases e : j = k - m
  · subst e
    rw [List.getElem?_drop, List.getElem?_drop, show m + (k - m) = k by omega, show m + (k - m + 1) = k + 1 by omega]
    exact hk
  · exact h.no j (by omega)
theorem NmSt.hit {l : List UInt8} {m k : Nat} (h : NmSt l m k) (h1 : l[k]? = some 58) (h2 : l[k + 1]? = some 58) : nameB l = (partB ((l.drop m).take (k - m)) && nameB (l.drop (k + 2))) := by
  have hle := h.le
  rw [h.all, nameB_first h.no (by rw [List.getElem?_drop, show m + (k - m) = k by omega]; exact h1) (by rw [List.getElem?_drop, show m + (k - m + 1) = k + 1 by omega]; exact h2), List.drop_drop, show m + (k - m + 2) = k + 2 by omega]
theorem NmSt.next {l : List UInt8} {m k : Nat} (h : NmSt l m k) (h1 : l[k]? = some 58) (h2 : l[k + 1]? = some 58) (hp : partB ((l.drop m).take (k - m)) = true) : NmSt l (k + 2) (k + 2) := by
  have hlen : k + 1 < l.length := (List.getElem?_eq_some_iff.1 h2).1
  exact ⟨Nat.le_refl _, by omega, fun j hj => absurd hj (by omega), by rw [h.hit h1 h2, hp, Bool.true_and]⟩
theorem get58 {S : ByteArray} {k : Nat} (hk : k < S.size) : (bl S)[k]? = some 58 ↔ (S[k].toNat : Int) = 58 := by
  rw [bl_get? S k hk, Option.some.injEq, ← UInt8.toNat_inj]
  show _ = 58 ↔ _
  omega

set_option maxHeartbeats 4000000 in
theorem rname_any (S : ByteArray) (w : World) (hs : S.size ≤ 4611686018427387904) : Calls Try.prog 23 #[.string S] w fun e w' => e = .returned (.bool (nameB (bl S))) ∧ w = w' := by
  go_enter Try.func23, Try.ntmps23
  go_wp2_with fail
  go_loop [3, 4] (fun sm sk => ∃ m k : Nat, sm = .int .i64 m ∧ sk = .int .i64 k ∧ m ≤ k ∧ m ≤ S.size ∧ k ≤ S.size ∧ Hid (NmSt (bl S) m k)) (fun _ i => S.size - (intOf i).toNat)
  case atStart => exact ⟨0, 0, rfl, rfl, by omega, by omega, by omega, NmSt.first _⟩
  case round =>
    obtain ⟨m, k, rfl, rfl, hmk, hm, hk, HS⟩ := hrel
    by_cases hlt : k + 1 < S.size
    · have hk0 : k < S.size := by omega
      have hg0 := get58 hk0
      have hg1 := get58 hlt
      have hc0 := UInt8.toNat_lt S[k]
      have hc1 := UInt8.toNat_lt S[k + 1]
      obtain ⟨c0, hc0e⟩ : ∃ c : Int, (S[k].toNat : Int) = c := ⟨_, rfl⟩
      obtain ⟨c1, hc1e⟩ : ∃ c : Int, (S[k + 1].toNat : Int) = c := ⟨_, rfl⟩
      rw [hc0e] at hg0
      rw [hc1e] at hg1
      have i0 : ∀ wx, (Instr.index 9 (.string S) (.int .i64 (k : Int))).run Try.prog wx = .ok (.int .u8 c0) wx := fun wx => by
        rw [← hc0e]
        simp [Instr.index, run_underlying Try.underlying9, asIntOf, go_sem, hk0]
      have i1 : ∀ wx, (Instr.index 9 (.string S) (.int .i64 ((k : Int) + 1))).run Try.prog wx = .ok (.int .u8 c1) wx := fun wx => by
        rw [← hc1e]
        rw [show (k : Int) + 1 = ((k + 1 : Nat) : Int) by omega]
        have h0 : (0 : Int) ≤ (k : Int) + 1 := by omega
        simp [Instr.index, asIntOf, go_sem, hlt, h0]
      by_cases hcol : c0 = 58 ∧ c1 = 58
      · obtain ⟨rfl, rfl⟩ := hcol
        have h1 := hg0.2 rfl
        have h2 := hg1.2 rfl
        have HP : Hid (bl (S.extract m k) = ((bl S).drop m).take (k - m)) := bl_ext S m k
        cases q : partB (((bl S).drop m).take (k - m))
        · have HQ := Lib.hid q
          have HF : Hid (nameB (bl S) = false) := by show _ = _; rw [HS.out.hit h1 h2, q]; rfl
          clear q h1 h2 hg0 hg1 hc0 hc1 hc0e hc1e
          go_wp2_with fail
          refine (rpart_any (S.extract m k) _ (by rw [← bl_len, bl_ext, List.length_take, List.length_drop, bl_len]; omega)).mono ?_
          rw [HP.out, HQ.out]
          rintro e w2 ⟨rfl, rfl⟩
          go_wp2_with fail
          go_ret
          exact ⟨retB HF.out.symm, rfl⟩
        · have HQ := Lib.hid q
          have HN : Hid (NmSt (bl S) (k + 2) (k + 2)) := HS.out.next h1 h2 q
          clear q h1 h2 hg0 hg1 hc0 hc1 hc0e hc1e
          go_wp2_with fail
          refine (rpart_any (S.extract m k) _ (by rw [← bl_len, bl_ext, List.length_take, List.length_drop, bl_len]; omega)).mono ?_
          rw [HP.out, HQ.out]
          rintro e w2 ⟨rfl, rfl⟩
          go_wp2_with fail
          go_round
          case rel => exact ⟨k + 2, k + 2, by go_num, by go_num, by omega, by omega, by omega, HN.out⟩
          case measure => simp [intOf]; omega
      · have HN : Hid (NmSt (bl S) m (k + 1)) := HS.out.on (fun h => hcol ⟨hg0.1 h.1, hg1.1 h.2⟩)
        clear hg0 hg1 hc0e hc1e
        by_cases h58 : c0 = 58
        · have hc1n : ¬ c1 = 58 := fun h => hcol ⟨h58, h⟩
          subst h58
          clear hcol
          go_wp2_with fail
          go_round
          case rel => exact ⟨m, k + 1, rfl, by go_num, by omega, by omega, by omega, HN.out⟩
          case measure => simp [intOf]; omega
        · clear hcol
          go_wp2_with fail
          go_round
          case rel => exact ⟨m, k + 1, rfl, by go_num, by omega, by omega, by omega, HN.out⟩
          case measure => simp [intOf]; omega
    · have HF : Hid (nameB (bl S) = partB (bl (S.extract m S.size))) := by
        show _ = _
        rw [bl_from]
        exact HS.out.end' (by rw [bl_len]; omega)
      go_wp2_with fail
      refine (rpart_any (S.extract m S.size) _ (by rw [size_from]; omega)).mono ?_
      rw [← HF.out]
      rintro e w2 ⟨rfl, rfl⟩
      go_wp2_with fail
      go_ret
      exact ⟨rfl, rfl⟩
theorem get_i {S : ByteArray} (k : Nat) (hk : k < S.size) (wx : World) : (Instr.index 9 (.string S) (.int .i64 (k : Int))).run Try.prog wx = .ok (.int .u8 (S[k].toNat : Int)) wx := by
  simp [Instr.index, run_underlying Try.underlying9, asIntOf, go_sem, hk]
theorem hd_S {S : ByteArray} (h : 0 < S.size) : (bl S).headD 0 = S[0] := by rw [bl_cons h]; rfl
theorem last_S {S : ByteArray} (h : 0 < S.size) : (bl S).getD ((bl S).length - 1) 0 = S[S.size - 1] := by
  rw [bl_len, List.getD_eq_getElem?_getD, bl_get? S _ (by omega)]
  rfl
theorem byte_eq {c d : UInt8} : c = d ↔ (c.toNat : Int) = (d.toNat : Int) := by
  rw [← UInt8.toNat_inj]
  omega
end Go.Proofs.Ytlbenaodpfhjeaa

/-
  Layer 11: rows of words held against one another; a word as it stands in a text; blanks and comments.
  Conditions: those that each theorem states.
-/
import Derived.Test.YtfmhpjpalfepjaaUMem
import Derived.Test.YtfmhpjpalfepjaaUReach
namespace Go.Proofs.Ytfmhpjpalfepjaa
open Go.RowKit Go.Maps

set_option maxHeartbeats 4000000 in
/-- Two rows of the same words are the same. -/
theorem same11_any (va vb : Value) (L : List Wd) (w : World) (ha : WsIs w va L) (hb : WsIs w vb L) :
    Calls Try.prog 11 #[va, vb] w fun e w' => e = .returned (.bool true) ∧ Kept [] w w' := by
  obtain ⟨aa, ac, rfl, hac, hac2, _, hca⟩ := ha.open
  obtain ⟨ba, bc, rfl, hbc, hbc2, _, hcb⟩ := hb.open
  have hlen := ha.len
  obtain ⟨m, hm⟩ : ∃ m, L.length = m := ⟨_, rfl⟩
  have HCA := Lib.hid hca
  have HCB := Lib.hid hcb
  have HM := Lib.hid hm
  rw [hm] at hac hbc hlen ⊢
  clear hca hcb hm ha hb
  go_enter Try.func11, Try.ntmps11
  go_wp2_with fail
  go_loopw [5] (fun i wr => ∃ k : Nat, i = .int .i64 k ∧ k ≤ m ∧ Hid (Kept [] w wr)) (fun i _ => m - (intOf i).toNat)
  case atStart => exact ⟨0, rfl, by omega, Kept.refl _ _⟩
  case round =>
    obtain ⟨k, rfl, hk, HK⟩ := hrel
    by_cases hlt : k < m
    · have hkl : k < L.length := by rw [HM.out]; exact hlt
      obtain ⟨b1, o1, rfl, hb1, hc1⟩ := HCA.out (by omega)
      obtain ⟨b2, o2, rfl, hb2, hc2⟩ := HCB.out (by omega)
      obtain ⟨p0, p1, p2⟩ := hc1 k hkl
      obtain ⟨q0, q1, q2⟩ := hc2 k hkl
      obtain ⟨x0, hx0⟩ : ∃ x : Int, (L[k].kd : Int) = x := ⟨_, rfl⟩
      obtain ⟨x1, hx1⟩ : ∃ x, strL L[k].tx = x := ⟨_, rfl⟩
      obtain ⟨x2, hx2⟩ : ∃ x : Int, (L[k].at' : Int) = x := ⟨_, rfl⟩
      rw [hx0] at p0 q0
      rw [hx1] at p1 q1
      rw [hx2] at p2 q2
      have y0 := (HK.out.cell (p := ⟨b1, o1 + k * 3, none⟩) hb1 (by simp)).trans p0
      have y1 := (HK.out.cell (p := ⟨b1, o1 + k * 3 + 1, none⟩) hb1 (by simp)).trans p1
      have y2 := (HK.out.cell (p := ⟨b1, o1 + k * 3 + 2, none⟩) hb1 (by simp)).trans p2
      have z0 := (HK.out.cell (p := ⟨b2, o2 + k * 3, none⟩) hb2 (by simp)).trans q0
      have z1 := (HK.out.cell (p := ⟨b2, o2 + k * 3 + 1, none⟩) hb2 (by simp)).trans q1
      have z2 := (HK.out.cell (p := ⟨b2, o2 + k * 3 + 2, none⟩) hb2 (by simp)).trans q2
      clear hc1 hc2 p0 p1 p2 q0 q1 q2 hx0 hx1 hx2
      go_wp2_with fail
      go_quiet (fail)
      go_wp2_with fail
      go_roundw
      case rel => exact ⟨k + 1, by go_num, by omega, HK.out.trans (Kept.drewN _ _ _)⟩
      case measure => simp [intOf]; omega
    · go_wp2_with fail
      go_ret
      exact ⟨rfl, HK.out⟩

set_option maxHeartbeats 4000000 in
theorem text11_any (x : Wd) (w : World) (hl : x.tx.length ≤ 1000000) :
    Calls Try.prog 18 #[.agg #[.int .i64 (x.kd : Int), .string (strL x.tx), .int .i64 (x.at' : Int)]] w fun e w' => e = .returned (.string (strL (covO x))) ∧ Kept [] w w' := by
  obtain ⟨kd, tx, at'⟩ := x
  simp only at hl ⊢
  have hsz : (strL tx).size ≤ 1000000 := by rw [strL_size]; exact hl
  obtain ⟨S, hS⟩ : ∃ S, strL tx = S := ⟨_, rfl⟩
  have HS := Lib.hid hS
  rw [hS] at hsz ⊢
  by_cases c3 : kd = 3
  · subst c3
    have HC : Hid (strL (covO ⟨3, tx, at'⟩) = ⟨#[36]⟩ ++ S) := by show _ = _; rw [← hS]; apply bl_eq; simp [bl, strL, covO]
    clear hS
    go_enter Try.func18, Try.ntmps18
    go_wp2_with fail
    go_ret
    exact ⟨by rw [HC.out]; rfl, Kept.alloc _ _ _⟩
  by_cases c4 : kd = 4
  · subst c4
    have HC : Hid (strL (covO ⟨4, tx, at'⟩) = ⟨#[39]⟩ ++ S ++ ⟨#[39]⟩) := by show _ = _; rw [← hS]; apply bl_eq; simp [bl, strL, covO]
    clear hS
    go_enter Try.func18, Try.ntmps18
    go_wp2_with fail
    go_ret
    exact ⟨by rw [HC.out]; rfl, Kept.alloc _ _ _⟩
  by_cases c5 : kd = 5
  · subst c5
    have HC : Hid (strL (covO ⟨5, tx, at'⟩) = ⟨#[34]⟩ ++ S ++ ⟨#[34]⟩) := by show _ = _; rw [← hS]; apply bl_eq; simp [bl, strL, covO]
    clear hS
    go_enter Try.func18, Try.ntmps18
    go_wp2_with fail
    go_ret
    exact ⟨by rw [HC.out]; rfl, Kept.alloc _ _ _⟩
  · have HC : Hid (strL (covO ⟨kd, tx, at'⟩) = S) := by show _ = _; rw [← hS]; simp [covO, c3, c4, c5]
    have d3 : ((kd : Int) == 3) = false := by simp; omega
    have d4 : ((kd : Int) == 4) = false := by simp; omega
    have d5 : ((kd : Int) == 5) = false := by simp; omega
    clear hS c3 c4 c5
    go_enter Try.func18, Try.ntmps18
    go_wp2_with fail
    go_ret
    exact ⟨by rw [HC.out]; rfl, Kept.alloc _ _ _⟩

theorem blk_step {S : ByteArray} {k : Nat} (h : k < S.size) (com : Bool) : blkB com ((bl S).drop k) =
    if S[k] = 10 then blkB false ((bl S).drop (k + 1)) else if com then blkB true ((bl S).drop (k + 1)) else if S[k] = 35 then blkB true ((bl S).drop (k + 1)) else if S[k] = 9 ∨ S[k] = 13 ∨ S[k] = 32 then blkB false ((bl S).drop (k + 1)) else false := by
  have := List.drop_eq_getElem_cons (l := bl S) (i := k) (by rw [bl_len]; exact h)
  rw [this]
  rfl
theorem byte_lit {c d : UInt8} {x : Int} (hc : (c.toNat : Int) = x) (n : Int) (hd : (d.toNat : Int) = n) : (x == n) = decide (c = d) := by
  rw [beqI, ← hc, ← hd]
  exact decide_eq_decide.2 byte_eq.symm

set_option maxHeartbeats 4000000 in
theorem blank_any (S : ByteArray) (w : World) (hs : S.size ≤ 4611686018427387904) :
    Calls Try.prog 19 #[.string S] w fun e w' => e = .returned (.bool (blkB false (bl S))) ∧ w = w' := by
  go_enter Try.func19, Try.ntmps19
  go_wp2_with fail
  go_loop [3, 4] (fun sc sk => ∃ (com : Bool) (k : Nat), sc = .bool com ∧ sk = .int .i64 k ∧ k ≤ S.size ∧ Hid (blkB false (bl S) = blkB com ((bl S).drop k))) (fun _ i => S.size - (intOf i).toNat)
  case atStart => exact ⟨false, 0, rfl, rfl, by omega, rfl⟩
  case round =>
    obtain ⟨com, k, rfl, rfl, hk, HS⟩ := hrel
    by_cases hlt : k < S.size
    · have hst := blk_step hlt com
      have hix := get_i k hlt
      obtain ⟨c, hc⟩ : ∃ c : Int, (S[k].toNat : Int) = c := ⟨_, rfl⟩
      rw [hc] at hix
      have b10 := byte_lit (d := 10) hc 10 rfl
      have b35 := byte_lit (d := 35) hc 35 rfl
      have b9 := byte_lit (d := 9) hc 9 rfl
      have b13 := byte_lit (d := 13) hc 13 rfl
      have b32 := byte_lit (d := 32) hc 32 rfl
      have go1 : ∀ (x : Bool), blkB com ((bl S).drop k) = blkB x ((bl S).drop (k + 1)) → Hid (blkB false (bl S) = blkB x ((bl S).drop (k + 1))) := fun x h => HS.out.trans h
      by_cases e10 : S[k] = 10
      · rw [decide_eq_true e10] at b10
        rw [if_pos e10] at hst
        have HN := go1 _ hst
        clear go1 hst hc b35 b9 b13 b32 e10
        go_wp2_with fail
        go_round
        case rel => exact ⟨false, k + 1, rfl, by go_num, by omega, HN.out⟩
        case measure => simp [intOf]; omega
      rw [decide_eq_false e10] at b10
      rw [if_neg e10] at hst
      cases com
      case true =>
        rw [if_pos rfl] at hst
        have HN := go1 _ hst
        clear go1 hst hc b35 b9 b13 b32 e10
        go_wp2_with fail
        go_round
        case rel => exact ⟨true, k + 1, rfl, by go_num, by omega, HN.out⟩
        case measure => simp [intOf]; omega
      case false =>
        rw [if_neg (by simp)] at hst
        by_cases e35 : S[k] = 35
        · rw [decide_eq_true e35] at b35
          rw [if_pos e35] at hst
          have HN := go1 _ hst
          clear go1 hst hc b9 b13 b32 e10 e35
          go_wp2_with fail
          go_round
          case rel => exact ⟨true, k + 1, rfl, by go_num, by omega, HN.out⟩
          case measure => simp [intOf]; omega
        rw [decide_eq_false e35] at b35
        rw [if_neg e35] at hst
        by_cases ew : S[k] = 9 ∨ S[k] = 13 ∨ S[k] = 32
        · rw [if_pos ew] at hst
          have HN := go1 _ hst
          clear go1 hst hc e10 e35
          by_cases e9 : S[k] = 9
          · rw [decide_eq_true e9] at b9
            have n9 : (c != 9) = !(c == 9) := rfl
            rw [b9] at n9
            clear b13 b32 ew e9
            go_wp2_with fail
            go_round
            case rel => exact ⟨false, k + 1, rfl, by go_num, by omega, HN.out⟩
            case measure => simp [intOf]; omega
          rw [decide_eq_false e9] at b9
          have n9 : (c != 9) = !(c == 9) := rfl
          rw [b9] at n9
          by_cases e13 : S[k] = 13
          · rw [decide_eq_true e13] at b13
            have n13 : (c != 13) = !(c == 13) := rfl
            rw [b13] at n13
            clear b32 ew e9 e13
            go_wp2_with fail
            go_round
            case rel => exact ⟨false, k + 1, rfl, by go_num, by omega, HN.out⟩
            case measure => simp [intOf]; omega
          rw [decide_eq_false e13] at b13
          have n13 : (c != 13) = !(c == 13) := rfl
          rw [b13] at n13
          have e32 : S[k] = 32 := by
            rcases ew with h | h | h
            · exact absurd h e9
            · exact absurd h e13
            · exact h
          rw [decide_eq_true e32] at b32
          have n32 : (c != 32) = !(c == 32) := rfl
          rw [b32] at n32
          clear ew e9 e13 e32
          go_wp2_with fail
          go_round
          case rel => exact ⟨false, k + 1, rfl, by go_num, by omega, HN.out⟩
          case measure => simp [intOf]; omega
        · rw [if_neg ew] at hst
          have HF : Hid (blkB false (bl S) = false) := HS.out.trans hst
          rw [decide_eq_false (fun h => ew (.inl h))] at b9
          rw [decide_eq_false (fun h => ew (.inr (.inl h)))] at b13
          rw [decide_eq_false (fun h => ew (.inr (.inr h)))] at b32
          have n9 : (c != 9) = !(c == 9) := rfl
          have n13 : (c != 13) = !(c == 13) := rfl
          have n32 : (c != 32) = !(c == 32) := rfl
          rw [b9] at n9
          rw [b13] at n13
          rw [b32] at n32
          clear go1 hst hc e10 e35 ew
          go_wp2_with fail
          go_ret
          exact ⟨retB HF.out.symm, rfl⟩
    · have HF : Hid (blkB false (bl S) = true) := by
        show _ = _
        rw [HS.out, List.drop_of_length_le (by rw [bl_len]; omega)]
        cases com <;> rfl
      go_wp2_with fail
      go_ret
      exact ⟨retB HF.out.symm, rfl⟩
end Go.Proofs.Ytfmhpjpalfepjaa

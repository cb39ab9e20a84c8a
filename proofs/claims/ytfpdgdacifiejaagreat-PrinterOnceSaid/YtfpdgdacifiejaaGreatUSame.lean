/-
  Layer 11: rows of words held against one another; a word as it stands in a text; blanks and comments.
  Conditions: those that each theorem states.
-/
import Derived.Test.YtfpdgdacifiejaaGreatUMem
import Derived.Test.YtfpdgdacifiejaaGreatUReach
namespace Go.Proofs.YtfpdgdacifiejaaGreat
open Go.RowKit Go.Maps

set_option maxHeartbeats 4000000 in
theorem text11_any (x : Wd) (w : World) (hl : x.tx.length ≤ 1000000) :
    Calls Tryz.prog 11 #[.agg #[.int .i64 (x.kd : Int), .string (strL x.tx), .int .i64 (x.at' : Int)]] w fun e w' => e = .returned (.string (strL (covO x))) ∧ Kept [] w w' := by
  obtain ⟨kd, tx, at'⟩ := x
  simp only at hl ⊢
  have hsz : (strL tx).size ≤ 1000000 := by rw [strL_size]; exact hl
  obtain ⟨S, hS⟩ : ∃ S, strL tx = S := ⟨_, rfl⟩
  have HS := Lib.hid hS
  rw [hS] at hsz ⊢
  by_cases c3 : kd = 3
  · subst c3
    have HC : Hid (strL (covO ⟨3, tx, at'⟩) = ⟨#[36]⟩ ++ S) := by show _ = _; rw [← hS]; apply bl_eq; simp [bl, strL, covO]
    clear hS
    go_enter Tryz.func11, Tryz.ntmps11
    go_wp2_with fail
    go_ret
    exact ⟨by rw [HC.out]; rfl, Kept.alloc _ _ _⟩
  by_cases c4 : kd = 4
  · subst c4
    have HC : Hid (strL (covO ⟨4, tx, at'⟩) = ⟨#[39]⟩ ++ S ++ ⟨#[39]⟩) := by show _ = _; rw [← hS]; apply bl_eq; simp [bl, strL, covO]
    clear hS
    go_enter Tryz.func11, Tryz.ntmps11
    go_wp2_with fail
    go_ret
    exact ⟨by rw [HC.out]; rfl, Kept.alloc _ _ _⟩
  by_cases c5 : kd = 5
  · subst c5
    have HC : Hid (strL (covO ⟨5, tx, at'⟩) = ⟨#[34]⟩ ++ S ++ ⟨#[34]⟩) := by show _ = _; rw [← hS]; apply bl_eq; simp [bl, strL, covO]
    clear hS
    go_enter Tryz.func11, Tryz.ntmps11
    go_wp2_with fail
    go_ret
    exact ⟨by rw [HC.out]; rfl, Kept.alloc _ _ _⟩
  · have HC : Hid (strL (covO ⟨kd, tx, at'⟩) = S) := by show _ = _; rw [← hS]; simp [covO, c3, c4, c5]
    have d3 : ((kd : Int) == 3) = false := by simp; omega
    have d4 : ((kd : Int) == 4) = false := by simp; omega
    have d5 : ((kd : Int) == 5) = false := by simp; omega
    clear hS c3 c4 c5
    go_enter Tryz.func11, Tryz.ntmps11
    go_wp2_with fail
    go_ret
    exact ⟨by rw [HC.out]; rfl, Kept.alloc _ _ _⟩

theorem blk_step {S : ByteArray} {k : Nat} (h : k < S.size) (com : Bool) : blkB com ((bl S).drop k) =
    if S[k] = 10 then blkB false ((bl S).drop (k + 1)) else if com then blkB true ((bl S).drop (k + 1)) else if S[k] = 35 then blkB true ((bl S).drop (k + 1)) else if S[k] = 9 ∨ S[k] = 13 ∨ S[k] = 32 then blkB false ((bl S).drop (k + 1)) else false := by
  have := List.drop_eq_getElem_cons (l := bl S) (i := k) (by rw [bl_len]; exact h)
  rw [this]
  rfl
theorem byte_lit {c d : UInt8} {x : Int} (hc : (c.toNat : Int) = x) (n : Int) (hd : (d.toNat : Int) = n) : (x == n) = decide (c = d) := by
  rw [beqI, ← hc, ← hd]
  exact decide_eq_decide.2 byte_eq.symm

end Go.Proofs.YtfpdgdacifiejaaGreat

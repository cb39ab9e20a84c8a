/-
  Layer 8: the program's closures: what is left and leads to a number, what is ahead of one, what is free, what is left.
  Conditions: those that each theorem states.
-/
import Derived.Test.YtpdngekolhcndaaGRow
namespace Go.Proofs.Ytpdngekolhcndaa
open Go.RowKit Go.Maps

theorem enters_o11 : Enters Try.prog 18 := enters_of Try.func18 (by kernel_rfl) rfl
theorem enters_o1 : Enters Try.prog 16 := enters_of Try.func16 (by kernel_rfl) rfl
theorem enters_o2 : Enters Try.prog 19 := enters_of Try.func19 (by kernel_rfl) rfl
theorem enters_o3 : Enters Try.prog 20 := enters_of Try.func20 (by kernel_rfl) rfl

set_option maxRecDepth 100000 in
set_option maxHeartbeats 1000000 in
theorem o11_any (i j l g b : Nat) (S : Nat → Bool) (A : Nat → Nat → Bool) (w : World) (hS : SetIs w l S) (hA : LdIs w g A) (hb : w.cell? ⟨b, 0, none⟩ = some (.int .i64 i)) (hi : i < 32) (hj : j < 32) :
    Calls Try.prog 18 #[.int .i64 j, .pointer (some ⟨l, 0, none⟩), .pointer (some ⟨g, 0, none⟩), .pointer (some ⟨b, 0, none⟩)] w fun e w' => e = .returned (.bool (S j && A j i)) ∧ Kept [] w w' := by
  have c0 : w.cell? ⟨l, j, none⟩ = some (.bool (S j)) := hS.cell hj
  have c1 : w.cell? ⟨g, j * 32 + i, none⟩ = some (.bool (A j i)) := hA.cell hj hi
  clear hS hA
  cases hs : S j
  · rw [hs] at c0
    clear hs
    go_enter Try.func18, Try.ntmps18
    go_wp2_with fail
    go_quiet (fail)
    go_wp2_with fail
    go_ret
    exact ⟨rfl, Kept.drewN _ _ _⟩
  · rw [hs] at c0
    clear hs
    cases hz : A j i
    all_goals
      rw [hz] at c1
      clear hz
      go_enter Try.func18, Try.ntmps18
      go_wp2_with fail
      go_quiet (fail)
      go_wp2_with fail
      go_ret
      exact ⟨rfl, Kept.drewN _ _ _⟩

set_option maxRecDepth 100000 in
set_option maxHeartbeats 1000000 in
theorem o1_any (n i nb l g : Nat) (S : Nat → Bool) (A : Nat → Nat → Bool) (w : World) (hS : SetIs w l S) (hA : LdIs w g A) (hnb : w.cell? ⟨nb, 0, none⟩ = some (.int .i64 n)) (hn : n ≤ 32) (hi : i < 32) :
    Calls Try.prog 16 #[.int .i64 i, .pointer (some ⟨nb, 0, none⟩), .pointer (some ⟨l, 0, none⟩), .pointer (some ⟨g, 0, none⟩)] w fun e w' => e = .returned (.int .i64 (lstI (aheadP n A S i))) ∧ Kept [] w w' := by
  have HS := Lib.hid hS
  have HA := Lib.hid hA
  have hlt := World.block_lt_of_cell? w _ hnb
  simp only at hlt
  clear hS hA
  go_enter Try.func16, Try.ntmps16
  go_wp2_with fail
  generalize hw1 : World.alloc w _ = w1
  have HK : Hid (Kept [] w w1) := by rw [← hw1]; exact Kept.alloc _ _ _
  have hb : w1.cell? ⟨w.heap.size, 0, none⟩ = some (.int .i64 i) := by rw [← hw1]; exact cell_of_row _ _ 0 _ _ _ (heap_alloc_last _ _)
  have HB := Lib.hid hb
  clear hw1 hb hnb hlt
  have hf : FnI w1 (.func (.func 18) #[] #[.pointer (some ⟨l, 0, none⟩), .pointer (some ⟨g, 0, none⟩), .pointer (some ⟨w.heap.size, 0, none⟩)]) n (fun j => S j && A j i) :=
    ⟨_, _, rfl, enters_o11, fun w' hk j hj => o11_any i j l g w.heap.size S A w' ((HS.out.kept HK.out (by simp)).kept hk (by simp)) ((HA.out.kept HK.out (by simp)).kept hk (by simp))
      ((hk.cell (p := ⟨w.heap.size, 0, none⟩) (World.block_lt_of_cell? w1 _ HB.out) (by simp)).trans HB.out) hi (by omega)⟩
  refine (least_any n _ _ w1 hf hn).mono ?_
  rintro e w2 ⟨rfl, hk2⟩
  have HK2 := Lib.hid (HK.out.trans hk2)
  clear hk2 hf
  go_wp2_with fail
  go_ret
  exact ⟨rfl, HK2.out⟩

set_option maxRecDepth 100000 in
set_option maxHeartbeats 1000000 in
theorem o2_any (n j nb l g h : Nat) (S : Nat → Bool) (A : Nat → Nat → Bool) (w : World) (hS : SetIs w l S) (hA : LdIs w g A) (hnb : w.cell? ⟨nb, 0, none⟩ = some (.int .i64 n)) (hn : n ≤ 32)
    (hh : w.cell? ⟨h, 0, none⟩ = some (.func (.func 16) #[] #[.pointer (some ⟨nb, 0, none⟩), .pointer (some ⟨l, 0, none⟩), .pointer (some ⟨g, 0, none⟩)])) (hj : j < 32) :
    Calls Try.prog 19 #[.int .i64 j, .pointer (some ⟨l, 0, none⟩), .pointer (some ⟨h, 0, none⟩)] w fun e w' => e = .returned (.bool (freeP n A S j)) ∧ Kept [] w w' := by
  have c0 : w.cell? ⟨l, j, none⟩ = some (.bool (S j)) := hS.cell hj
  have HO := Lib.hid (o1_any n j nb l g S A w hS hA hnb hn hj)
  obtain ⟨q, hq⟩ : ∃ q, lstI (aheadP n A S j) = q := ⟨_, rfl⟩
  have HQ : Hid (freeP n A S j = (S j && decide (q = -1))) := by
    show _ = _
    unfold freeP
    rw [← hq]
    congr 1
    rw [Bool.eq_iff_iff, decide_eq_true_eq, decide_eq_true_eq]
    exact lstI_none.symm
  rw [hq] at HO
  have hE2 : ∀ (args : Array Value) (w : World), (callFunc 16 args).run Try.prog w = .ok (.enter 16 args) w := enters_o1
  clear hS hA hnb hq
  cases hs : S j
  · rw [hs] at c0 HQ
    clear hs
    go_enter Try.func19, Try.ntmps19
    go_wp2_with fail
    go_ret
    exact ⟨by rw [HQ.out]; rfl, Kept.refl _ _⟩
  · rw [hs] at c0 HQ
    clear hs
    go_enter Try.func19, Try.ntmps19
    go_wp2_with fail
    refine HO.out.mono ?_
    rintro e w2 ⟨rfl, hk2⟩
    have HK2 := Lib.hid hk2
    clear hk2 hh c0
    by_cases h1 : q = -1
    · have h2 : (q == -1) = true := by simpa using h1
      have HH := Lib.hid h1
      clear h1
      go_wp2_with fail
      go_ret
      exact ⟨by rw [HQ.out, HH.out]; rfl, HK2.out⟩
    · have h2 : (q == -1) = false := by simpa using h1
      have HH := Lib.hid h1
      clear h1
      go_wp2_with fail
      go_ret
      exact ⟨by rw [HQ.out, decide_eq_false HH.out]; rfl, HK2.out⟩

set_option maxRecDepth 100000 in
set_option maxHeartbeats 1000000 in
theorem o3_any (j l : Nat) (S : Nat → Bool) (w : World) (hS : SetIs w l S) (hj : j < 32) :
    Calls Try.prog 20 #[.int .i64 j, .pointer (some ⟨l, 0, none⟩)] w fun e w' => e = .returned (.bool (S j)) ∧ Kept [] w w' := by
  have c0 : w.cell? ⟨l, j, none⟩ = some (.bool (S j)) := hS.cell hj
  clear hS
  go_enter Try.func20, Try.ntmps20
  go_wp2_with fail
  go_ret
  exact ⟨rfl, Kept.refl _ _⟩
end Go.Proofs.Ytpdngekolhcndaa

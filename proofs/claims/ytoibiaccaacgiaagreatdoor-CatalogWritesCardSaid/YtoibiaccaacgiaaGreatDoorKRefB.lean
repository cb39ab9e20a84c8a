/-
  Layer 7: the document's bytes: two, text, kinds.
  Conditions: those that each theorem states.
-/
import Derived.Test.YtoibiaccaacgiaaGreatDoorKCheck
namespace Go.Proofs.YtoibiaccaacgiaaGreatDoor
open Go.RowKit Go.Maps
set_option maxRecDepth 100000

set_option maxHeartbeats 1000000 in
theorem rctwo_any (W : World) (T : List UInt8) (v : Value) (n : Nat) (w : World) (h : PtSt W T v w) (hl : T.length ≤ 9000000) (hn : n < 65536) :
    Calls Tryz.prog 38 #[v, .int .i64 n] w (Laid7 W (T ++ two n) v w) := by
  obtain ⟨v', w', hrun, ho, hap⟩ := h.appN (two n) (by simp [two]; omega)
  have e1 : bvA (two n) = #[.int .u8 ((n : Int) / 256), .int .u8 ((n : Int) % 256)] := by
    have h1 := hiB_val n
    have h2 := loB_val n
    have h3 : (n : Int) / 256 % 256 = (n : Int) / 256 := by omega
    simp [bvA, bv, two, ← h1, ← h2, h3]
  rw [e1, show (two n).length = 2 from rfl] at hrun
  have HRUN := Lib.hid hrun
  have HO := Lib.hid (And.intro ho hap)
  clear hrun ho e1 h hap
  go_enter Tryz.func38, Tryz.ntmps38
  go_wp2_with (refine wpList_append_run rfl _ _ 28 rfl _ _ _ rfl rfl HRUN.out ?_)
  go_ret
  exact ⟨v', rfl, HO⟩

set_option maxHeartbeats 1000000 in
theorem rctext_any (W : World) (T : List UInt8) (v : Value) (s : List UInt8) (w : World) (h : PtSt W T v w) (hl : T.length ≤ 8000000) (hs : s.length < 65536) :
    Calls Tryz.prog 37 #[v, .string (strL s)] w (Laid7 W (T ++ txt s) v w) := by
  have HN : Hid (Calls Tryz.prog 38 #[v, .int .i64 s.length] w (Laid7 W (T ++ two s.length) v w)) := rctwo_any W T v s.length w h (by omega) hs
  have hz : ((strL s).size : Int) = (s.length : Int) := by rw [strL_size]
  clear h
  go_enter Tryz.func37, Tryz.ntmps37
  go_wp2_with fail
  clear hz
  refine HN.out.mono ?_
  rintro e w1 ⟨v1, rfl, H1⟩
  have hsp : (strL s).size = s.length := strL_size s
  have hcv := run_bytes_of_string (P := Tryz.prog) w1 9 28 5 (strL s) Tryz.underlying9 Tryz.underlying28 Tryz.underlying5
  generalize grownCap w1 (strL s).size 0 5 = gc at hcv
  generalize hob : Obj.cells (bytesRow (strL s) gc) 5 _ = ob at hcv
  obtain ⟨v2, w2, hrun, ho, hap⟩ := (H1.out.1.go (Kept.drew _ _)).appS s (by simp [two]; omega) ob gc gc _ hob.symm
  obtain ⟨w3, hw3⟩ : ∃ w3, w1.drew.alloc ob = w3 := ⟨_, rfl⟩
  rw [hw3] at hrun hcv
  rw [hsp] at hcv
  have HRUN := Lib.hid hrun
  have HO : Hid (PtSt W (T ++ txt s) v2 w2 ∧ AppB w v w2 v2) := ⟨by rw [show T ++ txt s = T ++ two s.length ++ s by simp [txt]]; exact ho, H1.out.2.trans (AppB.pre (Kept.drew [] _) hap)⟩
  clear hrun ho hap hob hw3
  go_wp2_with (at_builtin; refine wpList_append_run rfl _ _ 28 rfl _ _ _ rfl rfl HRUN.out ?_)
  go_ret
  exact ⟨v2, rfl, HO⟩

set_option maxHeartbeats 1000000 in
theorem rckinds_any (w : World) : Calls Tryz.prog 28 #[] w fun e w' => ∃ g, e = .returned (.slice (some ⟨g, 0, none⟩) 6 6) ∧ Hid (Kept [] w w' ∧ ∀ w2, Kept [] w' w2 → ∀ k, k < 6 → w2.cell? ⟨g, k, none⟩ = some (.string (strL (tyOf k)))) := by
  go_enter Tryz.func28, Tryz.ntmps28
  go_wp2_with fail
  go_ret
  refine ⟨_, rfl, Kept.alloc _ _ _, fun w2 hk2 k hk => ?_⟩
  rw [cell_of_row _ _ k _ _ _ (hk2.heap (by simp) (heap_alloc_last w _))]
  rcases (by omega : k = 0 ∨ k = 1 ∨ k = 2 ∨ k = 3 ∨ k = 4 ∨ k = 5) with e | e | e | e | e | e <;> subst e <;> rfl
end Go.Proofs.YtoibiaccaacgiaaGreatDoor

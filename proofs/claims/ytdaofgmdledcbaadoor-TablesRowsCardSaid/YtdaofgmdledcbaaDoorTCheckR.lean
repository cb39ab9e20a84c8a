/-
  Layer 5: the document's Check, SameRow and Same.
  Conditions: those that each theorem states.
-/
import Derived.Test.YtdaofgmdledcbaaDoorTSound
import Derived.BigQuiet
namespace Go.Proofs.YtdaofgmdledcbaaDoor
open Go.RowKit Go.Maps

set_option maxRecDepth 100000 in
set_option maxHeartbeats 4000000 in
theorem rcheck_any (t k : List UInt8) (v : Value) (c : List (List UInt8)) (w : World) (hkl : k.length ≤ 140737488355328) (hc : CellsIs w v c) :
    Calls Tryd.prog 16 #[.string (strL t), rowV k v] w fun e w' => e = .returned (.int .i64 (checkI t (k, c))) ∧ Kept [] w w' := by
  have HC := Lib.hid hc
  obtain ⟨ao, cap, rfl, h2, h3, h4, h5⟩ := hc.open
  have hcl : c.length ≤ 140737488355328 := by have := hc.len; omega
  have HT := Lib.hid (strL_bytes k)
  have H5 := Lib.hid h5
  clear hc h5 h4
  unfold rowV
  have HK := Lib.hid (Kept.alloc [] w (.cells #[.string (strL k), .slice ao c.length cap] 34))
  obtain ⟨n, hn⟩ : ∃ n, widthI t = n := ⟨_, rfl⟩
  have HR : Hid (checkI t (k, c) = if n = 0 then 50 else if rowB n (k, c) = true then 0 else 51) := by show _ = _; rw [← hn]; rfl
  have HN := Lib.hid hn
  clear hn
  have N1 : Hid (∀ w', Calls Tryd.prog 14 #[.string (strL t)] w' fun e w2 => e = .returned (.int .i64 n) ∧ w2 = w') := fun w' => by
    have := rwidth_any t w'
    rw [HN.out] at this
    exact this.mono fun e w2 ⟨h1, h2⟩ => ⟨h1, h2.symm⟩
  by_cases h0 : n = 0
  · have HR2 : Hid (checkI t (k, c) = 50) := by show _ = _; rw [HR.out, if_pos h0]
    have q0 : (n == 0) = true := by simpa using h0
    clear h0 HR
    go_enter Tryd.func16, Tryd.ntmps16
    go_wp2_with fail
    refine (N1.out _).mono ?_
    rintro e w1 ⟨rfl, rfl⟩
    go_wp2_with fail
    go_ret
    exact ⟨ret1 HR2.out.symm, HK.out⟩
  · have q0 : (n == 0) = false := by simpa using h0
    have HR2 : Hid (checkI t (k, c) = if rowB n (k, c) = true then 0 else 51) := by show _ = _; rw [HR.out, if_neg h0]
    clear HR h0
    by_cases e1 : k = []
    · have HR3 : Hid (checkI t (k, c) = 51) := by show _ = _; rw [HR2.out, rowB_empty e1]; rfl
      have q1 : ((strL k).toList == []) = true := by rw [HT.out, e1]; rfl
      clear e1 HR2
      go_enter Tryd.func16, Tryd.ntmps16
      go_wp2_with fail
      refine (N1.out _).mono ?_
      rintro e w1 ⟨rfl, rfl⟩
      go_wp2_with fail
      go_quiet (fail)
      go_wp2_with fail
      go_ret
      exact ⟨ret1 HR3.out.symm, HK.out.trans (Kept.drewN _ _ _)⟩
    · have q1 : ((strL k).toList == []) = false := by rw [HT.out]; simpa using e1
      have H1 := Lib.hid e1
      clear e1
      cases hb : wordB k 32
      · have HR3 : Hid (checkI t (k, c) = 51) := by show _ = _; rw [HR2.out, rowB_key hb]; rfl
        have N2 : ∀ w', Calls Tryd.prog 30 #[.string (strL k), .int .i64 32] w' fun e w2 => e = .returned (.bool false) ∧ w2 = w' := fun w' => by
          have := rword_any k 32 w' (by omega)
          rw [hb] at this
          exact this.mono fun e w2 ⟨h1, h2⟩ => ⟨h1, h2.symm⟩
        clear hb HR2
        go_enter Tryd.func16, Tryd.ntmps16
        go_wp2_with fail
        refine (N1.out _).mono ?_
        rintro e w1 ⟨rfl, rfl⟩
        go_wp2_with fail
        go_quiet ((go_at_call 30; exact Calls.quiet_of_same (N2 _)))
        go_wp2_with fail
        go_ret
        exact ⟨ret1 HR3.out.symm, HK.out.trans (Kept.drewN _ _ _)⟩
      · have HW := Lib.hid hb
        have N2 : ∀ w', Calls Tryd.prog 30 #[.string (strL k), .int .i64 32] w' fun e w2 => e = .returned (.bool true) ∧ w2 = w' := fun w' => by
          have := rword_any k 32 w' (by omega)
          rw [hb] at this
          exact this.mono fun e w2 ⟨h1, h2⟩ => ⟨h1, h2.symm⟩
        have N3 := N1.out
        clear hb
        by_cases e3 : (c.length : Int) = n
        · have H3 := Lib.hid e3
          have q3 : ((c.length : Int) != n) = false := by simpa using e3
          clear e3
          go_enter Tryd.func16, Tryd.ntmps16
          go_wp2_with fail
          refine (N1.out _).mono ?_
          rintro e w1 ⟨rfl, rfl⟩
          go_wp2_with fail
          go_quiet ((first | (go_at_call 30; exact Calls.quiet_of_same (N2 _)) | (go_at_call 14; exact Calls.quiet_of_same (N3 _))))
          generalize hwq : World.drewN (World.alloc w _) _ = wq
          have HQ : Hid (Kept [] w wq) := by rw [← hwq]; exact HK.out.trans (Kept.drewN _ _ _)
          have c0 : wq.cell? ⟨w.heap.size, 1, none⟩ = some (.slice ao c.length cap) := by
            rw [← hwq]
            exact cell_of_row _ _ 1 _ _ _ (heap_alloc_last w _)
          clear hwq N2 N3
          go_wp2_with fail
          go_loop [5] (fun i => ∃ j : Nat, j ≤ c.length ∧ i = .int .i64 j ∧ Hid (∀ q (hq : q < c.length), q < j → wordB c[q] 64 = true)) (fun i => c.length - (intOf i).toNat)
          case atStart => exact ⟨0, by omega, rfl, fun j hj h0 => by omega⟩
          case round =>
            obtain ⟨j, hj, rfl, HJ⟩ := hrel
            by_cases hlt : j < c.length
            · obtain ⟨b, o, rfl, hb, hcell⟩ := H5.out (by omega)
              have c1 := hcell j hlt
              obtain ⟨x, hx⟩ : ∃ x, c[j] = x := ⟨_, rfl⟩
              rw [hx] at c1
              have HX := Lib.hid hx
              have HXL : Hid (x.length ≤ 140737488355328) := by show _ ≤ _; rw [← hx]; exact HC.out.each _ (List.getElem_mem hlt)
              clear hx hcell
              have c2 : wq.cell? ⟨b, o + j, none⟩ = some (.string (strL x)) := by
                rw [HQ.out.cell hb (by simp)]; exact c1
              cases hn : wordB x 64
              all_goals
                have HN := Lib.hid hn
                clear hn
                go_wp2_with fail
                refine (rword_any x 64 _ (by have := HXL.out; omega)).mono ?_
                rw [HN.out]
                rintro e w' ⟨rfl, rfl⟩
                go_wp2_with fail
              · go_ret
                exact ⟨ret1 (by rw [HR2.out, rowB_cell j hlt (by rw [HX.out]; exact HN.out)]; rfl), HQ.out⟩
              · go_round
                case rel =>
                  refine ⟨j + 1, by omega, by go_num, fun q hq h0 => ?_⟩
                  by_cases e : q = j
                  · subst e; rw [HX.out]; exact HN.out
                  · exact HJ.out q hq (by omega)
                case measure => simp [intOf]; omega
            · have HB : Hid (rowB n (k, c) = true) := rowB_yes H1.out HW.out H3.out fun i hi => HJ.out i hi (by omega)
              go_wp2_with fail
              go_ret
              exact ⟨ret1 (by rw [HR2.out, HB.out]; rfl), HQ.out⟩
        · have HR3 : Hid (checkI t (k, c) = 51) := by show _ = _; rw [HR2.out, rowB_len e3]; rfl
          have q3 : ((c.length : Int) != n) = true := by simpa using e3
          clear e3 HR2
          go_enter Tryd.func16, Tryd.ntmps16
          go_wp2_with fail
          refine (N1.out _).mono ?_
          rintro e w1 ⟨rfl, rfl⟩
          go_wp2_with fail
          go_quiet ((first | (go_at_call 30; exact Calls.quiet_of_same (N2 _)) | (go_at_call 14; exact Calls.quiet_of_same (N3 _))))
          go_wp2_with fail
          go_ret
          exact ⟨ret1 HR3.out.symm, HK.out.trans (Kept.drewN _ _ _)⟩
end Go.Proofs.YtdaofgmdledcbaaDoor

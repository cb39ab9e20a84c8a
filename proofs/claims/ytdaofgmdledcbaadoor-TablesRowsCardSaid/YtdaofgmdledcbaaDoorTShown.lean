/-
  Layer 5: the examples of the law (shown).
  Conditions: none.
-/
import Derived.Test.YtdaofgmdledcbaaDoorTParse
import Derived.Lib.SlBytesConst
namespace Go.Proofs.YtdaofgmdledcbaaDoor
open Go.RowKit Go.Maps

def exOps : TRow := ([111, 112, 115], [[49, 48]])
def exWheel : TRow := ([119, 104, 101, 101, 108], [[48]])
theorem ex_print : printE nGroups [exOps, exWheel] = (0, [111, 112, 115, 58, 49, 48, 10, 119, 104, 101, 101, 108, 58, 48, 10]) := by decide
theorem ex_read1 : readL [111, 112, 115, 58, 49, 48, 10] = [exOps] := by
  rw [readL_step (by decide), show firstC 10 [111, 112, 115, 58, 49, 48, 10] = ([111, 112, 115, 58, 49, 48], []) from rfl, readL_nil]
  rfl
theorem ex_read2 : readL [111, 112, 115, 58, 49, 48] = [exOps] := by
  rw [readL_step (by decide), show firstC 10 [111, 112, 115, 58, 49, 48] = ([111, 112, 115, 58, 49, 48], []) from rfl, readL_nil]
  rfl
theorem ex_print1 : printE nGroups [exOps] = (0, [111, 112, 115, 58, 49, 48, 10]) := by decide
theorem ex_parse1 : parseE nGroups [111, 112, 115, 58, 49, 48, 10] = (0, [exOps]) := by
  unfold parseE
  rw [ex_read1, ex_print1]
  rfl
theorem ex_parse2 : parseE nGroups [111, 112, 115, 58, 49, 48] = (51, []) := by
  unfold parseE
  rw [ex_read2, ex_print1]
  rfl
theorem ex_parse3 : parseE nGroups [] = (0, []) := by
  unfold parseE
  rw [readL_nil]
  decide
theorem ex_check : checkI [109, 111, 117, 110, 116, 115] ([97], []) = 50 := by decide

theorem argB_row {w : World} {b : Nat} {L : List UInt8} {t : TypeId} {fr : Nat × Nat} (h : w.heap[b]? = some (.cells (bvA L) t fr)) (n : Nat) (hn : L.length = n) (hl : n ≤ 140737488355328) : ArgB w (some ⟨b, 0, none⟩) n n L :=
  ⟨hn, hl, Nat.le_refl _, by omega, fun e => (by cases e), .inr ⟨b, 0, rfl, (Array.getElem?_eq_some_iff.1 h).1, fun j v hv => by
    simp only [World.cell?, h, Nat.zero_add]
    simpa [bvA] using hv⟩⟩

set_option maxRecDepth 100000 in
set_option maxHeartbeats 4000000 in
theorem shown5_any (w : World) : Calls Tryd.prog 8 #[] w fun e w' => e = .returned (.bool true) ∧ Kept [] w w' := by
  go_enter Tryd.func8, Tryd.ntmps8
  go_wp2_with fail
  generalize hw1 : World.alloc (World.alloc (World.alloc w _) _) _ = w1
  have HW1 : Hid (RowsIs w1 (some ⟨w.heap.size + 2, 0, none⟩) 2 [exOps, exWheel] ∧ Kept [] w w1) := by
    have k1 : Kept [] w w1 := by rw [← hw1]; exact ((Kept.alloc _ _ _).trans (Kept.alloc _ _ _)).trans (Kept.alloc _ _ _)
    have g0 : w1.heap[w.heap.size]? = some (.cells (svA [[49, 48]]) 9) := by
      rw [← hw1]
      exact ((Kept.alloc [] _ _).trans (Kept.alloc [] _ _)).heap (by simp) (heap_alloc_last w _)
    have g1 : w1.heap[w.heap.size + 1]? = some (.cells (svA [[48]]) 9) := by
      rw [← hw1]
      refine (Kept.alloc [] _ _).heap (by simp) ?_
      have := heap_alloc_last (w.alloc (.cells (svA [[49, 48]]) 9)) (.cells (svA [[48]]) 9)
      rw [size_alloc] at this
      exact this
    have g2 : w1.heap[w.heap.size + 2]? = some (.cells (rv [exOps, exWheel] [.slice (some ⟨w.heap.size, 0, none⟩) 1 1, .slice (some ⟨w.heap.size + 1, 0, none⟩) 1 1]).toArray 34) := by
      rw [← hw1]
      have := heap_alloc_last ((w.alloc (.cells (svA [[49, 48]]) 9)).alloc (.cells (svA [[48]]) 9)) (.cells (rv [exOps, exWheel] [.slice (some ⟨w.heap.size, 0, none⟩) 1 1, .slice (some ⟨w.heap.size + 1, 0, none⟩) 1 1]).toArray 34)
      rw [size_alloc, size_alloc] at this
      exact this
    refine ⟨⟨rfl, by omega, ⟨[.slice (some ⟨w.heap.size, 0, none⟩) 1 1, .slice (some ⟨w.heap.size + 1, 0, none⟩) 1 1], ⟨rfl, fun i hi hv => ?_⟩, .inr ⟨_, _, rfl, (Array.getElem?_eq_some_iff.1 g2).1, fun j v hv => ?_⟩⟩, by decide⟩, k1⟩
    · rcases (by simp at hi; omega : i = 0 ∨ i = 1) with rfl | rfl
      · exact (CellsIs.ofRow g0 (by decide) (by decide)).D
      · exact (CellsIs.ofRow g1 (by decide) (by decide)).D
    · rw [Nat.zero_add, cell_of_row _ _ j _ _ _ g2]
      simpa using hv
  clear hw1
  refine (print_any nGroups _ 2 2 [exOps, exWheel] w1 (by decide) HW1.out.1).mono ?_
  rintro e w2 ⟨v2, n2, c2, rfl, HP⟩
  have hp := HP.out.1
  rw [ex_print] at hp
  injection hp with hn2 hc2
  subst hn2 hc2
  have HK2 := Lib.hid (HW1.out.2.trans HP.out.2.2.2)
  have HV2 := Lib.hid HP.out.2.1
  clear HP HW1
  clear w1
  have hcc := Lib.run_convert_bytes_const (P := Tryd.prog) w2 25 5 (bvA [111, 112, 115, 58, 49, 48, 10]) 7 7 Tryd.underlying25 Tryd.underlying5
  rw [show (bvA [111, 112, 115, 58, 49, 48, 10]) = #[.int .u8 111, .int .u8 112, .int .u8 115, .int .u8 58, .int .u8 49, .int .u8 48, .int .u8 10] from rfl] at hcc
  go_wp2_with fail
  generalize hw3 : World.alloc w2 _ = w3
  have HW3 : Hid (ArgB w3 (some ⟨w2.heap.size, 0, none⟩) 7 7 [111, 112, 115, 58, 49, 48, 10] ∧ Kept [] w2 w3) := by
    rw [← hw3]
    exact ⟨argB_row (L := [111, 112, 115, 58, 49, 48, 10]) (t := 5) (heap_alloc_last w2 (.cells (bvA [111, 112, 115, 58, 49, 48, 10]) 5 (7, 8))) 7 rfl (by omega), Kept.alloc _ _ _⟩
  clear hw3
  refine (parse_any nGroups _ 7 7 _ w3 (by decide) HW3.out.1).mono ?_
  rintro e w4 ⟨ao4, len4, cap4, n4, L4, rfl, HP⟩
  have hp := HP.out.1
  rw [ex_parse1] at hp
  injection hp with hn hc
  subst hn hc
  have hl4 : len4 = 1 := HP.out.2.1.hlen.symm
  subst hl4
  have HR4 := Lib.hid HP.out.2.1
  have HK4 := Lib.hid ((HK2.out.trans HW3.out.2).trans HP.out.2.2.2)
  have HV4 := Lib.hid ((HV2.out.kept HW3.out.2).kept HP.out.2.2.2)
  clear HP HW3 HK2 HV2 hcc
  clear w3
  have hcc := Lib.run_convert_bytes_const (P := Tryd.prog) w4 25 5 (bvA [111, 112, 115, 58, 49, 48]) 6 6 Tryd.underlying25 Tryd.underlying5
  rw [show (bvA [111, 112, 115, 58, 49, 48]) = #[.int .u8 111, .int .u8 112, .int .u8 115, .int .u8 58, .int .u8 49, .int .u8 48] from rfl] at hcc
  go_wp2_with fail
  generalize hw5 : World.alloc w4 _ = w5
  have HW5 : Hid (ArgB w5 (some ⟨w4.heap.size, 0, none⟩) 6 6 [111, 112, 115, 58, 49, 48] ∧ Kept [] w4 w5) := by
    rw [← hw5]
    exact ⟨argB_row (L := [111, 112, 115, 58, 49, 48]) (t := 5) (heap_alloc_last w4 (.cells (bvA [111, 112, 115, 58, 49, 48]) 5 (6, 7))) 6 rfl (by omega), Kept.alloc _ _ _⟩
  clear hw5
  refine (parse_any nGroups _ 6 6 _ w5 (by decide) HW5.out.1).mono ?_
  rintro e w6 ⟨ao6, len6, cap6, n6, L6, rfl, HP⟩
  have hp := HP.out.1
  rw [ex_parse2] at hp
  injection hp with hn hc
  subst hn hc
  have hkk : Kept [] w4 w6 := HW5.out.2.trans HP.out.2.2.2
  have HR6 := Lib.hid (HR4.out.kept hkk)
  have HK6 := Lib.hid (HK4.out.trans hkk)
  have HV6 := Lib.hid (HV4.out.kept hkk)
  clear HP HW5 HK4 HV4 HR4 hkk
  clear w5
  go_wp2_with fail
  refine (parse_any nGroups none 0 0 [] w6 (by decide) ⟨rfl, by omega, Nat.le_refl _, by omega, fun _ => rfl, .inl rfl⟩).mono ?_
  rintro e w7 ⟨ao7, len7, cap7, n7, L7, rfl, HP⟩
  have hp := HP.out.1
  rw [ex_parse3] at hp
  injection hp with hn hc
  subst hn hc
  have hl7 : len7 = 0 := HP.out.2.1.hlen.symm
  subst hl7
  have hkk : Kept [] w6 w7 := HP.out.2.2.2
  have HR7 := Lib.hid (HR6.out.kept hkk)
  have HK7 := Lib.hid (HK6.out.trans hkk)
  have HV7 := Lib.hid (HV6.out.kept hkk)
  clear HP HK6 HV6 HR6 hkk
  go_wp2_with fail
  refine (check_any [109, 111, 117, 110, 116, 115] [97] (.slice none 0 0) [] w7 (by decide) (by decide) (CellsIs.nil w7)).mono ?_
  rw [ex_check]
  rintro e w8 ⟨rfl, hk8⟩
  have HK8 := Lib.hid (HK7.out.trans hk8)
  have hcv : (convert 25 9 v2).run Tryd.prog w8 = .ok (.string (strL [111, 112, 115, 58, 49, 48, 10, 119, 104, 101, 101, 108, 58, 48, 10])) w8 := convL (HV7.out.kept hk8)
  obtain ⟨b, o, rfl, hb, hc⟩ := (HR7.out.kept hk8).cell (by omega)
  obtain ⟨v, c0, _, _⟩ := hc 0 (by decide)
  have c0' : w8.cell? ⟨b, o, none⟩ = some (.string ⟨#[111, 112, 115]⟩) := by
    simp only [Nat.zero_mul, Nat.add_zero] at c0
    exact c0
  clear c0 hc hk8 HR7 HV7 HK7
  have q1 : ((strL [111, 112, 115, 58, 49, 48, 10, 119, 104, 101, 101, 108, 58, 48, 10]).toList == [111, 112, 115, 58, 49, 48, 10, 119, 104, 101, 101, 108, 58, 48, 10]) = true := by rw [strL_bytes]; rfl
  go_wp2_with fail
  go_ret
  exact ⟨rfl, HK8.out⟩
end Go.Proofs.YtdaofgmdledcbaaDoor

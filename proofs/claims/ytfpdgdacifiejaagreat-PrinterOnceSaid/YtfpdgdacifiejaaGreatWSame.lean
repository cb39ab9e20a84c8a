/-
  Layer 12: two arenas of the same nodes are the same.
  Conditions: those that the theorem states.
-/
import Derived.Test.YtfpdgdacifiejaaGreatVMem
import Derived.BigQuiet
namespace Go.Proofs.YtfpdgdacifiejaaGreat
open Go.RowKit Go.Maps

set_option maxRecDepth 100000 in
set_option maxHeartbeats 8000000 in
theorem nsame_any (va vb : Value) (ns : List Nod) (w : World) (ha : NdIs w va ns) (hb : NdIs w vb ns) (hl : ns.length ≤ 100000) :
    Calls Tryz.prog 10 #[.agg #[va], .agg #[vb]] w fun e w' => e = .returned (.bool true) ∧ Kept [] w w' := by
  obtain ⟨aa, ac, rfl, hac, hac2, hca⟩ := ha
  obtain ⟨ba, bc, rfl, hbc, hbc2, hcb⟩ := hb
  obtain ⟨n, hn⟩ : ∃ n, ns.length = n := ⟨_, rfl⟩
  have HN := Lib.hid hn
  have HCA := Lib.hid hca
  have HCB := Lib.hid hcb
  rw [hn] at hac hbc hl ⊢
  obtain ⟨w1, hw1⟩ : ∃ x, w.alloc (.cells #[.slice aa n ac] 29) = x := ⟨_, rfl⟩
  obtain ⟨w2, hw2⟩ : ∃ x, w1.alloc (.cells #[.slice ba n bc] 29) = x := ⟨_, rfl⟩
  obtain ⟨P, hP⟩ : ∃ x, w.heap.size = x := ⟨_, rfl⟩
  obtain ⟨Q, hQ⟩ : ∃ x, w1.heap.size = x := ⟨_, rfl⟩
  have H2 : Hid (Kept [] w w2 ∧ w2.heap[P]? = some (.cells #[.slice aa n ac] 29) ∧ w2.heap[Q]? = some (.cells #[.slice ba n bc] 29)) := by
    rw [← hw2, ← hw1, ← hQ, ← hP]
    refine ⟨(Kept.alloc _ _ _).trans (Kept.alloc _ _ _), (Kept.alloc [] _ _).heap (by simp) (heap_alloc_last _ _), ?_⟩
    rw [← hw1]
    exact heap_alloc_last _ _
  have HPQ : Hid (∀ w', Kept [] w2 w' → w'.cell? ⟨P, 0, none⟩ = some (.slice aa n ac) ∧ w'.cell? ⟨Q, 0, none⟩ = some (.slice ba n bc)) := fun w' hk =>
    ⟨cell_of_row _ _ 0 _ _ _ (hk.heap (by simp) H2.out.2.1), cell_of_row _ _ 0 _ _ _ (hk.heap (by simp) H2.out.2.2)⟩
  have p0 := (HPQ.out w2 (Kept.refl _ _)).1
  have q0 := (HPQ.out w2 (Kept.refl _ _)).2
  clear hca hcb hn
  go_enter Tryz.func10, Tryz.ntmps10
  go_wp2_with fail
  clear hw1 hw2 hP hQ p0 q0
  go_loopw [5] (fun si wr => ∃ i : Nat, si = .int .i64 i ∧ i ≤ n ∧ Hid (Kept [] w2 wr)) (fun si _ => n - (intOf si).toNat)
  case atStart => exact ⟨0, rfl, by omega, Kept.refl _ _⟩
  case round =>
    obtain ⟨i, rfl, hi, HK⟩ := hrel
    have p0 := (HPQ.out wr HK.out).1
    by_cases hlt : i < n
    · have hil : i < ns.length := by rw [HN.out]; exact hlt
      obtain ⟨b1, o1, rfl, hb1, hc1⟩ := HCA.out (by omega)
      obtain ⟨b2, o2, rfl, hb2, hc2⟩ := HCB.out (by omega)
      obtain ⟨e0, e1, lv, e2, hks⟩ := hc1 i hil
      obtain ⟨f0, f1, lu, f2, hku⟩ := hc2 i hil
      obtain ⟨nd, hnd⟩ : ∃ nd, ns[i] = nd := ⟨_, rfl⟩
      rw [hnd] at e0 e1 hks f0 f1 hku
      obtain ⟨la, lc, rfl, hlc, hlc2, hla⟩ := hks
      obtain ⟨ua, uc, rfl, huc, huc2, hua⟩ := hku
      obtain ⟨m, hm⟩ : ∃ m, nd.ks.length = m := ⟨_, rfl⟩
      have HM := Lib.hid hm
      have HLA := Lib.hid hla
      have HUA := Lib.hid hua
      rw [hm] at e2 f2 hlc huc
      obtain ⟨kd, hkd⟩ : ∃ k, nd.kd = k := ⟨_, rfl⟩
      obtain ⟨tx, htx⟩ : ∃ t, strL nd.tx = t := ⟨_, rfl⟩
      rw [hkd] at e0 f0
      rw [htx] at e1 f1
      have HKW : Hid (Kept [] w wr) := H2.out.1.trans HK.out
      have y0 := (HKW.out.cell (p := ⟨b1, o1 + i * 3, none⟩) hb1 (by simp)).trans e0
      have y1 := (HKW.out.cell (p := ⟨b1, o1 + i * 3 + 1, none⟩) hb1 (by simp)).trans e1
      have y2 := (HKW.out.cell (p := ⟨b1, o1 + i * 3 + 2, none⟩) hb1 (by simp)).trans e2
      obtain ⟨w3, hw3⟩ : ∃ x, wr.alloc (.cells #[.int .i64 (kd : Int), .string tx, .slice la m lc] 41) = x := ⟨_, rfl⟩
      obtain ⟨P3, hP3⟩ : ∃ x, wr.heap.size = x := ⟨_, rfl⟩
      have H3 : Hid (Kept [] wr w3 ∧ w3.heap[P3]? = some (.cells #[.int .i64 (kd : Int), .string tx, .slice la m lc] 41)) := by
        rw [← hw3, ← hP3]
        exact ⟨Kept.alloc _ _ _, heap_alloc_last _ _⟩
      have q0 := (HPQ.out w3 (HK.out.trans H3.out.1)).2
      have z0 := ((HKW.out.trans H3.out.1).cell (p := ⟨b2, o2 + i * 3, none⟩) hb2 (by simp)).trans f0
      have z1 := ((HKW.out.trans H3.out.1).cell (p := ⟨b2, o2 + i * 3 + 1, none⟩) hb2 (by simp)).trans f1
      have z2 := ((HKW.out.trans H3.out.1).cell (p := ⟨b2, o2 + i * 3 + 2, none⟩) hb2 (by simp)).trans f2
      obtain ⟨w4, hw4⟩ : ∃ x, w3.alloc (.cells #[.int .i64 (kd : Int), .string tx, .slice ua m uc] 41) = x := ⟨_, rfl⟩
      obtain ⟨P4, hP4⟩ : ∃ x, w3.heap.size = x := ⟨_, rfl⟩
      have H4 : Hid (Kept [] wr w4 ∧ w4.heap[P3]? = some (.cells #[.int .i64 (kd : Int), .string tx, .slice la m lc] 41) ∧ w4.heap[P4]? = some (.cells #[.int .i64 (kd : Int), .string tx, .slice ua m uc] 41)) := by
        rw [← hw4, ← hP4]
        exact ⟨H3.out.1.trans (Kept.alloc _ _ _), (Kept.alloc [] _ _).heap (by simp) H3.out.2, heap_alloc_last _ _⟩
      have g0 : w4.cell? ⟨P3, 0, none⟩ = some (.int .i64 (kd : Int)) := cell_of_row _ _ 0 _ _ _ H4.out.2.1
      have g1 : w4.cell? ⟨P3, 1, none⟩ = some (.string tx) := cell_of_row _ _ 1 _ _ _ H4.out.2.1
      have g2 : w4.cell? ⟨P3, 2, none⟩ = some (.slice la m lc) := cell_of_row _ _ 2 _ _ _ H4.out.2.1
      have h0 : w4.cell? ⟨P4, 0, none⟩ = some (.int .i64 (kd : Int)) := cell_of_row _ _ 0 _ _ _ H4.out.2.2
      have h1 : w4.cell? ⟨P4, 1, none⟩ = some (.string tx) := cell_of_row _ _ 1 _ _ _ H4.out.2.2
      have h2 : w4.cell? ⟨P4, 2, none⟩ = some (.slice ua m uc) := cell_of_row _ _ 2 _ _ _ H4.out.2.2
      clear hc1 hc2 e0 e1 e2 f0 f1 f2 hnd hm hla hua hkd htx
      go_wp2_with fail
      clear y0 y1 y2 z0 z1 z2 hw3 hw4 hP3 hP4 p0 q0 g0 g1 g2 h0 h1 h2
      go_loopw [8] (fun sk wx => ∃ k : Nat, sk = .int .i64 k ∧ k ≤ m ∧ Hid (Kept [] w4 wx)) (fun sk _ => m - (intOf sk).toNat)
      case atStart => exact ⟨0, rfl, by omega, Kept.refl _ _⟩
      case round =>
        obtain ⟨k, rfl, hk, HX⟩ := hrel
        have g2 : wr.cell? ⟨P3, 2, none⟩ = some (.slice la m lc) := cell_of_row _ _ 2 _ _ _ (HX.out.heap (by simp) H4.out.2.1)
        have h2 : wr.cell? ⟨P4, 2, none⟩ = some (.slice ua m uc) := cell_of_row _ _ 2 _ _ _ (HX.out.heap (by simp) H4.out.2.2)
        by_cases hkm : k < m
        · have hkl : k < nd.ks.length := by rw [HM.out]; exact hkm
          obtain ⟨b3, o3, rfl, hb3, hc3⟩ := HLA.out (by omega)
          obtain ⟨b4, o4, rfl, hb4, hc4⟩ := HUA.out (by omega)
          have HKX := HKW.out.trans (H4.out.1.trans HX.out)
          have r3 := (HKX.cell (p := ⟨b3, o3 + k, none⟩) hb3 (by simp)).trans (hc3 k hkl)
          have r4 := (HKX.cell (p := ⟨b4, o4 + k, none⟩) hb4 (by simp)).trans (hc4 k hkl)
          obtain ⟨x, hx⟩ : ∃ x, nd.ks[k] = x := ⟨_, rfl⟩
          rw [hx] at r3 r4
          clear hc3 hc4 HKX hx
          go_wp2_with fail
          go_quiet (fail)
          go_wp2_with fail
          go_roundw
          case rel => exact ⟨k + 1, by go_num, by omega, HX.out.trans (Kept.drewN _ _ _)⟩
          case measure => simp [intOf]; omega
        · go_wp2_with fail
          go_roundw
          case rel => exact ⟨i + 1, by go_num, by omega, HK.out.trans (H4.out.1.trans HX.out)⟩
          case measure => simp [intOf]; omega
    · go_wp2_with fail
      go_ret
      exact ⟨rfl, H2.out.1.trans HK.out⟩
end Go.Proofs.YtfpdgdacifiejaaGreat

/-
  Layer 3: PutNode, the program's: a node that may be is put as its bytes, and any other is refused.
  Conditions: those that each theorem states.
-/
import Derived.Test.YtbggmeilkfpbgaaDoorLRec
namespace Go.Proofs.YtbggmeilkfpbgaaDoor
open Go.RowKit Go.Maps

def moreOf (r : List Nat) : List UInt8 := if 6 < r.length then moreL (r.drop 6) else []
/-- What PutNode leaves of a node that may be. -/
def NodeOut (k m s more : Nat) (r : List Nat) (w : World) (e : Ending) (w' : World) : Prop :=
  ∃ va vm, e = .returned (.tuple #[va, vm, .int .i64 0]) ∧ SlIs w' va (recL k (fieldsL m s more r)) ∧ SlIs w' vm (moreOf r) ∧ Kept [] w w'

theorem SlIs.kept {w w' : World} {v : Value} {l : List UInt8} (h : SlIs w v l) (hk : Kept [] w w') : SlIs w' v l := by
  rcases h with ⟨b, o, cap, rfl, hb, hr⟩ | h
  · exact .inl ⟨b, o, cap, rfl, Nat.lt_of_lt_of_le hb hk.size, hk.range hb (by simp) hr⟩
  · exact .inr h
theorem SlIs.row {w : World} {b : Nat} {L : List UInt8} {t : TypeId} (h : w.heap[b]? = some (.cells (bvA L) t)) (n cap : Nat) (hn : L.length = n) : SlIs w (.slice (some ⟨b, 0, none⟩) n cap) L :=
  .inl ⟨b, 0, cap, by rw [hn], (Array.getElem?_eq_some_iff.1 h).1, range_row h⟩

theorem IntsIs.drop {w : World} {b o len : Nat} {l : List Int} (h : IntsIs w (some ⟨b, o, none⟩) len l) (j : Nat) : IntsIs w (some ⟨b, o + j, none⟩) (len - j) (l.drop j) := by
  obtain ⟨h1, h2, h3⟩ := h
  refine ⟨by simp [h1], by omega, ?_⟩
  by_cases h0 : len - j = 0
  · exact .inl h0
  · rcases h3 with h3 | ⟨b', o', he, hb, hr⟩
    · omega
    · simp at he
      obtain ⟨rfl, rfl⟩ := he
      refine .inr ⟨b, o + j, rfl, hb, fun i v hv => ?_⟩
      rw [Nat.add_assoc]
      refine hr (j + i) v ?_
      simpa [iv, List.getElem?_drop] using hv

theorem natI_drop (l : List Nat) (j : Nat) : natI (l.drop j) = (natI l).drop j := by simp [natI]

/-- What a node that may be is. -/
theorem valid_parts {k m s more : Int} {l : List Int} (h : validB k m s more l = true) :
    ∃ (kN mN sN moreN : Nat) (r : List Nat), k = kN ∧ m = mN ∧ s = sN ∧ more = moreN ∧ l = natI r ∧ 1 ≤ kN ∧ kN ≤ 3 ∧ mN ≤ 4095 ∧ sN ≤ 2432 ∧ moreN < 4096 ∧ (∀ x ∈ r, 1 ≤ x ∧ x < 4096) ∧ dataI k s = r.length ∧ r.length ≤ 38 ∧ headB m (dataI k s) more = true ∧ (6 < r.length → 1 ≤ moreN) ∧ (¬ 6 < r.length → moreN = 0) := by
  simp only [validB, Bool.and_eq_true, decide_eq_true_eq] at h
  obtain ⟨⟨⟨h1, h2⟩, h3⟩, h4⟩ := h
  have h3' := h3
  have hb := dataI_bd k s
  obtain ⟨r, rfl, hr⟩ := natI_of_snd h4
  rw [natI_length] at h2
  have hk : 1 ≤ k ∧ k ≤ 3 ∧ 0 ≤ s ∧ s ≤ 2432 := by
    unfold dataI at h1
    split at h1
    · omega
    · split at h1
      · omega
      · split at h1 <;> omega
  unfold headB at h3
  simp only [Bool.and_eq_true, decide_eq_true_eq] at h3
  obtain ⟨h5, h6⟩ := h3
  have hm : 0 ≤ more ∧ more < 4096 ∧ (6 < r.length → 1 ≤ more) ∧ (¬ 6 < r.length → more = 0) := by
    split at h6
    · simp [sndB] at h6; omega
    · simp at h6; omega
  refine ⟨k.toNat, m.toNat, s.toNat, more.toNat, r, by omega, by omega, by omega, by omega, rfl, by omega, by omega, by omega, by omega, by omega, hr, h2.symm, by omega, h3', by omega, by omega⟩

theorem valid_false {k m s more : Int} {l : List Int} (h : validB k m s more l = false) : dataI k s < 0 ∨ (0 ≤ dataI k s ∧ (l.length : Int) ≠ dataI k s) ∨ (0 ≤ dataI k s ∧ (l.length : Int) = dataI k s ∧ headB m (dataI k s) more = false) ∨ (0 ≤ dataI k s ∧ (l.length : Int) = dataI k s ∧ headB m (dataI k s) more = true ∧ l.all sndB = false) := by
  by_cases h1 : dataI k s < 0
  · exact .inl h1
  · by_cases h2 : (l.length : Int) = dataI k s
    · cases h3 : headB m (dataI k s) more
      · exact .inr (.inr (.inl ⟨by omega, h2, rfl⟩))
      · refine .inr (.inr (.inr ⟨by omega, h2, rfl, ?_⟩))
        unfold validB at h
        rw [h3, decide_eq_true (show 0 ≤ dataI k s by omega), decide_eq_true h2] at h
        simpa using h
    · exact .inr (.inl ⟨by omega, h2⟩)

set_option maxRecDepth 100000 in
set_option maxHeartbeats 2000000 in
theorem putNode_no (k m s more : Int) (ao : Option Addr) (len cap : Nat) (l : List Int) (w : World) (hl : IntsIs w ao len l) (hv : validB k m s more l = false) :
    Calls Tryd.prog 20 #[nodeV k m s ao len cap more] w fun e w' => e = .returned (.tuple #[.slice none 0 0, .slice none 0 0, .int .i64 1]) ∧ Kept [] w w' := by
  have hlen := hl.2.1
  have h := valid_false hv
  clear hv
  obtain ⟨n, hn⟩ : ∃ n, dataI k s = n := ⟨_, rfl⟩
  have hb := dataI_bd k s
  rw [hn] at hb h
  rw [hl.1] at h
  have HN := Lib.hid hn
  have HL := Lib.hid hl
  clear hn hl
  rcases h with h | ⟨h0, h1⟩ | ⟨h0, h1, h2⟩ | ⟨h0, h1, h2, h3⟩
  · unfold nodeV
    go_enter Tryd.func20, Tryd.ntmps20
    go_wp2_with fail
    refine (content_no k s _ (by rw [HN.out]; exact h)).mono ?_
    rintro e w' ⟨rfl, rfl⟩
    go_wp2_with fail
    go_ret3
    exact ⟨rfl, Kept.alloc _ _ _⟩
  · have h1' : ((len : Int) != n) = true := by simpa using h1
    unfold nodeV
    go_enter Tryd.func20, Tryd.ntmps20
    go_wp2_with fail
    refine (content_yes k s n _ HN.out h0).mono ?_
    rintro e w' ⟨rfl, rfl⟩
    go_wp2_with fail
    go_ret3
    exact ⟨rfl, Kept.alloc _ _ _⟩
  · have H2 := Lib.hid h2
    clear h2
    subst h1
    unfold nodeV
    go_enter Tryd.func20, Tryd.ntmps20
    go_wp2_with fail
    refine (content_yes k s len _ HN.out h0).mono ?_
    rintro e w' ⟨rfl, rfl⟩
    go_wp2_with fail
    refine (soundHead_any k m s ao len cap more len _).mono ?_
    rw [H2.out]
    rintro e w1 ⟨rfl, hk1⟩
    go_wp2_with fail
    go_ret3
    exact ⟨rfl, (Kept.alloc _ _ _).trans hk1⟩
  · have H2 := Lib.hid h2
    have H3 := Lib.hid h3
    clear h2 h3
    subst h1
    unfold nodeV
    go_enter Tryd.func20, Tryd.ntmps20
    go_wp2_with fail
    refine (content_yes k s len _ HN.out h0).mono ?_
    rintro e w' ⟨rfl, rfl⟩
    go_wp2_with fail
    refine (soundHead_any k m s ao len cap more len _).mono ?_
    rw [H2.out]
    rintro e w1 ⟨rfl, hk1⟩
    have c3 : w1.cell? ⟨w.heap.size, 3, none⟩ = some (.slice ao len cap) := cell_of_row _ _ 3 _ _ _ (hk1.heap (by simp) (heap_alloc_last w _))
    have HK1 := Lib.hid ((Kept.alloc [] w (.cells #[.int .i64 k, .int .i64 m, .int .i64 s, .slice ao len cap, .int .i64 more] 26)).trans hk1)
    clear hk1
    go_wp2_with fail
    refine (soundBlocks_any ao len cap l _ (HL.out.kept HK1.out)).mono ?_
    rw [H3.out]
    rintro e w2 ⟨rfl, rfl⟩
    go_wp2_with fail
    go_ret3
    exact ⟨rfl, HK1.out⟩

theorem zero64 (w : World) : (zeroValue 63).run Tryd.prog w = .ok (.agg (bvA (zerosL 64))) w := by kernel_rfl
theorem recL_length {k : Nat} {F : List Nat} (h : F.length = 9) : (recL k F).length = 32 := by simp [recL, twosB_length, zerosL, h]
theorem moreL_length {l : List Nat} (h : l.length ≤ 32) : (moreL l).length = 64 := by simp [moreL, twosB_length, zerosL]; omega

set_option maxRecDepth 100000 in
set_option maxHeartbeats 2000000 in
theorem putNode_yes (k m s more : Nat) (ao : Option Addr) (len cap : Nat) (r : List Nat) (w : World) (hl : IntsIs w ao len (natI r)) (hc : len ≤ cap) (hv : validB k m s more (natI r) = true) :
    Calls Tryd.prog 20 #[nodeV k m s ao len cap more] w (NodeOut k m s more r w) := by
  obtain ⟨kN, mN, sN, moreN, r', e1, e2, e3, e4, e5, g1, g2, g3, g4, g5, g6, g7, g8, g9, g10, g11⟩ := valid_parts hv
  obtain rfl : k = kN := by omega
  obtain rfl : m = mN := by omega
  obtain rfl : s = sN := by omega
  obtain rfl : more = moreN := by omega
  have er : r = r' := by
    have := congrArg (List.map Int.toNat) e5
    simpa [natI, Function.comp_def] using this
  subst er
  have hall : (natI r).all sndB = true := by
    simp only [validB, Bool.and_eq_true] at hv
    exact hv.2
  have hrl : r.length = len := by have := hl.1; rwa [natI_length] at this
  rw [hrl] at g7 g8 g10 g11
  rw [g7] at g9
  have HN := Lib.hid g7
  have H2 := Lib.hid g9
  have H3 := Lib.hid hall
  have HL := Lib.hid hl
  have HRL := Lib.hid hrl
  clear e1 e2 e3 e4 e5 g6 g7 g9 g10 g11 hall hl hv hrl
  unfold nodeV
  go_enter Tryd.func20, Tryd.ntmps20
  go_wp2_with fail
  refine (content_yes k s len _ HN.out (by omega)).mono ?_
  rintro e w' ⟨rfl, rfl⟩
  go_wp2_with fail
  refine (soundHead_any k m s ao len cap more len _).mono ?_
  rw [H2.out]
  rintro e w1 ⟨rfl, hk1⟩
  have HB1 := Lib.hid (hk1.heap (by simp) (heap_alloc_last w _))
  have HK1 := Lib.hid ((Kept.alloc [] w (.cells #[.int .i64 k, .int .i64 m, .int .i64 s, .slice ao len cap, .int .i64 more] 26)).trans hk1)
  clear hk1
  have c0 : w1.cell? ⟨w.heap.size, 0, none⟩ = some (.int .i64 k) := cell_of_row _ _ 0 _ _ _ HB1.out
  have c1 : w1.cell? ⟨w.heap.size, 1, none⟩ = some (.int .i64 m) := cell_of_row _ _ 1 _ _ _ HB1.out
  have c2 : w1.cell? ⟨w.heap.size, 2, none⟩ = some (.int .i64 s) := cell_of_row _ _ 2 _ _ _ HB1.out
  have c3 : w1.cell? ⟨w.heap.size, 3, none⟩ = some (.slice ao len cap) := cell_of_row _ _ 3 _ _ _ HB1.out
  have c4 : w1.cell? ⟨w.heap.size, 4, none⟩ = some (.int .i64 more) := cell_of_row _ _ 4 _ _ _ HB1.out
  go_wp2_with fail
  refine (soundBlocks_any ao len cap (natI r) _ (HL.out.kept HK1.out)).mono ?_
  rw [H3.out]
  rintro e w2 ⟨rfl, rfl⟩
  go_wp2_with fail
  refine (nodeRecord_any k m s more ao len cap r _ (HL.out.kept HK1.out) (by omega)).mono ?_
  rintro e w2 ⟨rfl, hk2⟩
  obtain ⟨R, hR⟩ : ∃ R, recL k (fieldsL m s more r) = R := ⟨_, rfl⟩
  have hRl : R.length = 32 := by rw [← hR]; exact recL_length (fieldsL_length _ _ _ _)
  rw [hR]
  have HR := Lib.hid hR
  have HRl := Lib.hid hRl
  clear c0 c1 c2 c3 c4 hR
  have HB2 := Lib.hid (hk2.heap (by simp) HB1.out)
  have HK2 := Lib.hid (HK1.out.trans hk2)
  clear hk2 HB1 HK1
  clear w1
  have hw2 : w.heap.size < w2.heap.size := (Array.getElem?_eq_some_iff.1 HB2.out).1
  have z32 := zero32 w2
  have hs0 : (bvA R).size = 32 := by rw [bvA_size]; exact hRl
  have hst := run_storeCells_new (P := Tryd.prog) w2 55 (bvA (zerosL 32)) (bvA R) (by rw [hs0]; exact size64) (by rw [hs0]; rfl) (bvA_one _)
  clear hRl
  by_cases h6 : (6 : Int) < (len : Int)
  · obtain ⟨b, o, rfl, hb, hcc⟩ := HL.out.cell (by omega)
    clear hcc
    have C3 : w2.cell? ⟨w.heap.size, 3, none⟩ = some (.slice (some ⟨b, o, none⟩) len cap) := cell_of_row _ _ 3 _ _ _ HB2.out
    go_wp2_with fail
    generalize hw3 : World.alloc w2 _ = w3
    have HK3 := Lib.hid (show Kept [] w2 w3 by rw [← hw3]; exact Kept.alloc _ _ _)
    have HH3 := Lib.hid (show w3.heap[w2.heap.size]? = some (.cells (bvA R) 55) by rw [← hw3]; exact heap_alloc_last _ _)
    clear hw3 z32 hst hs0 C3
    refine (moreBlock_any _ _ _ (r.drop 6) _ (by rw [natI_drop]; exact (HL.out.kept (HK2.out.trans HK3.out)).drop 6) (by omega)).mono ?_
    rintro e w4 ⟨rfl, hk4⟩
    obtain ⟨M, hM⟩ : ∃ M, moreL (r.drop 6) = M := ⟨_, rfl⟩
    have hMl : M.length = 64 := by rw [← hM]; exact moreL_length (by rw [List.length_drop, HRL.out]; omega)
    rw [hM]
    have HM := Lib.hid hM
    have HMl := Lib.hid hMl
    clear hM
    have HH4 := Lib.hid (hk4.heap (by simp) HH3.out)
    have HK4 := Lib.hid ((HK2.out.trans HK3.out).trans hk4)
    clear hk4 HH3 HK3 HB2 HK2
    clear w3
    have z64 := zero64 w4
    have hs0 : (bvA M).size = 64 := by rw [bvA_size]; exact hMl
    have hst := run_storeCells_new (P := Tryd.prog) w4 63 (bvA (zerosL 64)) (bvA M) (by rw [hs0]; exact size67) (by rw [hs0]; rfl) (bvA_one _)
    clear hMl
    go_wp2_with fail
    go_ret3
    refine ⟨_, _, rfl, ?_, ?_, HK4.out.trans (Kept.alloc _ _ _)⟩
    · rw [HR.out]
      exact SlIs.row ((Kept.alloc [] _ _).heap (by simp) HH4.out) 32 32 HRl.out
    · unfold moreOf
      rw [if_pos (by rw [HRL.out]; omega), HM.out]
      exact SlIs.row (heap_alloc_last _ _) 64 64 HMl.out
  · go_wp2_with fail
    go_ret3
    refine ⟨_, _, rfl, ?_, ?_, HK2.out.trans (Kept.alloc _ _ _)⟩
    · rw [HR.out]
      exact SlIs.row (heap_alloc_last _ _) 32 32 HRl.out
    · unfold moreOf
      rw [if_neg (by rw [HRL.out]; omega)]
      exact .inr ⟨rfl, rfl⟩

end Go.Proofs.YtbggmeilkfpbgaaDoor

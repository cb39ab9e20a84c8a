/-
  Layer 8: the statements' own ints, edge, shown.
  Conditions: those that each theorem states.
-/
import Derived.Test.YtpdngekolhcndaaGDocB
namespace Go.Proofs.Ytpdngekolhcndaa
open Go.RowKit Go.Maps

theorem NsIs.made (w : World) (l : List Nat) (hl : l.length ≤ 1000) (n : Nat) (hn : l.length = n) : NsIs (w.alloc (.cells (ivA (nI l)) 3)) (.slice (some ⟨w.heap.size, 0, none⟩) n n) l := by
  subst hn
  refine ⟨⟨_, _, rfl, Nat.le_refl _, by omega, .inr ⟨w.heap.size, 0, rfl, by simp, fun j v hv => ?_⟩⟩, hl⟩
  rw [Nat.zero_add, cell_of_row _ _ j _ _ _ (heap_alloc_last _ _)]
  simpa [ivA] using hv
theorem EsIs.made (w : World) (l : List Edg) (hl : l.length * 24 ≤ 140737488355328) (n : Nat) (hn : l.length = n) : EsIs (w.alloc (.cells (ecv l).toArray 32)) (.slice (some ⟨w.heap.size, 0, none⟩) n n) l := by
  subst hn
  refine ⟨⟨_, _, rfl, Nat.le_refl _, by omega, fun e => (by cases e), .inr ⟨w.heap.size, 0, rfl, by simp, fun j v hv => ?_⟩⟩, hl⟩
  rw [Nat.zero_add, cell_of_row _ _ j _ _ _ (heap_alloc_last _ _)]
  simpa using hv

set_option maxRecDepth 100000 in
set_option maxHeartbeats 2000000 in
theorem ints_any (va vb : Value) (a b : List Nat) (w : World) (ha : NsIs w va a) (hb : NsIs w vb b) :
    Calls Try.prog 11 #[va, vb] w fun e w' => e = .returned (.bool (decide (a = b))) ∧ Kept [] w w' := by
  have la := ha.len
  have lb := hb.len
  obtain ⟨aa, ca, rfl, _, hca, hac⟩ := ha.open
  obtain ⟨ab, cb, rfl, _, hcb, hbc⟩ := hb.open
  have HA := Lib.hid hac
  have HB := Lib.hid hbc
  obtain ⟨m, hm⟩ : ∃ m, a.length = m := ⟨_, rfl⟩
  obtain ⟨k, hk⟩ : ∃ k, b.length = k := ⟨_, rfl⟩
  have HM := Lib.hid hm
  have HK := Lib.hid hk
  rw [hm] at la
  rw [hk] at lb
  rw [hm, hk]
  clear ha hb hac hbc hm hk
  by_cases hlen : m = k
  case neg =>
    have q1 : ((m : Int) != (k : Int)) = true := by simp; omega
    have HE : Hid (decide (a = b) = false) := decide_eq_false fun e => hlen (by rw [← HM.out, ← HK.out, e])
    clear hlen
    go_enter Try.func11, Try.ntmps11
    go_wp2_with fail
    go_ret
    exact ⟨by rw [HE.out]; rfl, Kept.refl _ _⟩
  subst hlen
  have q1 : ((m : Int) != (m : Int)) = false := by simp
  go_enter Try.func11, Try.ntmps11
  go_wp2_with fail
  go_loopw [5] (fun i wr => ∃ j : Nat, j ≤ m ∧ i = .int .i64 j ∧ Hid ((∀ q (h1 : q < a.length) (h2 : q < b.length), q < j → a[q] = b[q]) ∧ Kept [] w wr)) (fun i _ => m - (intOf i).toNat)
  case atStart => exact ⟨0, by omega, rfl, fun q _ _ h => by omega, Kept.refl _ _⟩
  case round =>
    obtain ⟨j, hj, rfl, HS⟩ := hrel
    by_cases hlt : j < m
    · have ha : j < a.length := by rw [HM.out]; exact hlt
      have hb : j < b.length := by rw [HK.out]; exact hlt
      obtain ⟨ba, oa, rfl, hba, hac⟩ := HA.out (by omega)
      obtain ⟨bb, ob, rfl, hbb, hbc⟩ := HB.out (by omega)
      have c0 := (HS.out.2.cell (p := ⟨ba, oa + j, none⟩) hba (by simp)).trans (hac j ha)
      have c1 := (HS.out.2.cell (p := ⟨bb, ob + j, none⟩) hbb (by simp)).trans (hbc j hb)
      obtain ⟨x, hx⟩ : ∃ x, a[j] = x := ⟨_, rfl⟩
      obtain ⟨y, hy⟩ : ∃ y, b[j] = y := ⟨_, rfl⟩
      rw [hx] at c0
      rw [hy] at c1
      clear hac hbc hba hbb
      by_cases e : x = y
      · have q2 : ((x : Int) != (y : Int)) = false := by simp; omega
        have HN : Hid (∀ q (h1 : q < a.length) (h2 : q < b.length), q < j + 1 → a[q] = b[q]) := fun q h1 h2 h3 => by
          by_cases e2 : q = j
          · subst e2; rw [hx, hy, e]
          · exact HS.out.1 q h1 h2 (by omega)
        clear e hx hy
        go_wp2_with fail
        go_quiet (fail)
        generalize hwq : World.drewN wr _ = wq
        have HQ : Hid ((∀ q (h1 : q < a.length) (h2 : q < b.length), q < j + 1 → a[q] = b[q]) ∧ Kept [] w wq) := ⟨HN.out, by rw [← hwq]; exact HS.out.2.trans (Kept.drewN _ _ _)⟩
        clear hwq
        go_wp2_with fail
        go_roundw
        case rel => exact ⟨j + 1, by omega, by go_num, HQ⟩
        case measure => simp [intOf]; omega
      · have q2 : ((x : Int) != (y : Int)) = true := by simp; omega
        have HE : Hid (decide (a = b) = false) := decide_eq_false fun e2 => by subst e2; exact e (hx.symm.trans hy)
        clear e hx hy
        go_wp2_with fail
        go_quiet (fail)
        go_wp2_with fail
        go_ret
        exact ⟨by rw [HE.out]; rfl, HS.out.2.trans (Kept.drewN _ _ _)⟩
    · have HE : Hid (decide (a = b) = true) := decide_eq_true (List.ext_getElem (by rw [HM.out, HK.out]) fun q h1 h2 => HS.out.1 q h1 h2 (by rw [HM.out] at h1; omega))
      go_wp2_with fail
      go_ret
      exact ⟨by rw [HE.out]; rfl, HS.out.2⟩

set_option maxRecDepth 100000 in
set_option maxHeartbeats 2000000 in
theorem edge_any (L : List Edg) (v : Value) (i j : Nat) (w : World) (h : EsIs w v L) :
    Calls Try.prog 12 #[v, .int .i64 i, .int .i64 j] w fun e w' => e = .returned (.bool (adjL L i j)) ∧ w = w' := by
  obtain ⟨ao, cap, rfl, hcap, hc63, _, hcell⟩ := h.open
  have HC := Lib.hid hcell
  have hlen := h.len
  obtain ⟨m, hm⟩ : ∃ m, L.length = m := ⟨_, rfl⟩
  have HM := Lib.hid hm
  rw [hm] at hlen
  rw [hm]
  clear h hcell hm hcap
  go_enter Try.func12, Try.ntmps12
  go_wp2_with fail
  go_loop [7] (fun q => ∃ k : Nat, k ≤ m ∧ q = .int .i64 k ∧ Hid (adjL (L.take k) i j = false)) (fun q => m - (intOf q).toNat)
  case atStart => exact ⟨0, by omega, rfl, by show _ = _; simp [adjL]⟩
  case round =>
    obtain ⟨k, hk, rfl, HS⟩ := hrel
    by_cases hlt : k < m
    · have hkl : k < L.length := by rw [HM.out]; exact hlt
      obtain ⟨b, o, rfl, hb, hcc⟩ := HC.out (by omega)
      obtain ⟨c0, c1, c2⟩ := hcc k hkl
      obtain ⟨F, hF⟩ : ∃ F, L[k].fr = F := ⟨_, rfl⟩
      obtain ⟨T, hT⟩ : ∃ T, L[k].tw = T := ⟨_, rfl⟩
      rw [hF] at c0
      rw [hT] at c1
      have HY : Hid (F = i → T = j → adjL L i j = true) := fun e1 e2 => adjL_iff.2 ⟨L[k], List.getElem_mem hkl, by rw [hF, e1], by rw [hT, e2]⟩
      have HN : Hid (¬ (F = i ∧ T = j) → adjL (L.take (k + 1)) i j = false) := fun e => by
        have h0 := HS.out
        unfold adjL at h0 ⊢
        rw [List.take_succ_eq_append_getElem hkl, List.any_append, h0]
        simp [hF, hT]
        omega
      clear hcc hF hT c2
      by_cases e1 : F = i
      · subst e1
        by_cases e2 : T = j
        · subst e2
          have HYY := Lib.hid (HY.out rfl rfl)
          go_wp2_with fail
          go_ret
          exact ⟨by rw [HYY.out]; rfl, rfl⟩
        · have q2 : (T == (j : Int)) = false := by simpa using e2
          have HNN := Lib.hid (HN.out (by omega))
          clear e2
          go_wp2_with fail
          go_round
          case rel => exact ⟨k + 1, by omega, by go_num, HNN⟩
          case measure => simp [intOf]; omega
      · have q1 : (F == (i : Int)) = false := by simpa using e1
        have HNN := Lib.hid (HN.out (by omega))
        clear e1
        go_wp2_with fail
        go_round
        case rel => exact ⟨k + 1, by omega, by go_num, HNN⟩
        case measure => simp [intOf]; omega
    · have HNN : Hid (adjL L i j = false) := by
        have := HS.out
        rw [List.take_of_length_le (by rw [HM.out]; omega)] at this
        exact this
      go_wp2_with fail
      go_ret
      exact ⟨by rw [HNN.out]; rfl, rfl⟩
end Go.Proofs.Ytpdngekolhcndaa

/-
  Layer 8: the document's bad and Order.
  Conditions: those that each theorem states.
-/
import Derived.Test.YtpdngekolhcndaaGOrder
namespace Go.Proofs.Ytpdngekolhcndaa
open Go.RowKit Go.Maps

set_option maxRecDepth 100000 in
set_option maxHeartbeats 2000000 in
theorem rgbad_any (n : Int) (L : List Edg) (v : Value) (w : World) (h : EsIs w v L) :
    Calls Try.prog 22 #[.int .i64 n, v] w fun e w' => e = .returned (.bool (!decide (GOk n L))) ∧ w = w' := by
  obtain ⟨ao, cap, rfl, hcap, hc63, _, hcell⟩ := h.open
  have HC := Lib.hid hcell
  have hlen := h.len
  obtain ⟨m, hm⟩ : ∃ m, L.length = m := ⟨_, rfl⟩
  have HM := Lib.hid hm
  rw [hm] at hlen
  rw [hm]
  clear h hcell hm hcap
  by_cases hb : n < 0 ∨ 32 < n
  · have HB : Hid (decide (GOk n L) = false) := decide_eq_false fun g => by have := g.1; omega
    by_cases h0 : n < 0
    all_goals
      go_enter Try.func22, Try.ntmps22
      go_wp2_with fail
      go_ret
      exact ⟨by rw [HB.out]; rfl, rfl⟩
  · have hn : 0 ≤ n ∧ n ≤ 32 := by omega
    have h1 : ¬ n < 0 := by omega
    have h2 : ¬ 32 < n := by omega
    have HN := Lib.hid hn
    clear hb hn
    go_enter Try.func22, Try.ntmps22
    go_wp2_with fail
    go_loop [5] (fun i => ∃ k : Nat, k ≤ m ∧ i = .int .i64 k ∧ Hid (∀ x ∈ L.take k, EdOk n x)) (fun i => m - (intOf i).toNat)
    case atStart => exact ⟨0, by omega, rfl, by intro x hx; simp at hx⟩
    case round =>
      obtain ⟨k, hk, rfl, HS⟩ := hrel
      by_cases hlt : k < m
      · have hkl : k < L.length := by rw [HM.out]; exact hlt
        obtain ⟨b, o, rfl, hb, hcc⟩ := HC.out (by omega)
        obtain ⟨c0, c1, c2⟩ := hcc k hkl
        obtain ⟨F, hF⟩ : ∃ F, L[k].fr = F := ⟨_, rfl⟩
        obtain ⟨T, hT⟩ : ∃ T, L[k].tw = T := ⟨_, rfl⟩
        rw [hF] at c0
        rw [hT] at c1
        have HF := Lib.hid hF
        have HT := Lib.hid hT
        clear hcc hF hT c2
        by_cases r : F < 0 ∨ n ≤ F ∨ T < 0 ∨ n ≤ T
        · have HB : Hid (decide (GOk n L) = false) := decide_eq_false fun g => by
            have := g.2 _ (List.getElem_mem hkl)
            unfold EdOk at this
            rw [HF.out, HT.out] at this
            omega
          by_cases r1 : F < 0
          · go_wp2_with fail
            go_ret
            exact ⟨by rw [HB.out]; rfl, rfl⟩
          · by_cases r2 : n ≤ F
            · go_wp2_with fail
              go_ret
              exact ⟨by rw [HB.out]; rfl, rfl⟩
            · by_cases r3 : T < 0
              · go_wp2_with fail
                go_ret
                exact ⟨by rw [HB.out]; rfl, rfl⟩
              · have r4 : n ≤ T := by omega
                go_wp2_with fail
                go_ret
                exact ⟨by rw [HB.out]; rfl, rfl⟩
        · have r1 : ¬ F < 0 := by omega
          have r2 : ¬ n ≤ F := by omega
          have r3 : ¬ T < 0 := by omega
          have r4 : ¬ n ≤ T := by omega
          have HN2 : Hid (∀ x ∈ L.take (k + 1), EdOk n x) := by
            rw [List.take_succ_eq_append_getElem hkl]
            intro x hx
            rcases List.mem_append.1 hx with hx | hx
            · exact HS.out x hx
            · simp at hx
              rw [hx]
              unfold EdOk
              rw [HF.out, HT.out]
              omega
          clear r
          go_wp2_with fail
          go_round
          case rel => exact ⟨k + 1, by omega, by go_num, HN2⟩
          case measure => simp [intOf]; omega
      · have HB : Hid (decide (GOk n L) = true) := decide_eq_true ⟨HN.out, fun x hx => HS.out x (by rw [List.take_of_length_le (by rw [HM.out]; omega)]; exact hx)⟩
        go_wp2_with fail
        go_ret
        exact ⟨by rw [HB.out]; rfl, rfl⟩
end Go.Proofs.Ytpdngekolhcndaa

/-
  Layer 11: the walk of LexerComments.
  Conditions: those that each theorem states.
-/
import Derived.Test.YtfmhpjpalfepjaaUHalves
namespace Go.Proofs.Ytfmhpjpalfepjaa
open Go.RowKit Go.Maps

set_option maxRecDepth 100000 in
set_option maxHeartbeats 8000000 in
theorem comments_walk (S T : ByteArray) (w : World) (hs : S.size ≤ 4611686018427387903) (ht : T.size ≤ 4611686018427387903) : Calls Try.prog 6 #[.string S, .string T] w fun e w' => e = .returned (.bool true) ∧ Kept [] w w' := by
  obtain ⟨ea, ha⟩ : ∃ a, lxA (bl S) = a := ⟨_, rfl⟩
  obtain ⟨ee, he⟩ : ∃ a, lxE (bl S) = a := ⟨_, rfl⟩
  obtain ⟨L, hL⟩ : ∃ a, lxW (bl S) = a := ⟨_, rfl⟩
  have HL := Lib.hid (show lxA (bl S) = ea ∧ lxE (bl S) = ee ∧ lxW (bl S) = L from ⟨ha, he, hL⟩)
  obtain ⟨sm, hsm⟩ : ∃ n : Int, (S.size : Int) + (T.size : Int) = n := ⟨_, rfl⟩
  have e1 : IntKind.i64.wrap ((S.size : Int) + (T.size : Int)) = sm := by rw [IntKind.wrap_i64]; omega
  have HSM := Lib.hid hsm
  clear ha he hL hsm
  go_enter Try.func6, Try.ntmps6
  go_wp2_with fail
  refine (shown11_any w).mono ?_
  rintro e w1 ⟨rfl, hk1⟩
  have HK1 := Lib.hid hk1
  clear hk1
  go_wp2_with fail
  refine (lex_any S _ (by omega)).mono ?_
  intro e w2 h2
  obtain ⟨va, rfl, how2, hk2⟩ := h2.at HL.out
  have H2 : Hid (WsIs w2 va L ∧ Kept [] w w2) := ⟨how2.es, HK1.out.trans hk2⟩
  clear h2 how2 hk2
  go_wp2_with fail
  go_loop [9] (fun i => ∃ k : Nat, i = .int .i64 k ∧ k ≤ T.size ∧ Hid (∀ j (hj : j < T.size), j < k → T[j] ≠ 10)) (fun i => T.size - (intOf i).toNat)
  case atStart => exact ⟨0, rfl, by omega, fun j hj h0 => by omega⟩
  case round =>
    obtain ⟨k, rfl, hk, HK⟩ := hrel
    by_cases hlt : k < T.size
    · have hix := get_i k hlt
      obtain ⟨c, hc⟩ : ∃ c : Int, (T[k].toNat : Int) = c := ⟨_, rfl⟩
      rw [hc] at hix
      by_cases h10 : c = 10
      · subst h10
        clear hc
        go_wp2_with fail
        go_ret
        exact ⟨rfl, H2.out.2⟩
      · have HN : Hid (∀ j (hj : j < T.size), j < k + 1 → T[j] ≠ 10) := fun j hj h0 => by
          by_cases e : j = k
          · subst e
            intro h
            rw [h] at hc
            exact h10 (by rw [← hc]; rfl)
          · exact HK.out j hj (by omega)
        clear hc
        go_wp2_with fail
        go_round
        case rel => exact ⟨k + 1, by go_num, by omega, HN⟩
        case measure => simp [intOf]; omega
    · have HC : Hid (∀ x ∈ bl T, x ≠ 10) := fun x hx => by
        obtain ⟨j, hj, rfl⟩ := List.getElem_of_mem hx
        have hj2 : j < T.size := by rw [bl_len] at hj; exact hj
        exact HK.out j hj2 (by omega)
      have hkT : k = T.size := by omega
      have hki : ¬ (k : Int) < (T.size : Int) := by omega
      clear hkT hk HK
      by_cases hok : ee = 0
      case neg =>
        have hoki : ¬ (ee : Int) = 0 := by omega
        go_wp2_with fail
        go_ret
        exact ⟨rfl, H2.out.2⟩
      case pos =>
      subst hok
      by_cases hsz : (65527 : Int) < sm
      · go_wp2_with fail
        go_ret
        exact ⟨rfl, H2.out.2⟩
      have HJ : Hid (lexL (bl (⟨#[10, 32, 9, 13, 10]⟩ ++ S ++ ⟨#[10, 35]⟩ ++ T)) 0 = (L.map (shW 5), none) ∧ (⟨#[10, 32, 9, 13, 10]⟩ ++ S ++ ⟨#[10, 35]⟩ ++ T : ByteArray).size = S.size + T.size + 7) := by
        have h1 := lx_yes HL.out.2.1
        rw [HL.out.2.2] at h1
        have h3 := lex_comments (bl S) (bl T) (by rw [h1.2.2]) HC.out
        rw [h1.2.2] at h3
        have hb : bl (⟨#[10, 32, 9, 13, 10]⟩ ++ S ++ ⟨#[10, 35]⟩ ++ T) = [10, 32, 9, 13, 10] ++ bl S ++ [10, 35] ++ bl T := by simp [bl]
        refine ⟨by rw [hb]; exact h3, ?_⟩
        rw [← bl_len, hb]
        simp
        omega
      obtain ⟨J, hJ⟩ : ∃ J, (⟨#[10, 32, 9, 13, 10]⟩ ++ S ++ ⟨#[10, 35]⟩ ++ T : ByteArray) = J := ⟨_, rfl⟩
      rw [hJ] at HJ
      obtain ⟨n1, hn1⟩ : ∃ n, L.length = n := ⟨_, rfl⟩
      have HN := Lib.hid hn1
      obtain ⟨ao, ac, hva, hac, hac2, _, _⟩ := H2.out.1.open
      rw [hn1] at hva hac
      subst hva
      have hsz2 : sm ≤ 65527 := by omega
      have hsS : S.size ≤ 1000000 := by have := HSM.out; omega
      have hsT : T.size ≤ 1000000 := by have := HSM.out; omega
      clear hn1 hs ht hsz
      go_wp2_with fail
      refine (lex_any J _ (by have := HJ.out.2; have := HSM.out; omega)).mono ?_
      intro e w4 h4
      obtain ⟨vc, rfl, how4, hk4⟩ := h4.at (lx_ok HJ.out.1 (by have := HJ.out.2; have := HSM.out; rw [bl_len]; omega))
      have H4 : Hid (WsIs w4 vc (L.map (shW 5)) ∧ Kept [] w2 w4) := ⟨how4.es, hk4⟩
      obtain ⟨co, cc, hvc, hcc, hcc2, _, _⟩ := how4.es.open
      rw [List.length_map, HN.out] at hvc hcc
      subst hvc
      clear h4 how4 hk4 hJ
      go_wp2_with fail
      go_loopw [13] (fun si wr => ∃ i : Nat, si = .int .i64 i ∧ i ≤ n1 ∧ Hid (Kept [] w4 wr)) (fun si _ => n1 - (intOf si).toNat)
      case atStart => exact ⟨0, rfl, by omega, Kept.refl _ _⟩
      case round =>
        obtain ⟨i, rfl, hi, HK⟩ := hrel
        by_cases hlti : i < n1
        · have hi1 : i < L.length := by rw [HN.out]; exact hlti
          have hi2 : i < (L.map (shW 5)).length := by rw [List.length_map]; exact hi1
          obtain ⟨b, o, cap, hvv, _, _, hcell⟩ := H4.out.1.at (by omega)
          injection hvv with hvo hvn hvc3
          clear hvn
          subst hvo hvc3
          obtain ⟨b1, o1, cap1, hvv1, _, _, hcell1⟩ := H2.out.1.at (by omega)
          injection hvv1 with hvo1 hvn1 hvc1
          clear hvn1
          subst hvo1 hvc1
          have hgl : (L.map (shW 5))[i] = shW 5 L[i] := List.getElem_map _
          have hat : L[i].at' ≤ S.size := by
            have h2 := lx_yes HL.out.2.1
            rw [HL.out.2.2] at h2
            have := lex_at (bl S) 0 L[i] (by rw [h2.2.2]; exact List.getElem_mem hi1)
            rw [bl_len] at this
            omega
          obtain ⟨y0, y1, y2⟩ := hcell wr HK.out i hi2
          obtain ⟨x0, x1, x2⟩ := hcell1 wr (H4.out.2.trans HK.out) i hi1
          rw [hgl] at y0 y1 y2
          unfold shW at y0 y1 y2
          simp only at y0 y1 y2
          obtain ⟨xk, hxk⟩ : ∃ n : Int, (L[i].kd : Int) = n := ⟨_, rfl⟩
          obtain ⟨xt, hxt⟩ : ∃ n, strL L[i].tx = n := ⟨_, rfl⟩
          obtain ⟨xa, hxa⟩ : ∃ n : Int, (L[i].at' : Int) = n := ⟨_, rfl⟩
          obtain ⟨xz, hxz⟩ : ∃ n : Int, ((L[i].at' + 5 : Nat) : Int) = n := ⟨_, rfl⟩
          have e3 : IntKind.i64.wrap (xa + 5) = xz := by rw [IntKind.wrap_i64]; omega
          rw [hxz] at y2
          rw [hxk] at x0 y0
          rw [hxt] at x1 y1
          rw [hxa] at x2
          clear hgl hcell hcell1 hxk hxt hxa hxz hat
          go_wp2_with fail
          go_quiet (fail)
          go_wp2_with fail
          go_roundw
          case rel => exact ⟨i + 1, by go_num, by omega, HK.out.trans (Kept.drewN _ _ _)⟩
          case measure => simp [intOf]; omega
        · go_wp2_with fail
          go_ret
          exact ⟨rfl, (H2.out.2.trans H4.out.2).trans HK.out⟩
end Go.Proofs.Ytfmhpjpalfepjaa

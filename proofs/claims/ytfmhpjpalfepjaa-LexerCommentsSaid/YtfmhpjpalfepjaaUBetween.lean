/-
  Layer 11: the walk of LexerBetween.
  Conditions: those that each theorem states.
-/
import Derived.Test.YtfmhpjpalfepjaaUShown
namespace Go.Proofs.Ytfmhpjpalfepjaa
open Go.RowKit Go.Maps

theorem WsIs.at {w : World} {v : Value} {L : List Wd} (h : WsIs w v L) (h0 : 0 < L.length) : ∃ b o cap, v = .slice (some ⟨b, o, none⟩) L.length cap ∧ L.length ≤ cap ∧ cap ≤ 9223372036854775807 ∧
    ∀ w', Kept [] w w' → ∀ k (hk : k < L.length), w'.cell? ⟨b, o + k * 3, none⟩ = some (.int .i64 (L[k].kd : Int)) ∧ w'.cell? ⟨b, o + k * 3 + 1, none⟩ = some (.string (strL L[k].tx)) ∧ w'.cell? ⟨b, o + k * 3 + 2, none⟩ = some (.int .i64 (L[k].at' : Int)) := by
  obtain ⟨ao, cap, rfl, h1, h2, _, h3⟩ := h.open
  obtain ⟨b, o, rfl, hb, hc⟩ := h3 h0
  refine ⟨b, o, cap, rfl, h1, h2, fun w' hk k hkl => ?_⟩
  obtain ⟨c0, c1, c2⟩ := hc k hkl
  exact ⟨(hk.cell (p := ⟨b, o + k * 3, none⟩) hb (by simp)).trans c0, (hk.cell (p := ⟨b, o + k * 3 + 1, none⟩) hb (by simp)).trans c1, (hk.cell (p := ⟨b, o + k * 3 + 2, none⟩) hb (by simp)).trans c2⟩
theorem lx_yes {L : List UInt8} (h : lxE L = 0) : L.length ≤ 65536 ∧ lxA L = 0 ∧ lexL L 0 = (lxW L, none) := by
  unfold lxE at h
  split at h
  · cases h
  · rename_i h0
    split at h
    · rename_i h1
      unfold lxA lxW
      rw [if_neg h0, if_neg h0, h1, if_pos rfl]
      exact ⟨by omega, rfl, by rw [← h1]⟩
    · cases h
theorem lx_not {L : List UInt8} (h : lxE L ≠ 0) : lxW L = [] := by
  unfold lxE at h
  unfold lxW
  split
  · rfl
  · rename_i h0
    rw [if_neg h0] at h
    split
    · rename_i h1
      rw [if_pos h1] at h
      exact absurd rfl h
    · rfl
theorem str_beq (A B : ByteArray) : (A.toList == B.toList) = decide (A = B) := by
  rw [Lib.toList_data, Lib.toList_data, Bool.eq_iff_iff, beq_iff_eq, decide_eq_true_iff]
  exact ⟨fun h => bl_eq h, fun h => by rw [h]⟩

theorem tx_le (x : Wd) : x.tx.length ≤ (covO x).length := by
  unfold covO
  split
  · simp
  · split
    · simp
      omega
    · split
      · simp
        omega
      · exact Nat.le_refl _
/-- What is known of the next word. -/
theorem gap_facts {S : ByteArray} {e i : Nat} {L : List Wd} (h : lexL ((bl S).drop e) e = (L.drop i, none)) (hil : i < L.length) (hes : e ≤ S.size) :
    ∃ (xk : Nat) (xt : List UInt8) (at' cl : Nat) (C : ByteArray), L[i] = ⟨xk, xt, at'⟩ ∧ strL (covO ⟨xk, xt, at'⟩) = C ∧ C.size = cl ∧ xt.length ≤ cl ∧ e ≤ at' ∧ at' + cl ≤ S.size ∧ S.extract at' (at' + cl) = C ∧
      blkB false (bl (S.extract e at')) = true ∧ lexL ((bl S).drop (at' + cl)) (at' + cl) = (L.drop (i + 1), none) ∧ lexL (bl C) 0 = ([⟨xk, xt, 0⟩], none) := by
  rw [List.drop_eq_getElem_cons hil] at h
  obtain ⟨g, hat, hblk, hcov, htop, hwok, hnx⟩ := lex_gap _ _ _ _ h
  generalize L[i] = x at *
  obtain ⟨xk, xt, at'⟩ := x
  simp only at hat
  subst hat
  rw [List.length_drop, bl_len] at htop
  refine ⟨xk, xt, e + g, (covO ⟨xk, xt, e + g⟩).length, strL (covO ⟨xk, xt, e + g⟩), rfl, rfl, strL_size _, tx_le ⟨xk, xt, e + g⟩, by omega, by omega, ?_, ?_, ?_, ?_⟩
  · apply bl_eq
    rw [bl_ext, bl_str, ← List.drop_drop, show e + g + (covO ⟨xk, xt, e + g⟩).length - (e + g) = (covO ⟨xk, xt, e + g⟩).length by omega]
    exact hcov
  · rw [bl_ext, show e + g - e = g by omega]
    exact hblk
  · rw [List.drop_drop] at hnx
    rw [show e + g + (covO ⟨xk, xt, e + g⟩).length = e + (g + (covO ⟨xk, xt, e + g⟩).length) by omega]
    exact hnx
  · rw [bl_str]
    exact lex_alone hwok

set_option maxRecDepth 100000 in
set_option maxHeartbeats 8000000 in
theorem between_walk (S : ByteArray) (w : World) (hs : S.size ≤ 4611686018427387904) : Calls Try.prog 4 #[.string S] w fun e w' => e = .returned (.bool true) ∧ Kept [] w w' := by
  obtain ⟨ea, ha⟩ : ∃ a, lxA (bl S) = a := ⟨_, rfl⟩
  obtain ⟨ee, he⟩ : ∃ a, lxE (bl S) = a := ⟨_, rfl⟩
  obtain ⟨L, hL⟩ : ∃ a, lxW (bl S) = a := ⟨_, rfl⟩
  have HL := Lib.hid (show lxA (bl S) = ea ∧ lxE (bl S) = ee ∧ lxW (bl S) = L from ⟨ha, he, hL⟩)
  clear ha he hL
  go_enter Try.func4, Try.ntmps4
  go_wp2_with fail
  refine (shown11_any w).mono ?_
  rintro e w1 ⟨rfl, hk1⟩
  have HK1 := Lib.hid hk1
  clear hk1
  go_wp2_with fail
  refine (lex_any S _ (by omega)).mono ?_
  intro e w2 h2
  obtain ⟨va, rfl, how2, hk2⟩ := h2.at HL.out
  have H2 : Hid (WsIs w2 va L ∧ Kept [] w w2) := ⟨how2.es, HK1.out.trans hk2⟩
  clear h2 how2 hk2
  by_cases hok : ee = 0
  · subst hok
    have HOK : Hid (S.size ≤ 65536 ∧ lexL (bl S) 0 = (L, none)) := by
      have := lx_yes HL.out.2.1
      rw [bl_len, HL.out.2.2] at this
      exact ⟨this.1, this.2.2⟩
    have hs6 : S.size ≤ 65536 := HOK.out.1
    obtain ⟨vo, vc, hva, hvc, hvc2, _, _⟩ := H2.out.1.open
    obtain ⟨n, hn⟩ : ∃ n, L.length = n := ⟨_, rfl⟩
    have HN := Lib.hid hn
    rw [hn] at hva hvc
    subst hva
    clear hn
    go_wp2_with fail
    go_loopw [7, 8] (fun se si wr => ∃ (e i : Nat), se = .int .i64 e ∧ si = .int .i64 i ∧ i ≤ n ∧ e ≤ S.size ∧ Hid (lexL ((bl S).drop e) e = (L.drop i, none) ∧ Kept [] w2 wr)) (fun _ si _ => n - (intOf si).toNat)
    case atStart => exact ⟨0, 0, rfl, rfl, by omega, by omega, HOK.out.2, Kept.refl _ _⟩
    case round =>
      obtain ⟨e, i, rfl, rfl, hin, hes, HS⟩ := hrel
      by_cases hlt : i < n
      · have hil : i < L.length := by rw [HN.out]; exact hlt
        obtain ⟨xk, xt, at', cl, C, hx, hC, hCs, htl, hee, htop2, hEX, hblk, hnx, hal⟩ := gap_facts HS.out.1 hil hes
        obtain ⟨b, o, cap, hvv, _, _, hcell⟩ := H2.out.1.at (by omega)
        injection hvv with hvo hvn hvc3
        clear hvn
        subst hvo hvc3
        have HBL := Lib.hid hblk
        have HNX := Lib.hid hnx
        have HAL := Lib.hid hal
        have HCE : Hid (∀ w', Kept [] w2 w' → w'.cell? ⟨b, o + i * 3, none⟩ = some (.int .i64 (xk : Int)) ∧ w'.cell? ⟨b, o + i * 3 + 1, none⟩ = some (.string (strL xt)) ∧ w'.cell? ⟨b, o + i * 3 + 2, none⟩ = some (.int .i64 (at' : Int))) := fun w' hk => by
          have := hcell w' hk i hil
          rw [hx] at this
          exact this
        have HTX : Hid (∀ wx, Calls Try.prog 18 #[.agg #[.int .i64 (xk : Int), .string (strL xt), .int .i64 (at' : Int)]] wx fun e w' => e = .returned (.string C) ∧ Kept [] wx w') := fun wx => by
          have := text11_any ⟨xk, xt, at'⟩ wx (by show xt.length ≤ 1000000; omega)
          rw [hC] at this
          exact this
        obtain ⟨y0, y1, y2⟩ := HCE.out wr HS.out.2
        have hie : (i : Int) < (n : Int) := by omega
        have q1 : ((S.extract at' (at' + cl)).toList == C.toList) = true := by rw [str_beq]; exact decide_eq_true hEX
        clear hx hC hblk hnx hal hcell hEX
        go_wp2_with fail
        refine (HTX.out _).mono ?_
        rintro e2 w3 ⟨rfl, hk3⟩
        have HK3 : Hid (Kept [] w2 w3) := HS.out.2.trans hk3
        clear y0 y1 y2 hk3
        obtain ⟨y0, y1, y2⟩ := HCE.out w3 HK3.out
        go_wp2_with fail
        refine (blank_any (S.extract e at') _ (by rw [← bl_len, bl_ext, List.length_take, List.length_drop, bl_len]; omega)).mono ?_
        rw [HBL.out]
        rintro e3 w4 ⟨rfl, rfl⟩
        go_wp2_with fail
        refine (lex_any C _ (by omega)).mono ?_
        intro e4 w5 h5
        obtain ⟨v5, rfl, how5, hk5⟩ := h5.at (lx_ok HAL.out (by rw [bl_len]; omega))
        have HK5 : Hid (Kept [] w2 w5) := HK3.out.trans hk5
        obtain ⟨b5, o5, cap5, hv5, hc5a, hc5b, hcell5⟩ := how5.es.at (by simp)
        subst hv5
        have hc0 := hcell5 w5 (Kept.refl _ _) 0 (by simp)
        have HC0 : Hid (w5.cell? ⟨b5, o5, none⟩ = some (.int .i64 (xk : Int)) ∧ w5.cell? ⟨b5, o5 + 1, none⟩ = some (.string (strL xt))) := by
          have h0 := hc0.1
          have h1 := hc0.2.1
          rw [Nat.zero_mul, Nat.add_zero] at h0 h1
          exact ⟨h0, h1⟩
        have hl1 : ([⟨xk, xt, 0⟩] : List Wd).length = 1 := rfl
        rw [hl1] at hc5a ⊢
        clear h5 how5 hk5 hcell5 hc0 y0 y1 y2 q1
        obtain ⟨y0, y1, _⟩ := HCE.out w5 HK5.out
        obtain ⟨z0, z1⟩ := HC0.out
        go_wp2_with fail
        go_quiet (fail)
        go_wp2_with fail
        go_roundw
        case rel => exact ⟨at' + cl, i + 1, by go_num, by go_num, by omega, by omega, HNX.out, HK5.out.trans (Kept.drewN _ _ _)⟩
        case measure => simp [intOf]; omega
      · have hie : i = n := by omega
        have HB : Hid (blkB false (bl (S.extract e S.size)) = true) := by
          show _ = _
          rw [bl_from]
          refine lex_end _ e ?_
          rw [HS.out.1, List.drop_of_length_le (by rw [HN.out]; omega)]
        clear hie
        go_wp2_with fail
        refine (blank_any (S.extract e S.size) _ (by rw [size_from]; omega)).mono ?_
        rw [HB.out]
        rintro e w3 ⟨rfl, rfl⟩
        go_wp2_with fail
        go_ret
        exact ⟨rfl, H2.out.2.trans HS.out.2⟩
  · have HE : Hid (L = []) := by show _ = _; rw [← HL.out.2.2]; exact lx_not (by rw [HL.out.2.1]; exact hok)
    obtain ⟨vo, vc, hva, _, _, _, _⟩ := H2.out.1.open
    rw [HE.out] at hva
    subst hva
    have hoki : ¬ (ee : Int) = 0 := by omega
    go_wp2_with fail
    go_ret
    exact ⟨rfl, H2.out.2⟩
end Go.Proofs.Ytfmhpjpalfepjaa

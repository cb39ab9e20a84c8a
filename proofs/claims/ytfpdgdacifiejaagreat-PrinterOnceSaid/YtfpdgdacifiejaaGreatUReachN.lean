/-
  Layer 11: how far a name, a type, or a variable can go, the document's way; all ways together.
  Conditions: those that each theorem states.
-/
import Derived.Test.YtfpdgdacifiejaaGreatUReach
namespace Go.Proofs.YtfpdgdacifiejaaGreat
open Go.RowKit Go.Maps

theorem b58_of {S : ByteArray} {q : Nat} (h : q + 2 < S.size) (h0 : ((S[q]'(by omega)).toNat : Int) = 58) (h1 : ((S[q + 1]'(by omega)).toNat : Int) = 58) : b58 S q = smB (S[q + 2]'h) := by
  unfold b58
  rw [more_at, dif_pos h]
  have e0 : S[q] = 58 := byte_eq.2 h0
  have e1 : S[q + 1] = 58 := byte_eq.2 h1
  cases hq : smB (S[q + 2]'h)
  · rw [if_neg (fun hh => by simp at hh)]
    rfl
  · rw [if_pos ⟨e0, e1, rfl⟩]
    exact decide_eq_true (by omega)
theorem b58_no {S : ByteArray} {q : Nat} (h : ¬ (∃ h : q + 2 < S.size, ((S[q]'(by omega)).toNat : Int) = 58 ∧ ((S[q + 1]'(by omega)).toNat : Int) = 58)) : b58 S q = false := by
  unfold b58
  rw [more_at]
  by_cases h2 : q + 2 < S.size
  · rw [dif_pos h2, if_neg]
    · rfl
    · rintro ⟨a, b, _⟩
      exact h ⟨h2, byte_eq.1 a, byte_eq.1 b⟩
  · rw [dif_neg h2]
    rfl
theorem b58_on {S : ByteArray} {q : Nat} (h : b58 S q = true) : q + 3 ≤ S.size ∧ moreN ((bl S).drop q) = 3 + spanN tlB ((bl S).drop (q + 3)) + moreN ((bl S).drop (q + 3 + spanN tlB ((bl S).drop (q + 3)))) := by
  have h0 : 0 < moreN ((bl S).drop q) := of_decide_eq_true h
  have hm := more_at S q
  by_cases h2 : q + 2 < S.size
  · rw [dif_pos h2] at hm
    split at hm
    · exact ⟨by omega, hm⟩
    · omega
  · rw [dif_neg h2] at hm
    omega
theorem b58_off {S : ByteArray} {q : Nat} (h : b58 S q = false) : moreN ((bl S).drop q) = 0 := by
  have := of_decide_eq_false h
  omega
set_option maxRecDepth 100000 in
set_option maxHeartbeats 8000000 in
theorem reach_type (S : ByteArray) (w : World) (hs : S.size ≤ 4611686018427387904) (hp : 0 < S.size) (hc : clsN (S[0]'hp).toNat = 4) : Calls Tryz.prog 51 #[.string S] w fun e w' => e = .returned (.int .i64 (partN grB (bl S))) ∧ w = w' := by
  obtain ⟨e36, e39, e34⟩ := fst_of S[0]
  rw [hc] at e36 e39 e34
  simp only [show decide ((4 : Nat) = 7) = false from rfl, show decide ((4 : Nat) = 8) = false from rfl, show decide ((4 : Nat) = 9) = false from rfl] at e36 e39 e34
  have HD : Hid (dgB S[0] = false) := by show _ = _; rw [cls_dg, hc]; rfl
  have HM : Hid (smB S[0] = false) := by show _ = _; rw [cls_sm, hc]; rfl
  obtain ⟨N, hN⟩ : ∃ N, 1 + spanN tlB ((bl S).drop 1) = N := ⟨_, rfl⟩
  have HN := Lib.hid hN
  have hNt : N ≤ S.size := by rw [← hN]; exact spanN_top S (by omega)
  have hN1 : 1 ≤ N := by omega
  have i0 := get_i 0 hp
  have HV : Hid (partN grB (bl S) = N) := by
    show _ = _
    rw [bl_cons hp]
    simp only [partN]
    rw [if_pos (by rw [cls_gr, hc]; rfl), bl_from, hN]
  have hg : 65 ≤ S[0].toNat ∧ S[0].toNat ≤ 90 := by
    have := cls_gr S[0]
    rw [hc] at this
    simpa [grB] using this
  have hg1 : decide ((65 : Int) ≤ (S[0].toNat : Int)) = true := decide_eq_true (by omega)
  have hg2 : decide ((S[0].toNat : Int) ≤ (90 : Int)) = true := decide_eq_true (by omega)
  clear hN hc hg
  go_enter Tryz.func51, Tryz.ntmps51
  go_wp2_with fail
  refine (rdigit_any S[0] _).mono ?_
  rw [HD.out]
  rintro e w2 ⟨rfl, rfl⟩
  go_wp2_with fail
  refine (rsmall_any S[0] _).mono ?_
  rw [HM.out]
  rintro e w2 ⟨rfl, rfl⟩
  go_wp2_with fail
  clear hg1 hg2 e36 e39 e34 i0
  go_loop [5] (fun i => ∃ k : Nat, i = .int .i64 k ∧ 1 ≤ k ∧ k ≤ N) (fun i => S.size - (intOf i).toNat)
  case atStart => exact ⟨1, rfl, by omega, hN1⟩
  case round =>
    obtain ⟨k, rfl, hk1, hkn⟩ := hrel
    obtain ⟨bt, hbt⟩ : ∃ b, decide (k < N) = b := ⟨_, rfl⟩
    have HBT := Lib.hid hbt
    clear hbt
    go_upto_region 19 with (fail)
    go_cut [78] (fun sv wx => sv = .bool bt ∧ w = wx)
    case first =>
      by_cases hlt : k < S.size
      · have hix := get_i k hlt
        have HQ : Hid (tlB (S[k]'hlt) = bt) := by
          show _ = _
          rw [← HBT.out]
          by_cases hkN : k < N
          · rw [decide_eq_true hkN]
            exact (spanN_in (S := S) (n := 1) hk1 (by rw [HN.out]; exact hkN)).2
          · rw [decide_eq_false hkN]
            exact spanN_out (n := 1) (by omega) (by rw [HN.out]; omega) hlt
        go_wp2_with fail
        refine (rtail_any S[k] _).mono ?_
        rw [HQ.out]
        rintro e w2 ⟨rfl, rfl⟩
        go_wp2_with fail
        go_meet
        exact ⟨rfl, rfl⟩
      · have hb : bt = false := by rw [← HBT.out]; exact decide_eq_false (by omega)
        subst hb
        go_wp2_with fail
        go_meet
        exact ⟨rfl, rfl⟩
    case rest =>
    obtain ⟨rfl, rfl⟩ := hcut
    cases bt
    case true =>
      have hkN : k < N := of_decide_eq_true HBT.out
      go_wp2_with fail
      go_round
      case rel => exact ⟨k + 1, by go_num, by omega, by omega⟩
      case measure => simp [intOf]; omega
    case false =>
      have hkN : k = N := by have := of_decide_eq_false HBT.out; omega
      subst hkN
      go_wp2_with fail
      go_loop [5] (fun i => i = .int .i64 (k : Int)) (fun _ => 0)
      case atStart => rfl
      case round =>
        subst hrel
        go_wp2_with fail
        refine (rsmall_any S[0] _).mono ?_
        rw [HM.out]
        rintro e w2 ⟨rfl, rfl⟩
        go_wp2_with fail
        go_ret
        exact ⟨ret1 (by rw [HV.out]), rfl⟩
set_option maxRecDepth 100000 in
set_option maxHeartbeats 8000000 in
theorem reach_var (S : ByteArray) (w : World) (hs : S.size ≤ 4611686018427387904) (hp : 0 < S.size) (hc : clsN (S[0]'hp).toNat = 7) (hz : partN smB (bl S).tail ≠ 0) : Calls Tryz.prog 51 #[.string S] w fun e w' => e = .returned (.int .i64 (varN (bl S))) ∧ w = w' := by
  obtain ⟨e36, e39, e34⟩ := fst_of S[0]
  rw [hc] at e36 e39 e34
  simp only [decide_true, show decide ((7 : Nat) = 8) = false from rfl, show decide ((7 : Nat) = 9) = false from rfl] at e36 e39 e34
  have HD : Hid (dgB S[0] = false) := by show _ = _; rw [cls_dg, hc]; rfl
  have HM : Hid (smB S[0] = false) := by show _ = _; rw [cls_sm, hc]; rfl
  obtain ⟨N, hN⟩ : ∃ N, 1 + spanN tlB ((bl S).drop 1) = N := ⟨_, rfl⟩
  have HN := Lib.hid hN
  have hNt : N ≤ S.size := by rw [← hN]; exact spanN_top S (by omega)
  have hN1 : 1 ≤ N := by omega
  have i0 := get_i 0 hp
  have hz2 := hz
  rw [← List.drop_one, partN_at S 1] at hz2
  have h1 : 1 < S.size := by
    apply Classical.byContradiction
    intro h
    rw [dif_neg h] at hz2
    exact hz2 rfl
  rw [dif_pos h1] at hz2
  have hq : smB S[1] = true := by
    cases hq : smB (S[1]'h1)
    · rw [if_neg (by rw [hq]; simp)] at hz2
      exact absurd rfl hz2
    · rfl
  have HQ := Lib.hid hq
  have HV : Hid (varN (bl S) = N) := by
    show _ = _
    unfold varN
    rw [if_neg hz, ← hN, ← List.drop_one, partN_at S 1, dif_pos h1, if_pos hq, show 1 + 1 = 2 from rfl]
    have : (bl S).drop 1 = S[1] :: (bl S).drop 2 := List.drop_eq_getElem_cons (l := bl S) (i := 1) (by rw [bl_len]; exact h1)
    rw [this]
    simp only [spanN]
    rw [if_pos (by unfold tlB; rw [hq]; rfl)]
    omega
  have hge : S[0].toNat = 36 := by
    have := (cls_eq S[0] 7 36 (by simp)).2 hc
    rw [this]; rfl
  have hg : (S[0].toNat : Int) < 65 := by omega
  have i1 := get_i 1 h1
  clear hN hc hz hz2 hq hge
  go_enter Tryz.func51, Tryz.ntmps51
  go_wp2_with fail
  refine (rsmall_any S[1] _).mono ?_
  rw [HQ.out]
  rintro e w2 ⟨rfl, rfl⟩
  go_wp2_with fail
  refine (rdigit_any S[0] _).mono ?_
  rw [HD.out]
  rintro e w2 ⟨rfl, rfl⟩
  go_wp2_with fail
  refine (rsmall_any S[0] _).mono ?_
  rw [HM.out]
  rintro e w2 ⟨rfl, rfl⟩
  go_wp2_with fail
  clear hg e36 e39 e34 i0 i1
  go_loop [5] (fun i => ∃ k : Nat, i = .int .i64 k ∧ 1 ≤ k ∧ k ≤ N) (fun i => S.size - (intOf i).toNat)
  case atStart => exact ⟨1, rfl, by omega, hN1⟩
  case round =>
    obtain ⟨k, rfl, hk1, hkn⟩ := hrel
    obtain ⟨bt, hbt⟩ : ∃ b, decide (k < N) = b := ⟨_, rfl⟩
    have HBT := Lib.hid hbt
    clear hbt
    go_upto_region 19 with (fail)
    go_cut [78] (fun sv wx => sv = .bool bt ∧ w = wx)
    case first =>
      by_cases hlt : k < S.size
      · have hix := get_i k hlt
        have HQ : Hid (tlB (S[k]'hlt) = bt) := by
          show _ = _
          rw [← HBT.out]
          by_cases hkN : k < N
          · rw [decide_eq_true hkN]
            exact (spanN_in (S := S) (n := 1) hk1 (by rw [HN.out]; exact hkN)).2
          · rw [decide_eq_false hkN]
            exact spanN_out (n := 1) (by omega) (by rw [HN.out]; omega) hlt
        go_wp2_with fail
        refine (rtail_any S[k] _).mono ?_
        rw [HQ.out]
        rintro e w2 ⟨rfl, rfl⟩
        go_wp2_with fail
        go_meet
        exact ⟨rfl, rfl⟩
      · have hb : bt = false := by rw [← HBT.out]; exact decide_eq_false (by omega)
        subst hb
        go_wp2_with fail
        go_meet
        exact ⟨rfl, rfl⟩
    case rest =>
    obtain ⟨rfl, rfl⟩ := hcut
    cases bt
    case true =>
      have hkN : k < N := of_decide_eq_true HBT.out
      go_wp2_with fail
      go_round
      case rel => exact ⟨k + 1, by go_num, by omega, by omega⟩
      case measure => simp [intOf]; omega
    case false =>
      have hkN : k = N := by have := of_decide_eq_false HBT.out; omega
      subst hkN
      go_wp2_with fail
      go_loop [5] (fun i => i = .int .i64 (k : Int)) (fun _ => 0)
      case atStart => rfl
      case round =>
        subst hrel
        go_wp2_with fail
        refine (rsmall_any S[0] _).mono ?_
        rw [HM.out]
        rintro e w2 ⟨rfl, rfl⟩
        go_wp2_with fail
        go_ret
        exact ⟨ret1 (by rw [HV.out]), rfl⟩
set_option maxRecDepth 100000 in
set_option maxHeartbeats 8000000 in
theorem reach_small (S : ByteArray) (w : World) (hs : S.size ≤ 4611686018427387904) (hp : 0 < S.size) (hc : clsN (S[0]'hp).toNat = 3) : Calls Tryz.prog 51 #[.string S] w fun e w' => e = .returned (.int .i64 (nameN (bl S))) ∧ w = w' := by
  obtain ⟨e36, e39, e34⟩ := fst_of S[0]
  rw [hc] at e36 e39 e34
  simp only [show decide ((3 : Nat) = 7) = false from rfl, show decide ((3 : Nat) = 8) = false from rfl, show decide ((3 : Nat) = 9) = false from rfl] at e36 e39 e34
  have HD : Hid (dgB S[0] = false) := by show _ = _; rw [cls_dg, hc]; rfl
  have HM : Hid (smB S[0] = true) := by show _ = _; rw [cls_sm, hc]; rfl
  obtain ⟨N, hN⟩ : ∃ N, 1 + spanN tlB ((bl S).drop 1) = N := ⟨_, rfl⟩
  have HN := Lib.hid hN
  have hNt : N ≤ S.size := by rw [← hN]; exact spanN_top S (by omega)
  have hN1 : 1 ≤ N := by omega
  have i0 := get_i 0 hp
  have HV : Hid (nameN (bl S) = N + moreN ((bl S).drop N)) := by
    show _ = _
    have hP : partN smB (bl S) = N := by
      rw [bl_cons hp]
      simp only [partN]
      rw [if_pos HM.out, bl_from, hN]
    unfold nameN
    rw [hP, if_neg (by omega)]
  clear hN hc
  go_enter Tryz.func51, Tryz.ntmps51
  go_wp2_with fail
  refine (rdigit_any S[0] _).mono ?_
  rw [HD.out]
  rintro e w2 ⟨rfl, rfl⟩
  go_wp2_with fail
  refine (rsmall_any S[0] _).mono ?_
  rw [HM.out]
  rintro e w2 ⟨rfl, rfl⟩
  go_wp2_with fail
  clear e36 e39 e34 i0
  go_loop [5] (fun i => ∃ k : Nat, i = .int .i64 k ∧ 1 ≤ k ∧ k ≤ N) (fun i => S.size - (intOf i).toNat)
  case atStart => exact ⟨1, rfl, by omega, hN1⟩
  case round =>
    obtain ⟨k, rfl, hk1, hkn⟩ := hrel
    obtain ⟨bt, hbt⟩ : ∃ b, decide (k < N) = b := ⟨_, rfl⟩
    have HBT := Lib.hid hbt
    clear hbt
    go_upto_region 19 with (fail)
    go_cut [78] (fun sv wx => sv = .bool bt ∧ w = wx)
    case first =>
      by_cases hlt : k < S.size
      · have hix := get_i k hlt
        have HQ : Hid (tlB (S[k]'hlt) = bt) := by
          show _ = _
          rw [← HBT.out]
          by_cases hkN : k < N
          · rw [decide_eq_true hkN]
            exact (spanN_in (S := S) (n := 1) hk1 (by rw [HN.out]; exact hkN)).2
          · rw [decide_eq_false hkN]
            exact spanN_out (n := 1) (by omega) (by rw [HN.out]; omega) hlt
        go_wp2_with fail
        refine (rtail_any S[k] _).mono ?_
        rw [HQ.out]
        rintro e w2 ⟨rfl, rfl⟩
        go_wp2_with fail
        go_meet
        exact ⟨rfl, rfl⟩
      · have hb : bt = false := by rw [← HBT.out]; exact decide_eq_false (by omega)
        subst hb
        go_wp2_with fail
        go_meet
        exact ⟨rfl, rfl⟩
    case rest =>
    obtain ⟨rfl, rfl⟩ := hcut
    cases bt
    case true =>
      have hkN : k < N := of_decide_eq_true HBT.out
      go_wp2_with fail
      go_round
      case rel => exact ⟨k + 1, by go_num, by omega, by omega⟩
      case measure => simp [intOf]; omega
    case false =>
      have hkN : k = N := by have := of_decide_eq_false HBT.out; omega
      subst hkN
      go_wp2_with fail
      go_loop [5] (fun i => ∃ q : Nat, i = .int .i64 q ∧ 1 ≤ q ∧ q ≤ S.size ∧ Hid (nameN (bl S) = q + moreN ((bl S).drop q))) (fun i => S.size - (intOf i).toNat)
      case atStart => exact ⟨k, rfl, hN1, hNt, HV.out⟩
      case round =>
        clear hk1 hkn hN1 hNt HN HV HBT
        obtain ⟨q, rfl, hq1, hqt, HS⟩ := hrel
        obtain ⟨bc, hbc⟩ : ∃ b, b58 S q = b := ⟨_, rfl⟩
        have HBC := Lib.hid hbc
        clear hbc
        go_upto_region 21 with (fail)
        go_cut [109] (fun sv wx => sv = .bool bc ∧ w = wx)
        case first =>
          go_wp2_with fail
          refine (rsmall_any S[0] _).mono ?_
          rw [HM.out]
          rintro e w2 ⟨rfl, rfl⟩
          by_cases h2 : q + 2 < S.size
          · have h0q : q < S.size := by omega
            have h1q : q + 1 < S.size := by omega
            have j0 := get_i q h0q
            have j1 := get_i (q + 1) h1q
            have j2 := get_i (q + 2) h2
            obtain ⟨c0, hc0⟩ : ∃ c : Int, (S[q].toNat : Int) = c := ⟨_, rfl⟩
            obtain ⟨c1, hc1⟩ : ∃ c : Int, (S[q + 1].toNat : Int) = c := ⟨_, rfl⟩
            rw [hc0] at j0
            rw [hc1] at j1
            rw [show ((q + 1 : Nat) : Int) = (q : Int) + 1 from rfl] at j1
            rw [show ((q + 2 : Nat) : Int) = (q : Int) + 2 from rfl] at j2
            have HNO : Hid (¬ (c0 = 58 ∧ c1 = 58) → bc = false) := fun hh => by
              rw [← HBC.out]
              exact b58_no (fun ⟨_, a, b⟩ => hh ⟨hc0 ▸ a, hc1 ▸ b⟩)
            cases e0 : (c0 == 58)
            · have hb : bc = false := HNO.out (fun h => beq_eq_false_iff_ne.1 e0 h.1)
              subst hb
              clear hc0 hc1
              go_wp2_with fail
              go_meet
              exact ⟨rfl, rfl⟩
            · cases e1 : (c1 == 58)
              · have hb : bc = false := HNO.out (fun h => beq_eq_false_iff_ne.1 e1 h.2)
                subst hb
                clear hc0 hc1
                go_wp2_with fail
                go_meet
                exact ⟨rfl, rfl⟩
              · have HQ : Hid (smB (S[q + 2]'h2) = bc) := by
                  show _ = _
                  rw [← HBC.out]
                  exact (b58_of h2 (hc0.trans (beq_iff_eq.1 e0)) (hc1.trans (beq_iff_eq.1 e1))).symm
                clear hc0 hc1
                go_wp2_with fail
                refine (rsmall_any S[q + 2] _).mono ?_
                rw [HQ.out]
                rintro e w2 ⟨rfl, rfl⟩
                go_wp2_with fail
                go_meet
                exact ⟨rfl, rfl⟩
          · have hb : bc = false := by
              rw [← HBC.out]
              exact b58_no (fun ⟨h, _⟩ => h2 h)
            subst hb
            go_wp2_with fail
            go_meet
            exact ⟨rfl, rfl⟩
        case rest =>
        obtain ⟨rfl, rfl⟩ := hcut
        cases bc
        case false =>
          have HE : Hid (nameN (bl S) = q) := by show _ = _; rw [HS.out, b58_off HBC.out]; rfl
          go_wp2_with fail
          go_ret
          exact ⟨ret1 (by rw [HE.out]), rfl⟩
        case true =>
          obtain ⟨hq3, hmo⟩ := b58_on HBC.out
          obtain ⟨M, hM⟩ : ∃ M, q + 3 + spanN tlB ((bl S).drop (q + 3)) = M := ⟨_, rfl⟩
          have HM2 := Lib.hid hM
          have hMt : M ≤ S.size := by rw [← hM]; exact spanN_top S hq3
          have hM1 : q + 3 ≤ M := by omega
          have HX : Hid (nameN (bl S) = M + moreN ((bl S).drop M)) := by
            show _ = _
            rw [HS.out, hmo, ← hM]
            omega
          clear hM hmo
          go_wp2_with fail
          go_loop [5] (fun i => ∃ k : Nat, i = .int .i64 k ∧ (q + 3) ≤ k ∧ k ≤ M) (fun i => S.size - (intOf i).toNat)
          case atStart => exact ⟨q + 3, by go_num, by omega, hM1⟩
          case round =>
            obtain ⟨k, rfl, hk1, hkn⟩ := hrel
            obtain ⟨bt, hbt⟩ : ∃ b, decide (k < M) = b := ⟨_, rfl⟩
            have HBT := Lib.hid hbt
            clear hbt
            go_upto_region 23 with (fail)
            go_cut [121] (fun sv wx => sv = .bool bt ∧ w = wx)
            case first =>
              by_cases hlt : k < S.size
              · have hix := get_i k hlt
                have HQ : Hid (tlB (S[k]'hlt) = bt) := by
                  show _ = _
                  rw [← HBT.out]
                  by_cases hkN : k < M
                  · rw [decide_eq_true hkN]
                    exact (spanN_in (S := S) (n := (q + 3)) hk1 (by rw [HM2.out]; exact hkN)).2
                  · rw [decide_eq_false hkN]
                    exact spanN_out (n := (q + 3)) (by omega) (by rw [HM2.out]; omega) hlt
                go_wp2_with fail
                refine (rtail_any S[k] _).mono ?_
                rw [HQ.out]
                rintro e w2 ⟨rfl, rfl⟩
                go_wp2_with fail
                go_meet
                exact ⟨rfl, rfl⟩
              · have hb : bt = false := by rw [← HBT.out]; exact decide_eq_false (by omega)
                subst hb
                go_wp2_with fail
                go_meet
                exact ⟨rfl, rfl⟩
            case rest =>
            obtain ⟨rfl, rfl⟩ := hcut
            cases bt
            case true =>
              have hkN : k < M := of_decide_eq_true HBT.out
              go_wp2_with fail
              go_round
              case rel => exact ⟨k + 1, by go_num, by omega, by omega⟩
              case measure => simp [intOf]; omega
            case false =>
              have hkN : k = M := by have := of_decide_eq_false HBT.out; omega
              subst hkN
              go_wp2_with fail
              go_round
              case rel => exact ⟨k, rfl, by omega, hMt, HX.out⟩
              case measure => simp [intOf]; omega
theorem reach_any (S : ByteArray) (w : World) (hs : S.size ≤ 4611686018427387904) (hp : 0 < S.size) : Calls Tryz.prog 51 #[.string S] w fun e w' => e = .returned (.int .i64 (reachO (bl S))) ∧ w = w' := by
  have hcl : hdC (bl S) = clsN (S[0]'hp).toNat := by unfold hdC; rw [hd_S hp]
  have hd : (bl S).headD 0 = S[0] := hd_S hp
  have e36 := cls_eq S[0] 7 36 (by simp)
  have e39 := cls_eq S[0] 8 39 (by simp)
  have e34 := cls_eq S[0] 9 34 (by simp)
  have hs3 := cls_sm S[0]
  have hs4 := cls_gr S[0]
  have hs5 := cls_dg S[0]
  obtain ⟨n, hn⟩ : ∃ n, clsN (S[0]'hp).toNat = n := ⟨_, rfl⟩
  rw [hn] at e36 e39 e34 hs3 hs4 hs5
  have hr : reachO (bl S) = if n = 8 ∨ n = 9 then quoN (bl S) else if n = 7 ∧ partN smB (bl S).tail = 0 then 0 else if n = 5 then spanN dgB (bl S) else if n = 3 then nameN (bl S) else if n = 4 then partN grB (bl S) else if n = 7 then varN (bl S) else min 2 (bl S).length := by
    unfold reachO
    simp only [hd, e36, e39, e34, hs3, hs4, hs5, decide_eq_true_eq]
  rw [hr]
  by_cases c89 : n = 8 ∨ n = 9
  · rw [if_pos c89]
    exact reach_quo S w hs hp (by rcases c89 with h | h; exact .inl (e39.2 h); exact .inr (e34.2 h))
  rw [if_neg c89]
  by_cases c7 : n = 7
  · by_cases hz : partN smB (bl S).tail = 0
    · rw [if_pos ⟨c7, hz⟩]
      exact reach_zero S w hs hp (hn.trans c7) hz
    · rw [if_neg (fun h => hz h.2), if_neg (by omega), if_neg (by omega), if_neg (by omega), if_pos c7]
      exact reach_var S w hs hp (hn.trans c7) hz
  rw [if_neg (fun h => c7 h.1)]
  by_cases c5 : n = 5
  · rw [if_pos c5]
    exact reach_digit S w hs hp (hn.trans c5)
  rw [if_neg c5]
  by_cases c3 : n = 3
  · rw [if_pos c3]
    exact reach_small S w hs hp (hn.trans c3)
  rw [if_neg c3]
  by_cases c4 : n = 4
  · rw [if_pos c4]
    exact reach_type S w hs hp (hn.trans c4)
  rw [if_neg c4, if_neg c7, bl_len]
  exact reach_low S w hs hp (by rw [hn]; exact ⟨c7, fun h => c89 (.inl h), fun h => c89 (.inr h), c5, c3, c4⟩)
end Go.Proofs.YtfpdgdacifiejaaGreat

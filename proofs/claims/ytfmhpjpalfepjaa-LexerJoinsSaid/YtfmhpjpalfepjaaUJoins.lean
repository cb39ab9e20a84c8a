/-
  Layer 11: the walk of LexerJoins.
  Conditions: those that each theorem states.
-/
import Derived.Test.YtfmhpjpalfepjaaUHalves
namespace Go.Proofs.Ytfmhpjpalfepjaa
open Go.RowKit Go.Maps

theorem lex_tx (l : List UInt8) (n : Nat) : ∀ w ∈ (lexL l n).1, w.tx.length ≤ l.length := by
  by_cases h : l = []
  · subst h; simp [lexL_nil]
  by_cases h0 : (pcO l).sz = 0
  · simp [lexL_err h h0]
  · have hl : l.length ≠ 0 := by simpa using h
    have ih := lex_tx (l.drop (pcO l).sz) (n + (pcO l).sz)
    simp only [List.length_drop] at ih
    by_cases hk : (pcO l).kd = 0
    · rw [lexL_skip h (by omega) hk]
      intro w hw
      have := ih w hw
      omega
    · rw [lexL_word h (by omega) hk]
      intro w hw
      rcases List.mem_cons.1 hw with rfl | hw
      · simp [txO]
        omega
      · have := ih w hw
        omega
termination_by l.length
decreasing_by simp; omega
theorem cov_le (x : Wd) : (covO x).length ≤ x.tx.length + 2 := by
  unfold covO
  repeat' split
  all_goals simp
theorem join_snoc : ∀ (l : List Wd) (x : Wd), joinO (l ++ [x]) = joinO l ++ covO x ++ [32]
  | [], x => by simp [joinO]
  | y :: l, x => by simp [joinO, join_snoc l x]
theorem join_take {L : List Wd} {i : Nat} (h : i < L.length) : joinO (L.take (i + 1)) = joinO (L.take i) ++ covO L[i] ++ [32] := by
  rw [List.take_succ_eq_append_getElem h, join_snoc]
theorem join_len {m : Nat} : ∀ (l : List Wd), (∀ w ∈ l, w.tx.length ≤ m) → (joinO l).length ≤ l.length * (m + 3)
  | [], _ => by simp [joinO]
  | x :: l, h => by
    have h1 := join_len l (fun w hw => h w (by simp [hw]))
    have h2 := cov_le x
    have h3 := h x (by simp)
    simp only [joinO, List.length_append, List.length_cons, Nat.succ_mul]
    omega

set_option maxRecDepth 100000 in
set_option maxHeartbeats 8000000 in
theorem joins_walk (S : ByteArray) (w : World) (hs : S.size ≤ 4611686018427387903) : Calls Try.prog 5 #[.string S] w fun e w' => e = .returned (.bool true) ∧ Kept [] w w' := by
  obtain ⟨ea, ha⟩ : ∃ a, lxA (bl S) = a := ⟨_, rfl⟩
  obtain ⟨ee, he⟩ : ∃ a, lxE (bl S) = a := ⟨_, rfl⟩
  obtain ⟨L, hL⟩ : ∃ a, lxW (bl S) = a := ⟨_, rfl⟩
  have HL := Lib.hid (show lxA (bl S) = ea ∧ lxE (bl S) = ee ∧ lxW (bl S) = L from ⟨ha, he, hL⟩)
  clear ha he hL
  go_enter Try.func5, Try.ntmps5
  go_wp2_with fail
  refine (shown11_any w).mono ?_
  rintro e w1 ⟨rfl, hk1⟩
  have HK1 := Lib.hid hk1
  clear hk1
  go_wp2_with fail
  refine (lex_any S _ (by omega)).mono ?_
  intro e w2 h2
  obtain ⟨va, rfl, how2, hk2⟩ := h2.at HL.out
  have H2 : Hid (WsIs w2 va L ∧ Kept [] w w2) := ⟨how2.es, HK1.out.trans hk2⟩
  clear h2 how2 hk2
  by_cases hok : ee = 0
  case neg =>
    have hoki : ¬ (ee : Int) = 0 := by omega
    go_wp2_with fail
    go_ret
    exact ⟨rfl, H2.out.2⟩
  case pos =>
  subst hok
  have HOK : Hid (S.size ≤ 65536 ∧ lexL (bl S) 0 = (L, none)) := by
    have := lx_yes HL.out.2.1
    rw [bl_len, HL.out.2.2] at this
    exact ⟨this.1, this.2.2⟩
  have HTX : Hid (∀ x ∈ L, x.tx.length ≤ 65536) := fun x hx => by
    have h1 := lex_tx (bl S) 0 x (by rw [HOK.out.2]; exact hx)
    rw [bl_len] at h1
    have := HOK.out.1
    omega
  have HWK : Hid (∀ x ∈ L, WOk x) := fun x hx => lex_wok (bl S) 0 x (by rw [HOK.out.2]; exact hx)
  obtain ⟨n, hn⟩ : ∃ n, L.length = n := ⟨_, rfl⟩
  have HN := Lib.hid hn
  obtain ⟨ao, ac, hva, hac, hac2, _, _⟩ := H2.out.1.open
  rw [hn] at hva hac
  subst hva
  obtain ⟨N, hNm⟩ : ∃ N, min n 2000 = N := ⟨_, rfl⟩
  have HNM : Hid (N ≤ n ∧ N ≤ 2000 ∧ (N = n ∨ N = 2000)) := by show _ ∧ _ ∧ _; omega
  clear hn hNm
  go_wp2_with fail
  go_loopw [7, 8] (fun sj si wr => ∃ (i : Nat) (J : ByteArray), sj = .string J ∧ si = .int .i64 i ∧ i ≤ N ∧ Hid (bl J = joinO (L.take i) ∧ Kept [] w2 wr)) (fun _ si _ => n - (intOf si).toNat)
  case atStart => exact ⟨0, _, rfl, rfl, by omega, rfl, Kept.refl _ _⟩
  case round =>
    obtain ⟨i, J, rfl, rfl, hi, HS⟩ := hrel
    have hJl : J.size ≤ 1000000000 := by
      have h1 := join_len (m := 65536) (L.take i) (fun x hx => HTX.out x (List.mem_of_mem_take hx))
      rw [← HS.out.1, bl_len, List.length_take] at h1
      have h2 := HNM.out
      have h3 : min i L.length ≤ 2000 := by omega
      have h4 := Nat.mul_le_mul_right (65536 + 3) h3
      omega
    obtain ⟨bt, hbt⟩ : ∃ b, decide (i < N) = b := ⟨_, rfl⟩
    have HBT := Lib.hid hbt
    clear hbt
    go_upto_region 7 with (fail)
    go_cut [34] (fun sv wx => sv = .bool bt ∧ wr = wx)
    case first =>
      have h2 := HNM.out
      by_cases hin : i < n
      · have hini : (i : Int) < (n : Int) := by omega
        by_cases h20 : (i : Int) < 2000
        · have hb : bt = true := by rw [← HBT.out]; exact decide_eq_true (by omega)
          subst hb
          clear h2
          go_wp2_with fail
          go_meet
          exact ⟨rfl, rfl⟩
        · have hb : bt = false := by rw [← HBT.out]; exact decide_eq_false (by omega)
          subst hb
          clear h2
          go_wp2_with fail
          go_meet
          exact ⟨rfl, rfl⟩
      · have hb : bt = false := by rw [← HBT.out]; exact decide_eq_false (by omega)
        subst hb
        clear h2
        go_wp2_with fail
        go_meet
        exact ⟨rfl, rfl⟩
    case rest =>
    obtain ⟨rfl, rfl⟩ := hcut
    cases bt
    case true =>
      have hiN : i < N := of_decide_eq_true HBT.out
      have hin : i < n := by have := HNM.out; omega
      have hil : i < L.length := by rw [HN.out]; exact hin
      obtain ⟨b1, o1, cap1, hvv1, _, _, hcell1⟩ := H2.out.1.at (by omega)
      injection hvv1 with hvo1 hvn1 hvc1
      clear hvn1
      subst hvo1 hvc1
      obtain ⟨y0, y1, y2⟩ := hcell1 wr HS.out.2 i hil
      obtain ⟨x, hx⟩ : ∃ x, L[i] = x := ⟨_, rfl⟩
      rw [hx] at y0 y1 y2
      have hxl : x.tx.length ≤ 65536 := by rw [← hx]; exact HTX.out _ (List.getElem_mem hil)
      obtain ⟨C, hC⟩ : ∃ C, strL (covO x) = C := ⟨_, rfl⟩
      have hCl : C.size ≤ 1000000 := by rw [← hC, strL_size]; have := cov_le x; omega
      have HTT : Hid (∀ wx, Calls Try.prog 18 #[.agg #[.int .i64 (x.kd : Int), .string (strL x.tx), .int .i64 (x.at' : Int)]] wx fun e w' => e = .returned (.string C) ∧ Kept [] wx w') := fun wx => by
        have := text11_any x wx (by omega)
        rw [hC] at this
        exact this
      have HJN : Hid (bl (J ++ C ++ ⟨#[32]⟩) = joinO (L.take (i + 1))) := by
        show _ = _
        rw [join_take hil, hx, ← HS.out.1, ← hC]
        simp [bl, strL]
      clear hx hcell1 hxl hC
      go_wp2_with fail
      refine (HTT.out _).mono ?_
      rintro e2 w3 ⟨rfl, hk3⟩
      have HK3 : Hid (Kept [] w2 w3) := HS.out.2.trans hk3
      clear hk3
      go_wp2_with fail
      go_roundw
      case rel => exact ⟨i + 1, _, rfl, by go_num, by omega, HJN.out, HK3.out⟩
      case measure => simp [intOf]; omega
    case false =>
      have hiN : i = N := by have := of_decide_eq_false HBT.out; omega
      subst hiN
      by_cases hbig : (65536 : Int) < (J.size : Int)
      · go_wp2_with fail
        go_ret
        exact ⟨rfl, H2.out.2.trans HS.out.2⟩
      by_cases hmany : (2000 : Int) < (n : Int)
      · go_wp2_with fail
        go_ret
        exact ⟨rfl, H2.out.2.trans HS.out.2⟩
      have hin : i = n := by have := HNM.out; omega
      have HJA : Hid (bl J = joinO L) := by
        show _ = _
        rw [HS.out.1, List.take_of_length_le (by rw [HN.out]; omega)]
      obtain ⟨M, hM⟩ : ∃ M, (lexL (joinO L) 0).1 = M := ⟨_, rfl⟩
      have hjj := lex_joins L 0 HWK.out
      rw [hM] at hjj
      have HJL : Hid (lexL (bl J) 0 = (M, none) ∧ AlikeW M L) := by
        refine ⟨?_, hjj.2⟩
        rw [HJA.out, ← hM, ← hjj.1]
      have HMN : Hid (M.length = n) := by show _ = _; rw [hjj.2.len, HN.out]
      clear hM hjj hin
      go_wp2_with fail
      refine (lex_any J _ (by omega)).mono ?_
      intro e w4 h4
      obtain ⟨vc, rfl, how4, hk4⟩ := h4.at (lx_ok HJL.out.1 (by rw [bl_len]; omega))
      have H4 : Hid (WsIs w4 vc M ∧ Kept [] w2 w4) := ⟨how4.es, HS.out.2.trans hk4⟩
      obtain ⟨co, cc, hvc, hcc, hcc2, _, _⟩ := how4.es.open
      rw [HMN.out] at hvc hcc
      subst hvc
      clear h4 how4 hk4
      go_wp2_with fail
      go_loopw [12] (fun si wx => ∃ q : Nat, si = .int .i64 q ∧ q ≤ n ∧ Hid (Kept [] w4 wx)) (fun si _ => n - (intOf si).toNat)
      case atStart => exact ⟨0, rfl, by omega, Kept.refl _ _⟩
      case round =>
        obtain ⟨q, rfl, hq, HK⟩ := hrel
        by_cases hlti : q < n
        · have hi1 : q < L.length := by rw [HN.out]; exact hlti
          have hi2 : q < M.length := by rw [HMN.out]; exact hlti
          obtain ⟨b, o, cap, hvv, _, _, hcell⟩ := H4.out.1.at (by omega)
          injection hvv with hvo hvn hvc3
          clear hvn
          subst hvo hvc3
          obtain ⟨b1, o1, cap1, hvv1, _, _, hcell1⟩ := H2.out.1.at (by omega)
          injection hvv1 with hvo1 hvn1 hvc1
          clear hvn1
          subst hvo1 hvc1
          obtain ⟨g1, g2⟩ := HJL.out.2.get q hi2 hi1
          obtain ⟨y0, y1, _⟩ := hcell wr HK.out q hi2
          obtain ⟨x0, x1, _⟩ := hcell1 wr (H4.out.2.trans HK.out) q hi1
          rw [g1] at y0
          rw [g2] at y1
          obtain ⟨xk, hxk⟩ : ∃ n : Int, (L[q].kd : Int) = n := ⟨_, rfl⟩
          obtain ⟨xt, hxt⟩ : ∃ n, strL L[q].tx = n := ⟨_, rfl⟩
          rw [hxk] at x0 y0
          rw [hxt] at x1 y1
          clear g1 g2 hcell hcell1 hxk hxt
          go_wp2_with fail
          go_quiet (fail)
          go_wp2_with fail
          go_roundw
          case rel => exact ⟨q + 1, by go_num, by omega, HK.out.trans (Kept.drewN _ _ _)⟩
          case measure => simp [intOf]; omega
        · go_wp2_with fail
          go_ret
          exact ⟨rfl, H2.out.2.trans (H4.out.2.trans HK.out)⟩
end Go.Proofs.Ytfmhpjpalfepjaa

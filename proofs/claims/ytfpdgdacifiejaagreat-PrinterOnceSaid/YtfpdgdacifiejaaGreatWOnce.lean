/-
  Layer 13: PrinterOnce, over what Parse and Print answer.
  Conditions: those that each theorem states.
-/
import Derived.Test.YtfpdgdacifiejaaGreatWBack
import Derived.Test.YtfpdgdacifiejaaGreatUSame
namespace Go.Proofs.YtfpdgdacifiejaaGreat
open Go.RowKit Go.Maps

theorem lex_txW (l : List UInt8) (n : Nat) : ∀ w ∈ (lexL l n).1, w.tx.length ≤ l.length := by
  by_cases h : l = []
  · subst h; simp [lexL_nil]
  by_cases h0 : (pcO l).sz = 0
  · simp [lexL_err h h0]
  · have hl : l.length ≠ 0 := by simpa using h
    have ih := lex_txW (l.drop (pcO l).sz) (n + (pcO l).sz)
    simp only [List.length_drop] at ih
    by_cases hk : (pcO l).kd = 0
    · rw [lexL_skip h (by omega) hk]
      intro w hw
      have := ih w hw
      omega
    · rw [lexL_word h (by omega) hk]
      intro w hw
      rcases List.mem_cons.1 hw with rfl | hw
      · simp [txO]
        omega
      · have := ih w hw
        omega
termination_by l.length
decreasing_by simp; omega
theorem lxW_tx (L : List UInt8) : ∀ x ∈ lxW L, x.tx.length ≤ 65536 := by
  intro x hx
  unfold lxW at hx
  split at hx
  · simp at hx
  · split at hx
    · have := lex_txW L 0 x hx
      omega
    · simp at hx
theorem cov_leW (x : Wd) : (covO x).length ≤ x.tx.length + 2 := by
  unfold covO
  repeat' split
  all_goals simp
/-- Words with blanks and comments between. -/
def wideO : List Wd → List UInt8
  | [] => []
  | x :: l => 9 :: (covO x ++ ([32, 35, 32, 120, 10] ++ wideO l))
theorem wide_snoc : ∀ (l : List Wd) (x : Wd), wideO (l ++ [x]) = wideO l ++ 9 :: (covO x ++ [32, 35, 32, 120, 10])
  | [], x => by simp [wideO]
  | y :: l, x => by simp [wideO, wide_snoc l x]
theorem wide_take {L : List Wd} {i : Nat} (h : i < L.length) : wideO (L.take (i + 1)) = wideO (L.take i) ++ 9 :: (covO L[i] ++ [32, 35, 32, 120, 10]) := by
  rw [List.take_succ_eq_append_getElem h, wide_snoc]
theorem wide_len {m : Nat} : ∀ (l : List Wd), (∀ w ∈ l, w.tx.length ≤ m) → (wideO l).length ≤ l.length * (m + 8)
  | [], _ => by simp [wideO]
  | x :: l, h => by
    have h1 := wide_len l (fun w hw => h w (by simp [hw]))
    have h2 := cov_leW x
    have h3 := h x (by simp)
    simp only [wideO, List.length_append, List.length_cons, Nat.succ_mul, List.length_nil]
    omega
theorem Lx.note : Lx [32, 35, 32, 120, 10] [] AnyR := fun rest n _ => by
  refine ⟨[], rfl, ?_⟩
  have h1 : ∀ k, lexL [32, 35, 32, 120] k = ([], none) := fun k => by
    rw [lex_wh 32 rfl, lex_note [32, 120] (by simp)]
  have h2 := lex_app [32, 35, 32, 120] rest n (by rw [h1])
  rw [h1] at h2
  show lexL ([32, 35, 32, 120] ++ 10 :: rest) n = _
  rw [h2, lex_lf]
  rfl
theorem cov_tk (x : Wd) : covT (tkW x) = covO x := by
  unfold covT tkW
  simp only [Int.toNat_natCast]
  unfold covO
  rfl
theorem wide_lx : ∀ (L : List Wd), (∀ t ∈ L.map tkW, TkOk t) → Lx (wideO L) (L.map tkW) AnyR
  | [], _ => Lx.nil
  | x :: l, h => by
    have ih := wide_lx l (fun t ht => h t (by simp at ht ⊢; right; exact ht))
    have h1 : Lx (covO x) [tkW x] GS := by
      rw [← cov_tk]
      exact Lx.sep (h (tkW x) (by simp))
    have h2 : Lx ([32, 35, 32, 120, 10] ++ wideO l) ([] ++ l.map tkW) AnyR := Lx.app Lx.note ih (fun _ _ => trivial)
    have h3 : Lx (covO x ++ ([32, 35, 32, 120, 10] ++ wideO l)) ([tkW x] ++ ([] ++ l.map tkW)) AnyR := Lx.app h1 h2 (fun r _ => gs_cons sep32 _)
    exact Lx.app (x := [9]) (ws := []) (Lx.blank rfl) h3 (fun _ _ => trivial)
theorem wide_lex {L : List Wd} (h : ∀ t ∈ L.map tkW, TkOk t) : (lexL (wideO L) 0).2 = none ∧ (lexL (wideO L) 0).1.map tkW = L.map tkW := by
  obtain ⟨W, h1, h2⟩ := wide_lx L h [] 0 trivial
  rw [List.append_nil, lexL_nil] at h2
  rw [h2]
  refine ⟨rfl, ?_⟩
  show (W ++ []).map tkW = _
  rw [List.append_nil]
  exact h1
set_option maxRecDepth 100000 in
set_option maxHeartbeats 8000000 in
theorem once_walk (hsh : ShP) (hp : ParC) (hpr : PrC) (S : ByteArray) (w : World) (hs : S.size ≤ 9223372036854775807) : Calls Tryz.prog 4 #[.string S] w fun e w' => e = .returned (.bool true) ∧ Kept [] w w' := by
  have HSH := Lib.hid hsh
  have HPC := Lib.hid hp
  have HPR := Lib.hid hpr
  have HSZ := Lib.hid hs
  clear hsh hp hpr hs
  go_enter Tryz.func4, Tryz.ntmps4
  go_wp2_with fail
  refine (HSH.out w).mono ?_
  rintro e w1 ⟨rfl, hk1⟩
  have HK1 := Lib.hid hk1
  clear hk1
  go_wp2_with fail
  refine (lex_any S w1 HSZ.out).mono ?_
  rintro e w2 ⟨vw, rfl, hws, hk2⟩
  obtain ⟨la, hla⟩ : ∃ x, lxA (bl S) = x := ⟨_, rfl⟩
  obtain ⟨le, hle⟩ : ∃ x, lxE (bl S) = x := ⟨_, rfl⟩
  rw [hla, hle]
  have HTK : Hid (∀ t ∈ (lxW (bl S)).map tkW, TkC t) := lxW_tk _
  have HTX : Hid (∀ x ∈ lxW (bl S), x.tx.length ≤ 65536) := lxW_tx _
  obtain ⟨L, hL⟩ : ∃ L, lxW (bl S) = L := ⟨_, rfl⟩
  rw [hL] at HTK HTX hws
  have H2 := Lib.hid (show WsIs w2 vw L ∧ Kept [] w w2 from ⟨hws.es, HK1.out.trans hk2⟩)
  obtain ⟨n, hn⟩ : ∃ n, L.length = n := ⟨_, rfl⟩
  have HN := Lib.hid hn
  obtain ⟨wo, wc, hvw, hwc, hwc2, _, hcl⟩ := H2.out.1.open
  have HCL := Lib.hid hcl
  clear hcl
  rw [hn] at hvw hwc
  subst hvw
  have HPA := Lib.hid (HPC.out _ (L.map tkW) w2 H2.out.1.tk)
  clear hla hle hL hws hk2 hn
  go_wp2_with fail
  refine HPA.out.mono ?_
  rintro e w3 ⟨va, rfl, hnd, hk3⟩
  obtain ⟨pa, hpa⟩ : ∃ n, (parO (L.map tkW)).2.1 = n := ⟨_, rfl⟩
  obtain ⟨pe, hpe⟩ : ∃ n, (parO (L.map tkW)).2.2 = n := ⟨_, rfl⟩
  obtain ⟨ns, hns⟩ : ∃ n, (parO (L.map tkW)).1 = n := ⟨_, rfl⟩
  rw [hns] at hnd
  rw [hpa, hpe]
  have HPE := Lib.hid (show (parO (L.map tkW)).1 = ns ∧ (parO (L.map tkW)).2.2 = pe from ⟨hns, hpe⟩)
  have HND := Lib.hid hnd
  have hval : ∃ ao cap, va = .slice ao ns.length cap := by
    obtain ⟨ao, cap, h, _⟩ := hnd
    exact ⟨ao, cap, h⟩
  obtain ⟨ao, cap, hva⟩ := hval
  obtain ⟨nn, hnn⟩ : ∃ n, ns.length = n := ⟨_, rfl⟩
  rw [hnn] at hva
  subst hva
  have H3 : Hid (Kept [] w2 w3) := hk3
  obtain ⟨w4, hw4⟩ : ∃ w4, w3.alloc (.cells #[.slice ao nn cap] 29) = w4 := ⟨_, rfl⟩
  obtain ⟨P, hP⟩ : ∃ P, w3.heap.size = P := ⟨_, rfl⟩
  have H4 : Hid (ArAt w4 P ao nn cap ns ∧ Kept [] w2 w4) := by
    rw [← hw4, ← hP]
    exact ⟨⟨hnn, heap_alloc_last _ _, HND.out.kept (Kept.alloc _ _ _)⟩, H3.out.trans (Kept.alloc _ _ _)⟩
  clear hns hpa hpe hnn hk3 hnd
  by_cases hle : le = 0
  case neg =>
    have hlei : ((le : Int) == 0) = false := by simpa using hle
    have hlej : ¬ (le : Int) = 0 := by omega
    go_wp2_with fail
    go_ret
    exact ⟨rfl, H2.out.2.trans H4.out.2⟩
  subst hle
  by_cases hpe : pe = 0
  case neg =>
    have hpei : ((pe : Int) == 0) = false := by simpa using hpe
    have hpej : ¬ (pe : Int) = 0 := by omega
    go_wp2_with fail
    go_ret
    exact ⟨rfl, H2.out.2.trans H4.out.2⟩
  subst hpe
  obtain ⟨b, hb⟩ := back_all HPE.out.2 HTK.out
  have HB := Lib.hid hb
  have HNS : Hid (ns = topL b) := by show _ = _; rw [← HPE.out.1, hb.2.2.2.1]
  obtain ⟨N, hNm⟩ : ∃ N, min n 3000 = N := ⟨_, rfl⟩
  have HNM : Hid (N ≤ n ∧ N ≤ 3000 ∧ (N = n ∨ N = 3000)) := by show _ ∧ _ ∧ _; omega
  clear hb hNm
  go_wp2_with fail
  clear hw4 hP
  go_loopw [10, 11] (fun sj si wr => ∃ (i : Nat) (J : ByteArray), sj = .string J ∧ si = .int .i64 i ∧ i ≤ N ∧ Hid (bl J = wideO (L.take i) ∧ Kept [] w4 wr)) (fun _ si _ => n - (intOf si).toNat)
  case atStart => exact ⟨0, _, rfl, rfl, by omega, rfl, Kept.refl _ _⟩
  case round =>
    obtain ⟨i, J, rfl, rfl, hi, HS⟩ := hrel
    have hJl : J.size ≤ 1000000000 := by
      have h1 := wide_len (m := 65536) (L.take i) (fun x hx => HTX.out x (List.mem_of_mem_take hx))
      rw [← HS.out.1, bl_len, List.length_take] at h1
      have h2 := HNM.out
      have h3 : min i L.length ≤ 3000 := by omega
      have h4 := Nat.mul_le_mul_right (65536 + 8) h3
      omega
    obtain ⟨bt, hbt⟩ : ∃ b, decide (i < N) = b := ⟨_, rfl⟩
    have HBT := Lib.hid hbt
    clear hbt
    go_upto_region 8 with (fail)
    go_cut [53] (fun sv wx => sv = .bool bt ∧ wr = wx)
    case first =>
      have h2 := HNM.out
      by_cases hin : i < n
      · have hini : (i : Int) < (n : Int) := by omega
        by_cases h20 : (i : Int) < 3000
        · have hb : bt = true := by rw [← HBT.out]; exact decide_eq_true (by omega)
          subst hb
          clear h2
          go_wp2_with fail
          go_meet
          exact ⟨rfl, rfl⟩
        · have hb : bt = false := by rw [← HBT.out]; exact decide_eq_false (by omega)
          subst hb
          clear h2
          go_wp2_with fail
          go_meet
          exact ⟨rfl, rfl⟩
      · have hb : bt = false := by rw [← HBT.out]; exact decide_eq_false (by omega)
        subst hb
        clear h2
        go_wp2_with fail
        go_meet
        exact ⟨rfl, rfl⟩
    case rest =>
    obtain ⟨rfl, rfl⟩ := hcut
    cases bt
    case true =>
      have hiN : i < N := of_decide_eq_true HBT.out
      have hin : i < n := by have := HNM.out; omega
      have hil : i < L.length := by rw [HN.out]; exact hin
      obtain ⟨b1, o1, rfl, hb1, hc1⟩ := HCL.out (by omega)
      obtain ⟨z0, z1, z2⟩ := hc1 i hil
      have hkk := H4.out.2.trans HS.out.2
      have y0 := (hkk.cell (p := ⟨b1, o1 + i * 3, none⟩) hb1 (by simp)).trans z0
      have y1 := (hkk.cell (p := ⟨b1, o1 + i * 3 + 1, none⟩) hb1 (by simp)).trans z1
      have y2 := (hkk.cell (p := ⟨b1, o1 + i * 3 + 2, none⟩) hb1 (by simp)).trans z2
      clear z0 z1 z2 hc1 hkk
      obtain ⟨x, hx⟩ : ∃ x, L[i] = x := ⟨_, rfl⟩
      rw [hx] at y0 y1 y2
      have hxl : x.tx.length ≤ 65536 := by rw [← hx]; exact HTX.out _ (List.getElem_mem hil)
      obtain ⟨C, hC⟩ : ∃ C, strL (covO x) = C := ⟨_, rfl⟩
      have hCl : C.size ≤ 1000000 := by rw [← hC, strL_size]; have := cov_leW x; omega
      have HTT : Hid (∀ wx, Calls Tryz.prog 11 #[.agg #[.int .i64 (x.kd : Int), .string (strL x.tx), .int .i64 (x.at' : Int)]] wx fun e w' => e = .returned (.string C) ∧ Kept [] wx w') := fun wx => by
        have := text11_any x wx (by omega)
        rw [hC] at this
        exact this
      have HJN : Hid (bl (J ++ ⟨#[9]⟩ ++ C ++ ⟨#[32, 35, 32, 120, 10]⟩) = wideO (L.take (i + 1))) := by
        show _ = _
        rw [wide_take hil, hx, ← HS.out.1, ← hC]
        simp [bl, strL]
      clear hx hxl hC
      go_wp2_with fail
      refine (HTT.out _).mono ?_
      rintro e2 w5 ⟨rfl, hk5⟩
      have HK5 : Hid (Kept [] w4 w5) := HS.out.2.trans hk5
      clear hk5
      go_wp2_with fail
      go_roundw
      case rel => exact ⟨i + 1, _, rfl, by go_num, by omega, HJN.out, HK5.out⟩
      case measure => simp [intOf]; omega
    case false =>
      have hiN : i = N := by have := of_decide_eq_false HBT.out; omega
      subst hiN
      have HKR : Hid (Kept [] w wr) := H2.out.2.trans (H4.out.2.trans HS.out.2)
      by_cases hmany : (3000 : Int) < (n : Int)
      · go_wp2_with fail
        go_ret
        exact ⟨rfl, HKR.out⟩
      by_cases hbig : (65536 : Int) < (J.size : Int)
      · go_wp2_with fail
        go_ret
        exact ⟨rfl, HKR.out⟩
      have hin : i = n := by have := HNM.out; omega
      have HJA : Hid (bl J = wideO L) := by
        show _ = _
        rw [HS.out.1, List.take_of_length_le (by rw [HN.out]; omega)]
      have HWL := Lib.hid (wide_lex fun t ht => (HTK.out t ht).ok)
      have HLX : Hid (lxW (bl J) = (lexL (wideO L) 0).1 ∧ lxE (bl J) = 0) := by
        show _ ∧ _
        have := bl_len J
        rw [HJA.out] at this ⊢
        exact lx_of HWL.out.1 (by omega)
      have HPZ : Hid (parO ((lxW (bl J)).map tkW) = (topL b, 0, 0)) := by show _ = _; rw [HLX.out.1, HWL.out.2]; exact HB.out.2.2.2.1
      have HLJ := Lib.hid (lex_any J wr (by omega))
      have HAR := Lib.hid (H4.out.1.keep HS.out.2)
      clear hin
      go_wp2_with fail
      refine HLJ.out.mono ?_
      rintro e w6 ⟨vx, rfl, hwx, hk6⟩
      have HW6 : Hid (TkIs w6 vx ((lxW (bl J)).map tkW)) := hwx.es.tk
      have H6 : Hid (ArAt w6 P ao nn cap ns ∧ Kept [] w w6) := ⟨HAR.out.keep hk6, HKR.out.trans hk6⟩
      rw [HLX.out.2]
      obtain ⟨la2, hla2⟩ : ∃ x, lxA (bl J) = x := ⟨_, rfl⟩
      rw [hla2]
      have HPA2 := Lib.hid (HPC.out vx _ w6 HW6.out)
      unfold ParOut at HPA2
      rw [HPZ.out] at HPA2
      clear hwx hk6 hla2
      go_wp2_with fail
      refine HPA2.out.mono ?_
      rintro e w7 ⟨vb, rfl, hnb, hk7⟩
      obtain ⟨bo, bcap, hvb, hbrest⟩ := id hnb
      have hlen : (topL b).length = nn := by rw [← HNS.out]; exact H4.out.1.1
      rw [hlen] at hvb
      subst hvb
      have HNB := Lib.hid hnb
      obtain ⟨w8, hw8⟩ : ∃ x, w7.alloc (.cells #[.slice bo nn bcap] 29) = x := ⟨_, rfl⟩
      obtain ⟨Q, hQ⟩ : ∃ x, w7.heap.size = x := ⟨_, rfl⟩
      have H8 : Hid (ArAt w8 P ao nn cap ns ∧ ArAt w8 Q bo nn bcap ns ∧ Kept [] w w8) := by
        have hk8 : Kept [] w7 w8 := by rw [← hw8]; exact Kept.alloc _ _ _
        refine ⟨(H6.out.1.keep hk7).keep hk8, ⟨by rw [HNS.out]; exact hlen, by rw [← hw8, ← hQ]; exact heap_alloc_last _ _, ?_⟩, (H6.out.2.trans hk7).trans hk8⟩
        rw [HNS.out]
        exact HNB.out.kept hk8
      have a8 := H8.out.1.cell
      have HP8 := Lib.hid (HPR.out (.slice ao nn cap) b w8 HB.out.1 HB.out.2.1 HB.out.2.2.1 (by rw [← HNS.out]; exact H8.out.1.2.2))
      obtain ⟨pt, hpt⟩ : ∃ t, prtO b = t := ⟨_, rfl⟩
      obtain ⟨pg, hpg⟩ : ∃ t, prtE b = t := ⟨_, rfl⟩
      have HPT := Lib.hid (And.intro hpt hpg)
      rw [hpt, hpg] at HP8
      clear hnb hk7 hbrest hlen hpt hpg
      go_wp2_with fail
      clear a8 hw8 hQ
      refine HP8.out.mono ?_
      rintro e w9 ⟨rfl, hk9⟩
      have H9 : Hid (ArAt w9 Q bo nn bcap ns ∧ Kept [] w w9) := ⟨H8.out.2.1.keep hk9, H8.out.2.2.trans hk9⟩
      have b9 := H9.out.1.cell
      have HP9 := Lib.hid (HPR.out (.slice bo nn bcap) b w9 HB.out.1 HB.out.2.1 HB.out.2.2.1 (by rw [← HNS.out]; exact H9.out.1.2.2))
      rw [HPT.out.1, HPT.out.2] at HP9
      clear hk9
      go_wp2_with fail
      clear b9
      refine HP9.out.mono ?_
      rintro e w10 ⟨rfl, hk10⟩
      have H10 : Hid (Kept [] w w10) := H9.out.2.trans hk10
      clear hk10
      go_wp2_with fail
      go_ret
      exact ⟨rfl, H10.out⟩
end Go.Proofs.YtfpdgdacifiejaaGreat

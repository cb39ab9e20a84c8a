/-
  Layer 11: the document's Lex.
  Conditions: those that each theorem states.
-/
import Derived.Test.YtlbenaodpfhjeaaULex
import Derived.Test.YtlbenaodpfhjeaaUWord
import Derived.Test.YtlbenaodpfhjeaaUReachN
namespace Go.Proofs.Ytlbenaodpfhjeaa
open Go.RowKit Go.Maps

theorem LxSt.land {S : ByteArray} {k en : Nat} {ws : List Wd} (h : LxSt S k en ws) : LxSt S en en ws := ⟨Nat.le_refl _, h.top, fun hh => absurd hh (Nat.lt_irrefl _), h.few, h.all⟩
theorem hdC_at {S : ByteArray} {k : Nat} (hk : k < S.size) : hdC ((bl S).drop k) = clsN (S[k]'hk).toNat := by
  unfold hdC
  rw [List.headD_eq_head?_getD, List.head?_drop, bl_get? S k hk]
  rfl
theorem pc_white {S : ByteArray} {k : Nat} (hk : k < S.size) (hc : clsN (S[k]'hk).toNat = 1) : pcO ((bl S).drop k) = ⟨0, 1, 0, 0⟩ := by
  unfold pcO
  rw [hdC_at hk, hc]
  rfl
theorem pc_note {S : ByteArray} {k : Nat} (hk : k < S.size) (hc : clsN (S[k]'hk).toNat = 2) : pcO ((bl S).drop k) = ⟨0, spanN (notB 10) ((bl S).drop k), 0, 0⟩ := by
  unfold pcO
  rw [hdC_at hk, hc]
  rfl
theorem cls_white {n : Nat} : clsN n = 1 ↔ n = 9 ∨ n = 10 ∨ n = 13 ∨ n = 32 := by
  unfold clsN
  repeat' split
  all_goals omega
theorem cls_hash {n : Nat} : clsN n = 2 ↔ n = 35 := by
  unfold clsN
  repeat' split
  all_goals omega
theorem dn_step {l : List UInt8} {m : Nat} (h0 : 0 < m) (hz : (wordO (l.take m)).1 = 0) : dnO l m = dnO l (m - 1) := by
  obtain ⟨n, rfl⟩ : ∃ n, m = n + 1 := ⟨m - 1, by omega⟩
  show (if _ then _ else _) = _
  rw [if_pos hz]
  rfl
theorem dn_le (l : List UInt8) : ∀ n, dnO l n ≤ n
  | 0 => Nat.le_refl _
  | n + 1 => by
    have := dn_le l n
    unfold dnO
    split <;> omega
theorem three_cells {w : World} {g : Nat} {t : TypeId} {a b c : Value} (h : w.heap[g]? = some (.cells #[a, b, c] t)) :
    w.cell? ⟨g, 0, none⟩ = some a ∧ w.cell? ⟨g, 1, none⟩ = some b ∧ w.cell? ⟨g, 2, none⟩ = some c ∧ w.frozen? ⟨g, 0, none⟩ = false ∧ w.frozen? ⟨g, 1, none⟩ = false ∧ w.frozen? ⟨g, 2, none⟩ = false :=
  ⟨cell_of_row _ _ 0 _ _ _ h, cell_of_row _ _ 1 _ _ _ h, cell_of_row _ _ 2 _ _ _ h, frozen_of_row _ _ _ _ _ h, frozen_of_row _ _ _ _ _ h, frozen_of_row _ _ _ _ _ h⟩

set_option maxRecDepth 100000 in
set_option maxHeartbeats 8000000 in
theorem rlex_any (S : ByteArray) (w : World) (hs : S.size ≤ 9223372036854775807) : Calls Try.prog 13 #[.string S] w (LexOut (bl S) w) := by
  by_cases hl : 65536 < S.size
  · have H1 : Hid (lxA (bl S) = 0 ∧ lxE (bl S) = 5 ∧ lxW (bl S) = []) := by
      show _ ∧ _ ∧ _
      unfold lxA lxE lxW
      rw [bl_len, if_pos hl, if_pos hl, if_pos hl]
      exact ⟨rfl, rfl, rfl⟩
    go_enter Try.func13, Try.ntmps13
    go_wp2_with fail
    go_ret3
    exact ⟨_, by rw [H1.out.1, H1.out.2.1]; rfl, by rw [H1.out.2.2]; exact OwnW.nil _ _, Kept.refl _ _⟩
  · go_enter Try.func13, Try.ntmps13
    go_wp2_with fail
    go_loopw [5, 6] (fun sl si wr => ∃ (k : Nat) (ws : List Wd) (v2 : Value), v2 = sl ∧ si = .int .i64 k ∧ k ≤ S.size ∧ Hid (LxSt S k k ws ∧ OwnW w.heap.size wr v2 ws ∧ Kept [] w wr)) (fun _ si _ => S.size - (intOf si).toNat)
    case atStart => exact ⟨0, [], _, rfl, rfl, by omega, LxSt.first S, OwnW.nil _ _, Kept.refl _ _⟩
    case round =>
      obtain ⟨k, ws, v2, rfl, rfl, hkt, HS⟩ := hrel
      by_cases hlt : k < S.size
      · have hix := get_i k hlt
        obtain ⟨c, hc⟩ : ∃ c : Int, (S[k].toNat : Int) = c := ⟨_, rfl⟩
        rw [hc] at hix
        by_cases hw : clsN (S[k]'hlt).toNat = 1
        · have HN : Hid (LxSt S (k + 1) (k + 1) ws) := by
            have := (HS.out.1.skip hlt (by rw [pc_white hlt hw]; simp) (by rw [pc_white hlt hw])).land
            rw [pc_white hlt hw] at this
            exact this
          have hcc : c = 9 ∨ c = 10 ∨ c = 13 ∨ c = 32 := by have := cls_white.1 hw; omega
          clear hc hw
          rcases hcc with h | h | h | h
          all_goals
            subst h
            go_wp2_with fail
            go_roundw
            case rel => exact ⟨k + 1, ws, v2, rfl, by go_num, by omega, HN.out, HS.out.2.1, HS.out.2.2⟩
            case measure => simp [intOf]; omega
        · have n9 : (c == 9) = false := by rw [beqI]; exact decide_eq_false (fun h => hw (cls_white.2 (by omega)))
          have n10 : (c == 10) = false := by rw [beqI]; exact decide_eq_false (fun h => hw (cls_white.2 (by omega)))
          have n13 : (c == 13) = false := by rw [beqI]; exact decide_eq_false (fun h => hw (cls_white.2 (by omega)))
          have n32 : (c == 32) = false := by rw [beqI]; exact decide_eq_false (fun h => hw (cls_white.2 (by omega)))
          by_cases hh : clsN (S[k]'hlt).toNat = 2
          · obtain ⟨N, hN⟩ : ∃ N, k + spanN (notB 10) ((bl S).drop k) = N := ⟨_, rfl⟩
            have HN := Lib.hid hN
            have hNt : N ≤ S.size := by rw [← hN]; exact spanN_top S (by omega)
            have hc35 : c = 35 := by have := cls_hash.1 hh; omega
            have hkN : k < N := by
              rw [← hN]
              have h1 := spanN_is (p := notB 10) (l := (bl S).drop k) (n := spanN (notB 10) ((bl S).drop k)) (spanN_le _ _) (fun j hj hn => spanN_all _ _ j hj hn) (fun hx => spanN_stop _ _ hx)
              apply Nat.lt_add_of_pos_right
              apply Nat.pos_of_ne_zero
              intro h0
              have h2 := spanN_out (p := notB 10) (S := S) (n := k) (k := k) (by omega) (by rw [h0]; rfl) hlt
              unfold notB at h2
              simp at h2
              rw [h2] at hc
              simp at hc
              omega
            have HNX : Hid (LxSt S N N ws) := by
              have := (HS.out.1.skip hlt (by rw [pc_note hlt hh]; simp only; omega) (by rw [pc_note hlt hh])).land
              rw [pc_note hlt hh] at this
              simp only at this
              rw [hN] at this
              exact this
            subst hc35
            clear hN hc hw hh
            go_wp2_with fail
            go_loop [6] (fun i => ∃ q : Nat, i = .int .i64 q ∧ k ≤ q ∧ q ≤ N) (fun i => S.size - (intOf i).toNat)
            case atStart => exact ⟨k, rfl, by omega, by omega⟩
            case round =>
              obtain ⟨q, rfl, hq1, hqn⟩ := hrel
              obtain ⟨bt, hbt⟩ : ∃ b, decide (q < N) = b := ⟨_, rfl⟩
              have HBT := Lib.hid hbt
              clear hbt hix n9 n10 n13 n32
              go_upto_region 10 with (fail)
              go_cut [47] (fun sv wx => sv = .bool bt ∧ wr = wx)
              case first =>
                by_cases hlq : q < S.size
                · have hiq := get_i q hlq
                  obtain ⟨d, hd⟩ : ∃ d : Int, (S[q].toNat : Int) = d := ⟨_, rfl⟩
                  rw [hd] at hiq
                  have HQ : (d == 10) = !bt := by
                    rw [← HBT.out, beqI]
                    by_cases hkq : q < N
                    · rw [decide_eq_true hkq]
                      have := (spanN_in (S := S) (p := notB 10) (n := k) hq1 (by rw [HN.out]; exact hkq)).2
                      unfold notB at this
                      simp at this
                      refine decide_eq_false (fun h => this ?_)
                      apply UInt8.toNat_inj.1
                      show _ = 10
                      omega
                    · rw [decide_eq_false hkq]
                      have := spanN_out (p := notB 10) (S := S) (n := k) (k := q) (by omega) (by rw [HN.out]; omega) hlq
                      unfold notB at this
                      simp at this
                      refine decide_eq_true ?_
                      rw [← hd, this]
                      rfl
                  clear hd
                  cases bt
                  all_goals
                    simp only [Bool.not_true, Bool.not_false] at HQ
                    have HQ2 : (d != 10) = !(d == 10) := rfl
                    rw [HQ] at HQ2
                    go_wp2_with fail
                    go_meet
                    exact ⟨rfl, rfl⟩
                · have hb : bt = false := by rw [← HBT.out]; exact decide_eq_false (by omega)
                  subst hb
                  go_wp2_with fail
                  go_meet
                  exact ⟨rfl, rfl⟩
              case rest =>
              obtain ⟨rfl, rfl⟩ := hcut
              cases bt
              case true =>
                have hkq : q < N := of_decide_eq_true HBT.out
                go_wp2_with fail
                go_round
                case rel => exact ⟨q + 1, by go_num, by omega, by omega⟩
                case measure => simp [intOf]; omega
              case false =>
                have hkq : q = N := by have := of_decide_eq_false HBT.out; omega
                subst hkq
                go_wp2_with fail
                go_roundw
                case rel => exact ⟨q, ws, v2, rfl, rfl, by omega, HNX.out, HS.out.2.1, HS.out.2.2⟩
                case measure => simp [intOf]; omega
          · have n35 : (c == 35) = false := by rw [beqI]; exact decide_eq_false (fun h => hh (cls_hash.2 (by omega)))
            obtain ⟨l, hll⟩ : ∃ l, (bl S).drop k = l := ⟨_, rfl⟩
            have HR : Hid (RefOk l) := by rw [← hll]; exact ref_ok _ (drop_ne hlt) (by rw [hdC_at hlt]; exact hw) (by rw [hdC_at hlt]; exact hh)
            obtain ⟨N, hN⟩ : ∃ N, reachO l = N := ⟨_, rfl⟩
            have hNt : k + N ≤ S.size := by
              have := HR.out.le
              rw [hN, ← hll, List.length_drop, bl_len] at this
              omega
            have HRC : Hid (∀ wx, Calls Try.prog 16 #[.string (S.extract k S.size)] wx fun e w' => e = .returned (.int .i64 (N : Int)) ∧ wx = w') := fun wx => by
              have := reach_any (S.extract k S.size) wx (by rw [size_from]; omega) (by rw [size_from]; omega)
              rw [bl_from, hll, hN] at this
              exact this
            have HWC : Hid (∀ (m : Nat) (wx : World), m ≤ N → Calls Try.prog 17 #[.string (S.extract k (k + m))] wx fun e w' => e = .returned (.agg (wdA (wordO (l.take m)))) ∧ Kept [] wx w') := fun m wx hm => by
              have := word_any (S.extract k (k + m)) wx (by rw [← bl_len, bl_ext, List.length_take, List.length_drop, bl_len]; omega)
              rw [bl_ext, hll, show k + m - k = m by omega] at this
              exact this
            obtain ⟨D, hD⟩ : ∃ D, dnO l N = D := ⟨_, rfl⟩
            have HD := Lib.hid hD
            have HLL := Lib.hid hll
            have HNN := Lib.hid hN
            obtain ⟨z0, hz0⟩ : ∃ z, wordO (l.take N) = z := ⟨_, rfl⟩
            have HZ0 := Lib.hid hz0
            clear hll hN hD hw hh hc hz0
            go_wp2_with fail
            refine (HRC.out _).mono ?_
            rintro e w2 ⟨rfl, rfl⟩
            go_wp2_with fail
            refine (HWC.out N _ (Nat.le_refl _)).mono ?_
            rw [HZ0.out]
            rintro e w2 ⟨rfl, hk2⟩
            have hwd0 : Value.agg (wdA z0) = .agg #[.int .i64 (z0.1 : Int), .string (strL z0.2), .int .i64 0] := rfl
            rw [hwd0]
            have HKW2 := Lib.hid hk2
            clear hk2 hix n9 n10 n13 n32 n35 hwd0
            go_wp2_with fail
            obtain ⟨w3, hw3⟩ : ∃ w3, w2.alloc (.cells #[.int .i64 (z0.1 : Int), .string (strL z0.2), .int .i64 0] 37) = w3 := ⟨_, rfl⟩
            obtain ⟨P, hP⟩ : ∃ P, w2.heap.size = P := ⟨_, rfl⟩
            have H3 : Hid (w3.heap[P]? = some (.cells (wdA z0) 37) ∧ Kept [] wr w3 ∧ wr.heap.size ≤ P) := by
              rw [← hw3, ← hP]
              exact ⟨heap_alloc_last _ _, HKW2.out.trans (Kept.alloc _ _ _), HKW2.out.size⟩
            rw [hw3, hP]
            clear hw3 hP HKW2
            obtain ⟨wo, rfl⟩ : ∃ wo, wo = wr := ⟨_, rfl⟩
            go_loopw [8] (fun sn wx => ∃ m : Nat, sn = .int .i64 m ∧ m ≤ N ∧ Hid (dnO l m = D ∧ wx.heap[P]? = some (.cells (wdA (wordO (l.take m))) 37) ∧ Kept [] wo wx)) (fun sn _ => (intOf sn).toNat)
            case atStart => exact ⟨N, rfl, Nat.le_refl _, HD.out, by rw [HZ0.out]; exact H3.out.1, H3.out.2.1⟩
            case round =>
              obtain ⟨m, rfl, hmN, HI⟩ := hrel
              obtain ⟨z, hz⟩ : ∃ z, wordO (l.take m) = z := ⟨_, rfl⟩
              have HZ := Lib.hid hz
              obtain ⟨zk, hzk⟩ : ∃ n, z.1 = n := ⟨_, rfl⟩
              obtain ⟨zs, hzs⟩ : ∃ S, strL z.2 = S := ⟨_, rfl⟩
              have HROW : Hid (wr.heap[P]? = some (.cells #[.int .i64 (zk : Int), .string zs, .int .i64 0] 37)) := by
                have := HI.out.2.1
                rw [hz] at this
                rw [← hzk, ← hzs]
                exact this
              have HZK := Lib.hid hzk
              have HZS := Lib.hid hzs
              clear hz hzk hzs
              obtain ⟨c0, c1, c2, f0, f1, f2⟩ := three_cells HROW.out
              obtain ⟨bt, hbt⟩ : ∃ b, decide (D < m) = b := ⟨_, rfl⟩
              have HBT := Lib.hid hbt
              have HB0 : Hid (0 < m → ((zk : Int) == 0) = bt) := fun h0 => by
                rw [← hbt, beqI]
                refine decide_eq_decide.2 ⟨fun h => ?_, fun h => ?_⟩
                · have h1 := dn_step (l := l) h0 (by rw [HZ.out, HZK.out]; omega)
                  rw [HI.out.1] at h1
                  have h2 := dn_le l (m - 1)
                  omega
                · apply Classical.byContradiction
                  intro hne
                  have := dnO_is (l := l) (n := m) (.inr (by rw [HZ.out, HZK.out]; omega))
                  rw [HI.out.1] at this
                  omega
              clear hbt
              go_upto_region 14 with (fail)
              go_cut [67] (fun sv wx => sv = .bool bt ∧ wr = wx)
              case first =>
                by_cases h0 : 0 < m
                · have HB1 := HB0.out h0
                  go_wp2_with fail
                  go_meet
                  exact ⟨rfl, rfl⟩
                · have hb : bt = false := by rw [← HBT.out]; exact decide_eq_false (by omega)
                  subst hb
                  go_wp2_with fail
                  go_meet
                  exact ⟨rfl, rfl⟩
              case rest =>
              obtain ⟨rfl, rfl⟩ := hcut
              cases bt
              case true =>
                have hDm : D < m := of_decide_eq_true HBT.out
                obtain ⟨q, rfl⟩ : ∃ q, m = q + 1 := ⟨m - 1, by omega⟩
                obtain ⟨z1, hz1⟩ : ∃ z, wordO (l.take q) = z := ⟨_, rfl⟩
                have HNX : Hid (dnO l q = D) := by
                  show _ = _
                  have h1 := dn_step (l := l) (m := q + 1) (by omega) (by
                    have := HB0.out (by omega)
                    rw [HZ.out, HZK.out]
                    have := beq_iff_eq.1 this
                    omega)
                  rw [HI.out.1] at h1
                  exact h1.symm
                have HZ1 := Lib.hid hz1
                clear hz1
                clear c0 c1 c2 f0 f1 f2
                go_wp2_with fail
                refine (HWC.out q _ (by omega)).mono ?_
                rw [HZ1.out]
                rintro e w2 ⟨rfl, hk2⟩
                have hwd1 : Value.agg (wdA z1) = .agg #[.int .i64 (z1.1 : Int), .string (strL z1.2), .int .i64 0] := rfl
                rw [hwd1]
                have HROW2 : Hid (w2.heap[P]? = some (.cells #[.int .i64 (zk : Int), .string zs, .int .i64 0] 37)) := hk2.heap (by simp) HROW.out
                obtain ⟨c0, c1, c2, f0, f1, f2⟩ := three_cells HROW2.out
                have HKX : Hid (Kept [] wo w2) := HI.out.2.2.trans hk2
                have hPo : wo.heap.size ≤ P := H3.out.2.2
                clear hk2 hwd1
                go_wp2_with fail
                go_roundw
                case rel =>
                  refine ⟨q, by go_num, by omega, HNX.out, ?_, ((HKX.out.setNew _ _ hPo).setNew _ _ hPo).setNew _ _ hPo⟩
                  rw [HZ1.out]
                  exact heap_setCell_same _ _ 2 _ _ _ (heap_setCell_same _ _ 1 _ _ _ (heap_setCell_same _ _ 0 _ _ _ HROW2.out))
                case measure => simp [intOf]
              case false =>
                have hDm : D = m := by
                  have h1 := of_decide_eq_false HBT.out
                  have h2 := dn_le l m
                  rw [HI.out.1] at h2
                  omega
                subst hDm
                by_cases hp0 : (pcO l).sz = 0
                · have H1 : Hid (lxA (bl S) = k ∧ lxE (bl S) = 110 ∧ lxW (bl S) = []) := by
                    have := HS.out.1.bad hlt (by rw [HLL.out]; exact hp0)
                    show _ ∧ _ ∧ _
                    unfold lxA lxE lxW
                    rw [bl_len, if_neg hl, if_neg hl, if_neg hl, this]
                    exact ⟨rfl, rfl, rfl⟩
                  have hbad := HR.out.bad hp0
                  rw [HNN.out, HD.out, HZ.out, HZK.out] at hbad
                  have HKR : Hid (Kept [] w wr) := HS.out.2.2.trans HI.out.2.2
                  clear c1 c2 f0 f1 f2 hp0
                  by_cases h0 : D = 0
                  · clear hbad
                    subst h0
                    go_wp2_with fail
                    go_ret3
                    exact ⟨_, by rw [H1.out.1, H1.out.2.1]; rfl, by rw [H1.out.2.2]; exact OwnW.nil _ _, HKR.out⟩
                  · obtain ⟨h6, h9⟩ : zk = 6 ∧ 9 < D := by
                      rcases hbad with h | h
                      · exact absurd h h0
                      · exact h
                    subst h6
                    have h0i : ¬ (D : Int) = 0 := by omega
                    clear hbad
                    go_wp2_with fail
                    go_ret3
                    exact ⟨_, by rw [H1.out.1, H1.out.2.1]; rfl, by rw [H1.out.2.2]; exact OwnW.nil _ _, HKR.out⟩
                · obtain ⟨g1, g2, g3⟩ := HR.out.good hp0
                  rw [HNN.out, HD.out] at g1
                  rw [← g1, HZ.out] at g2
                  have hzk2 : zk = (pcO l).kd := by rw [← HZK.out, g2]
                  have hD0 : D ≠ 0 := by omega
                  have h0i : ¬ (D : Int) = 0 := by omega
                  have h9 : (zk : Int) = 6 → (D : Int) ≤ 9 := fun h => by
                    have := g3 (by omega)
                    omega
                  have hk0 : (pcO l).kd ≠ 0 := by
                    intro h
                    have h3 := HB0.out (by omega)
                    rw [beqI] at h3
                    have := of_decide_eq_false h3
                    omega
                  obtain ⟨wd, hwd⟩ : ∃ wd : Wd, wd = ⟨zk, z.2, k⟩ := ⟨_, rfl⟩
                  have HN2 : Hid (LxSt S (k + D) (k + D) (ws ++ [wd])) := by
                    have := (HS.out.1.word hlt (by rw [HLL.out]; exact hp0) (by rw [HLL.out]; exact hk0)).land
                    rw [HLL.out, ← g1, ← hzk2, ← (show z.2 = txO l (pcO l) by rw [g2]), ← hwd] at this
                    exact this
                  obtain ⟨w5, hw5⟩ : ∃ w5, wr.setCell ⟨P, 2, none⟩ (.int .i64 (k : Int)) = w5 := ⟨_, rfl⟩
                  have HR5 : Hid (w5.heap[P]? = some (.cells #[.int .i64 (zk : Int), .string zs, .int .i64 (k : Int)] 37)) := by
                    rw [← hw5]
                    exact heap_setCell_same _ _ 2 _ _ _ HROW.out
                  have HK5 : Hid (Kept [] wo w5) := by
                    rw [← hw5]
                    exact HI.out.2.2.setNew _ _ H3.out.2.2
                  have hfew := HS.out.1.few
                  obtain ⟨v3, w6, hrun, hown6, hap, hk6⟩ := (HS.out.2.1.kept HK5.out).app (show w.heap.size ≤ w5.heap.size by have h1 := HS.out.2.2.size; have h2 := HK5.out.size; omega) wd (by omega)
                  have HKD : Hid (wd.kd = zk ∧ wd.at' = k ∧ strL wd.tx = zs) := by rw [hwd]; exact ⟨rfl, rfl, HZS.out⟩
                  rw [HKD.out.1, HKD.out.2.1, HKD.out.2.2] at hrun hk6
                  have HRUN := Lib.hid hrun
                  have HOW := Lib.hid hown6
                  have HKW : Hid (Kept [] w w6) := (HS.out.2.2.trans (HK5.out.trans (Kept.alloc _ _ _))).into hk6 (fun q hq => (HS.out.2.1.blk q (by simpa using hq)).1)
                  have htop : k + D ≤ S.size := HN2.out.top
                  have HW5 := Lib.hid hw5
                  have h0b : ((D : Int) == 0) = false := by rw [beqI]; exact decide_eq_false h0i
                  clear hw5 hwd hrun hown6 hap hk6 g1 g2 g3 hzk2 hk0 hp0
                  go_upto_region 17 with (fail)
                  go_cut [87] (fun sv wy => sv = .bool false ∧ wr = wy)
                  case first =>
                    clear c1 c2 f0 f1 f2
                    by_cases h6 : (zk : Int) = 6
                    · have h9d := h9 h6
                      have h6b : ((zk : Int) == 6) = true := by rw [beqI]; exact decide_eq_true h6
                      have h9b : decide ((9 : Int) < (D : Int)) = false := decide_eq_false (by omega)
                      clear h6
                      go_wp2_with fail
                      go_meet
                      exact ⟨rfl, rfl⟩
                    · have h6b : ((zk : Int) == 6) = false := by rw [beqI]; exact decide_eq_false h6
                      clear h6
                      go_wp2_with fail
                      go_meet
                      exact ⟨rfl, rfl⟩
                  case rest =>
                  obtain ⟨rfl, rfl⟩ := hcut
                  clear h9 h0i h0b c0 c1
                  have hw5 := HW5.out
                  obtain ⟨d0, d1, d2, _, _, _⟩ := three_cells HR5.out
                  go_wp2_with (at_builtin; refine wpList_append_run rfl _ _ 29 rfl _ _ _ rfl rfl HRUN.out ?_)
                  go_roundw
                  case rel => exact ⟨k + D, ws ++ [wd], v3, rfl, by go_num, htop, HN2.out, HOW.out, HKW.out⟩
                  case measure => simp [intOf]; omega
      · have H1 : Hid (lxA (bl S) = 0 ∧ lxE (bl S) = 0 ∧ lxW (bl S) = ws) := by
          have := HS.out.1.done (by omega)
          show _ ∧ _ ∧ _
          unfold lxA lxE lxW
          rw [bl_len, if_neg hl, if_neg hl, if_neg hl, this]
          exact ⟨rfl, rfl, rfl⟩
        go_wp2_with fail
        go_ret3
        exact ⟨_, by rw [H1.out.1, H1.out.2.1]; rfl, by rw [H1.out.2.2]; exact HS.out.2.1, HS.out.2.2⟩
end Go.Proofs.Ytlbenaodpfhjeaa

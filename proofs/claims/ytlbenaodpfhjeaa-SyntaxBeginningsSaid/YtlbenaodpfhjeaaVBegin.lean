/-
  Layer 12: the walk of SyntaxBeginnings, over what Parse answers.
  Conditions: those that each theorem states.
-/
import Derived.Test.YtlbenaodpfhjeaaVTree
import Derived.Test.YtlbenaodpfhjeaaVApp
namespace Go.Proofs.Ytlbenaodpfhjeaa
open Go.RowKit Go.Maps

theorem tcv_take : ∀ (l : List Tka) (k : Nat), tcv (l.take k) = (tcv l).take (3 * k)
  | [], k => by simp [tcv]
  | x :: l, 0 => by simp [tcv]
  | x :: l, k + 1 => by
    rw [List.take_succ_cons, show 3 * (k + 1) = 3 * k + 1 + 1 + 1 by omega]
    simp only [tcv, List.take_succ_cons, tcv_take l k]
theorem TaIs.take {w : World} {ao : Option Addr} {n cap : Nat} {L : List Tka} (h : TaIs w (.slice ao n cap) L) (k : Nat) (hk : k ≤ n) : TaIs w (.slice ao k cap) (L.take k) := by
  obtain ⟨⟨ao', cap', h1, h2, h3, h4, h5⟩, h6⟩ := h
  injection h1 with e1 e2 e3
  subst e1 e3 e2
  have hl : (L.take k).length = k := by rw [List.length_take]; omega
  refine ⟨⟨ao, cap, by rw [hl], by omega, h3, h4, ?_⟩, by omega⟩
  rw [hl]
  rcases h5 with h5 | ⟨b, o, rfl, hb, hr⟩
  · exact .inl (by omega)
  · refine .inr ⟨b, o, rfl, hb, fun q u hu => hr q u ?_⟩
    rw [tcv_take] at hu
    rw [List.getElem?_take] at hu
    split at hu
    · exact hu
    · cases hu

set_option maxRecDepth 100000 in
set_option maxHeartbeats 8000000 in
theorem begin12_walk (hsh : ShC) (hp : ParC) (vl vb : Value) (L B : List Tka) (w : World) (hl : TaIs w vl L) (hb : TaIs w vb B) : Calls Try.prog 4 #[vl, vb] w fun e w' => e = .returned (.bool true) ∧ Kept [] w w' := by
  have HSH := Lib.hid hsh
  have HPC := Lib.hid hp
  have HL := Lib.hid hl
  have HB := Lib.hid hb
  obtain ⟨ao, cap, rfl, hc1, hc2, _, _⟩ := hl.open
  obtain ⟨bo, bap, rfl, hd1, hd2, _, _⟩ := hb.open
  obtain ⟨n, hn⟩ : ∃ n, L.length = n := ⟨_, rfl⟩
  obtain ⟨m, hm⟩ : ∃ n, B.length = n := ⟨_, rfl⟩
  have HN : Hid (L.length = n ∧ B.length = m ∧ n ≤ 5000000000000 ∧ m ≤ 5000000000000) := by
    have := hl.len
    have := hb.len
    exact ⟨hn, hm, by omega, by omega⟩
  rw [hn] at HL hc1 ⊢
  rw [hm] at HB hd1 ⊢
  obtain ⟨T, hT⟩ : ∃ T, L.map tkA = T := ⟨_, rfl⟩
  have hTl : T.length = n := by rw [← hT, List.length_map, hn]
  have HT : Hid (L.map tkA = T ∧ T.length = n) := ⟨hT, hTl⟩
  clear hsh hp hl hb hn hm hT hTl
  go_enter Try.func4, Try.ntmps4
  go_wp2_with fail
  refine (HSH.out w).mono ?_
  rintro e w1 ⟨rfl, hk1⟩
  have HK1 := Lib.hid hk1
  clear hk1
  go_wp2_with fail
  refine (HPC.out (.slice ao n cap) T w1 (by rw [← HT.out.1]; exact (HL.out.kept HK1.out).tk)).mono ?_
  rintro e w2 ⟨va, rfl, hnd, hk2⟩
  obtain ⟨qa, qc, hva, _⟩ := hnd
  obtain ⟨qn, hqn⟩ : ∃ k, (parO T).1.length = k := ⟨_, rfl⟩
  rw [hqn] at hva
  subst hva
  clear hqn
  have H2 : Hid (Kept [] w w2) := HK1.out.trans hk2
  have HBP := Lib.hid (begin_par T (B.map tkA))
  obtain ⟨pa, hpa⟩ : ∃ n, (parO T).2.1 = n := ⟨_, rfl⟩
  obtain ⟨pe, hpe⟩ : ∃ n, (parO T).2.2 = n := ⟨_, rfl⟩
  rw [hpa, hpe] at HBP
  rw [hpa, hpe]
  clear hpa hpe hk2
  obtain ⟨w3, hw3⟩ : ∃ x, w2.alloc (.cells #[.slice qa qn qc] 25) = x := ⟨_, rfl⟩
  have H3 : Hid (Kept [] w w3) := by show Kept _ _ _; rw [← hw3]; exact H2.out.trans (Kept.alloc _ _ _)
  by_cases he : pe = 120
  case neg =>
    have hei : ¬ (pe : Int) = 120 := by omega
    go_wp2_with fail
    go_ret
    exact ⟨rfl, H3.out⟩
  case pos =>
  subst he
  have HP2 := Lib.hid (HBP.out rfl)
  have hpn : pa ≤ n := by rw [← HT.out.2]; exact HP2.out.1
  have hn5 := HN.out.2.2.1
  have hm5 := HN.out.2.2.2
  have g1 : decide ((pa : Int) < 0) = false := decide_eq_false (by omega)
  have g2 : decide ((n : Int) < (pa : Int)) = false := decide_eq_false (by omega)
  have g3 : IntKind.i64.wrap ((n : Int) + (m : Int)) = (n : Int) + (m : Int) := by rw [IntKind.wrap_i64]; omega
  by_cases hbig : (4096 : Int) < (n : Int) + (m : Int)
  · have g5 : decide ((pa : Int) ≥ 0) = true := decide_eq_true (by omega)
    have g6 : decide ((pa : Int) ≤ (n : Int)) = true := decide_eq_true (by omega)
    have g4 := decide_eq_true hbig
    go_wp2_with fail
    go_ret
    exact ⟨rfl, H3.out⟩
  have g4 := decide_eq_false hbig
  by_cases hat : pa = n
  · subst hat
    go_wp2_with fail
    go_ret
    exact ⟨rfl, H3.out⟩
  have hati : ¬ (pa : Int) = (n : Int) := by omega
  have g7 : IntKind.i64.wrap ((pa : Int) + 1) = ((pa + 1 : Nat) : Int) := by rw [IntKind.wrap_i64]; omega
  have h2l : (T.take (pa + 1) ++ B.map tkA).length ≤ 4096 := by
    rw [List.length_append, List.length_take, List.length_map, HN.out.2.1, HT.out.2]
    omega
  obtain ⟨f1, f2, f3⟩ := HP2.out.2 (by rw [HT.out.2]; omega) h2l
  obtain ⟨b, o, hao, _⟩ : ∃ b o, ao = some ⟨b, o, none⟩ ∧ True := by
    obtain ⟨ao', cap', h1, _, _, _, h5⟩ := HL.out.open
    injection h1 with e1 e2 e3
    obtain ⟨b, o, h, _⟩ := h5 (by omega)
    exact ⟨b, o, by rw [e1]; exact h, trivial⟩
  subst hao
  obtain ⟨w4, hw4⟩ : ∃ x, w3.alloc (.cells #[] 37) = x := ⟨_, rfl⟩
  have hown4 : OwnTa w3.heap.size w4 (.slice (some ⟨w3.heap.size, 0, none⟩) 0 0) [] := by rw [← hw4]; exact OwnTa.empty w3 _ (Nat.le_refl _)
  have H4 : Hid (Kept [] w3 w4) := by show Kept _ _ _; rw [← hw4]; exact Kept.alloc _ _ _
  have hx4 := (HL.out.take (pa + 1) (by omega)).kept (H3.out.trans H4.out)
  have htl : (L.take (pa + 1)).length = pa + 1 := by rw [List.length_take, HN.out.1]; omega
  obtain ⟨v5, w5, hrun5, hown5, hk5, _⟩ := hown4.appS H4.out.size hx4 (by rw [htl]; simp; omega)
  have H5 : Hid (Kept [] w3 w5) := H4.out.into hk5 (fun q hq => (hown4.blk q (by simpa using hq)).1)
  have hb5 := HB.out.kept (H3.out.trans H5.out)
  obtain ⟨v6, w6, hrun6, hown6, hk6, _⟩ := hown5.appS H5.out.size hb5 (by rw [List.nil_append, htl, HN.out.2.1]; omega)
  have H6 : Hid (Kept [] w3 w6) := H5.out.into hk6 (fun q hq => (hown5.blk q (by simpa using hq)).1)
  have HTK : Hid (TkIs w6 v6 (T.take (pa + 1) ++ B.map tkA)) := by
    have := hown6.es.tk
    rw [List.nil_append, List.map_append, List.map_take, HT.out.1] at this
    exact this
  have HR5 := Lib.hid hrun5
  have HR6 := Lib.hid hrun6
  have HF := Lib.hid (show (parO (T.take (pa + 1) ++ B.map tkA)).2.2 = 120 ∧ (parO (T.take (pa + 1) ++ B.map tkA)).2.1 = pa from ⟨f1, f2⟩)
  have HF3 := Lib.hid f3
  clear hown4 hx4 htl hrun5 hown5 hk5 hb5 hrun6 hown6 hk6 f1 f2 f3 h2l
  go_wp2_with (at_builtin; first | refine wpList_append_run rfl _ _ 29 rfl _ _ _ rfl rfl HR5.out ?_ | refine wpList_append_run rfl _ _ 29 rfl _ _ _ rfl rfl HR6.out ?_)
  refine (HPC.out v6 _ w6 HTK.out).mono ?_
  rintro e w7 ⟨vc, rfl, hnd7, hk7⟩
  rw [HF.out.1, HF.out.2]
  obtain ⟨ra, rc, hvc, _⟩ := hnd7
  obtain ⟨rn, hrn⟩ : ∃ k, (parO (T.take (pa + 1) ++ B.map tkA)).1.length = k := ⟨_, rfl⟩
  rw [hrn] at hvc
  subst hvc
  clear hrn
  obtain ⟨w8, hw8⟩ : ∃ x, w7.alloc (.cells #[.slice ra rn rc] 25) = x := ⟨_, rfl⟩
  have H8 : Hid (Kept [] w w8) := by
    show Kept _ _ _
    rw [← hw8]
    exact H3.out.trans (H6.out.trans (Kept.trans hk7 (Kept.alloc _ _ _)))
  clear hk7 hw3 hw4
  go_wp2_with fail
  refine (HPC.out (.slice (some ⟨b, o, none⟩) pa cap) (T.take pa) w8 (by rw [← HT.out.1, ← List.map_take]; exact ((HL.out.take pa (by omega)).kept H8.out).tk)).mono ?_
  rintro e w9 ⟨vd, rfl, hnd9, hk9⟩
  obtain ⟨sa, sc, hvd, _⟩ := hnd9
  obtain ⟨sn, hsn⟩ : ∃ k, (parO (T.take pa)).1.length = k := ⟨_, rfl⟩
  rw [hsn] at hvd
  subst hvd
  clear hsn hw8
  obtain ⟨w10, hw10⟩ : ∃ x, w9.alloc (.cells #[.slice sa sn sc] 25) = x := ⟨_, rfl⟩
  have H10 : Hid (Kept [] w w10) := by
    show Kept _ _ _
    rw [← hw10]
    exact H8.out.trans (Kept.trans hk9 (Kept.alloc _ _ _))
  clear hk9
  rcases HF3.out with e1 | e1 | ⟨e1, e2⟩
  · rw [e1]
    go_wp2_with fail
    go_ret
    exact ⟨rfl, H10.out⟩
  · rw [e1]
    go_wp2_with fail
    go_ret
    exact ⟨rfl, H10.out⟩
  · rw [e1, e2]
    go_wp2_with fail
    go_ret
    exact ⟨rfl, H10.out⟩
end Go.Proofs.Ytlbenaodpfhjeaa

/-
  Layer 12: plain, and all values; a param, an attr, a ref, an arrow; set, include.
  Conditions: those that each theorem states.
-/
import Derived.Test.YtfpdgdacifiejaaGreatVOther
namespace Go.Proofs.YtfpdgdacifiejaaGreat
open Go.RowKit Go.Maps

set_option maxRecDepth 100000 in
set_option maxHeartbeats 4000000 in
theorem plain_step (c : PCx) (n : Nat) (hpl : PC c 165 (plainF n) n) (hval : PC c 135 (value n) n) : PC c 165 (plainF (n + 1)) (n + 1) := by
  intro A m s w hm hr h
  have HW := Lib.hid (yword_any c A m s w h)
  have HH := Lib.hid h
  have HM := Lib.hid (And.intro hm hr)
  have HOT := Lib.hid (fun w' (hk : Kept [] w w') => other_pc c n hpl hval A m s w' hm hr (h.keep hk))
  have hfd := fld0
  obtain ⟨K, hK⟩ : ∃ K, hdK s.r = K := ⟨_, rfl⟩
  have HK := Lib.hid hK
  unfold wdV at HW
  rw [hK] at HW
  clear h hm hr hpl hval hK
  go_enter Tryz.func165, Tryz.ntmps165
  go_wp2_with fail
  refine HW.out.mono ?_
  rintro e w1 ⟨a, rfl, hk1⟩
  have HK1 := Lib.hid hk1
  clear hk1
  by_cases h4 : K = 4
  · have HC := Lib.hid (yleaf_any c A m s w1 13 4 HM.out.1 (by decide) (by rw [is_kd (by decide), HK.out]; simp [h4]) (HH.out.keep HK1.out))
    have HZ := Lib.hid (plain_kd (n := n) (K := 4) (k := 13) (HK.out.trans h4) (by omega))
    subst h4
    go_wp2_with fail
    refine HC.out.mono ?_
    intro e w2 h2
    obtain ⟨rfl, h3, h4⟩ := h2
    have HF : Hid (PRes c (plainF (n + 1) s) nV A m w (.returned (nV s.ns.length)) w2) := PRes.ok HZ.out rfl h3 ((KA.of HK1.out).trans h4 (fun _ h => h))
    unfold nV at HF ⊢
    clear h3 h4
    go_wp2_with fail
    go_ret
    exact HF.out
  by_cases h5 : K = 5
  · have HC := Lib.hid (yleaf_any c A m s w1 14 5 HM.out.1 (by decide) (by rw [is_kd (by decide), HK.out]; simp [h5]) (HH.out.keep HK1.out))
    have HZ := Lib.hid (plain_kd (n := n) (K := 5) (k := 14) (HK.out.trans h5) (by omega))
    subst h5
    go_wp2_with fail
    refine HC.out.mono ?_
    intro e w2 h2
    obtain ⟨rfl, h3, h4⟩ := h2
    have HF : Hid (PRes c (plainF (n + 1) s) nV A m w (.returned (nV s.ns.length)) w2) := PRes.ok HZ.out rfl h3 ((KA.of HK1.out).trans h4 (fun _ h => h))
    unfold nV at HF ⊢
    clear h3 h4
    go_wp2_with fail
    go_ret
    exact HF.out
  by_cases h6 : K = 6
  · have HC := Lib.hid (yleaf_any c A m s w1 15 6 HM.out.1 (by decide) (by rw [is_kd (by decide), HK.out]; simp [h6]) (HH.out.keep HK1.out))
    have HZ := Lib.hid (plain_kd (n := n) (K := 6) (k := 15) (HK.out.trans h6) (by omega))
    subst h6
    go_wp2_with fail
    refine HC.out.mono ?_
    intro e w2 h2
    obtain ⟨rfl, h3, h4⟩ := h2
    have HF : Hid (PRes c (plainF (n + 1) s) nV A m w (.returned (nV s.ns.length)) w2) := PRes.ok HZ.out rfl h3 ((KA.of HK1.out).trans h4 (fun _ h => h))
    unfold nV at HF ⊢
    clear h3 h4
    go_wp2_with fail
    go_ret
    exact HF.out
  by_cases h3 : K = 3
  · have HC := Lib.hid (yleaf_any c A m s w1 16 3 HM.out.1 (by decide) (by rw [is_kd (by decide), HK.out]; simp [h3]) (HH.out.keep HK1.out))
    have HZ := Lib.hid (plain_kd (n := n) (K := 3) (k := 16) (HK.out.trans h3) (by omega))
    subst h3
    go_wp2_with fail
    refine HC.out.mono ?_
    intro e w2 h2
    obtain ⟨rfl, h3, h4⟩ := h2
    have HF : Hid (PRes c (plainF (n + 1) s) nV A m w (.returned (nV s.ns.length)) w2) := PRes.ok HZ.out rfl h3 ((KA.of HK1.out).trans h4 (fun _ h => h))
    unfold nV at HF ⊢
    clear h3 h4
    go_wp2_with fail
    go_ret
    exact HF.out
  have HC := Lib.hid (HOT.out w1 HK1.out)
  have HZ := Lib.hid (plain_other (n := n) (s := s) (by rw [HK.out]; exact h3) (by rw [HK.out]; exact h4) (by rw [HK.out]; exact h5) (by rw [HK.out]; exact h6))
  have q3 : (K == 3) = false := by simpa using h3
  have q4 : (K == 4) = false := by simpa using h4
  have q5 : (K == 5) = false := by simpa using h5
  have q6 : (K == 6) = false := by simpa using h6
  clear h3 h4 h5 h6
  go_wp2_with fail
  refine HC.out.mono ?_
  intro e w2 h2
  rcases h2.way with ⟨r, q, rfl, h3⟩ | ⟨s2, x2, q, rfl, h3, h4⟩
  · exact ⟨rfl, PRes.err (HZ.out.trans q) rfl h3.1 h3.2⟩
  have HF : Hid (PRes c (plainF (n + 1) s) nV A m w (.returned (nV x2)) w2) := PRes.ok (HZ.out.trans q) rfl h3 ((KA.of HK1.out).trans h4 (fun _ h => h))
  unfold nV at HF ⊢
  clear h2 q h3 h4
  go_wp2_with fail
  go_ret
  exact HF.out
theorem values_pc (c : PCx) : ∀ n, PC c 165 (plainF n) n ∧ PC c 135 (value n) n
  | 0 => ⟨fun _ _ _ _ _ hr _ => absurd hr (Nat.not_lt_zero _), fun _ _ _ _ _ hr _ => absurd hr (Nat.not_lt_zero _)⟩
  | n + 1 => by
    obtain ⟨h1, h2⟩ := values_pc c n
    have h3 := plain_step c n h1 h2
    exact ⟨h3, yvalue_pc c (n + 1) (yboth_pc c (n + 1) (yequal_pc c (n + 1) h3))⟩
theorem PrSt.eat2 {c : PCx} {A : List Nat} {m : Nat} {s : PSt} {w : World} {p : Tok → Bool} (h : PrSt c A m s w) (hb : tkB p s.r = true) :
    ∃ (at' : Nat) (s1 : PSt) (w1 : World), w.cell? ⟨c.g, 1, none⟩ = some (.int .i64 (at' : Int)) ∧ w.frozen? ⟨c.g, 1, none⟩ = false ∧ IntKind.i64.wrap ((at' : Int) + 1) = (at' : Int) + 1 ∧ w.setCell ⟨c.g, 1, none⟩ (.int .i64 ((at' : Int) + 1)) = w1 ∧
      s1 = ⟨s.r.tail, s.ns⟩ ∧ s1.r.length + 1 = s.r.length ∧ KA c A w w1 ∧ PrSt c A (m - 1) s1 w1 ∧ 1 ≤ m := by
  obtain ⟨nv, _, c1, _, fz, _, _⟩ := h.open
  have hle := h.tk.len
  have he := h.eat (fun hh => by rw [hh] at hb; cases hb)
  refine ⟨c.l.length - s.r.length, ⟨s.r.tail, s.ns⟩, _, c1, fz 1, ?_, rfl, rfl, tail_len hb, he.2, he.1, h.pos hb⟩
  rw [IntKind.wrap_i64]
  omega
set_option maxRecDepth 100000 in
set_option maxHeartbeats 4000000 in
theorem param_pc (c : PCx) (n : Nat) (hval : PC c 135 (value n) n) (A : List Nat) (m : Nat) (s : PSt) (w : World) (hm : m ≤ 5000) (hr : s.r.length < n + 1) (h : PrSt c A m s w) :
    Calls Tryz.prog 160 #[.pointer (some ⟨c.g, 0, none⟩)] w (PRes c (paramF n s) nV A m w) := by
  have HP := Lib.hid h
  have HM := Lib.hid (And.intro hm hr)
  have HL := Lib.hid hr
  have HK : Hid (KA c A w w) := KA.of (Kept.refl _ _)
  have HZ : Hid (paramF n s = pbind (must (isKd 3)) (fun t => ifT (isSg [61]) (fun _ => pbind (value n) fun v => pnode 4 t [v]) (pnode 4 t [])) s) := by show _ = _; rfl
  have hmf := noFn
  have HVA := Lib.hid hval
  clear h hm hr hval
  go_enter Tryz.func160, Tryz.ntmps160
  go_wp2_with fail
  refine (ytake_any c A m s w 3 (by decide) HP.out).mono ?_
  intro e w1 h1
  rcases h1.way with ⟨r, q1, rfl, ha⟩ | ⟨s1, x1, q1, rfl, ha, hd⟩
  · exact ⟨rfl, PRes.err (HZ.out.trans (bind_err q1)) rfl ha.1 ha.2⟩
  have HZ := Lib.hid (HZ.out.trans (bind_ok q1))
  have HL : Hid (s1.r.length < n ∧ 1 ≤ m) := by
    have h5 := (must_eat q1).2.2.2
    have h6 := HP.out.few
    have h7 := HL.out
    show _ ∧ _
    constructor <;> omega
  have HK := Lib.hid (HK.out.trans hd (fun _ h => h))
  have HP := Lib.hid ha
  clear h1 q1 ha hd
  unfold tV
  go_wp2_with fail
  refine (ytook_any c A (m - 1) s1 w1 7 [61] (by decide) HP.out).mono ?_
  rintro e w2 ⟨b, rfl, H2⟩
  cases b
  case true =>
    obtain ⟨s2, hif, htl, hk, hs⟩ := H2.out.yes2
    have HZ := Lib.hid (HZ.out.trans (hif _ _ _))
    have HL : Hid (s2.r.length < n ∧ 2 ≤ m) := by
      have h5 := htl
      have h6 := HP.out.few
      have h7 := HL.out
      show _ ∧ _
      constructor <;> omega
    have HK := Lib.hid (HK.out.trans hk (fun _ h => h))
    have HP := Lib.hid hs
    clear hif htl hk hs H2
    go_wp2_with fail
    refine (HVA.out A ((m - 1) - 1) s2 w2 (by have := HM.out.1; omega) HL.out.1 HP.out).mono ?_
    intro e w3 h3
    rcases h3.way with ⟨r, q3, rfl, ha⟩ | ⟨s3, x3, q3, rfl, ha, hd⟩
    · exact ⟨rfl, PRes.err (HZ.out.trans (bind_err q3)) rfl ha.1 ha.2⟩
    have HZ := Lib.hid (HZ.out.trans (bind_ok q3))
    have HL : Hid (s3.r.length < n ∧ 2 ≤ m) := ⟨Nat.lt_of_le_of_lt (Lc.le (Lc.value n) q3) HL.out.1, HL.out.2⟩
    have HK := Lib.hid (HK.out.trans hd (fun _ h => h))
    have HP := Lib.hid ha
    clear h3 q3 ha hd
    unfold nV
    go_wp2_with fail
    refine (node1 c A ((m - 1) - 1) s3 w3 4 x1 x3 (by have := HM.out.1; omega) HP.out).mono ?_
    intro e w4 h4
    obtain ⟨rfl, ha, hd⟩ := h4
    have HF : Hid (PRes c (paramF n s) nV A m w (.returned (nV s3.ns.length)) w4) := PRes.ok (HZ.out.trans rfl) rfl (ha.more (by have := HL.out.2; omega)) (HK.out.trans hd (fun _ h => h))
    unfold nV at HF ⊢
    clear ha hd
    go_wp2_with fail
    go_ret
    exact HF.out
  case false =>
    obtain ⟨hif, hk, hs⟩ := H2.out.no2
    have HZ := Lib.hid (HZ.out.trans (hif _ _ _))
    have HK := Lib.hid (HK.out.trans hk (fun _ h => h))
    have HP := Lib.hid hs
    clear hif hk hs H2
    go_wp2_with fail
    refine (node0 c A (m - 1) s1 w2 4 x1 (by have := HM.out.1; omega) HP.out).mono ?_
    intro e w5 h5
    obtain ⟨rfl, ha, hd⟩ := h5
    have HF : Hid (PRes c (paramF n s) nV A m w (.returned (nV s1.ns.length)) w5) := PRes.ok (HZ.out.trans rfl) rfl (ha.more (by have := HL.out.2; omega)) (HK.out.trans hd (fun _ h => h))
    unfold nV at HF ⊢
    clear ha hd
    go_wp2_with fail
    go_ret
    exact HF.out
set_option maxRecDepth 100000 in
set_option maxHeartbeats 4000000 in
theorem ref_any (c : PCx) (n : Nat) (hval : PC c 135 (value n) n) (A : List Nat) (m : Nat) (s : PSt) (w : World) (hm : m ≤ 5000) (hr : s.r.length < n + 1) (h : PrSt c A m s w) :
    Calls Tryz.prog 136 #[.pointer (some ⟨c.g, 0, none⟩)] w (PRes c (refF n s) nV A (m - 1) w) := by
  have HP := Lib.hid h
  have HM := Lib.hid (And.intro hm hr)
  have HL := Lib.hid hr
  have HK : Hid (KA c A w w) := KA.of (Kept.refl _ _)
  have HZ : Hid (refF n s = pbind (must (isKd 2)) (fun t => pbind (must (isSg [91])) fun _ => pbind (value n) fun x => pbind (must (isSg [93])) fun _ => pnode 11 t [x]) s) := by show _ = _; rfl
  have hmf := noFn
  have HVA := Lib.hid hval
  clear h hm hr hval
  go_enter Tryz.func136, Tryz.ntmps136
  go_wp2_with fail
  refine (ytake_any c A m s w 2 (by decide) HP.out).mono ?_
  intro e w1 h1
  rcases h1.way with ⟨r, q1, rfl, ha⟩ | ⟨s1, x1, q1, rfl, ha, hd⟩
  · exact ⟨rfl, PRes.err (HZ.out.trans (bind_err q1)) rfl ha.1 ha.2⟩
  have HZ := Lib.hid (HZ.out.trans (bind_ok q1))
  have HL : Hid (s1.r.length < n ∧ 1 ≤ m) := by
    have h5 := (must_eat q1).2.2.2
    have h6 := HP.out.few
    have h7 := HL.out
    show _ ∧ _
    constructor <;> omega
  have HK := Lib.hid (HK.out.trans hd (fun _ h => h))
  have HP := Lib.hid ha
  clear h1 q1 ha hd
  unfold tV
  go_wp2_with fail
  refine (ysign_any c A (m - 1) s1 w1 [91] HP.out).mono ?_
  intro e w2 h2
  rcases h2.way with ⟨r, q2, rfl, ha⟩ | ⟨s2, x2, q2, rfl, ha, hd⟩
  · exact ⟨rfl, PRes.err (HZ.out.trans (bind_err q2)) rfl ha.1 ha.2⟩
  have HZ := Lib.hid (HZ.out.trans (bind_ok q2))
  have HL : Hid (s2.r.length < n ∧ 2 ≤ m) := by
    have h5 := (must_eat q2).2.2.2
    have h6 := HP.out.few
    have h7 := HL.out
    show _ ∧ _
    constructor <;> omega
  have HK := Lib.hid (HK.out.trans hd (fun _ h => h))
  have HP := Lib.hid ha
  clear h2 q2 ha hd
  unfold uV
  go_wp2_with fail
  refine (HVA.out A ((m - 1) - 1) s2 w2 (by have := HM.out.1; omega) HL.out.1 HP.out).mono ?_
  intro e w3 h3
  rcases h3.way with ⟨r, q3, rfl, ha⟩ | ⟨s3, x3, q3, rfl, ha, hd⟩
  · exact ⟨rfl, PRes.err (HZ.out.trans (bind_err q3)) rfl ha.1 ha.2⟩
  have HZ := Lib.hid (HZ.out.trans (bind_ok q3))
  have HL : Hid (s3.r.length < n ∧ 2 ≤ m) := ⟨Nat.lt_of_le_of_lt (Lc.le (Lc.value n) q3) HL.out.1, HL.out.2⟩
  have HK := Lib.hid (HK.out.trans hd (fun _ h => h))
  have HP := Lib.hid ha
  clear h3 q3 ha hd
  unfold nV
  go_wp2_with fail
  refine (ysign_any c A ((m - 1) - 1) s3 w3 [93] HP.out).mono ?_
  intro e w4 h4
  rcases h4.way with ⟨r, q4, rfl, ha⟩ | ⟨s4, x4, q4, rfl, ha, hd⟩
  · exact ⟨rfl, PRes.err (HZ.out.trans (bind_err q4)) rfl ha.1 ha.2⟩
  have HZ := Lib.hid (HZ.out.trans (bind_ok q4))
  have HL : Hid (s4.r.length < n ∧ 3 ≤ m) := by
    have h5 := (must_eat q4).2.2.2
    have h6 := HP.out.few
    have h7 := HL.out
    show _ ∧ _
    constructor <;> omega
  have HK := Lib.hid (HK.out.trans hd (fun _ h => h))
  have HP := Lib.hid ha
  clear h4 q4 ha hd
  unfold uV
  go_wp2_with fail
  refine (node1 c A (((m - 1) - 1) - 1) s4 w4 11 x1 x3 (by have := HM.out.1; omega) HP.out).mono ?_
  intro e w5 h5
  obtain ⟨rfl, ha, hd⟩ := h5
  have HF : Hid (PRes c (refF n s) nV A (m - 1) w (.returned (nV s4.ns.length)) w5) := PRes.ok (HZ.out.trans rfl) rfl (ha.more (by have := HL.out.2; omega)) (HK.out.trans hd (fun _ h => h))
  unfold nV at HF ⊢
  clear ha hd
  go_wp2_with fail
  go_ret
  exact HF.out
theorem ref_pc (c : PCx) (n : Nat) (hval : PC c 135 (value n) n) (A : List Nat) (m : Nat) (s : PSt) (w : World) (hm : m ≤ 5000) (hr : s.r.length < n + 1) (h : PrSt c A m s w) :
    Calls Tryz.prog 136 #[.pointer (some ⟨c.g, 0, none⟩)] w (PRes c (refF n s) nV A m w) := (ref_any c n hval A m s w hm hr h).mono fun e w' h2 => h2.more (by omega)
set_option maxRecDepth 100000 in
set_option maxHeartbeats 4000000 in
theorem set_pc (c : PCx) (n : Nat) (hval : PC c 135 (value n) n) (A : List Nat) (m : Nat) (s : PSt) (w : World) (hm : m ≤ 5000) (hr : s.r.length < n + 1) (h : PrSt c A m s w) :
    Calls Tryz.prog 106 #[.pointer (some ⟨c.g, 0, none⟩)] w (PRes c (setF n s) nV A m w) := by
  have HP := Lib.hid h
  have HM := Lib.hid (And.intro hm hr)
  have HL := Lib.hid hr
  have HK : Hid (KA c A w w) := KA.of (Kept.refl _ _)
  have HZ : Hid (setF n s = pbind (must (isKd 3)) (fun t => pbind (must (isSg [61])) fun _ => pbind (value n) fun v => pnode 6 t [v]) s) := by show _ = _; rfl
  have hmf := noFn
  have HVA := Lib.hid hval
  clear h hm hr hval
  go_enter Tryz.func106, Tryz.ntmps106
  go_wp2_with fail
  refine (ytake_any c A m s w 3 (by decide) HP.out).mono ?_
  intro e w1 h1
  rcases h1.way with ⟨r, q1, rfl, ha⟩ | ⟨s1, x1, q1, rfl, ha, hd⟩
  · exact ⟨rfl, PRes.err (HZ.out.trans (bind_err q1)) rfl ha.1 ha.2⟩
  have HZ := Lib.hid (HZ.out.trans (bind_ok q1))
  have HL : Hid (s1.r.length < n ∧ 1 ≤ m) := by
    have h5 := (must_eat q1).2.2.2
    have h6 := HP.out.few
    have h7 := HL.out
    show _ ∧ _
    constructor <;> omega
  have HK := Lib.hid (HK.out.trans hd (fun _ h => h))
  have HP := Lib.hid ha
  clear h1 q1 ha hd
  unfold tV
  go_wp2_with fail
  refine (ysign_any c A (m - 1) s1 w1 [61] HP.out).mono ?_
  intro e w2 h2
  rcases h2.way with ⟨r, q2, rfl, ha⟩ | ⟨s2, x2, q2, rfl, ha, hd⟩
  · exact ⟨rfl, PRes.err (HZ.out.trans (bind_err q2)) rfl ha.1 ha.2⟩
  have HZ := Lib.hid (HZ.out.trans (bind_ok q2))
  have HL : Hid (s2.r.length < n ∧ 2 ≤ m) := by
    have h5 := (must_eat q2).2.2.2
    have h6 := HP.out.few
    have h7 := HL.out
    show _ ∧ _
    constructor <;> omega
  have HK := Lib.hid (HK.out.trans hd (fun _ h => h))
  have HP := Lib.hid ha
  clear h2 q2 ha hd
  unfold uV
  go_wp2_with fail
  refine (HVA.out A ((m - 1) - 1) s2 w2 (by have := HM.out.1; omega) HL.out.1 HP.out).mono ?_
  intro e w3 h3
  rcases h3.way with ⟨r, q3, rfl, ha⟩ | ⟨s3, x3, q3, rfl, ha, hd⟩
  · exact ⟨rfl, PRes.err (HZ.out.trans (bind_err q3)) rfl ha.1 ha.2⟩
  have HZ := Lib.hid (HZ.out.trans (bind_ok q3))
  have HL : Hid (s3.r.length < n ∧ 2 ≤ m) := ⟨Nat.lt_of_le_of_lt (Lc.le (Lc.value n) q3) HL.out.1, HL.out.2⟩
  have HK := Lib.hid (HK.out.trans hd (fun _ h => h))
  have HP := Lib.hid ha
  clear h3 q3 ha hd
  unfold nV
  go_wp2_with fail
  refine (node1 c A ((m - 1) - 1) s3 w3 6 x1 x3 (by have := HM.out.1; omega) HP.out).mono ?_
  intro e w4 h4
  obtain ⟨rfl, ha, hd⟩ := h4
  have HF : Hid (PRes c (setF n s) nV A m w (.returned (nV s3.ns.length)) w4) := PRes.ok (HZ.out.trans rfl) rfl (ha.more (by have := HL.out.2; omega)) (HK.out.trans hd (fun _ h => h))
  unfold nV at HF ⊢
  clear ha hd
  go_wp2_with fail
  go_ret
  exact HF.out
theorem pl_take {s : PSt} (h : ¬ (58 : UInt8) ∈ hdT s.r) : must (isKd 1) s = must isPl s := by
  have hb := pl_split s.r
  have hk := tkB_kd 1 s.r (by decide)
  rw [decide_eq_false h, Bool.not_false, Bool.and_true, ← hk] at hb
  cases hq : tkB (isKd 1) s.r
  · rw [must_f hq, must_f (p := isPl) (hb.trans hq)]
  · rw [must_t hq, must_t (p := isPl) (hb.trans hq)]
theorem pl_stop {s : PSt} (h : (58 : UInt8) ∈ hdT s.r) : must isPl s = .err s.r := must_f (by rw [pl_split, decide_eq_true h]; simp)
theorem aw_take {s : PSt} (h : tkB isAw s.r = true) : must (isKd 7) s = must isAw s := by
  rw [must_t h, must_t]
  rw [aw_split] at h
  rw [tkB_kd 7 s.r (by decide)]
  exact (Bool.and_eq_true_iff.1 h).1
set_option maxRecDepth 100000 in
set_option maxHeartbeats 4000000 in
theorem attr_pc (c : PCx) (n : Nat) (hval : PC c 135 (value n) n) (A : List Nat) (m : Nat) (s : PSt) (w : World) (hm : m ≤ 5000) (hr : s.r.length < n + 1) (h : PrSt c A m s w) :
    Calls Tryz.prog 155 #[.pointer (some ⟨c.g, 0, none⟩)] w (PRes c (attrF n s) nV A m w) := by
  have HP := Lib.hid h
  have HM := Lib.hid (And.intro hm hr)
  have HL := Lib.hid hr
  have HK : Hid (KA c A w w) := KA.of (Kept.refl _ _)
  have HZ : Hid (attrF n s = pbind (must isPl) (fun a => pbind (must (isSg [61, 62])) fun _ => pbind (value n) fun v => pnode 9 a [v]) s) := by show _ = _; rfl
  have hmf := noFn
  have HVA := Lib.hid hval
  have hfd := fld1
  clear h hm hr hval
  go_enter Tryz.func155, Tryz.ntmps155
  go_wp2_with fail
  refine (yword_any c A m s w HP.out).mono ?_
  rintro e w1 ⟨a, rfl, hk1⟩
  have HP := Lib.hid (HP.out.keep hk1)
  have HK : Hid (KA c A w w1) := KA.of hk1
  unfold wdV
  clear hk1
  go_wp2_with fail
  refine (colon12 (hdT s.r) w1).mono ?_
  rintro e w1' ⟨rfl, rfl⟩
  by_cases hc : (58 : UInt8) ∈ hdT s.r
  · rw [decide_eq_true hc]
    have HE := Lib.hid (pl_stop hc)
    clear hc
    go_wp2_with fail
    refine (yrefuse_any c A m s w1 HP.out).mono ?_
    rintro e wz ⟨rfl, rfl⟩
    exact ⟨rfl, PRes.err (HZ.out.trans (bind_err HE.out)) rfl HP.out.kept HP.out.le⟩
  rw [decide_eq_false hc]
  have HC := Lib.hid (ytake_any c A m s w1 1 (by decide) HP.out)
  rw [pl_take hc] at HC
  clear hc
  go_wp2_with fail
  refine (HC.out).mono ?_
  intro e w2 h2
  rcases h2.way with ⟨r, q2, rfl, ha⟩ | ⟨s2, x2, q2, rfl, ha, hd⟩
  · exact ⟨rfl, PRes.err (HZ.out.trans (bind_err q2)) rfl ha.1 ha.2⟩
  have HZ := Lib.hid (HZ.out.trans (bind_ok q2))
  have HL : Hid (s2.r.length < n ∧ 1 ≤ m) := by
    have h5 := (must_eat q2).2.2.2
    have h6 := HP.out.few
    have h7 := HL.out
    show _ ∧ _
    constructor <;> omega
  have HK := Lib.hid (HK.out.trans hd (fun _ h => h))
  have HP := Lib.hid ha
  clear h2 q2 ha hd
  unfold tV
  go_wp2_with fail
  refine (ysign_any c A (m - 1) s2 w2 [61, 62] HP.out).mono ?_
  intro e w3 h3
  rcases h3.way with ⟨r, q3, rfl, ha⟩ | ⟨s3, x3, q3, rfl, ha, hd⟩
  · exact ⟨rfl, PRes.err (HZ.out.trans (bind_err q3)) rfl ha.1 ha.2⟩
  have HZ := Lib.hid (HZ.out.trans (bind_ok q3))
  have HL : Hid (s3.r.length < n ∧ 2 ≤ m) := by
    have h5 := (must_eat q3).2.2.2
    have h6 := HP.out.few
    have h7 := HL.out
    show _ ∧ _
    constructor <;> omega
  have HK := Lib.hid (HK.out.trans hd (fun _ h => h))
  have HP := Lib.hid ha
  clear h3 q3 ha hd
  unfold uV
  go_wp2_with fail
  refine (HVA.out A ((m - 1) - 1) s3 w3 (by have := HM.out.1; omega) HL.out.1 HP.out).mono ?_
  intro e w4 h4
  rcases h4.way with ⟨r, q4, rfl, ha⟩ | ⟨s4, x4, q4, rfl, ha, hd⟩
  · exact ⟨rfl, PRes.err (HZ.out.trans (bind_err q4)) rfl ha.1 ha.2⟩
  have HZ := Lib.hid (HZ.out.trans (bind_ok q4))
  have HL : Hid (s4.r.length < n ∧ 2 ≤ m) := ⟨Nat.lt_of_le_of_lt (Lc.le (Lc.value n) q4) HL.out.1, HL.out.2⟩
  have HK := Lib.hid (HK.out.trans hd (fun _ h => h))
  have HP := Lib.hid ha
  clear h4 q4 ha hd
  unfold nV
  go_wp2_with fail
  refine (node1 c A ((m - 1) - 1) s4 w4 9 x2 x4 (by have := HM.out.1; omega) HP.out).mono ?_
  intro e w5 h5
  obtain ⟨rfl, ha, hd⟩ := h5
  have HF : Hid (PRes c (attrF n s) nV A m w (.returned (nV s4.ns.length)) w5) := PRes.ok (HZ.out.trans rfl) rfl (ha.more (by have := HL.out.2; omega)) (HK.out.trans hd (fun _ h => h))
  unfold nV at HF ⊢
  clear ha hd
  go_wp2_with fail
  go_ret
  exact HF.out
set_option maxRecDepth 100000 in
set_option maxHeartbeats 4000000 in
theorem arrow_pc (c : PCx) (n : Nat) (A : List Nat) (m : Nat) (s : PSt) (w : World) (hm : m ≤ 5000) (hr : s.r.length < n + 1) (h : PrSt c A m s w) :
    Calls Tryz.prog 137 #[.pointer (some ⟨c.g, 0, none⟩)] w (PRes c (arrowF s) nV A m w) := by
  have HP := Lib.hid h
  have HM := Lib.hid (And.intro hm hr)
  have HL := Lib.hid hr
  have HK : Hid (KA c A w w) := KA.of (Kept.refl _ _)
  have HZ : Hid (arrowF s = pbind (must isAw) (fun t => pnode 12 t []) s) := by show _ = _; rfl
  have hmf := noFn
  clear h hm hr
  go_enter Tryz.func137, Tryz.ntmps137
  go_wp2_with fail
  refine (yatArrow_any c A m s w HP.out).mono ?_
  rintro e w1 ⟨rfl, hk1⟩
  have HP := Lib.hid (HP.out.keep hk1)
  have HK : Hid (KA c A w w1) := KA.of hk1
  clear hk1
  cases hb : tkB isAw s.r
  · have HE := Lib.hid (must_f hb)
    clear hb
    go_wp2_with fail
    refine (yrefuse_any c A m s w1 HP.out).mono ?_
    rintro e wz ⟨rfl, rfl⟩
    exact ⟨rfl, PRes.err (HZ.out.trans (bind_err HE.out)) rfl HP.out.kept HP.out.le⟩
  have HC := Lib.hid (ytake_any c A m s w1 7 (by decide) HP.out)
  rw [aw_take hb] at HC
  clear hb
  go_wp2_with fail
  refine (HC.out).mono ?_
  intro e w2 h2
  rcases h2.way with ⟨r, q2, rfl, ha⟩ | ⟨s2, x2, q2, rfl, ha, hd⟩
  · exact ⟨rfl, PRes.err (HZ.out.trans (bind_err q2)) rfl ha.1 ha.2⟩
  have HZ := Lib.hid (HZ.out.trans (bind_ok q2))
  have HL : Hid (s2.r.length < n ∧ 1 ≤ m) := by
    have h5 := (must_eat q2).2.2.2
    have h6 := HP.out.few
    have h7 := HL.out
    show _ ∧ _
    constructor <;> omega
  have HK := Lib.hid (HK.out.trans hd (fun _ h => h))
  have HP := Lib.hid ha
  clear h2 q2 ha hd
  unfold tV
  go_wp2_with fail
  refine (node0 c A (m - 1) s2 w2 12 x2 (by have := HM.out.1; omega) HP.out).mono ?_
  intro e w3 h3
  obtain ⟨rfl, ha, hd⟩ := h3
  have HF : Hid (PRes c (arrowF s) nV A m w (.returned (nV s2.ns.length)) w3) := PRes.ok (HZ.out.trans rfl) rfl (ha.more (by have := HL.out.2; omega)) (HK.out.trans hd (fun _ h => h))
  unfold nV at HF ⊢
  clear ha hd
  go_wp2_with fail
  go_ret
  exact HF.out
set_option maxRecDepth 100000 in
set_option maxHeartbeats 4000000 in
theorem include_pc (c : PCx) (n : Nat) (p : Tok → Bool) (A : List Nat) (m : Nat) (s : PSt) (w : World) (hm : m ≤ 5000) (hr : s.r.length < n + 1) (h : PrSt c A m s w) (hb : tkB p s.r = true) :
    Calls Tryz.prog 141 #[.pointer (some ⟨c.g, 0, none⟩)] w (PRes c (incF ⟨s.r.tail, s.ns⟩) nV A m w) := by
  have HP := Lib.hid h
  have HM := Lib.hid (And.intro hm hr)
  have HL := Lib.hid hr
  have HK : Hid (KA c A w w) := KA.of (Kept.refl _ _)
  have HZ : Hid (incF ⟨s.r.tail, s.ns⟩ = pbind (must isNm) (fun t => pnode 5 t []) ⟨s.r.tail, s.ns⟩) := by show _ = _; rfl
  have hmf := noFn
  obtain ⟨at', s1, w1, c1, fz, hwr, hw1, hs1, htl, hka, hps, h1m⟩ := h.eat2 hb
  have HK : Hid (KA c A w w1) := hka
  have HP := Lib.hid hps
  have HL : Hid (s1.r.length < n ∧ 1 ≤ m) := ⟨by omega, h1m⟩
  rw [← hs1]
  rw [← hs1] at HZ
  clear hs1 htl hka hps h1m hb
  clear h hm hr
  go_enter Tryz.func141, Tryz.ntmps141
  go_wp2_with fail
  clear c1 fz hwr hw1
  refine (yname_any c A (m - 1) s1 w1 HP.out).mono ?_
  intro e w2 h2
  rcases h2.way with ⟨r, q2, rfl, ha⟩ | ⟨s2, x2, q2, rfl, ha, hd⟩
  · exact ⟨rfl, PRes.err (HZ.out.trans (bind_err q2)) rfl ha.1 ha.2⟩
  have HZ := Lib.hid (HZ.out.trans (bind_ok q2))
  have HL : Hid (s2.r.length < n ∧ 2 ≤ m) := by
    have h5 := (must_eat q2).2.2.2
    have h6 := HP.out.few
    have h7 := HL.out
    show _ ∧ _
    constructor <;> omega
  have HK := Lib.hid (HK.out.trans hd (fun _ h => h))
  have HP := Lib.hid ha
  clear h2 q2 ha hd
  unfold tV
  go_wp2_with fail
  refine (node0 c A ((m - 1) - 1) s2 w2 5 x2 (by have := HM.out.1; omega) HP.out).mono ?_
  intro e w3 h3
  obtain ⟨rfl, ha, hd⟩ := h3
  have HF : Hid (PRes c (incF s1) nV A m w (.returned (nV s2.ns.length)) w3) := PRes.ok (HZ.out.trans rfl) rfl (ha.more (by have := HL.out.2; omega)) (HK.out.trans hd (fun _ h => h))
  unfold nV at HF ⊢
  clear ha hd
  go_wp2_with fail
  go_ret
  exact HF.out
end Go.Proofs.YtfpdgdacifiejaaGreat

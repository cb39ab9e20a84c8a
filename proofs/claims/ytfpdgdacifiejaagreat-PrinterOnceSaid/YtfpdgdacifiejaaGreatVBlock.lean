/-
  Layer 12: the program's block.
  Conditions: those that each theorem states.
-/
import Derived.Test.YtfpdgdacifiejaaGreatVList
namespace Go.Proofs.YtfpdgdacifiejaaGreat
open Go.RowKit Go.Maps

theorem Eats.mustb {α : Type} {p : Tok → Bool} {f : List UInt8 → Prs α} (hf : ∀ t, Lc (f t)) : Eats (pbind (must p) f) := by
  intro s s' a h
  cases hm : must p s with
  | err r => rw [bind_err hm] at h; cases h
  | ok s1 t =>
    rw [bind_ok hm] at h
    have h1 := (hf t).le h
    have h2 := (must_eat hm).2.2.2
    omega
theorem Lc.paramF (n : Nat) : Lc (paramF n) := (Lc.must _).bind fun _ => Lc.ifT (fun _ => (Lc.value n).bind fun _ => Lc.node _ _ _) (Lc.node _ _ _)
theorem Lc.attrF (n : Nat) : Lc (attrF n) := (Lc.must _).bind fun _ => (Lc.must _).bind fun _ => (Lc.value n).bind fun _ => Lc.node _ _ _
theorem Lc.refF (n : Nat) : Lc (refF n) := (Lc.must _).bind fun t => Lc.refOf n t
theorem Lc.arrowF : Lc arrowF := (Lc.must _).bind fun _ => Lc.node _ _ _
theorem Eats.paramF (n : Nat) : Eats (paramF n) := Eats.mustb fun _ => Lc.ifT (fun _ => (Lc.value n).bind fun _ => Lc.node _ _ _) (Lc.node _ _ _)
theorem Eats.attrF (n : Nat) : Eats (attrF n) := Eats.mustb fun _ => (Lc.must _).bind fun _ => (Lc.value n).bind fun _ => Lc.node _ _ _
theorem Eats.refF (n : Nat) : Eats (refF n) := Eats.mustb fun t => Lc.refOf n t
theorem Eats.arrowF : Eats arrowF := Eats.mustb fun _ => Lc.node _ _ _
theorem stmts_t {st : Prs Nat} {k : Nat} {l : List Nat} {s s1 : PSt} {K : List Nat → Prs Nat} (h : ∀ (α : Type) (f : List UInt8 → Prs α) (g : Prs α), ifT (isSg [125]) f g s = f (hdT s.r) s1) : pbind (stmts st (k + 1) l) K s = K l s1 := by
  unfold stmts
  rw [ifT_bind, h]
  rfl
theorem stmts_f {st : Prs Nat} {k : Nat} {l : List Nat} {s : PSt} {K : List Nat → Prs Nat} (h : ∀ (α : Type) (f : List UInt8 → Prs α) (g : Prs α), ifT (isSg [125]) f g s = g s) : pbind (stmts st (k + 1) l) K s = (pbind st fun x => pbind (stmts st k (l ++ [x])) K) s := by
  conv => lhs; unfold stmts
  rw [ifT_bind, h, bind_bind]
set_option maxRecDepth 100000 in
set_option maxHeartbeats 4000000 in
theorem block_pc (c : PCx) (n : Nat) (st : Prs Nat) (hst : PC c 39 st n) (hea : Eats st) : PC c 153 (blockOf n st) n := by
  intro A m s w hm hr h
  have HST := Lib.hid hst
  have HEA := Lib.hid hea
  have HM := Lib.hid (And.intro hm hr)
  have HS0 := Lib.hid (ysign_any c A m s w [123] h)
  have HFEW := Lib.hid h.few
  clear h hst hea hm hr
  go_enter Tryz.func153, Tryz.ntmps153
  go_wp2_with fail
  refine HS0.out.mono ?_
  intro e w1 h1
  rcases h1.way with ⟨r, q, rfl, ha⟩ | ⟨s1, x1, q, rfl, ha, hd⟩
  · exact ⟨rfl, PRes.err (bind_err q) rfl ha.1 ha.2⟩
  have H0 : Hid (LsSt c A (m - 1) s1 w1 (.slice none 0 0) [] ∧ s1.r.length < n ∧ n ≤ n ∧ KA c A w w1 ∧ ([] : List Nat).length + s1.r.length ≤ 5000 ∧ blockOf n st s = (pbind (stmts st n []) fun l => pnode 1 [] l) s1 ∧ 1 ≤ m) := by
    have h5 := (must_eat q).2.2.2
    have h6 := HFEW.out
    have h7 := HM.out
    exact ⟨LsSt.nil ha, by omega, Nat.le_refl _, hd, by simp; omega, bind_ok q, by omega⟩
  unfold uV
  clear h1 q ha hd HS0
  go_wp2_with fail
  go_loopw [3] (fun v3 wr => ∃ (l : List Nat) (k : Nat) (sk : PSt), Hid (LsSt c A (m - 1) sk wr v3 l ∧ sk.r.length < k ∧ k ≤ n ∧ KA c A w wr ∧ l.length + sk.r.length ≤ 5000 ∧ blockOf n st s = (pbind (stmts st k l) fun l => pnode 1 [] l) sk ∧ 1 ≤ m)) (fun _ wr => c.l.length - atOf c wr)
  case atStart => exact ⟨[], n, s1, H0.out⟩
  case round =>
    obtain ⟨l, k, sk, HS⟩ := hrel
    clear H0
    obtain ⟨ao, cap, hv⟩ := HS.out.1.val
    obtain ⟨L, hL⟩ : ∃ L, l.length = L := ⟨_, rfl⟩
    rw [hL] at hv
    subst hv
    clear hL
    obtain ⟨k', rfl⟩ : ∃ k', k = k' + 1 := ⟨k - 1, by have := HS.out.2.1; omega⟩
    go_wp2_with fail
    refine (ytook_any c _ (m - 1) sk wr 7 [125] (by decide) HS.out.1.st).mono ?_
    rintro e w2 ⟨b, rfl, H1⟩
    cases b
    case true =>
      obtain ⟨s2, hif, htl, hk, hs⟩ := H1.out.yes2
      have HL1 := Lib.hid (HS.out.1.step hk hs)
      have HK1 := Lib.hid (HS.out.2.2.2.1.trans hk (by intro z hz; simp [hz]))
      have HZ : Hid (blockOf n st s = pnode 1 [] l s2) := by show _ = _; rw [HS.out.2.2.2.2.2.1]; exact stmts_t hif
      clear hif htl hk hs H1
      have HN := Lib.hid (LsSt.node HL1.out 1 [] (by have := HM.out.1; omega))
      go_wp2_with fail
      refine HN.out.mono ?_
      intro e w9 h9
      obtain ⟨rfl, ha, hd⟩ := h9
      have HF : Hid (PRes c (blockOf n st s) nV A m w (.returned (nV s2.ns.length)) w9) := PRes.ok (HZ.out.trans rfl) rfl (ha.more (by have := HS.out.2.2.2.2.2.2; omega)) (HK1.out.trans hd (fun _ h => h))
      unfold nV at HF ⊢
      clear ha hd
      go_wp2_with fail
      go_ret
      exact HF.out
    case false =>
      obtain ⟨hif, hk, hs⟩ := H1.out.no2
      have HL1 := Lib.hid (HS.out.1.step hk hs)
      have HK1 := Lib.hid (HS.out.2.2.2.1.trans hk (by intro z hz; simp [hz]))
      have HEQ : Hid (blockOf n st s = (pbind st fun x => pbind (stmts st k' (l ++ [x])) fun l => pnode 1 [] l) sk) := by show _ = _; rw [HS.out.2.2.2.2.2.1]; exact stmts_f hif
      clear hif hk hs H1
      have HC := Lib.hid (HST.out _ (m - 1) sk w2 (by have := HM.out.1; omega) (by have := HS.out; omega) HL1.out.st)
      go_wp2_with fail
      refine HC.out.mono ?_
      intro e w5 h5
      rcases h5.way with ⟨r, q, rfl, ha⟩ | ⟨s3, x, q, rfl, ha, hd⟩
      · exact ⟨rfl, PRes.err (by rw [HEQ.out]; exact bind_err q) rfl ha.1 ha.2⟩
      have HEA2 : Hid (s3.r.length < sk.r.length) := HEA.out _ _ _ q
      have HQ := Lib.hid q
      have HL5 := Lib.hid (HL1.out.step hd ha)
      have HK5 := Lib.hid (HK1.out.trans hd (by intro z hz; simp [hz]))
      unfold nV
      clear h5 q ha hd
      obtain ⟨v', w6, hrun, hls, hka⟩ := HL5.out.app1 x (by have := HS.out.2.2.2.2.1; omega)
      have HRUN := Lib.hid hrun
      have HN : Hid (LsSt c A (m - 1) s3 w6 v' (l ++ [x]) ∧ KA c A w w6) := ⟨hls, HK5.out.trans hka (fun _ h => h)⟩
      clear hrun hls hka
      go_wp2_with (at_builtin; refine wpList_append_run rfl _ _ 39 rfl _ _ _ rfl rfl HRUN.out ?_)
      go_roundw
      case rel => exact ⟨l ++ [x], k', s3, HN.out.1, by have := HEA2.out; have := HS.out.2.1; omega, by have := HS.out.2.2.1; omega, HN.out.2, by have := HEA2.out; have := HS.out.2.2.2.2.1; simp; omega, HEQ.out.trans (bind_ok HQ.out), HS.out.2.2.2.2.2.2⟩
      case measure => exact meas_lt HS.out.1.st HN.out.1.st (by have := HEA2.out; omega)
end Go.Proofs.YtfpdgdacifiejaaGreat

/-
  Layer 12: the program's statements.
  Conditions: those that each theorem states.
-/
import Derived.Test.YtfpdgdacifiejaaGreatVBlock
namespace Go.Proofs.YtfpdgdacifiejaaGreat
open Go.RowKit Go.Maps

theorem Lc.listR {part : Prs Nat} (h : Lc part) (e : List UInt8) : ∀ k l, Lc (listR part e k l)
  | 0, _ => Lc.fail
  | k + 1, _ => h.bind fun _ => Lc.ifT (fun _ => Lc.listR h e k _) ((Lc.must _).bind fun _ => Lc.prt _)
theorem Lc.listF {part : Prs Nat} (h : Lc part) (e : List UInt8) (n : Nat) : Lc (listF part e n) := Lc.ifT (fun _ => Lc.prt _) (Lc.listR h e n _)
set_option maxRecDepth 100000 in
set_option maxHeartbeats 4000000 in
theorem ydeclaration_any (c : PCx) (n : Nat) (st : Prs Nat) (hbl : PC c 153 (blockOf n st) n) (hval : PC c 135 (value n) n) (K : Nat) (p : Tok → Bool) (A : List Nat) (m : Nat) (s : PSt) (w : World) (hm : m ≤ 5000) (hr : s.r.length < n + 1) (h : PrSt c A m s w) (hb : tkB p s.r = true) :
    Calls Tryz.prog 151 #[.pointer (some ⟨c.g, 0, none⟩), .int .i64 (K : Int)] w (PRes c (classy n st K ⟨s.r.tail, s.ns⟩) nV A m w) := by
  obtain ⟨at', s1, w1, c1, fz, hwr, hw1, hs1, htl, hka, hps, h1m⟩ := h.eat2 hb
  have HK := Lib.hid hka
  have HP := Lib.hid hps
  have HL : Hid (s1.r.length < n ∧ 1 ≤ m) := ⟨by omega, h1m⟩
  have HM := Lib.hid (And.intro hm hr)
  have hmf := noFn
  rw [← hs1]
  clear hs1 htl hka hps h1m hb h hm hr
  have HBL := Lib.hid hbl
  have HPP : Hid (PC c 160 (paramF n) n) := fun A m s w hm hr h => param_pc c n hval A m s w hm (by omega) h
  have hen := enters_of Tryz.func160 (by kernel_rfl) rfl
  have HEN := Lib.hid (show Enters Tryz.prog 160 from hen)
  have HZ : Hid (classy n st K s1 = (pbind (must isNm) fun t => ifT (isSg [40]) (fun _ => pbind (listF (paramF n) [41] n) fun l => pbind (blockOf n st) fun b => pnode K t (l ++ [b])) (pbind (prt []) fun l => pbind (blockOf n st) fun b => pnode K t (l ++ [b]))) s1) := by
    show _ = _
    unfold classy
    simp only [params_eq, ifT_bind]
  clear hbl hval hen
  go_enter Tryz.func151, Tryz.ntmps151
  go_wp2_with fail
  clear c1 fz hwr hw1
  refine (yname_any c A (m - 1) s1 w1 HP.out).mono ?_
  intro e w2 hh2
  rcases hh2.way with ⟨r, q, rfl, ha⟩ | ⟨s2, x2, q, rfl, ha, hd⟩
  · exact ⟨rfl, PRes.err (HZ.out.trans (bind_err q)) rfl ha.1 ha.2⟩
  have HZ := Lib.hid (HZ.out.trans (bind_ok q))
  have HL : Hid (s2.r.length < n ∧ 1 ≤ m) := ⟨by have h5 := (must_eat q).2.2.2; have := HL.out.1; omega, HL.out.2⟩
  have HK := Lib.hid (HK.out.trans hd (fun _ h => h))
  have HP := Lib.hid ha
  clear hh2 q ha hd
  unfold tV
  go_wp2_with fail
  refine (ytook_any c A (m - 1 - 1) s2 w2 7 [40] (by decide) HP.out).mono ?_
  rintro e w3 ⟨b, rfl, H3⟩
  cases b
  case true =>
    obtain ⟨s3, hif, htl, hk, hs⟩ := H3.out.yes2
    have HZ := Lib.hid (HZ.out.trans (hif _ _ _))
    have HL : Hid (s3.r.length < n ∧ 1 ≤ m) := ⟨by have := HL.out.1; omega, HL.out.2⟩
    have HK := Lib.hid (HK.out.trans hk (fun _ h => h))
    have HLS := Lib.hid (ylisted_any c n 160 (paramF n) HEN.out HPP.out (Lc.paramF n) (Eats.paramF n) [41] (by decide) A (m - 1 - 1 - 1) s3 w3 (by have := HM.out.1; omega) HL.out.1 hs)
    clear hif htl hk hs H3
    go_wp2_with fail
    refine HLS.out.mono ?_
    intro e w4 h4
    rcases h4.way with ⟨r, q, rfl, ha⟩ | ⟨s4, l4, v4, q, rfl, ha, hd, hl4⟩
    · exact ⟨rfl, PRes.err (HZ.out.trans (bind_err q)) rfl ha.1 ha.2⟩
    have HZ := Lib.hid (HZ.out.trans (bind_ok q))
    have HL : Hid (s4.r.length < n ∧ 1 ≤ m) := ⟨by have := Lc.le (Lc.listF (Lc.paramF n) [41] n) q; have := HL.out.1; omega, HL.out.2⟩
    have HK := Lib.hid (HK.out.trans hd (fun _ h => h))
    have HLL : Hid (l4.length ≤ 5000) := hl4
    obtain ⟨va4, vc4, hv4⟩ := ha.val
    obtain ⟨L4, hL4⟩ : ∃ n, l4.length = n := ⟨_, rfl⟩
    rw [hL4] at hv4
    subst hv4
    have HLB := Lib.hid ha
    clear h4 q ha hd hl4 hL4
    have HB := Lib.hid (HBL.out _ (m - 1 - 1 - 1) s4 w4 (by have := HM.out.1; omega) HL.out.1 HLB.out.st)
    go_wp2_with fail
    refine HB.out.mono ?_
    intro e w5 hh5
    rcases hh5.way with ⟨r, q, rfl, ha⟩ | ⟨s5, x5, q, rfl, ha, hd⟩
    · exact ⟨rfl, PRes.err (HZ.out.trans (bind_err q)) rfl ha.1 ha.2⟩
    have HZ := Lib.hid (HZ.out.trans (bind_ok q))
    have HL5 := Lib.hid (HLB.out.step hd ha)
    have HK := Lib.hid (HK.out.trans hd (by intro z hz; simp [hz]))
    unfold nV
    clear hh5 q ha hd HB
    obtain ⟨v', w6, hrun, hls, hka⟩ := HL5.out.app1 x5 (by have := HLL.out; omega)
    have HRUN := Lib.hid hrun
    have HL6 := Lib.hid hls
    have HK := Lib.hid (HK.out.trans hka (fun _ h => h))
    obtain ⟨va, vc, hv'⟩ := hls.val
    obtain ⟨vn, hvn⟩ : ∃ n, (l4 ++ [x5]).length = n := ⟨_, rfl⟩
    rw [hvn] at hv'
    rw [hv'] at HL6 HRUN
    clear hrun hls hka hvn hv'
    have HN := Lib.hid (LsSt.node HL6.out K x2 (by have := HM.out.1; omega))
    go_wp2_with (at_builtin; refine wpList_append_run rfl _ _ 39 rfl _ _ _ rfl rfl HRUN.out ?_)
    refine HN.out.mono ?_
    intro e w9 h9
    obtain ⟨rfl, ha, hd⟩ := h9
    have HF : Hid (PRes c (classy n st K s1) nV A m w (.returned (nV s5.ns.length)) w9) := PRes.ok (HZ.out.trans rfl) rfl (ha.more (by have := HL.out.2; omega)) (HK.out.trans hd (fun _ h => h))
    unfold nV at HF ⊢
    clear ha hd
    go_wp2_with fail
    go_ret
    exact HF.out
  case false =>
    obtain ⟨hif, hk, hs⟩ := H3.out.no2
    have HZ : Hid (classy n st K s1 = (pbind (blockOf n st) fun b => pnode K x2 ([] ++ [b])) s2) := HZ.out.trans (hif _ _ _)
    have HK := Lib.hid (HK.out.trans hk (fun _ h => h))
    have HLB := Lib.hid (LsSt.nil hs)
    have HLL : Hid (([] : List Nat).length ≤ 5000) := by show _ ≤ _; simp
    clear hif hk hs H3
    have HB := Lib.hid (HBL.out _ (m - 1 - 1) s2 w3 (by have := HM.out.1; omega) HL.out.1 HLB.out.st)
    go_wp2_with fail
    refine HB.out.mono ?_
    intro e w5 hh5
    rcases hh5.way with ⟨r, q, rfl, ha⟩ | ⟨s5, x5, q, rfl, ha, hd⟩
    · exact ⟨rfl, PRes.err (HZ.out.trans (bind_err q)) rfl ha.1 ha.2⟩
    have HZ := Lib.hid (HZ.out.trans (bind_ok q))
    have HL5 := Lib.hid (HLB.out.step hd ha)
    have HK := Lib.hid (HK.out.trans hd (by intro z hz; simp [hz]))
    unfold nV
    clear hh5 q ha hd HB
    obtain ⟨v', w6, hrun, hls, hka⟩ := HL5.out.app1 x5 (by have := HLL.out; omega)
    have HRUN := Lib.hid hrun
    have HL6 := Lib.hid hls
    have HK := Lib.hid (HK.out.trans hka (fun _ h => h))
    obtain ⟨va, vc, hv'⟩ := hls.val
    obtain ⟨vn, hvn⟩ : ∃ n, (([] : List Nat) ++ [x5]).length = n := ⟨_, rfl⟩
    rw [hvn] at hv'
    rw [hv'] at HL6 HRUN
    clear hrun hls hka hvn hv'
    have HN := Lib.hid (LsSt.node HL6.out K x2 (by have := HM.out.1; omega))
    go_wp2_with (at_builtin; refine wpList_append_run rfl _ _ 39 rfl _ _ _ rfl rfl HRUN.out ?_)
    refine HN.out.mono ?_
    intro e w9 h9
    obtain ⟨rfl, ha, hd⟩ := h9
    have HF : Hid (PRes c (classy n st K s1) nV A m w (.returned (nV s5.ns.length)) w9) := PRes.ok (HZ.out.trans rfl) rfl (ha.more (by have := HL.out.2; omega)) (HK.out.trans hd (fun _ h => h))
    unfold nV at HF ⊢
    clear ha hd
    go_wp2_with fail
    go_ret
    exact HF.out
set_option maxRecDepth 100000 in
set_option maxHeartbeats 4000000 in
theorem yclass_any (c : PCx) (n : Nat) (st : Prs Nat) (hbl : PC c 153 (blockOf n st) n) (hval : PC c 135 (value n) n) (p : Tok → Bool) (A : List Nat) (m : Nat) (s : PSt) (w : World) (hm : m ≤ 5000) (hr : s.r.length < n + 1) (h : PrSt c A m s w) (hb : tkB p s.r = true) :
    Calls Tryz.prog 139 #[.pointer (some ⟨c.g, 0, none⟩)] w (PRes c (classy n st 2 ⟨s.r.tail, s.ns⟩) nV A m w) := by
  have HD := Lib.hid (ydeclaration_any c n st hbl hval 2 p A m s w hm hr h hb)
  clear hbl hval hm hr h hb
  go_enter Tryz.func139, Tryz.ntmps139
  go_wp2_with fail
  refine HD.out.mono ?_
  intro e w2 h2
  rcases h2.way with ⟨r, q, rfl, ha⟩ | ⟨s2, x2, q, rfl, ha, hd⟩
  · exact ⟨rfl, PRes.err q rfl ha.1 ha.2⟩
  have HF : Hid (PRes c (classy n st 2 ⟨s.r.tail, s.ns⟩) nV A m w (.returned (nV x2)) w2) := PRes.ok q rfl ha hd
  unfold nV at HF ⊢
  clear h2 q ha hd
  go_wp2_with fail
  go_ret
  exact HF.out
set_option maxRecDepth 100000 in
set_option maxHeartbeats 4000000 in
theorem ydefine_any (c : PCx) (n : Nat) (st : Prs Nat) (hbl : PC c 153 (blockOf n st) n) (hval : PC c 135 (value n) n) (p : Tok → Bool) (A : List Nat) (m : Nat) (s : PSt) (w : World) (hm : m ≤ 5000) (hr : s.r.length < n + 1) (h : PrSt c A m s w) (hb : tkB p s.r = true) :
    Calls Tryz.prog 140 #[.pointer (some ⟨c.g, 0, none⟩)] w (PRes c (classy n st 3 ⟨s.r.tail, s.ns⟩) nV A m w) := by
  have HD := Lib.hid (ydeclaration_any c n st hbl hval 3 p A m s w hm hr h hb)
  clear hbl hval hm hr h hb
  go_enter Tryz.func140, Tryz.ntmps140
  go_wp2_with fail
  refine HD.out.mono ?_
  intro e w2 h2
  rcases h2.way with ⟨r, q, rfl, ha⟩ | ⟨s2, x2, q, rfl, ha, hd⟩
  · exact ⟨rfl, PRes.err q rfl ha.1 ha.2⟩
  have HF : Hid (PRes c (classy n st 3 ⟨s.r.tail, s.ns⟩) nV A m w (.returned (nV x2)) w2) := PRes.ok q rfl ha hd
  unfold nV at HF ⊢
  clear h2 q ha hd
  go_wp2_with fail
  go_ret
  exact HF.out
end Go.Proofs.YtfpdgdacifiejaaGreat

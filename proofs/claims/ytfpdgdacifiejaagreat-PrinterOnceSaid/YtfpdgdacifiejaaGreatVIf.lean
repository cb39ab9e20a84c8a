/-
  Layer 12: the program's if, resource and chain.
  Conditions: those that each theorem states.
-/
import Derived.Test.YtfpdgdacifiejaaGreatVStmt
namespace Go.Proofs.YtfpdgdacifiejaaGreat
open Go.RowKit Go.Maps

theorem LsSt.made {c : PCx} {A : List Nat} {m : Nat} {s : PSt} {w : World} (h : PrSt c A m s w) (l : List Nat) (n : Nat) (hn : l.length = n) (hl : n ≤ 100) : LsSt c A m s (w.alloc (.cells (nvA l) 3)) (.slice (some ⟨w.heap.size, 0, none⟩) n n) l :=
  ⟨alloc_box h _, OwnJ.made w l n hn (c.g + 1) h.lt (by omega), fun q hq hh => by
    have hq2 : w.heap.size = q := by injection hq
    have := (h.hA q hh).2
    omega⟩
set_option maxRecDepth 100000 in
set_option maxHeartbeats 4000000 in
theorem ycondition_any (c : PCx) (n : Nat) (st : Prs Nat) (hlst : Lc st) (hbl : PC c 153 (blockOf n st) n) (hval : PC c 135 (value n) n) (p : Tok → Bool) (A : List Nat) (m : Nat) (s : PSt) (w : World) (hm : m ≤ 5000) (hr : s.r.length < n + 1) (h : PrSt c A m s w) (hb : tkB p s.r = true) :
    Calls Tryz.prog 142 #[.pointer (some ⟨c.g, 0, none⟩)] w (PRes c (ifOf n st ⟨s.r.tail, s.ns⟩) nV A m w) := by
  obtain ⟨at', s1, w1, c1, fz, hwr, hw1, hs1, htl, hka, hps, h1m⟩ := h.eat2 hb
  have HK := Lib.hid hka
  have HP := Lib.hid hps
  have HL : Hid (s1.r.length < n ∧ 1 ≤ m) := ⟨by omega, h1m⟩
  have HM := Lib.hid (And.intro hm hr)
  have hmf := noFn
  rw [← hs1]
  clear hs1 htl hka hps h1m hb h hm hr
  have HBL := Lib.hid hbl
  have HVA := Lib.hid hval
  have HLB := Lib.hid (Lc.blockOf n hlst)
  have HZ : Hid (ifOf n st s1 = (pbind (value n) fun v => pbind (blockOf n st) fun b => ifT (isKy [101, 108, 115, 101]) (fun _ => pbind (blockOf n st) fun c => pnode 7 [] [v, b, c]) (pnode 7 [] [v, b])) s1) := by
    show _ = _
    rfl
  clear hbl hval hlst
  go_enter Tryz.func142, Tryz.ntmps142
  go_wp2_with fail
  clear c1 fz hwr hw1
  refine (HVA.out A (m - 1) s1 w1 (by have := HM.out.1; omega) HL.out.1 HP.out).mono ?_
  intro e w2 hh2
  rcases hh2.way with ⟨r, q, rfl, ha⟩ | ⟨s2, x2, q, rfl, ha, hd⟩
  · exact ⟨rfl, PRes.err (HZ.out.trans (bind_err q)) rfl ha.1 ha.2⟩
  have HZ := Lib.hid (HZ.out.trans (bind_ok q))
  have HL : Hid (s2.r.length < n ∧ 1 ≤ m) := ⟨by have h5 := Lc.le (Lc.value n) q; have := HL.out.1; omega, HL.out.2⟩
  have HK := Lib.hid (HK.out.trans hd (fun _ h => h))
  have HP := Lib.hid ha
  clear hh2 q ha hd
  unfold nV
  go_wp2_with fail
  refine (HBL.out A (m - 1) s2 w2 (by have := HM.out.1; omega) HL.out.1 HP.out).mono ?_
  intro e w3 hh3
  rcases hh3.way with ⟨r, q, rfl, ha⟩ | ⟨s3, x3, q, rfl, ha, hd⟩
  · exact ⟨rfl, PRes.err (HZ.out.trans (bind_err q)) rfl ha.1 ha.2⟩
  have HZ := Lib.hid (HZ.out.trans (bind_ok q))
  have HL : Hid (s3.r.length < n ∧ 1 ≤ m) := ⟨by have h5 := Lc.le HLB.out q; have := HL.out.1; omega, HL.out.2⟩
  have HK := Lib.hid (HK.out.trans hd (fun _ h => h))
  have HP := Lib.hid ha
  clear hh3 q ha hd
  unfold nV
  obtain ⟨w4, hw4⟩ : ∃ w, w3.alloc (.cells #[.int .i64 (x2 : Int), .int .i64 (x3 : Int)] 3) = w := ⟨_, rfl⟩
  obtain ⟨lb, hlb⟩ : ∃ b, w3.heap.size = b := ⟨_, rfl⟩
  have HLS : Hid (LsSt c A (m - 1) s3 w4 (.slice (some ⟨lb, 0, none⟩) 2 2) [x2, x3] ∧ Kept [] w3 w4) := by
    rw [← hw4, ← hlb]
    exact ⟨LsSt.made HP.out [x2, x3] 2 rfl (by omega), Kept.alloc _ _ _⟩
  have HK := Lib.hid (HK.out.trans (KA.of HLS.out.2) (fun _ h => h))
  go_wp2_with fail
  clear hw4 hlb
  refine (ytook_any c _ (m - 1) s3 w4 1 [101, 108, 115, 101] (by decide) HLS.out.1.st).mono ?_
  rintro e w5 ⟨b, rfl, H5⟩
  cases b
  case true =>
    obtain ⟨s5, hif, htl, hk, hs⟩ := H5.out.yes2
    have HZ := Lib.hid (HZ.out.trans (hif _ _ _))
    have HL : Hid (s5.r.length < n ∧ 1 ≤ m) := ⟨by have := HL.out.1; omega, HL.out.2⟩
    have HK := Lib.hid (HK.out.trans hk (by intro z hz; simp [hz]))
    have HL5 := Lib.hid (HLS.out.1.step hk hs)
    have HB := Lib.hid (HBL.out _ (m - 1 - 1) s5 w5 (by have := HM.out.1; omega) HL.out.1 HL5.out.st)
    clear hif htl hk hs H5
    go_wp2_with fail
    refine HB.out.mono ?_
    intro e w6 h6
    rcases h6.way with ⟨r, q, rfl, ha⟩ | ⟨s6, x6, q, rfl, ha, hd⟩
    · exact ⟨rfl, PRes.err (HZ.out.trans (bind_err q)) rfl ha.1 ha.2⟩
    have HZ := Lib.hid (HZ.out.trans (bind_ok q))
    have HL6 := Lib.hid (HL5.out.step hd ha)
    have HK := Lib.hid (HK.out.trans hd (by intro z hz; simp [hz]))
    unfold nV
    clear h6 q ha hd HB
    obtain ⟨v', w7, hrun, hls, hka⟩ := LsSt.app1 HL6.out x6 (by simp)
    have HRUN := Lib.hid hrun
    have HL6 := Lib.hid hls
    have HK := Lib.hid (HK.out.trans hka (fun _ h => h))
    obtain ⟨va, vc, hv'⟩ := hls.val
    obtain ⟨vn, hvn⟩ : ∃ n, ([x2, x3] ++ [x6]).length = n := ⟨_, rfl⟩
    rw [hvn] at hv'
    rw [hv'] at HL6 HRUN
    clear hrun hls hka hvn hv'
    have HN := Lib.hid (LsSt.node HL6.out 7 [] (by have := HM.out.1; omega))
    go_wp2_with (at_builtin; refine wpList_append_run rfl _ _ 39 rfl _ _ _ rfl rfl HRUN.out ?_)
    refine HN.out.mono ?_
    intro e w9 h9
    obtain ⟨rfl, ha, hd⟩ := h9
    have HF : Hid (PRes c (ifOf n st s1) nV A m w (.returned (nV s6.ns.length)) w9) := PRes.ok (HZ.out.trans rfl) rfl (ha.more (by have := HL.out.2; omega)) (HK.out.trans hd (fun _ h => h))
    unfold nV at HF ⊢
    clear ha hd
    go_wp2_with fail
    go_ret
    exact HF.out
  case false =>
    obtain ⟨hif, hk, hs⟩ := H5.out.no2
    have HZ := Lib.hid (HZ.out.trans (hif _ _ _))
    have HK := Lib.hid (HK.out.trans hk (by intro z hz; simp [hz]))
    have HL5 := Lib.hid (HLS.out.1.step hk hs)
    have HN := Lib.hid (LsSt.node HL5.out 7 [] (by have := HM.out.1; omega))
    clear hif hk hs H5
    go_wp2_with fail
    refine HN.out.mono ?_
    intro e w9 h9
    obtain ⟨rfl, ha, hd⟩ := h9
    have HF : Hid (PRes c (ifOf n st s1) nV A m w (.returned (nV s3.ns.length)) w9) := PRes.ok (HZ.out.trans rfl) rfl (ha.more (by have := HL.out.2; omega)) (HK.out.trans hd (fun _ h => h))
    unfold nV at HF ⊢
    clear ha hd
    go_wp2_with fail
    go_ret
    exact HF.out
set_option maxRecDepth 100000 in
set_option maxHeartbeats 4000000 in
theorem yresource_any (c : PCx) (n : Nat) (hval : PC c 135 (value n) n) (A : List Nat) (m : Nat) (s : PSt) (w : World) (hm : m ≤ 5000) (hr : s.r.length < n + 1) (h : PrSt c A m s w) :
    Calls Tryz.prog 143 #[.pointer (some ⟨c.g, 0, none⟩)] w (PRes c (resF n s) nV A m w) := by
  have HP := Lib.hid h
  have HM := Lib.hid (And.intro hm hr)
  have HFEW := Lib.hid h.few
  have HVA := Lib.hid hval
  have HPP : Hid (PC c 155 (attrF n) n) := fun A m s w hm hr h => attr_pc c n hval A m s w hm (by omega) h
  have hen := enters_of Tryz.func155 (by kernel_rfl) rfl
  have HEN := Lib.hid (show Enters Tryz.prog 155 from hen)
  have hmf := noFn
  have HZ : Hid (resF n s = (pbind (must isNm) fun t => pbind (must (isSg [123])) fun _ => pbind (value n) fun v => pbind (must (isSg [58])) fun _ => pbind (listF (attrF n) [125] n) fun r => pnode 8 t ([v] ++ r)) s) := by
    show _ = _
    unfold resF
    simp only [resOf_eq]
  clear h hm hr hval hen
  go_enter Tryz.func143, Tryz.ntmps143
  go_wp2_with fail
  refine (yname_any c A m s w HP.out).mono ?_
  intro e w1 h1
  rcases h1.way with ⟨r, q, rfl, ha⟩ | ⟨s1, x1, q, rfl, ha, hd⟩
  · exact ⟨rfl, PRes.err (HZ.out.trans (bind_err q)) rfl ha.1 ha.2⟩
  have HZ := Lib.hid (HZ.out.trans (bind_ok q))
  have HL : Hid (s1.r.length < n ∧ 1 ≤ m) := by
    have h5 := (must_eat q).2.2.2
    have h6 := HFEW.out
    have h7 := HM.out
    exact ⟨by omega, by omega⟩
  have HK := Lib.hid hd
  have HP := Lib.hid ha
  clear h1 q ha hd
  unfold tV
  go_wp2_with fail
  refine (ysign_any c A (m - 1) s1 w1 [123] HP.out).mono ?_
  intro e w2 hh2
  rcases hh2.way with ⟨r, q, rfl, ha⟩ | ⟨s2, x2, q, rfl, ha, hd⟩
  · exact ⟨rfl, PRes.err (HZ.out.trans (bind_err q)) rfl ha.1 ha.2⟩
  have HZ := Lib.hid (HZ.out.trans (bind_ok q))
  have HL : Hid (s2.r.length < n ∧ 1 ≤ m) := ⟨by have h5 := (must_eat q).2.2.2; have := HL.out.1; omega, HL.out.2⟩
  have HK := Lib.hid (HK.out.trans hd (fun _ h => h))
  have HP := Lib.hid ha
  clear hh2 q ha hd
  unfold uV
  go_wp2_with fail
  refine (HVA.out A (m - 1 - 1) s2 w2 (by have := HM.out.1; omega) HL.out.1 HP.out).mono ?_
  intro e w3 hh3
  rcases hh3.way with ⟨r, q, rfl, ha⟩ | ⟨s3, x3, q, rfl, ha, hd⟩
  · exact ⟨rfl, PRes.err (HZ.out.trans (bind_err q)) rfl ha.1 ha.2⟩
  have HZ := Lib.hid (HZ.out.trans (bind_ok q))
  have HL : Hid (s3.r.length < n ∧ 1 ≤ m) := ⟨by have h5 := Lc.le (Lc.value n) q; have := HL.out.1; omega, HL.out.2⟩
  have HK := Lib.hid (HK.out.trans hd (fun _ h => h))
  have HP := Lib.hid ha
  clear hh3 q ha hd
  unfold nV
  go_wp2_with fail
  refine (ysign_any c A (m - 1 - 1) s3 w3 [58] HP.out).mono ?_
  intro e w4 hh4
  rcases hh4.way with ⟨r, q, rfl, ha⟩ | ⟨s4, x4, q, rfl, ha, hd⟩
  · exact ⟨rfl, PRes.err (HZ.out.trans (bind_err q)) rfl ha.1 ha.2⟩
  have HZ := Lib.hid (HZ.out.trans (bind_ok q))
  have HL : Hid (s4.r.length < n ∧ 1 ≤ m) := ⟨by have h5 := (must_eat q).2.2.2; have := HL.out.1; omega, HL.out.2⟩
  have HK := Lib.hid (HK.out.trans hd (fun _ h => h))
  have HP := Lib.hid ha
  clear hh4 q ha hd
  unfold uV
  obtain ⟨w5, hw5⟩ : ∃ w, w4.alloc (.cells #[.int .i64 (x3 : Int)] 3) = w := ⟨_, rfl⟩
  obtain ⟨lb, hlb⟩ : ∃ b, w4.heap.size = b := ⟨_, rfl⟩
  have HLS : Hid (LsSt c A (m - 1 - 1 - 1) s4 w5 (.slice (some ⟨lb, 0, none⟩) 1 1) [x3] ∧ Kept [] w4 w5) := by
    rw [← hw5, ← hlb]
    exact ⟨LsSt.made HP.out [x3] 1 rfl (by omega), Kept.alloc _ _ _⟩
  have HK := Lib.hid (HK.out.trans (KA.of HLS.out.2) (fun _ h => h))
  have HLI := Lib.hid (ylisted_any c n 155 (attrF n) HEN.out HPP.out (Lc.attrF n) (Eats.attrF n) [125] (by decide) _ (m - 1 - 1 - 1) s4 w5 (by have := HM.out.1; omega) HL.out.1 HLS.out.1.st)
  go_wp2_with fail
  clear hw5 hlb
  refine HLI.out.mono ?_
  intro e w6 h6
  rcases h6.way with ⟨r, q, rfl, ha⟩ | ⟨s6, l6, v6, q, rfl, ha, hd, hl6⟩
  · exact ⟨rfl, PRes.err (HZ.out.trans (bind_err q)) rfl ha.1 ha.2⟩
  have HZ := Lib.hid (HZ.out.trans (bind_ok q))
  have HK := Lib.hid (HK.out.trans hd (by intro z hz; simp [hz]))
  have HL6 := Lib.hid (HLS.out.1.step hd (ha.st.less (by intro z hz; exact List.mem_append_right _ hz)))
  obtain ⟨v', w7, hrun, hls, hka⟩ := HL6.out.app ha.own (by simp; omega)
  obtain ⟨va6, vc6, hv6⟩ := ha.val
  rw [hv6] at hrun ⊢
  have HRUN := Lib.hid hrun
  have HK := Lib.hid (HK.out.trans hka (fun _ h => h))
  obtain ⟨va, vc, hv'⟩ := hls.val
  obtain ⟨vn, hvn⟩ : ∃ n, ([x3] ++ l6).length = n := ⟨_, rfl⟩
  obtain ⟨L6, hL6⟩ : ∃ n, l6.length = n := ⟨_, rfl⟩
  rw [hvn] at hv'
  have HL7 := Lib.hid hls
  rw [hv'] at HL7 HRUN
  rw [hL6] at HRUN ⊢
  clear h6 q ha hd hl6 hrun hls hka hvn hv' hv6 hL6 HLI
  have HN := Lib.hid (LsSt.node HL7.out 8 x1 (by have := HM.out.1; omega))
  go_wp2_with (at_builtin; refine wpList_append_run rfl _ _ 39 rfl _ _ _ rfl rfl HRUN.out ?_)
  refine HN.out.mono ?_
  intro e w9 h9
  obtain ⟨rfl, ha, hd⟩ := h9
  have HF : Hid (PRes c (resF n s) nV A m w (.returned (nV s6.ns.length)) w9) := PRes.ok (HZ.out.trans rfl) rfl (ha.more (by have := HL.out.2; omega)) (HK.out.trans hd (fun _ h => h))
  unfold nV at HF ⊢
  clear ha hd
  go_wp2_with fail
  go_ret
  exact HF.out
end Go.Proofs.YtfpdgdacifiejaaGreat

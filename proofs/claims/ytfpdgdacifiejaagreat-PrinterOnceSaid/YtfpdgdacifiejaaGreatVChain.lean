/-
  Layer 12: the program's chain; statements.
  Conditions: those that each theorem states.
-/
import Derived.Test.YtfpdgdacifiejaaGreatVIf
namespace Go.Proofs.YtfpdgdacifiejaaGreat
open Go.RowKit Go.Maps

set_option maxRecDepth 100000 in
set_option maxHeartbeats 4000000 in
theorem ychain_any (c : PCx) (n : Nat) (hval : PC c 135 (value n) n) (A : List Nat) (m : Nat) (s : PSt) (w : World) (hm : m ≤ 5000) (hr : s.r.length < n + 1) (h0 : 0 < n) (h : PrSt c A m s w) :
    Calls Tryz.prog 107 #[.pointer (some ⟨c.g, 0, none⟩)] w (PRes c (chainF n s) nV A m w) := by
  obtain ⟨n0, hn0⟩ : ∃ k, n = k + 1 := ⟨n - 1, by omega⟩
  have HP := Lib.hid h
  have HM := Lib.hid (And.intro hm hr)
  have HFEW := Lib.hid h.few
  have HVA := Lib.hid hval
  have HRF : Hid (∀ A m s w, m ≤ 5000 → s.r.length < n → PrSt c A m s w → Calls Tryz.prog 136 #[.pointer (some ⟨c.g, 0, none⟩)] w (PRes c (refF n s) nV A m w)) := fun A m s w hm hr h => ref_pc c n hval A m s w hm (by omega) h
  have HZ : Hid (chainF n s = (pbind (refF n) fun r => pbind arrowF fun x => pbind (refF n) fun q => chR n n0 [r, x, q]) s) := by
    show _ = _
    unfold chainF
    rw [chain_eq n n0 hn0]
  have HN0 := Lib.hid hn0
  have HR1 := Lib.hid (ref_any c n hval A m s w hm hr h)
  clear h hm hr hval h0 hn0
  go_enter Tryz.func107, Tryz.ntmps107
  go_wp2_with fail
  refine (HR1.out).mono ?_
  intro e w1 hh1
  rcases hh1.way with ⟨r, q, rfl, ha⟩ | ⟨s1, x1, q, rfl, ha, hd⟩
  · exact ⟨rfl, PRes.err (HZ.out.trans (bind_err q)) rfl ha.1 ha.2⟩
  have HZ := Lib.hid (HZ.out.trans (bind_ok q))
  have HL : Hid (s1.r.length < n ∧ 1 ≤ m ∧ s1.r.length < s.r.length) := by
    have h5 := Eats.refF n _ _ _ q
    have h6 := HFEW.out
    have h7 := HM.out
    exact ⟨by omega, by omega, h5⟩
  have HK := Lib.hid hd
  have HP := Lib.hid ha
  clear hh1 q ha hd HR1
  unfold nV
  have HA1 := Lib.hid (arrow_pc c n A (m - 1) s1 w1 (by have := HM.out.1; omega) (by have := HL.out.1; omega) HP.out)
  go_wp2_with fail
  refine (HA1.out).mono ?_
  intro e w2 hh2
  rcases hh2.way with ⟨r, q, rfl, ha⟩ | ⟨s2, x2, q, rfl, ha, hd⟩
  · exact ⟨rfl, PRes.err (HZ.out.trans (bind_err q)) rfl ha.1 ha.2⟩
  have HZ := Lib.hid (HZ.out.trans (bind_ok q))
  have HL : Hid (s2.r.length < n ∧ 1 ≤ m ∧ s2.r.length < s1.r.length ∧ s1.r.length < s.r.length) := by
    have h5 := Eats.arrowF _ _ _ q
    have h7 := HL.out
    exact ⟨by omega, by omega, h5, h7.2.2⟩
  have HK := Lib.hid (HK.out.trans hd (fun _ h => h))
  have HP := Lib.hid ha
  clear hh2 q ha hd HA1
  unfold nV
  go_wp2_with fail
  refine (HRF.out A (m - 1) s2 w2 (by have := HM.out.1; omega) HL.out.1 HP.out).mono ?_
  intro e w3 hh3
  rcases hh3.way with ⟨r, q, rfl, ha⟩ | ⟨s3, x3, q, rfl, ha, hd⟩
  · exact ⟨rfl, PRes.err (HZ.out.trans (bind_err q)) rfl ha.1 ha.2⟩
  have HZ := Lib.hid (HZ.out.trans (bind_ok q))
  have HL : Hid (s3.r.length < n0 ∧ 1 ≤ m) := by
    have h5 := Eats.refF n _ _ _ q
    have h7 := HL.out
    have h8 := HM.out
    have h9 := HN0.out
    exact ⟨by omega, by omega⟩
  have HK := Lib.hid (HK.out.trans hd (fun _ h => h))
  have HP := Lib.hid ha
  clear hh3 q ha hd
  unfold nV
  obtain ⟨w4, hw4⟩ : ∃ w, w3.alloc (.cells #[.int .i64 (x1 : Int), .int .i64 (x2 : Int), .int .i64 (x3 : Int)] 3) = w := ⟨_, rfl⟩
  obtain ⟨lb, hlb⟩ : ∃ b, w3.heap.size = b := ⟨_, rfl⟩
  have H0 : Hid (LsSt c A (m - 1) s3 w4 (.slice (some ⟨lb, 0, none⟩) 3 3) [x1, x2, x3] ∧ s3.r.length < n0 ∧ n0 ≤ n ∧ KA c A w w4 ∧ [x1, x2, x3].length + s3.r.length ≤ 5010 ∧ chainF n s = chR n n0 [x1, x2, x3] s3 ∧ 1 ≤ m) := by
    have hk4 : Kept [] w3 w4 := by rw [← hw4]; exact Kept.alloc _ _ _
    have hfe := HP.out.few
    have hm5 := HM.out.1
    refine ⟨?_, HL.out.1, by have := HN0.out; omega, HK.out.trans (KA.of hk4) (fun _ h => h), by simp; omega, HZ.out, HL.out.2⟩
    rw [← hw4, ← hlb]
    exact LsSt.made HP.out [x1, x2, x3] 3 rfl (by omega)
  go_wp2_with fail
  clear hw4 hlb
  go_loopw [3] (fun v3 wr => ∃ (l : List Nat) (k : Nat) (sk : PSt), Hid (LsSt c A (m - 1) sk wr v3 l ∧ sk.r.length < k ∧ k ≤ n ∧ KA c A w wr ∧ l.length + sk.r.length ≤ 5010 ∧ chainF n s = chR n k l sk ∧ 1 ≤ m)) (fun _ wr => c.l.length - atOf c wr)
  case atStart => exact ⟨_, n0, s3, H0.out⟩
  case round =>
    obtain ⟨l, k, sk, HS⟩ := hrel
    clear H0
    obtain ⟨ao, cap, hv⟩ := HS.out.1.val
    obtain ⟨L, hL⟩ : ∃ L, l.length = L := ⟨_, rfl⟩
    rw [hL] at hv
    subst hv
    clear hL
    obtain ⟨k', rfl⟩ : ∃ k', k = k' + 1 := ⟨k - 1, by have := HS.out.2.1; omega⟩
    have HAT := Lib.hid (yatArrow_any c _ (m - 1) sk wr HS.out.1.st)
    cases hb : tkB isAw sk.r
    case false =>
      rw [hb] at HAT
      have HZ : Hid (chainF n s = pnode 10 [] l sk) := by
        show _ = _
        rw [HS.out.2.2.2.2.2.1]
        unfold chR
        rw [ifT_f hb]
      clear hb
      go_wp2_with fail
      refine HAT.out.mono ?_
      rintro e w5 ⟨rfl, hk5⟩
      have HK := Lib.hid (HS.out.2.2.2.1.trans (KA.of hk5) (fun _ h => h))
      have HL1 := Lib.hid (HS.out.1.step (KA.of hk5) (HS.out.1.st.keep hk5))
      have HL : Hid (True ∧ 1 ≤ m) := ⟨trivial, HS.out.2.2.2.2.2.2⟩
      have HN := Lib.hid (LsSt.node HL1.out 10 [] (by have := HM.out.1; omega))
      clear hk5
      go_wp2_with fail
      refine HN.out.mono ?_
      intro e w9 h9
      obtain ⟨rfl, ha, hd⟩ := h9
      have HF : Hid (PRes c (chainF n s) nV A m w (.returned (nV sk.ns.length)) w9) := PRes.ok (HZ.out.trans rfl) rfl (ha.more (by have := HL.out.2; omega)) (HK.out.trans hd (fun _ h => h))
      unfold nV at HF ⊢
      clear ha hd
      go_wp2_with fail
      go_ret
      exact HF.out
    case true =>
      rw [hb] at HAT
      have HEQ : Hid (chainF n s = (pbind arrowF fun x => pbind (refF n) fun r => chR n k' (l ++ [x, r])) sk) := HS.out.2.2.2.2.2.1.trans (chR_yes hb)
      clear hb
      go_wp2_with fail
      refine HAT.out.mono ?_
      rintro e w5 ⟨rfl, hk5⟩
      have HK1 := Lib.hid (HS.out.2.2.2.1.trans (KA.of hk5) (fun _ h => h))
      have HL1 := Lib.hid (HS.out.1.step (KA.of hk5) (HS.out.1.st.keep hk5))
      have HA1 := Lib.hid (arrow_pc c n _ (m - 1) sk w5 (by have := HM.out.1; omega) (by have := HS.out.2; omega) HL1.out.st)
      clear hk5
      go_wp2_with fail
      refine HA1.out.mono ?_
      intro e w6 h6
      rcases h6.way with ⟨r, q, rfl, ha⟩ | ⟨s6, x6, q, rfl, ha, hd⟩
      · exact ⟨rfl, PRes.err (HEQ.out.trans (bind_err q)) rfl ha.1 ha.2⟩
      have HEQ := Lib.hid (HEQ.out.trans (bind_ok q))
      have HE6 : Hid (s6.r.length < sk.r.length) := Eats.arrowF _ _ _ q
      have HL6 := Lib.hid (HL1.out.step hd ha)
      have HK6 := Lib.hid (HK1.out.trans hd (by intro z hz; simp [hz]))
      unfold nV
      clear h6 q ha hd HA1
      have HR6 := Lib.hid (HRF.out _ (m - 1) s6 w6 (by have := HM.out.1; omega) (by have := HE6.out; have := HS.out.2; omega) HL6.out.st)
      go_wp2_with fail
      refine HR6.out.mono ?_
      intro e w7 h7
      rcases h7.way with ⟨r, q, rfl, ha⟩ | ⟨s7, x7, q, rfl, ha, hd⟩
      · exact ⟨rfl, PRes.err (HEQ.out.trans (bind_err q)) rfl ha.1 ha.2⟩
      have HEQ := Lib.hid (HEQ.out.trans (bind_ok q))
      have HE7 : Hid (s7.r.length < s6.r.length) := Eats.refF n _ _ _ q
      have HL7 := Lib.hid (HL6.out.step hd ha)
      have HK7 := Lib.hid (HK6.out.trans hd (by intro z hz; simp [hz]))
      unfold nV
      clear h7 q ha hd HR6
      obtain ⟨w8, hw8⟩ : ∃ w, w7.alloc (.cells #[.int .i64 (x6 : Int), .int .i64 (x7 : Int)] 3) = w := ⟨_, rfl⟩
      obtain ⟨nb, hnb⟩ : ∃ b, w7.heap.size = b := ⟨_, rfl⟩
      have hk8 : Kept [] w7 w8 := by rw [← hw8]; exact Kept.alloc _ _ _
      have hL8 := HL7.out.step (KA.of hk8) (HL7.out.st.keep hk8)
      have hO8 : OwnJ 0 w8 (.slice (some ⟨nb, 0, none⟩) 2 2) [x6, x7] := by rw [← hw8, ← hnb]; exact OwnJ.made w7 [x6, x7] 2 rfl 0 (by omega) (by omega)
      obtain ⟨v', w9, hrun, hls, hka⟩ := hL8.app hO8 (by have := HS.out.2.2.2.2.1; simp; omega)
      have HRUN := Lib.hid hrun
      have HN : Hid (LsSt c A (m - 1) s7 w9 v' (l ++ [x6, x7]) ∧ KA c A w w9) := ⟨hls, (HK7.out.trans (KA.of hk8) (fun _ h => h)).trans hka (fun _ h => h)⟩
      clear hrun hls hka hk8 hL8 hO8
      go_wp2_with (at_builtin; refine wpList_append_run rfl _ _ 39 rfl _ _ _ rfl rfl HRUN.out ?_)
      go_roundw
      case rel => exact ⟨l ++ [x6, x7], k', s7, HN.out.1, by have := HE7.out; have := HE6.out; have := HS.out.2.1; omega, by have := HS.out.2.2.1; omega, HN.out.2, by have := HE7.out; have := HE6.out; have := HS.out.2.2.2.2.1; simp; omega, HEQ.out, HS.out.2.2.2.2.2.2⟩
      case measure => exact meas_lt HS.out.1.st HN.out.1.st (by have := HE7.out; have := HE6.out; omega)
end Go.Proofs.YtfpdgdacifiejaaGreat

/-
  Layer 12: the program's manifest.
  Conditions: those that each theorem states.
-/
import Derived.Test.YtfpdgdacifiejaaGreatVStat
namespace Go.Proofs.YtfpdgdacifiejaaGreat
open Go.RowKit Go.Maps

theorem top_nil {st : Prs Nat} {k : Nat} {l : List Nat} {s : PSt} (h : s.r = []) : topF st (k + 1) l s = pnode 1 [] l s := by
  obtain ⟨r, ns⟩ := s
  simp only at h
  subst h
  rfl
theorem top_cons {st : Prs Nat} {k : Nat} {l : List Nat} {s : PSt} (h : s.r ≠ []) : topF st (k + 1) l s = (pbind st fun x => topF st k (l ++ [x])) s := topF_cons st k l s.r s.ns h
set_option maxRecDepth 100000 in
set_option maxHeartbeats 4000000 in
theorem ymanifest_any (c : PCx) (A : List Nat) (m : Nat) (s : PSt) (w : World) (hm : m ≤ 4999) (hr : s.r.length < 5000) (h : PrSt c A m s w) :
    Calls Tryz.prog 19 #[.pointer (some ⟨c.g, 0, none⟩)] w (PRes c (topF (stmtF 5000) 5000 [] s) nV A (m + 1) w) := by
  have HM := Lib.hid (And.intro hm hr)
  have HST := Lib.hid (stmt_pc c 5000)
  have HEA := Lib.hid (Eats.stmt 5000)
  have H0 : Hid (LsSt c A m s w (.slice none 0 0) [] ∧ s.r.length < 5000 ∧ 5000 ≤ 5000 ∧ KA c A w w ∧ ([] : List Nat).length + s.r.length ≤ 5000 ∧ topF (stmtF 5000) 5000 [] s = topF (stmtF 5000) 5000 [] s) :=
    ⟨LsSt.nil h, hr, Nat.le_refl _, KA.of (Kept.refl _ _), by simp; omega, rfl⟩
  clear h hm hr
  go_enter Tryz.func19, Tryz.ntmps19
  go_wp2_with fail
  go_loopw [3] (fun v3 wr => ∃ (l : List Nat) (k : Nat) (sk : PSt), Hid (LsSt c A m sk wr v3 l ∧ sk.r.length < k ∧ k ≤ 5000 ∧ KA c A w wr ∧ l.length + sk.r.length ≤ 5000 ∧ topF (stmtF 5000) 5000 [] s = topF (stmtF 5000) k l sk)) (fun _ wr => c.l.length - atOf c wr)
  case atStart => exact ⟨[], 5000, s, H0.out.1, H0.out.2.1, Nat.le_refl _, H0.out.2.2.2.1, H0.out.2.2.2.2.1, rfl⟩
  case round =>
    obtain ⟨l, k, sk, HS⟩ := hrel
    clear H0
    obtain ⟨ao, cap, hv⟩ := HS.out.1.val
    obtain ⟨L, hL⟩ : ∃ L, l.length = L := ⟨_, rfl⟩
    rw [hL] at hv
    subst hv
    clear hL
    obtain ⟨k', rfl⟩ : ∃ k', k = k' + 1 := ⟨k - 1, by have := HS.out.2.1; omega⟩
    obtain ⟨ao2, cap2, hva, _⟩ := HS.out.1.st.tk.val
    have hlen := HS.out.1.st.tk.len
    have hle := HS.out.1.st.le
    obtain ⟨nv, c0, c1, _, _, _, _⟩ := HS.out.1.st.open
    obtain ⟨n, hn⟩ : ∃ n, c.l.length = n := ⟨_, rfl⟩
    obtain ⟨a, ha⟩ : ∃ a, n - sk.r.length = a := ⟨_, rfl⟩
    rw [hva, hn] at c0
    rw [hn, ha] at c1
    have hnn : n ≤ 140737488355328 := by omega
    have HAN : Hid (a = n - sk.r.length ∧ sk.r.length ≤ n) := ⟨ha.symm, by omega⟩
    have han : a ≤ n := by omega
    clear hva hlen hle hn ha
    by_cases hend : a < n
    case neg =>
      have HNI : Hid (sk.r = []) := by
        have h1 := HAN.out
        exact List.eq_nil_of_length_eq_zero (by omega)
      have HZ : Hid (topF (stmtF 5000) 5000 [] s = pnode 1 [] l sk) := by show _ = _; rw [HS.out.2.2.2.2.2]; exact top_nil HNI.out
      have hq : decide (a < n) = false := by simpa using hend
      go_wp2_with fail
      go_quiet (fail)
      generalize hwq : World.drewN _ _ = wq
      have hk2 : Kept [] wr wq := by rw [← hwq]; exact Kept.drewN _ _ _
      have HL1 := Lib.hid (HS.out.1.step (KA.of hk2) (HS.out.1.st.keep hk2))
      have HK1 := Lib.hid (HS.out.2.2.2.1.trans (KA.of hk2) (fun _ h => h))
      have HN := Lib.hid (LsSt.node HL1.out 1 [] (by have := HM.out.1; omega))
      clear c0 c1 hwq hk2 hend hq
      go_wp2_with fail
      refine HN.out.mono ?_
      intro e w9 h9
      obtain ⟨rfl, ha, hd⟩ := h9
      have HF : Hid (PRes c (topF (stmtF 5000) 5000 [] s) nV A (m + 1) w (.returned (nV sk.ns.length)) w9) := PRes.ok (HZ.out.trans rfl) rfl ha (HK1.out.trans hd (fun _ h => h))
      unfold nV at HF ⊢
      clear ha hd
      go_wp2_with fail
      go_ret
      exact HF.out
    have HEQ : Hid (topF (stmtF 5000) 5000 [] s = (pbind (stmtF 5000) fun x => topF (stmtF 5000) k' (l ++ [x])) sk) := by
      show _ = _
      rw [HS.out.2.2.2.2.2]
      refine top_cons (fun hh => ?_)
      have h1 := HAN.out
      rw [hh] at h1
      simp at h1
      omega
    have hq : decide (a < n) = true := by simpa using hend
    go_wp2_with fail
    go_quiet (fail)
    generalize hwq : World.drewN _ _ = wq
    have hk2 : Kept [] wr wq := by rw [← hwq]; exact Kept.drewN _ _ _
    have HL1 := Lib.hid (HS.out.1.step (KA.of hk2) (HS.out.1.st.keep hk2))
    have HK1 := Lib.hid (HS.out.2.2.2.1.trans (KA.of hk2) (fun _ h => h))
    clear c0 c1 hwq hk2 hend hq
    have HC := Lib.hid (HST.out _ m sk wq (by have := HM.out.1; omega) (by have := HS.out; omega) HL1.out.st)
    go_wp2_with fail
    refine HC.out.mono ?_
    intro e w5 h5
    rcases h5.way with ⟨r, q, rfl, ha⟩ | ⟨s3, x, q, rfl, ha, hd⟩
    · exact ⟨rfl, PRes.err (by rw [HEQ.out]; exact bind_err q) rfl ha.1 ha.2⟩
    have HEA2 : Hid (s3.r.length < sk.r.length) := HEA.out _ _ _ q
    have HQ := Lib.hid q
    have HL5 := Lib.hid (HL1.out.step hd ha)
    have HK5 := Lib.hid (HK1.out.trans hd (by intro z hz; simp [hz]))
    unfold nV
    clear h5 q ha hd
    obtain ⟨v', w6, hrun, hls, hka⟩ := HL5.out.app1 x (by have := HS.out.2.2.2.2.1; omega)
    have HRUN := Lib.hid hrun
    have HN : Hid (LsSt c A m s3 w6 v' (l ++ [x]) ∧ KA c A w w6) := ⟨hls, HK5.out.trans hka (fun _ h => h)⟩
    clear hrun hls hka
    go_wp2_with (at_builtin; refine wpList_append_run rfl _ _ 39 rfl _ _ _ rfl rfl HRUN.out ?_)
    go_roundw
    case rel => exact ⟨l ++ [x], k', s3, HN.out.1, by have := HEA2.out; have := HS.out.2.1; omega, by have := HS.out.2.2.1; omega, HN.out.2, by have := HEA2.out; have := HS.out.2.2.2.2.1; simp; omega, HEQ.out.trans (bind_ok HQ.out)⟩
    case measure => exact meas_lt HS.out.1.st HN.out.1.st (by have := HEA2.out; omega)
end Go.Proofs.YtfpdgdacifiejaaGreat

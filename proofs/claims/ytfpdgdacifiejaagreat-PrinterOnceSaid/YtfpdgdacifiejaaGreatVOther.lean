/-
  Layer 12: the plain that begins with a sign or a keyword.
  Conditions: those that each theorem states.
-/
import Derived.Test.YtfpdgdacifiejaaGreatVVal
namespace Go.Proofs.YtfpdgdacifiejaaGreat
open Go.RowKit Go.Maps

theorem TookOut.yes2 {c : PCx} {A : List Nat} {m : Nat} {p : Tok → Bool} {s : PSt} {w w' : World} (h : TookOut c A m p s w true w') :
    ∃ s1 : PSt, (∀ (α : Type) (f : List UInt8 → Prs α) (g : Prs α), ifT p f g s = f (hdT s.r) s1) ∧ s1.r.length + 1 = s.r.length ∧ KA c A w w' ∧ PrSt c A (m - 1) s1 w' := by
  obtain ⟨h1, h2, h3⟩ := h.yes
  exact ⟨⟨s.r.tail, s.ns⟩, fun _ _ _ => ifT_t h1, tail_len h1, h2, h3⟩
theorem TookOut.no2 {c : PCx} {A : List Nat} {m : Nat} {p : Tok → Bool} {s : PSt} {w w' : World} (h : TookOut c A m p s w false w') :
    (∀ (α : Type) (f : List UInt8 → Prs α) (g : Prs α), ifT p f g s = g s) ∧ KA c A w w' ∧ PrSt c A m s w' := by
  obtain ⟨h1, h2, h3⟩ := h.no
  exact ⟨fun _ _ _ => ifT_f h1, h2, h3⟩
set_option maxRecDepth 100000 in
set_option maxHeartbeats 4000000 in
theorem other_pc (c : PCx) (n : Nat) (hpl : PC c 165 (plainF n) n) (hval : PC c 135 (value n) n) (A : List Nat) (m : Nat) (s : PSt) (w : World) (hm : m ≤ 5000) (hr : s.r.length < n + 1) (h : PrSt c A m s w) :
    Calls Tryz.prog 168 #[.pointer (some ⟨c.g, 0, none⟩)] w (PRes c (otherF n s) nV A m w) := by
  have HP := Lib.hid h
  have HM := Lib.hid (And.intro hm hr)
  have HL := Lib.hid hr
  have HK : Hid (KA c A w w) := KA.of (Kept.refl _ _)
  have HZ : Hid (otherF n s = ifT (isSg [33]) (fun _ => pbind (plainF n) fun x => pnode 20 [] [x]) (ifT (isSg [40]) (fun _ => pbind (value n) fun x => pbind (must (isSg [41])) fun _ => prt x) (ifT (isKy [116, 114, 117, 101]) (fun _ => pnode 17 [] []) (ifT (isKy [102, 97, 108, 115, 101]) (fun _ => pnode 18 [] []) pfail))) s) := by show _ = _; rfl
  have hmf := noFn
  have HPL := Lib.hid hpl
  have HVA := Lib.hid hval
  clear h hm hr hpl hval
  go_enter Tryz.func168, Tryz.ntmps168
  go_wp2_with fail
  refine (ytook_any c A m s w 7 [33] (by decide) HP.out).mono ?_
  rintro e w1 ⟨b, rfl, H1⟩
  cases b
  case true =>
    obtain ⟨s1, hif, htl, hk, hs⟩ := H1.out.yes2
    have HZ := Lib.hid (HZ.out.trans (hif _ _ _))
    have HL : Hid (s1.r.length < n ∧ 1 ≤ m) := by
      have h5 := htl
      have h6 := HP.out.few
      have h7 := HL.out
      show _ ∧ _
      constructor <;> omega
    have HK := Lib.hid (HK.out.trans hk (fun _ h => h))
    have HP := Lib.hid hs
    clear hif htl hk hs H1
    go_wp2_with fail
    refine (HPL.out A (m - 1) s1 w1 (by have := HM.out.1; omega) HL.out.1 HP.out).mono ?_
    intro e w2 h2
    rcases h2.way with ⟨r, q2, rfl, ha⟩ | ⟨s2, x2, q2, rfl, ha, hd⟩
    · exact ⟨rfl, PRes.err (HZ.out.trans (bind_err q2)) rfl ha.1 ha.2⟩
    have HZ := Lib.hid (HZ.out.trans (bind_ok q2))
    have HL : Hid (s2.r.length < n ∧ 1 ≤ m) := ⟨Nat.lt_of_le_of_lt (Lc.le (Lc.plain n) q2) HL.out.1, HL.out.2⟩
    have HK := Lib.hid (HK.out.trans hd (fun _ h => h))
    have HP := Lib.hid ha
    clear h2 q2 ha hd
    unfold nV
    go_wp2_with fail
    refine (node1 c A (m - 1) s2 w2 20 [] x2 (by have := HM.out.1; omega) HP.out).mono ?_
    intro e w3 h3
    obtain ⟨rfl, ha, hd⟩ := h3
    have HF : Hid (PRes c (otherF n s) nV A m w (.returned (nV s2.ns.length)) w3) := PRes.ok (HZ.out.trans rfl) rfl (ha.more (by have := HL.out.2; omega)) (HK.out.trans hd (fun _ h => h))
    unfold nV at HF ⊢
    clear ha hd
    go_wp2_with fail
    go_ret
    exact HF.out
  case false =>
    obtain ⟨hif, hk, hs⟩ := H1.out.no2
    have HZ := Lib.hid (HZ.out.trans (hif _ _ _))
    have HK := Lib.hid (HK.out.trans hk (fun _ h => h))
    have HP := Lib.hid hs
    clear hif hk hs H1
    go_wp2_with fail
    refine (ytook_any c A m s w1 7 [40] (by decide) HP.out).mono ?_
    rintro e w4 ⟨b, rfl, H4⟩
    cases b
    case true =>
      obtain ⟨s4, hif, htl, hk, hs⟩ := H4.out.yes2
      have HZ := Lib.hid (HZ.out.trans (hif _ _ _))
      have HL : Hid (s4.r.length < n ∧ 1 ≤ m) := by
        have h5 := htl
        have h6 := HP.out.few
        have h7 := HL.out
        show _ ∧ _
        constructor <;> omega
      have HK := Lib.hid (HK.out.trans hk (fun _ h => h))
      have HP := Lib.hid hs
      clear hif htl hk hs H4
      go_wp2_with fail
      refine (HVA.out A (m - 1) s4 w4 (by have := HM.out.1; omega) HL.out.1 HP.out).mono ?_
      intro e w5 h5
      rcases h5.way with ⟨r, q5, rfl, ha⟩ | ⟨s5, x5, q5, rfl, ha, hd⟩
      · exact ⟨rfl, PRes.err (HZ.out.trans (bind_err q5)) rfl ha.1 ha.2⟩
      have HZ := Lib.hid (HZ.out.trans (bind_ok q5))
      have HL : Hid (s5.r.length < n ∧ 1 ≤ m) := ⟨Nat.lt_of_le_of_lt (Lc.le (Lc.value n) q5) HL.out.1, HL.out.2⟩
      have HK := Lib.hid (HK.out.trans hd (fun _ h => h))
      have HP := Lib.hid ha
      clear h5 q5 ha hd
      unfold nV
      go_wp2_with fail
      refine (ysign_any c A (m - 1) s5 w5 [41] HP.out).mono ?_
      intro e w6 h6
      rcases h6.way with ⟨r, q6, rfl, ha⟩ | ⟨s6, x6, q6, rfl, ha, hd⟩
      · exact ⟨rfl, PRes.err (HZ.out.trans (bind_err q6)) rfl ha.1 ha.2⟩
      have HZ := Lib.hid (HZ.out.trans (bind_ok q6))
      have HL : Hid (s6.r.length < n ∧ 2 ≤ m) := by
        have h5 := (must_eat q6).2.2.2
        have h6 := HP.out.few
        have h7 := HL.out
        show _ ∧ _
        constructor <;> omega
      have HK := Lib.hid (HK.out.trans hd (fun _ h => h))
      have HP := Lib.hid ha
      clear h6 q6 ha hd
      unfold uV
      go_wp2_with fail
      have HF : Hid (PRes c (otherF n s) nV A m w (.returned (nV x5)) w6) := PRes.ok (HZ.out.trans rfl) rfl (HP.out.more (by omega)) HK.out
      unfold nV at HF
      go_ret
      exact HF.out
    case false =>
      obtain ⟨hif, hk, hs⟩ := H4.out.no2
      have HZ := Lib.hid (HZ.out.trans (hif _ _ _))
      have HK := Lib.hid (HK.out.trans hk (fun _ h => h))
      have HP := Lib.hid hs
      clear hif hk hs H4
      go_wp2_with fail
      refine (ytook_any c A m s w4 1 [116, 114, 117, 101] (by decide) HP.out).mono ?_
      rintro e w7 ⟨b, rfl, H7⟩
      cases b
      case true =>
        obtain ⟨s7, hif, htl, hk, hs⟩ := H7.out.yes2
        have HZ := Lib.hid (HZ.out.trans (hif _ _ _))
        have HL : Hid (s7.r.length < n ∧ 1 ≤ m) := by
          have h5 := htl
          have h6 := HP.out.few
          have h7 := HL.out
          show _ ∧ _
          constructor <;> omega
        have HK := Lib.hid (HK.out.trans hk (fun _ h => h))
        have HP := Lib.hid hs
        clear hif htl hk hs H7
        go_wp2_with fail
        refine (node0 c A (m - 1) s7 w7 17 [] (by have := HM.out.1; omega) HP.out).mono ?_
        intro e w8 h8
        obtain ⟨rfl, ha, hd⟩ := h8
        have HF : Hid (PRes c (otherF n s) nV A m w (.returned (nV s7.ns.length)) w8) := PRes.ok (HZ.out.trans rfl) rfl (ha.more (by have := HL.out.2; omega)) (HK.out.trans hd (fun _ h => h))
        unfold nV at HF ⊢
        clear ha hd
        go_wp2_with fail
        go_ret
        exact HF.out
      case false =>
        obtain ⟨hif, hk, hs⟩ := H7.out.no2
        have HZ := Lib.hid (HZ.out.trans (hif _ _ _))
        have HK := Lib.hid (HK.out.trans hk (fun _ h => h))
        have HP := Lib.hid hs
        clear hif hk hs H7
        go_wp2_with fail
        refine (ytook_any c A m s w7 1 [102, 97, 108, 115, 101] (by decide) HP.out).mono ?_
        rintro e w9 ⟨b, rfl, H9⟩
        cases b
        case true =>
          obtain ⟨s9, hif, htl, hk, hs⟩ := H9.out.yes2
          have HZ := Lib.hid (HZ.out.trans (hif _ _ _))
          have HL : Hid (s9.r.length < n ∧ 1 ≤ m) := by
            have h5 := htl
            have h6 := HP.out.few
            have h7 := HL.out
            show _ ∧ _
            constructor <;> omega
          have HK := Lib.hid (HK.out.trans hk (fun _ h => h))
          have HP := Lib.hid hs
          clear hif htl hk hs H9
          go_wp2_with fail
          refine (node0 c A (m - 1) s9 w9 18 [] (by have := HM.out.1; omega) HP.out).mono ?_
          intro e w10 h10
          obtain ⟨rfl, ha, hd⟩ := h10
          have HF : Hid (PRes c (otherF n s) nV A m w (.returned (nV s9.ns.length)) w10) := PRes.ok (HZ.out.trans rfl) rfl (ha.more (by have := HL.out.2; omega)) (HK.out.trans hd (fun _ h => h))
          unfold nV at HF ⊢
          clear ha hd
          go_wp2_with fail
          go_ret
          exact HF.out
        case false =>
          obtain ⟨hif, hk, hs⟩ := H9.out.no2
          have HZ := Lib.hid (HZ.out.trans (hif _ _ _))
          have HK := Lib.hid (HK.out.trans hk (fun _ h => h))
          have HP := Lib.hid hs
          clear hif hk hs H9
          go_wp2_with fail
          refine (yrefuse_any c A m s w9 HP.out).mono ?_
          rintro e wz ⟨rfl, rfl⟩
          exact ⟨rfl, PRes.err (HZ.out.trans rfl) rfl HP.out.kept HP.out.le⟩
end Go.Proofs.YtfpdgdacifiejaaGreat

/-
  Layer 12: the document's parser: statement.
  Conditions: those that each theorem states.
-/
import Derived.Test.YtfpdgdacifiejaaGreatVRChn
namespace Go.Proofs.YtfpdgdacifiejaaGreat
open Go.RowKit Go.Maps

theorem ky_neR {a b : List UInt8} {s : PSt} (h : tkB (isKy a) s.r = true) (hn : a ≠ b) : qtk (isKy b) (.good s) = false := by
  have h1 := ky_txR h
  show tkB (isKy b) s.r = false
  cases h2 : tkB (isKy b) s.r with
  | false => rfl
  | true => exact absurd (h1.symm.trans (ky_txR h2)) hn
set_option maxRecDepth 100000 in
set_option maxHeartbeats 8000000 in
theorem zstatement_qc (c : PCx) (hw : ∀ t ∈ c.l, t.tx.length ≤ 4611686018427387904) (n : Nat) (hval : QC c 85 (value n) n) (hst : QC c 53 (stmtF n) n) : QC c 53 (stmtF (n + 1)) (n + 1) := by
  intro A m q w hm hq h
  have HP := Lib.hid h
  have HM := Lib.hid hm
  have HL := Lib.hid hq
  have HVA := Lib.hid hval
  have HW := Lib.hid hw
  have HBL := Lib.hid (zblock_qc c n hst)
  have HK : Hid (KA c A w w) := KA.of (Kept.refl _ _)
  show Calls _ _ _ _ (QRG c (QR (stmtF (n + 1)) q) nV A m w)
  have HZ : Hid (∀ y q', QR (ifT (isKy [99, 108, 97, 115, 115]) (fun _ => pbind (must isNm) fun t => pbind (params n) fun l => pbind (blockOf n (stmtF n)) fun b => pnode 2 t (l ++ [b])) (ifT (isKy [100, 101, 102, 105, 110, 101]) (fun _ => pbind (must isNm) fun t => pbind (params n) fun l => pbind (blockOf n (stmtF n)) fun b => pnode 3 t (l ++ [b])) (ifT (isKy [105, 110, 99, 108, 117, 100, 101]) (fun _ => pbind (must isNm) fun t => pnode 5 t []) (ifT (isKd 3) (fun t => pbind (must (isSg [61])) fun _ => pbind (value n) fun v => pnode 6 t [v]) (ifT (isKy [105, 102]) (fun _ => pbind (value n) fun v => pbind (blockOf n (stmtF n)) fun b => ifT (isKy [101, 108, 115, 101]) (fun _ => pbind (blockOf n (stmtF n)) fun c => pnode 7 [] [v, b, c]) (pnode 7 [] [v, b])) (ifT isNm (fun t => resOf n t) (ifT (isKd 2) (fun t => chain n t) pfail))))))) q y q' → QR (stmtF (n + 1)) q y q') := fun _ _ h => h
  generalize QR (stmtF (n + 1)) q = G at HZ ⊢
  clear h hm hq hval hst hw
  go_enter Tryz.func53, Tryz.ntmps53
  go_wp2_with fail
  refine (zkey_any c _ m q w [99, 108, 97, 115, 115] (by decide) HP.out).mono ?_
  rintro e w1 ⟨rfl, hk⟩
  have HP := Lib.hid (HP.out.keep hk)
  have HK := Lib.hid (HK.out.trans (KA.of hk) (fun _ h => h))
  clear hk
  obtain ⟨b, hb⟩ : ∃ b, qtk (isKy [99, 108, 97, 115, 115]) q = b := ⟨_, rfl⟩
  rw [hb]
  cases b
  case true =>
    obtain ⟨s, rfl, hs⟩ := qtk_good hb
    have HD := Lib.hid (zkey_any c _ m (.good s) w1 [100, 101, 102, 105, 110, 101] (by decide) HP.out)
    rw [show qtk (isKy [100, 101, 102, 105, 110, 101]) (.good s) = false from ky_neR hs (by decide)] at HD
    go_wp2_with fail
    refine HD.out.mono ?_
    rintro e w2 ⟨rfl, hk⟩
    have HP := Lib.hid (HP.out.keep hk)
    have HK := Lib.hid (HK.out.trans (KA.of hk) (fun _ h => h))
    clear hk
    have HZ := Lib.hid (fun (y : _) (q' : QSt) (h : QR _ _ y q') => HZ.out y q' (QR.ifT_t hs h))
    have HT := Lib.hid (ztake_any c _ m s w2 (tk_neR hs) HP.out)
    have HL : Hid ((QSt.good ⟨s.r.tail, s.ns⟩).n < n ∧ 1 ≤ m) := by
      have h1 := tk_lenR hs
      have h2 := HL.out
      have h3 := HP.out.pos hs
      refine ⟨?_, h3⟩
      show s.r.tail.length < n
      have h4 : (QSt.good s).n = s.r.length := rfl
      omega
    have HG : Hid (∀ s', QSt.good ⟨s.r.tail, s.ns⟩ = .good s' → 1 ≤ m) := fun _ _ => by have := HL.out.2; omega
    have HL := Lib.hid HL.out.1
    clear hs hb
    go_wp2_with fail
    refine HT.out.mono ?_
    rintro e w3 ⟨rfl, HT⟩
    have HP := Lib.hid HT.out.1
    have HK := Lib.hid (HK.out.trans HT.out.2 (fun _ h => h))
    clear HT
    unfold tV
    obtain ⟨t5, htx⟩ : ∃ t, hdT s.r = t := ⟨_, rfl⟩
    obtain ⟨q4, hq1⟩ : ∃ q1, QSt.good ⟨s.r.tail, s.ns⟩ = q1 := ⟨_, rfl⟩
    try rw [htx] at HZ
    try rw [htx]
    rw [hq1] at HZ HP HL HG
    clear htx hq1
    go_wp2_with fail
    refine (zname_any c _ (m - 1) q4 w3 HP.out).mono ?_
    rintro e w6 ⟨rfl, hk⟩
    have HP := Lib.hid (HP.out.keep hk)
    have HK := Lib.hid (HK.out.trans (KA.of hk) (fun _ h => h))
    clear hk
    go_wp2_with fail
    refine (zmust_any c _ (m - 1) q4 w6 (isNm) HP.out).mono ?_
    rintro e w7 ⟨x9, q8, rfl, H⟩
    have HZ := Lib.hid (fun (y : _) (q' : QSt) (h : QR _ _ y q') => HZ.out y q' (QR.bind H.out.1 h))
    have HL := Lib.hid (Nat.lt_of_le_of_lt (QR.le (Lc.must _) H.out.1) HL.out)
    have HG := Lib.hid (QR.keep1 H.out.1 HG.out)
    have HP := Lib.hid H.out.2.1
    have HK := Lib.hid (HK.out.trans H.out.2.2 (fun _ h => h))
    clear H
    unfold tV
    go_wp2_with fail
    refine (zparams_any c n HVA.out _ ((m - 1) - 1) q8 w7 (by have := HM.out; omega) HL.out HP.out).mono ?_
    rintro e w10 ⟨v, l12, q11, rfl, H⟩
    have HZ := Lib.hid (fun (y : _) (q' : QSt) (h : QR _ _ y q') => HZ.out y q' (QR.bind H.out.1 h))
    have HL := Lib.hid (Nat.lt_of_le_of_lt (QR.le (Lc.params n) H.out.1) HL.out)
    have HG := Lib.hid (QR.keep1 H.out.1 HG.out)
    obtain ⟨ao, cap, hv⟩ := H.out.2.1.val
    obtain ⟨LN, hLN⟩ : ∃ L, l12.length = L := ⟨_, rfl⟩
    rw [hLN] at hv
    subst hv
    have HLN := Lib.hid hLN
    have HQ := Lib.hid H.out.2.1
    have HK := Lib.hid (HK.out.trans H.out.2.2.1 (fun _ h => h))
    have HLE := Lib.hid H.out.2.2.2
    clear H hLN
    go_wp2_with fail
    refine (HBL.out _ ((m - 1) - 1) q11 w10 (by have := HM.out; omega) HL.out HQ.out.st).mono ?_
    rintro e w13 ⟨x15, q14, rfl, H⟩
    have HZ := Lib.hid (fun (y : _) (q' : QSt) (h : QR _ _ y q') => HZ.out y q' (QR.bind H.out.1 h))
    have HL := Lib.hid (Nat.lt_of_le_of_lt (QR.le (Lc.blockOf n (Lc.stmt n)) H.out.1) HL.out)
    have HG := Lib.hid (QR.keep1 H.out.1 HG.out)
    have HQ := Lib.hid (HQ.out.step H.out.2.2 H.out.2.1)
    have HK := Lib.hid (HK.out.trans H.out.2.2 (by intro z hz; simp [hz]))
    clear H
    unfold nV
    obtain ⟨v17, w16, hrun, hls, hka⟩ := HQ.out.app1 x15 (by have := HLE.out; omega)
    obtain ⟨ao, cap, hv⟩ := hls.val
    obtain ⟨LN, hLN⟩ : ∃ L, (l12 ++ [x15]).length = L := ⟨_, rfl⟩
    rw [hLN] at hv
    subst hv
    have HRUN := Lib.hid hrun
    have HQ := Lib.hid hls
    have HLN := Lib.hid hLN
    have HK := Lib.hid (HK.out.trans hka (fun _ h => h))
    clear hrun hls hka hLN
    go_wp2_with (at_builtin; refine wpList_append_run rfl _ _ 39 rfl _ _ _ rfl rfl HRUN.out ?_)
    refine (HQ.out.node 2 x9 (by have := HM.out; omega)).mono ?_
    rintro e w18 ⟨y, q', rfl, H⟩
    have HF := Lib.hid (And.intro (HZ.out _ _ H.out.1) (And.intro (H.out.2.1.more (n := m) (fun s e => by have := QR.keep1 H.out.1 HG.out s e; omega)) (HK.out.trans H.out.2.2 (by intro z hz; simp [hz]))))
    clear H
    unfold nV
    go_wp2_with fail
    go_ret
    exact ⟨y, q', rfl, HF.out⟩
  case false =>
    have HZ := Lib.hid (fun (y : _) (q' : QSt) (h : QR _ _ y q') => HZ.out y q' (QR.ifT_f hb h))
    clear hb
    go_wp2_with fail
    refine (zkey_any c _ m q w1 [100, 101, 102, 105, 110, 101] (by decide) HP.out).mono ?_
    rintro e w19 ⟨rfl, hk⟩
    have HP := Lib.hid (HP.out.keep hk)
    have HK := Lib.hid (HK.out.trans (KA.of hk) (fun _ h => h))
    clear hk
    obtain ⟨b, hb⟩ : ∃ b, qtk (isKy [100, 101, 102, 105, 110, 101]) q = b := ⟨_, rfl⟩
    rw [hb]
    cases b
    case true =>
      obtain ⟨s, rfl, hs⟩ := qtk_good hb
      have HD := Lib.hid (zkey_any c _ m (.good s) w19 [100, 101, 102, 105, 110, 101] (by decide) HP.out)
      rw [show qtk (isKy [100, 101, 102, 105, 110, 101]) (.good s) = true from hs] at HD
      go_wp2_with fail
      refine HD.out.mono ?_
      rintro e w20 ⟨rfl, hk⟩
      have HP := Lib.hid (HP.out.keep hk)
      have HK := Lib.hid (HK.out.trans (KA.of hk) (fun _ h => h))
      clear hk
      have HZ := Lib.hid (fun (y : _) (q' : QSt) (h : QR _ _ y q') => HZ.out y q' (QR.ifT_t hs h))
      have HT := Lib.hid (ztake_any c _ m s w20 (tk_neR hs) HP.out)
      have HL : Hid ((QSt.good ⟨s.r.tail, s.ns⟩).n < n ∧ 1 ≤ m) := by
        have h1 := tk_lenR hs
        have h2 := HL.out
        have h3 := HP.out.pos hs
        refine ⟨?_, h3⟩
        show s.r.tail.length < n
        have h4 : (QSt.good s).n = s.r.length := rfl
        omega
      have HG : Hid (∀ s', QSt.good ⟨s.r.tail, s.ns⟩ = .good s' → 1 ≤ m) := fun _ _ => by have := HL.out.2; omega
      have HL := Lib.hid HL.out.1
      clear hs hb
      go_wp2_with fail
      refine HT.out.mono ?_
      rintro e w21 ⟨rfl, HT⟩
      have HP := Lib.hid HT.out.1
      have HK := Lib.hid (HK.out.trans HT.out.2 (fun _ h => h))
      clear HT
      unfold tV
      obtain ⟨t23, htx⟩ : ∃ t, hdT s.r = t := ⟨_, rfl⟩
      obtain ⟨q22, hq1⟩ : ∃ q1, QSt.good ⟨s.r.tail, s.ns⟩ = q1 := ⟨_, rfl⟩
      try rw [htx] at HZ
      try rw [htx]
      rw [hq1] at HZ HP HL HG
      clear htx hq1
      go_wp2_with fail
      refine (zname_any c _ (m - 1) q22 w21 HP.out).mono ?_
      rintro e w24 ⟨rfl, hk⟩
      have HP := Lib.hid (HP.out.keep hk)
      have HK := Lib.hid (HK.out.trans (KA.of hk) (fun _ h => h))
      clear hk
      go_wp2_with fail
      refine (zmust_any c _ (m - 1) q22 w24 (isNm) HP.out).mono ?_
      rintro e w25 ⟨x27, q26, rfl, H⟩
      have HZ := Lib.hid (fun (y : _) (q' : QSt) (h : QR _ _ y q') => HZ.out y q' (QR.bind H.out.1 h))
      have HL := Lib.hid (Nat.lt_of_le_of_lt (QR.le (Lc.must _) H.out.1) HL.out)
      have HG := Lib.hid (QR.keep1 H.out.1 HG.out)
      have HP := Lib.hid H.out.2.1
      have HK := Lib.hid (HK.out.trans H.out.2.2 (fun _ h => h))
      clear H
      unfold tV
      go_wp2_with fail
      refine (zparams_any c n HVA.out _ ((m - 1) - 1) q26 w25 (by have := HM.out; omega) HL.out HP.out).mono ?_
      rintro e w28 ⟨v, l30, q29, rfl, H⟩
      have HZ := Lib.hid (fun (y : _) (q' : QSt) (h : QR _ _ y q') => HZ.out y q' (QR.bind H.out.1 h))
      have HL := Lib.hid (Nat.lt_of_le_of_lt (QR.le (Lc.params n) H.out.1) HL.out)
      have HG := Lib.hid (QR.keep1 H.out.1 HG.out)
      obtain ⟨ao, cap, hv⟩ := H.out.2.1.val
      obtain ⟨LN, hLN⟩ : ∃ L, l30.length = L := ⟨_, rfl⟩
      rw [hLN] at hv
      subst hv
      have HLN := Lib.hid hLN
      have HQ := Lib.hid H.out.2.1
      have HK := Lib.hid (HK.out.trans H.out.2.2.1 (fun _ h => h))
      have HLE := Lib.hid H.out.2.2.2
      clear H hLN
      go_wp2_with fail
      refine (HBL.out _ ((m - 1) - 1) q29 w28 (by have := HM.out; omega) HL.out HQ.out.st).mono ?_
      rintro e w31 ⟨x33, q32, rfl, H⟩
      have HZ := Lib.hid (fun (y : _) (q' : QSt) (h : QR _ _ y q') => HZ.out y q' (QR.bind H.out.1 h))
      have HL := Lib.hid (Nat.lt_of_le_of_lt (QR.le (Lc.blockOf n (Lc.stmt n)) H.out.1) HL.out)
      have HG := Lib.hid (QR.keep1 H.out.1 HG.out)
      have HQ := Lib.hid (HQ.out.step H.out.2.2 H.out.2.1)
      have HK := Lib.hid (HK.out.trans H.out.2.2 (by intro z hz; simp [hz]))
      clear H
      unfold nV
      obtain ⟨v35, w34, hrun, hls, hka⟩ := HQ.out.app1 x33 (by have := HLE.out; omega)
      obtain ⟨ao, cap, hv⟩ := hls.val
      obtain ⟨LN, hLN⟩ : ∃ L, (l30 ++ [x33]).length = L := ⟨_, rfl⟩
      rw [hLN] at hv
      subst hv
      have HRUN := Lib.hid hrun
      have HQ := Lib.hid hls
      have HLN := Lib.hid hLN
      have HK := Lib.hid (HK.out.trans hka (fun _ h => h))
      clear hrun hls hka hLN
      go_wp2_with (at_builtin; refine wpList_append_run rfl _ _ 39 rfl _ _ _ rfl rfl HRUN.out ?_)
      refine (HQ.out.node 3 x27 (by have := HM.out; omega)).mono ?_
      rintro e w36 ⟨y, q', rfl, H⟩
      have HF := Lib.hid (And.intro (HZ.out _ _ H.out.1) (And.intro (H.out.2.1.more (n := m) (fun s e => by have := QR.keep1 H.out.1 HG.out s e; omega)) (HK.out.trans H.out.2.2 (by intro z hz; simp [hz]))))
      clear H
      unfold nV
      go_wp2_with fail
      go_ret
      exact ⟨y, q', rfl, HF.out⟩
    case false =>
      have HZ := Lib.hid (fun (y : _) (q' : QSt) (h : QR _ _ y q') => HZ.out y q' (QR.ifT_f hb h))
      clear hb
      go_wp2_with fail
      refine (zkey_any c _ m q w19 [105, 110, 99, 108, 117, 100, 101] (by decide) HP.out).mono ?_
      rintro e w37 ⟨rfl, hk⟩
      have HP := Lib.hid (HP.out.keep hk)
      have HK := Lib.hid (HK.out.trans (KA.of hk) (fun _ h => h))
      clear hk
      obtain ⟨b, hb⟩ : ∃ b, qtk (isKy [105, 110, 99, 108, 117, 100, 101]) q = b := ⟨_, rfl⟩
      rw [hb]
      cases b
      case true =>
        obtain ⟨s, rfl, hs⟩ := qtk_good hb
        have HZ := Lib.hid (fun (y : _) (q' : QSt) (h : QR _ _ y q') => HZ.out y q' (QR.ifT_t hs h))
        have HT := Lib.hid (ztake_any c _ m s w37 (tk_neR hs) HP.out)
        have HL : Hid ((QSt.good ⟨s.r.tail, s.ns⟩).n < n ∧ 1 ≤ m) := by
          have h1 := tk_lenR hs
          have h2 := HL.out
          have h3 := HP.out.pos hs
          refine ⟨?_, h3⟩
          show s.r.tail.length < n
          have h4 : (QSt.good s).n = s.r.length := rfl
          omega
        have HG : Hid (∀ s', QSt.good ⟨s.r.tail, s.ns⟩ = .good s' → 1 ≤ m) := fun _ _ => by have := HL.out.2; omega
        have HL := Lib.hid HL.out.1
        clear hs hb
        go_wp2_with fail
        refine HT.out.mono ?_
        rintro e w38 ⟨rfl, HT⟩
        have HP := Lib.hid HT.out.1
        have HK := Lib.hid (HK.out.trans HT.out.2 (fun _ h => h))
        clear HT
        unfold tV
        obtain ⟨t40, htx⟩ : ∃ t, hdT s.r = t := ⟨_, rfl⟩
        obtain ⟨q39, hq1⟩ : ∃ q1, QSt.good ⟨s.r.tail, s.ns⟩ = q1 := ⟨_, rfl⟩
        try rw [htx] at HZ
        try rw [htx]
        rw [hq1] at HZ HP HL HG
        clear htx hq1
        go_wp2_with fail
        refine (zname_any c _ (m - 1) q39 w38 HP.out).mono ?_
        rintro e w41 ⟨rfl, hk⟩
        have HP := Lib.hid (HP.out.keep hk)
        have HK := Lib.hid (HK.out.trans (KA.of hk) (fun _ h => h))
        clear hk
        go_wp2_with fail
        refine (zmust_any c _ (m - 1) q39 w41 (isNm) HP.out).mono ?_
        rintro e w42 ⟨x44, q43, rfl, H⟩
        have HZ := Lib.hid (fun (y : _) (q' : QSt) (h : QR _ _ y q') => HZ.out y q' (QR.bind H.out.1 h))
        have HL := Lib.hid (Nat.lt_of_le_of_lt (QR.le (Lc.must _) H.out.1) HL.out)
        have HG := Lib.hid (QR.keep1 H.out.1 HG.out)
        have HP := Lib.hid H.out.2.1
        have HK := Lib.hid (HK.out.trans H.out.2.2 (fun _ h => h))
        clear H
        unfold tV
        go_wp2_with fail
        refine (rnode0 c A ((m - 1) - 1) q43 w42 5 x44 (by have := HM.out; omega) HP.out).mono ?_
        rintro e w45 ⟨y, q', rfl, H⟩
        have HF := Lib.hid (And.intro (HZ.out _ _ H.out.1) (And.intro (H.out.2.1.more (n := m) (fun s e => by have := QR.keep1 H.out.1 HG.out s e; omega)) (HK.out.trans H.out.2.2 (fun _ h => h))))
        clear H
        unfold nV
        go_wp2_with fail
        go_ret
        exact ⟨y, q', rfl, HF.out⟩
      case false =>
        have HZ := Lib.hid (fun (y : _) (q' : QSt) (h : QR _ _ y q') => HZ.out y q' (QR.ifT_f hb h))
        clear hb
        go_wp2_with fail
        refine (zkd_any c _ m q w37 3 HP.out).mono ?_
        rintro e w46 ⟨rfl, hk⟩
        have HP := Lib.hid (HP.out.keep hk)
        have HK := Lib.hid (HK.out.trans (KA.of hk) (fun _ h => h))
        clear hk
        obtain ⟨b, hb⟩ : ∃ b, qtk (isKd 3) q = b := ⟨_, rfl⟩
        rw [hb]
        cases b
        case true =>
          obtain ⟨s, rfl, hs⟩ := qtk_good hb
          have HZ := Lib.hid (fun (y : _) (q' : QSt) (h : QR _ _ y q') => HZ.out y q' (QR.ifT_t hs h))
          have HT := Lib.hid (ztake_any c _ m s w46 (tk_neR hs) HP.out)
          have HL : Hid ((QSt.good ⟨s.r.tail, s.ns⟩).n < n ∧ 1 ≤ m) := by
            have h1 := tk_lenR hs
            have h2 := HL.out
            have h3 := HP.out.pos hs
            refine ⟨?_, h3⟩
            show s.r.tail.length < n
            have h4 : (QSt.good s).n = s.r.length := rfl
            omega
          have HG : Hid (∀ s', QSt.good ⟨s.r.tail, s.ns⟩ = .good s' → 1 ≤ m) := fun _ _ => by have := HL.out.2; omega
          have HL := Lib.hid HL.out.1
          clear hs hb
          go_wp2_with fail
          refine HT.out.mono ?_
          rintro e w47 ⟨rfl, HT⟩
          have HP := Lib.hid HT.out.1
          have HK := Lib.hid (HK.out.trans HT.out.2 (fun _ h => h))
          clear HT
          unfold tV
          obtain ⟨t49, htx⟩ : ∃ t, hdT s.r = t := ⟨_, rfl⟩
          obtain ⟨q48, hq1⟩ : ∃ q1, QSt.good ⟨s.r.tail, s.ns⟩ = q1 := ⟨_, rfl⟩
          try rw [htx] at HZ
          try rw [htx]
          rw [hq1] at HZ HP HL HG
          clear htx hq1
          go_wp2_with fail
          refine (zsign_any c _ (m - 1) q48 w47 [61] (by decide) HP.out).mono ?_
          rintro e w50 ⟨rfl, hk⟩
          have HP := Lib.hid (HP.out.keep hk)
          have HK := Lib.hid (HK.out.trans (KA.of hk) (fun _ h => h))
          clear hk
          go_wp2_with fail
          refine (zmust_any c _ (m - 1) q48 w50 (isSg [61]) HP.out).mono ?_
          rintro e w51 ⟨x53, q52, rfl, H⟩
          have HZ := Lib.hid (fun (y : _) (q' : QSt) (h : QR _ _ y q') => HZ.out y q' (QR.bind H.out.1 h))
          have HL := Lib.hid (Nat.lt_of_le_of_lt (QR.le (Lc.must _) H.out.1) HL.out)
          have HG := Lib.hid (QR.keep1 H.out.1 HG.out)
          have HP := Lib.hid H.out.2.1
          have HK := Lib.hid (HK.out.trans H.out.2.2 (fun _ h => h))
          clear H
          unfold tV
          go_wp2_with fail
          refine (HVA.out _ ((m - 1) - 1) q52 w51 (by have := HM.out; omega) HL.out HP.out).mono ?_
          rintro e w54 ⟨x56, q55, rfl, H⟩
          have HZ := Lib.hid (fun (y : _) (q' : QSt) (h : QR _ _ y q') => HZ.out y q' (QR.bind H.out.1 h))
          have HL := Lib.hid (Nat.lt_of_le_of_lt (QR.le (Lc.value n) H.out.1) HL.out)
          have HG := Lib.hid (QR.keep1 H.out.1 HG.out)
          have HP := Lib.hid H.out.2.1
          have HK := Lib.hid (HK.out.trans H.out.2.2 (fun _ h => h))
          clear H
          unfold nV
          go_wp2_with fail
          refine (rnode1 c A ((m - 1) - 1) q55 w54 6 t49 x56 (by have := HM.out; omega) HP.out).mono ?_
          rintro e w57 ⟨y, q', rfl, H⟩
          have HF := Lib.hid (And.intro (HZ.out _ _ H.out.1) (And.intro (H.out.2.1.more (n := m) (fun s e => by have := QR.keep1 H.out.1 HG.out s e; omega)) (HK.out.trans H.out.2.2 (fun _ h => h))))
          clear H
          unfold nV
          go_wp2_with fail
          go_ret
          exact ⟨y, q', rfl, HF.out⟩
        case false =>
          have HZ := Lib.hid (fun (y : _) (q' : QSt) (h : QR _ _ y q') => HZ.out y q' (QR.ifT_f hb h))
          clear hb
          go_wp2_with fail
          refine (zkey_any c _ m q w46 [105, 102] (by decide) HP.out).mono ?_
          rintro e w58 ⟨rfl, hk⟩
          have HP := Lib.hid (HP.out.keep hk)
          have HK := Lib.hid (HK.out.trans (KA.of hk) (fun _ h => h))
          clear hk
          obtain ⟨b, hb⟩ : ∃ b, qtk (isKy [105, 102]) q = b := ⟨_, rfl⟩
          rw [hb]
          cases b
          case true =>
            obtain ⟨s, rfl, hs⟩ := qtk_good hb
            have HZ := Lib.hid (fun (y : _) (q' : QSt) (h : QR _ _ y q') => HZ.out y q' (QR.ifT_t hs h))
            have HT := Lib.hid (ztake_any c _ m s w58 (tk_neR hs) HP.out)
            have HL : Hid ((QSt.good ⟨s.r.tail, s.ns⟩).n < n ∧ 1 ≤ m) := by
              have h1 := tk_lenR hs
              have h2 := HL.out
              have h3 := HP.out.pos hs
              refine ⟨?_, h3⟩
              show s.r.tail.length < n
              have h4 : (QSt.good s).n = s.r.length := rfl
              omega
            have HG : Hid (∀ s', QSt.good ⟨s.r.tail, s.ns⟩ = .good s' → 1 ≤ m) := fun _ _ => by have := HL.out.2; omega
            have HL := Lib.hid HL.out.1
            clear hs hb
            go_wp2_with fail
            refine HT.out.mono ?_
            rintro e w59 ⟨rfl, HT⟩
            have HP := Lib.hid HT.out.1
            have HK := Lib.hid (HK.out.trans HT.out.2 (fun _ h => h))
            clear HT
            unfold tV
            obtain ⟨t61, htx⟩ : ∃ t, hdT s.r = t := ⟨_, rfl⟩
            obtain ⟨q60, hq1⟩ : ∃ q1, QSt.good ⟨s.r.tail, s.ns⟩ = q1 := ⟨_, rfl⟩
            try rw [htx] at HZ
            try rw [htx]
            rw [hq1] at HZ HP HL HG
            clear htx hq1
            go_wp2_with fail
            refine (HVA.out _ (m - 1) q60 w59 (by have := HM.out; omega) HL.out HP.out).mono ?_
            rintro e w62 ⟨x64, q63, rfl, H⟩
            have HZ := Lib.hid (fun (y : _) (q' : QSt) (h : QR _ _ y q') => HZ.out y q' (QR.bind H.out.1 h))
            have HL := Lib.hid (Nat.lt_of_le_of_lt (QR.le (Lc.value n) H.out.1) HL.out)
            have HG := Lib.hid (QR.keep1 H.out.1 HG.out)
            have HP := Lib.hid H.out.2.1
            have HK := Lib.hid (HK.out.trans H.out.2.2 (fun _ h => h))
            clear H
            unfold nV
            have HQ := Lib.hid (LQ.one HP.out x64)
            have HK : Hid (KA c A _ (w62.alloc (.cells #[.int .i64 (x64 : Int)] 3))) := HK.out.trans (KA.of (Kept.alloc _ _ _)) (fun _ h => h)
            obtain ⟨w65, hw1⟩ : ∃ ww, w62.alloc (.cells #[.int .i64 (x64 : Int)] 3) = ww := ⟨_, rfl⟩
            obtain ⟨lb66, hlb⟩ : ∃ b, w62.heap.size = b := ⟨_, rfl⟩
            obtain ⟨LN, hLN⟩ : ∃ L, [x64].length = L := ⟨_, rfl⟩
            rw [hw1, hlb] at HQ
            rw [hw1] at HK
            go_wp2_with fail
            clear hw1 hlb hLN
            refine (HBL.out _ (m - 1) q63 w65 (by have := HM.out; omega) HL.out HQ.out.st).mono ?_
            rintro e w67 ⟨x69, q68, rfl, H⟩
            have HZ := Lib.hid (fun (y : _) (q' : QSt) (h : QR _ _ y q') => HZ.out y q' (QR.bind H.out.1 h))
            have HL := Lib.hid (Nat.lt_of_le_of_lt (QR.le (Lc.blockOf n (Lc.stmt n)) H.out.1) HL.out)
            have HG := Lib.hid (QR.keep1 H.out.1 HG.out)
            have HQ := Lib.hid (HQ.out.step H.out.2.2 H.out.2.1)
            have HK := Lib.hid (HK.out.trans H.out.2.2 (by intro z hz; simp [hz]))
            clear H
            unfold nV
            obtain ⟨v71, w70, hrun, hls, hka⟩ := HQ.out.app1 x69 (by simp)
            obtain ⟨ao, cap, hv⟩ := hls.val
            obtain ⟨LN, hLN⟩ : ∃ L, ([x64] ++ [x69]).length = L := ⟨_, rfl⟩
            rw [hLN] at hv
            subst hv
            have HRUN := Lib.hid hrun
            have HQ := Lib.hid hls
            have HLN := Lib.hid hLN
            have HK := Lib.hid (HK.out.trans hka (fun _ h => h))
            clear hrun hls hka hLN
            go_wp2_with (at_builtin; refine wpList_append_run rfl _ _ 39 rfl _ _ _ rfl rfl HRUN.out ?_)
            refine (zkey_any c _ (m - 1) q68 w70 [101, 108, 115, 101] (by decide) HQ.out.st).mono ?_
            rintro e w72 ⟨rfl, hk⟩
            have HQ := Lib.hid (HQ.out.keep hk)
            have HK := Lib.hid (HK.out.trans (KA.of hk) (fun _ h => h))
            clear hk
            obtain ⟨b, hb⟩ : ∃ b, qtk (isKy [101, 108, 115, 101]) q68 = b := ⟨_, rfl⟩
            rw [hb]
            cases b
            case true =>
              obtain ⟨s, rfl, hs⟩ := qtk_good hb
              have HZ := Lib.hid (fun (y : _) (q' : QSt) (h : QR _ _ y q') => HZ.out y q' (QR.ifT_t hs h))
              have HT := Lib.hid (ztake_any c _ (m - 1) s w72 (tk_neR hs) HQ.out.st)
              have HL : Hid ((QSt.good ⟨s.r.tail, s.ns⟩).n < n ∧ 1 ≤ (m - 1)) := by
                have h1 := tk_lenR hs
                have h2 := HL.out
                have h3 := HQ.out.st.pos hs
                refine ⟨?_, h3⟩
                show s.r.tail.length < n
                have h4 : (QSt.good s).n = s.r.length := rfl
                omega
              have HG : Hid (∀ s', QSt.good ⟨s.r.tail, s.ns⟩ = .good s' → 1 ≤ m) := fun _ _ => by have := HL.out.2; omega
              have HL := Lib.hid HL.out.1
              clear hs hb
              go_wp2_with fail
              refine HT.out.mono ?_
              rintro e w73 ⟨rfl, HT⟩
              have HQ := Lib.hid (HQ.out.step HT.out.2 HT.out.1)
              have HK := Lib.hid (HK.out.trans HT.out.2 (by intro z hz; simp [hz]))
              clear HT
              unfold tV
              obtain ⟨t75, htx⟩ : ∃ t, hdT s.r = t := ⟨_, rfl⟩
              obtain ⟨q74, hq1⟩ : ∃ q1, QSt.good ⟨s.r.tail, s.ns⟩ = q1 := ⟨_, rfl⟩
              try rw [htx] at HZ
              try rw [htx]
              rw [hq1] at HZ HQ HL HG
              clear htx hq1
              go_wp2_with fail
              refine (HBL.out _ ((m - 1) - 1) q74 w73 (by have := HM.out; omega) HL.out HQ.out.st).mono ?_
              rintro e w76 ⟨x78, q77, rfl, H⟩
              have HZ := Lib.hid (fun (y : _) (q' : QSt) (h : QR _ _ y q') => HZ.out y q' (QR.bind H.out.1 h))
              have HL := Lib.hid (Nat.lt_of_le_of_lt (QR.le (Lc.blockOf n (Lc.stmt n)) H.out.1) HL.out)
              have HG := Lib.hid (QR.keep1 H.out.1 HG.out)
              have HQ := Lib.hid (HQ.out.step H.out.2.2 H.out.2.1)
              have HK := Lib.hid (HK.out.trans H.out.2.2 (by intro z hz; simp [hz]))
              clear H
              unfold nV
              obtain ⟨v80, w79, hrun, hls, hka⟩ := HQ.out.app1 x78 (by simp)
              obtain ⟨ao, cap, hv⟩ := hls.val
              obtain ⟨LN, hLN⟩ : ∃ L, (([x64] ++ [x69]) ++ [x78]).length = L := ⟨_, rfl⟩
              rw [hLN] at hv
              subst hv
              have HRUN := Lib.hid hrun
              have HQ := Lib.hid hls
              have HLN := Lib.hid hLN
              have HK := Lib.hid (HK.out.trans hka (fun _ h => h))
              clear hrun hls hka hLN
              go_wp2_with (at_builtin; refine wpList_append_run rfl _ _ 39 rfl _ _ _ rfl rfl HRUN.out ?_)
              refine (HQ.out.node 7 [] (by have := HM.out; omega)).mono ?_
              rintro e w81 ⟨y, q', rfl, H⟩
              have HF := Lib.hid (And.intro (HZ.out _ _ H.out.1) (And.intro (H.out.2.1.more (n := m) (fun s e => by have := QR.keep1 H.out.1 HG.out s e; omega)) (HK.out.trans H.out.2.2 (by intro z hz; simp [hz]))))
              clear H
              unfold nV
              go_wp2_with fail
              go_ret
              exact ⟨y, q', rfl, HF.out⟩
            case false =>
              have HZ := Lib.hid (fun (y : _) (q' : QSt) (h : QR _ _ y q') => HZ.out y q' (QR.ifT_f hb h))
              clear hb
              go_wp2_with fail
              refine (HQ.out.node 7 [] (by have := HM.out; omega)).mono ?_
              rintro e w82 ⟨y, q', rfl, H⟩
              have HF := Lib.hid (And.intro (HZ.out _ _ H.out.1) (And.intro (H.out.2.1.more (n := m) (fun s e => by have := QR.keep1 H.out.1 HG.out s e; omega)) (HK.out.trans H.out.2.2 (by intro z hz; simp [hz]))))
              clear H
              unfold nV
              go_wp2_with fail
              go_ret
              exact ⟨y, q', rfl, HF.out⟩
          case false =>
            have HZ := Lib.hid (fun (y : _) (q' : QSt) (h : QR _ _ y q') => HZ.out y q' (QR.ifT_f hb h))
            clear hb
            go_wp2_with fail
            refine (zname_any c _ m q w58 HP.out).mono ?_
            rintro e w83 ⟨rfl, hk⟩
            have HP := Lib.hid (HP.out.keep hk)
            have HK := Lib.hid (HK.out.trans (KA.of hk) (fun _ h => h))
            clear hk
            obtain ⟨b, hb⟩ : ∃ b, qtk (isNm) q = b := ⟨_, rfl⟩
            rw [hb]
            cases b
            case true =>
              obtain ⟨s, rfl, hs⟩ := qtk_good hb
              have HZ := Lib.hid (fun (y : _) (q' : QSt) (h : QR _ _ y q') => HZ.out y q' (QR.ifT_t hs h))
              have HRS := Lib.hid (zresource_any c HW.out n HVA.out A m s w83 HM.out hs (by have h1 := HL.out; have h2 : (QSt.good s).n = s.r.length := rfl; omega) HP.out)
              clear hs hb
              go_wp2_with fail
              refine HRS.out.mono ?_
              rintro e w84 ⟨y, q', rfl, H⟩
              have HF := Lib.hid (And.intro (HZ.out _ _ H.out.1) (And.intro H.out.2.1 (HK.out.trans H.out.2.2 (fun _ h => h))))
              clear H
              unfold nV
              go_wp2_with fail
              go_ret
              exact ⟨y, q', rfl, HF.out⟩
            case false =>
              have HZ := Lib.hid (fun (y : _) (q' : QSt) (h : QR _ _ y q') => HZ.out y q' (QR.ifT_f hb h))
              clear hb
              go_wp2_with fail
              refine (zkd_any c _ m q w83 2 HP.out).mono ?_
              rintro e w85 ⟨rfl, hk⟩
              have HP := Lib.hid (HP.out.keep hk)
              have HK := Lib.hid (HK.out.trans (KA.of hk) (fun _ h => h))
              clear hk
              obtain ⟨b, hb⟩ : ∃ b, qtk (isKd 2) q = b := ⟨_, rfl⟩
              rw [hb]
              cases b
              case true =>
                obtain ⟨s, rfl, hs⟩ := qtk_good hb
                have HZ := Lib.hid (fun (y : _) (q' : QSt) (h : QR _ _ y q') => HZ.out y q' (QR.ifT_t hs h))
                have HRS := Lib.hid (zchain_any c n HVA.out A m s w85 HM.out hs (by have h1 := HL.out; have h2 : (QSt.good s).n = s.r.length := rfl; omega) HP.out)
                clear hs hb
                go_wp2_with fail
                refine HRS.out.mono ?_
                rintro e w86 ⟨y, q', rfl, H⟩
                have HF := Lib.hid (And.intro (HZ.out _ _ H.out.1) (And.intro H.out.2.1 (HK.out.trans H.out.2.2 (fun _ h => h))))
                clear H
                unfold nV
                go_wp2_with fail
                go_ret
                exact ⟨y, q', rfl, HF.out⟩
              case false =>
                have HZ := Lib.hid (fun (y : _) (q' : QSt) (h : QR _ _ y q') => HZ.out y q' (QR.ifT_f hb h))
                have HO := Lib.hid (HP.out.over (m2 := m))
                obtain ⟨v, ns, _, _, c2, _, fz, _, _, _⟩ := HP.out.open
                have f2 := fz 2
                clear hb fz
                go_wp2_with fail
                go_ret
                exact ⟨0, _, rfl, HZ.out _ _ (QR.fail 0 _), HO.out.1, HK.out.trans HO.out.2 (fun _ h => h)⟩
theorem zstmts_qc (c : PCx) (hw : ∀ t ∈ c.l, t.tx.length ≤ 4611686018427387904) : ∀ n, QC c 53 (stmtF n) n
  | 0 => fun A m q w _ h => by omega
  | n + 1 => zstatement_qc c hw n (zvalues_qc c n).2 (zstmts_qc c hw n)
end Go.Proofs.YtfpdgdacifiejaaGreat

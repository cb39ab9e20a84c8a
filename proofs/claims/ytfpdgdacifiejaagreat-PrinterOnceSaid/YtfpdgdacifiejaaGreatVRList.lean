/-
  Layer 12: the document's parser: plain.
  Conditions: those that each theorem states.
  Layer 12: the document's parser: equal, both, value.
  Conditions: those that each theorem states.
  Layer 12: the document's parser beside a row of numbers of the caller's own.
  Conditions: those that each theorem states.
-/
import Derived.Test.YtfpdgdacifiejaaGreatVRStep
import Derived.Deep.DeepCutAuto
namespace Go.Proofs.YtfpdgdacifiejaaGreat
open Go.RowKit Go.Maps

set_option maxRecDepth 100000 in
set_option maxHeartbeats 8000000 in
theorem zplain_qc (c : PCx) (n : Nat) (hpl : QC c 156 (plainF n) n) (hval : QC c 85 (value n) n) : QC c 156 (plainF (n + 1)) (n + 1) := by
  intro A m q w hm hr h
  have HP := Lib.hid h
  have HM := Lib.hid (And.intro hm hr)
  have HL := Lib.hid hr
  have HK : Hid (KA c A w w) := KA.of (Kept.refl _ _)
  have HZ : Hid (∀ y q', QR (ifT (isSg [33]) (fun _ => pbind (plainF n) fun x => pnode 20 [] [x]) (ifT (isSg [40]) (fun _ => pbind (value n) fun x => pbind (must (isSg [41])) fun _ => prt x) (ifT (isKd 4) (fun t => pnode 13 t []) (ifT (isKd 5) (fun t => pnode 14 t []) (ifT (isKd 6) (fun t => pnode 15 t []) (ifT (isKd 3) (fun t => pnode 16 t []) (ifT (isKy [116, 114, 117, 101]) (fun _ => pnode 17 [] []) (ifT (isKy [102, 97, 108, 115, 101]) (fun _ => pnode 18 [] []) pfail)))))))) q y q' → QR (plainF (n + 1)) q y q') := fun _ _ h => h
  have HPL := Lib.hid hpl
  have HVA := Lib.hid hval
  clear h hm hr hpl hval
  go_enter Tryz.func156, Tryz.ntmps156
  go_wp2_with fail
  refine (zsign_any c A m q w [33] (by decide) HP.out).mono ?_
  rintro e w1 ⟨rfl, hk⟩
  have HP := Lib.hid (HP.out.keep hk)
  have HK := Lib.hid (HK.out.trans (KA.of hk) (fun _ h => h))
  obtain ⟨b, hb⟩ : ∃ b, qtk (isSg [33]) q = b := ⟨_, rfl⟩
  rw [hb]
  clear hk
  cases b
  case true =>
    obtain ⟨s, rfl, hs⟩ := qtk_good hb
    have HZ := Lib.hid (fun (y : _) (q' : QSt) (h : QR _ _ y q') => HZ.out y q' (QR.ifT_t hs h))
    have HT := Lib.hid (ztake_any c A m s w1 (tk_neR hs) HP.out)
    have HL : Hid ((QSt.good ⟨s.r.tail, s.ns⟩).n < n ∧ 1 ≤ m) := by
      have h1 := tk_lenR hs
      have h2 := HL.out
      have h3 := HP.out.pos hs
      refine ⟨?_, h3⟩
      show s.r.tail.length < n
      have h4 : (QSt.good s).n = s.r.length := rfl
      omega
    have HG : Hid (∀ s', QSt.good ⟨s.r.tail, s.ns⟩ = .good s' → 1 ≤ m) := fun _ _ => HL.out.2
    have HL := Lib.hid HL.out.1
    clear hs hb HP
    go_wp2_with fail
    refine HT.out.mono ?_
    rintro e w2 ⟨rfl, HT⟩
    have HP := Lib.hid HT.out.1
    have HK := Lib.hid (HK.out.trans HT.out.2 (fun _ h => h))
    clear HT
    unfold tV
    obtain ⟨tx, htx⟩ : ∃ t, hdT s.r = t := ⟨_, rfl⟩
    obtain ⟨q1, hq1⟩ : ∃ q1, QSt.good ⟨s.r.tail, s.ns⟩ = q1 := ⟨_, rfl⟩
    try rw [htx] at HZ
    try rw [htx]
    rw [hq1] at HZ HP HL HG
    clear htx hq1
    go_wp2_with fail
    refine (HPL.out A (m - 1) q1 w2 (by have := HM.out.1; omega) HL.out HP.out).mono ?_
    rintro e w3 ⟨x3, q3, rfl, H⟩
    have HZ := Lib.hid (fun (y : _) (q' : QSt) (h : QR _ _ y q') => HZ.out y q' (QR.bind H.out.1 h))
    have HL := Lib.hid (Nat.lt_of_le_of_lt (QR.le (Lc.plain n) H.out.1) HL.out)
    have HG := Lib.hid (QR.keep1 H.out.1 HG.out)
    have HK := Lib.hid (HK.out.trans H.out.2.2 (fun _ h => h))
    have HP := Lib.hid H.out.2.1
    clear H
    unfold nV
    go_wp2_with fail
    refine (rnode1 c A (m - 1) q3 w3 20 [] x3 (by have := HM.out.1; omega) HP.out).mono ?_
    rintro e w4 ⟨y, q', rfl, H⟩
    have HF := Lib.hid (And.intro (HZ.out _ _ H.out.1) (And.intro (H.out.2.1.more (n := m) (fun s e => by have := QR.keep1 H.out.1 HG.out s e; omega)) (HK.out.trans H.out.2.2 (fun _ h => h))))
    clear H
    unfold nV
    go_wp2_with fail
    go_ret
    exact ⟨y, q', rfl, HF.out⟩
  case false =>
    have HZ := Lib.hid (fun (y : _) (q' : QSt) (h : QR _ _ y q') => HZ.out y q' (QR.ifT_f hb h))
    clear hb
    go_wp2_with fail
    refine (zsign_any c A m q w1 [40] (by decide) HP.out).mono ?_
    rintro e w2 ⟨rfl, hk⟩
    have HP := Lib.hid (HP.out.keep hk)
    have HK := Lib.hid (HK.out.trans (KA.of hk) (fun _ h => h))
    obtain ⟨b, hb⟩ : ∃ b, qtk (isSg [40]) q = b := ⟨_, rfl⟩
    rw [hb]
    clear hk
    cases b
    case true =>
      obtain ⟨s, rfl, hs⟩ := qtk_good hb
      have HZ := Lib.hid (fun (y : _) (q' : QSt) (h : QR _ _ y q') => HZ.out y q' (QR.ifT_t hs h))
      have HT := Lib.hid (ztake_any c A m s w2 (tk_neR hs) HP.out)
      have HL : Hid ((QSt.good ⟨s.r.tail, s.ns⟩).n < n ∧ 1 ≤ m) := by
        have h1 := tk_lenR hs
        have h2 := HL.out
        have h3 := HP.out.pos hs
        refine ⟨?_, h3⟩
        show s.r.tail.length < n
        have h4 : (QSt.good s).n = s.r.length := rfl
        omega
      have HG : Hid (∀ s', QSt.good ⟨s.r.tail, s.ns⟩ = .good s' → 1 ≤ m) := fun _ _ => HL.out.2
      have HL := Lib.hid HL.out.1
      clear hs hb HP
      go_wp2_with fail
      refine HT.out.mono ?_
      rintro e w3 ⟨rfl, HT⟩
      have HP := Lib.hid HT.out.1
      have HK := Lib.hid (HK.out.trans HT.out.2 (fun _ h => h))
      clear HT
      unfold tV
      obtain ⟨tx, htx⟩ : ∃ t, hdT s.r = t := ⟨_, rfl⟩
      obtain ⟨q1, hq1⟩ : ∃ q1, QSt.good ⟨s.r.tail, s.ns⟩ = q1 := ⟨_, rfl⟩
      try rw [htx] at HZ
      try rw [htx]
      rw [hq1] at HZ HP HL HG
      clear htx hq1
      go_wp2_with fail
      refine (HVA.out A (m - 1) q1 w3 (by have := HM.out.1; omega) HL.out HP.out).mono ?_
      rintro e w4 ⟨x4, q4, rfl, H⟩
      have HZ := Lib.hid (fun (y : _) (q' : QSt) (h : QR _ _ y q') => HZ.out y q' (QR.bind H.out.1 h))
      have HL := Lib.hid (Nat.lt_of_le_of_lt (QR.le (Lc.value n) H.out.1) HL.out)
      have HG := Lib.hid (QR.keep1 H.out.1 HG.out)
      have HK := Lib.hid (HK.out.trans H.out.2.2 (fun _ h => h))
      have HP := Lib.hid H.out.2.1
      clear H
      unfold nV
      go_wp2_with fail
      refine (zsign_any c A (m - 1) q4 w4 [41] (by decide) HP.out).mono ?_
      rintro e w5 ⟨rfl, hk⟩
      have HP := Lib.hid (HP.out.keep hk)
      have HK := Lib.hid (HK.out.trans (KA.of hk) (fun _ h => h))
      clear hk
      go_wp2_with fail
      refine (zmust_any c A (m - 1) q4 w5 (isSg [41]) HP.out).mono ?_
      rintro e w6 ⟨x6, q6, rfl, H⟩
      have HZ := Lib.hid (fun (y : _) (q' : QSt) (h : QR _ _ y q') => HZ.out y q' (QR.bind H.out.1 h))
      have HL := Lib.hid (Nat.lt_of_le_of_lt (QR.le (Lc.must _) H.out.1) HL.out)
      have HG := Lib.hid (QR.keep1 H.out.1 HG.out)
      have HK := Lib.hid (HK.out.trans H.out.2.2 (fun _ h => h))
      have HP := Lib.hid H.out.2.1
      clear H
      unfold tV
      go_wp2_with fail
      have HF := Lib.hid (And.intro (HZ.out _ _ (QR.prt _ _)) (And.intro (HP.out.more (n := m) (fun s e => by omega)) HK.out))
      go_ret
      exact ⟨x4, _, rfl, HF.out⟩
    case false =>
      have HZ := Lib.hid (fun (y : _) (q' : QSt) (h : QR _ _ y q') => HZ.out y q' (QR.ifT_f hb h))
      clear hb
      go_wp2_with fail
      refine (zkd_any c A m q w2 4 HP.out).mono ?_
      rintro e w3 ⟨rfl, hk⟩
      have HP := Lib.hid (HP.out.keep hk)
      have HK := Lib.hid (HK.out.trans (KA.of hk) (fun _ h => h))
      obtain ⟨b, hb⟩ : ∃ b, qtk (isKd 4) q = b := ⟨_, rfl⟩
      rw [hb]
      clear hk
      cases b
      case true =>
        obtain ⟨s, rfl, hs⟩ := qtk_good hb
        have HZ := Lib.hid (fun (y : _) (q' : QSt) (h : QR _ _ y q') => HZ.out y q' (QR.ifT_t hs h))
        have HT := Lib.hid (ztake_any c A m s w3 (tk_neR hs) HP.out)
        have HL : Hid ((QSt.good ⟨s.r.tail, s.ns⟩).n < n ∧ 1 ≤ m) := by
          have h1 := tk_lenR hs
          have h2 := HL.out
          have h3 := HP.out.pos hs
          refine ⟨?_, h3⟩
          show s.r.tail.length < n
          have h4 : (QSt.good s).n = s.r.length := rfl
          omega
        have HG : Hid (∀ s', QSt.good ⟨s.r.tail, s.ns⟩ = .good s' → 1 ≤ m) := fun _ _ => HL.out.2
        have HL := Lib.hid HL.out.1
        clear hs hb HP
        go_wp2_with fail
        refine HT.out.mono ?_
        rintro e w4 ⟨rfl, HT⟩
        have HP := Lib.hid HT.out.1
        have HK := Lib.hid (HK.out.trans HT.out.2 (fun _ h => h))
        clear HT
        unfold tV
        obtain ⟨tx, htx⟩ : ∃ t, hdT s.r = t := ⟨_, rfl⟩
        obtain ⟨q1, hq1⟩ : ∃ q1, QSt.good ⟨s.r.tail, s.ns⟩ = q1 := ⟨_, rfl⟩
        try rw [htx] at HZ
        try rw [htx]
        rw [hq1] at HZ HP HL HG
        clear htx hq1
        go_wp2_with fail
        refine (rnode0 c A (m - 1) q1 w4 13 tx  (by have := HM.out.1; omega) HP.out).mono ?_
        rintro e w5 ⟨y, q', rfl, H⟩
        have HF := Lib.hid (And.intro (HZ.out _ _ H.out.1) (And.intro (H.out.2.1.more (n := m) (fun s e => by have := QR.keep1 H.out.1 HG.out s e; omega)) (HK.out.trans H.out.2.2 (fun _ h => h))))
        clear H
        unfold nV
        go_wp2_with fail
        go_ret
        exact ⟨y, q', rfl, HF.out⟩
      case false =>
        have HZ := Lib.hid (fun (y : _) (q' : QSt) (h : QR _ _ y q') => HZ.out y q' (QR.ifT_f hb h))
        clear hb
        go_wp2_with fail
        refine (zkd_any c A m q w3 5 HP.out).mono ?_
        rintro e w4 ⟨rfl, hk⟩
        have HP := Lib.hid (HP.out.keep hk)
        have HK := Lib.hid (HK.out.trans (KA.of hk) (fun _ h => h))
        obtain ⟨b, hb⟩ : ∃ b, qtk (isKd 5) q = b := ⟨_, rfl⟩
        rw [hb]
        clear hk
        cases b
        case true =>
          obtain ⟨s, rfl, hs⟩ := qtk_good hb
          have HZ := Lib.hid (fun (y : _) (q' : QSt) (h : QR _ _ y q') => HZ.out y q' (QR.ifT_t hs h))
          have HT := Lib.hid (ztake_any c A m s w4 (tk_neR hs) HP.out)
          have HL : Hid ((QSt.good ⟨s.r.tail, s.ns⟩).n < n ∧ 1 ≤ m) := by
            have h1 := tk_lenR hs
            have h2 := HL.out
            have h3 := HP.out.pos hs
            refine ⟨?_, h3⟩
            show s.r.tail.length < n
            have h4 : (QSt.good s).n = s.r.length := rfl
            omega
          have HG : Hid (∀ s', QSt.good ⟨s.r.tail, s.ns⟩ = .good s' → 1 ≤ m) := fun _ _ => HL.out.2
          have HL := Lib.hid HL.out.1
          clear hs hb HP
          go_wp2_with fail
          refine HT.out.mono ?_
          rintro e w5 ⟨rfl, HT⟩
          have HP := Lib.hid HT.out.1
          have HK := Lib.hid (HK.out.trans HT.out.2 (fun _ h => h))
          clear HT
          unfold tV
          obtain ⟨tx, htx⟩ : ∃ t, hdT s.r = t := ⟨_, rfl⟩
          obtain ⟨q1, hq1⟩ : ∃ q1, QSt.good ⟨s.r.tail, s.ns⟩ = q1 := ⟨_, rfl⟩
          try rw [htx] at HZ
          try rw [htx]
          rw [hq1] at HZ HP HL HG
          clear htx hq1
          go_wp2_with fail
          refine (rnode0 c A (m - 1) q1 w5 14 tx  (by have := HM.out.1; omega) HP.out).mono ?_
          rintro e w6 ⟨y, q', rfl, H⟩
          have HF := Lib.hid (And.intro (HZ.out _ _ H.out.1) (And.intro (H.out.2.1.more (n := m) (fun s e => by have := QR.keep1 H.out.1 HG.out s e; omega)) (HK.out.trans H.out.2.2 (fun _ h => h))))
          clear H
          unfold nV
          go_wp2_with fail
          go_ret
          exact ⟨y, q', rfl, HF.out⟩
        case false =>
          have HZ := Lib.hid (fun (y : _) (q' : QSt) (h : QR _ _ y q') => HZ.out y q' (QR.ifT_f hb h))
          clear hb
          go_wp2_with fail
          refine (zkd_any c A m q w4 6 HP.out).mono ?_
          rintro e w5 ⟨rfl, hk⟩
          have HP := Lib.hid (HP.out.keep hk)
          have HK := Lib.hid (HK.out.trans (KA.of hk) (fun _ h => h))
          obtain ⟨b, hb⟩ : ∃ b, qtk (isKd 6) q = b := ⟨_, rfl⟩
          rw [hb]
          clear hk
          cases b
          case true =>
            obtain ⟨s, rfl, hs⟩ := qtk_good hb
            have HZ := Lib.hid (fun (y : _) (q' : QSt) (h : QR _ _ y q') => HZ.out y q' (QR.ifT_t hs h))
            have HT := Lib.hid (ztake_any c A m s w5 (tk_neR hs) HP.out)
            have HL : Hid ((QSt.good ⟨s.r.tail, s.ns⟩).n < n ∧ 1 ≤ m) := by
              have h1 := tk_lenR hs
              have h2 := HL.out
              have h3 := HP.out.pos hs
              refine ⟨?_, h3⟩
              show s.r.tail.length < n
              have h4 : (QSt.good s).n = s.r.length := rfl
              omega
            have HG : Hid (∀ s', QSt.good ⟨s.r.tail, s.ns⟩ = .good s' → 1 ≤ m) := fun _ _ => HL.out.2
            have HL := Lib.hid HL.out.1
            clear hs hb HP
            go_wp2_with fail
            refine HT.out.mono ?_
            rintro e w6 ⟨rfl, HT⟩
            have HP := Lib.hid HT.out.1
            have HK := Lib.hid (HK.out.trans HT.out.2 (fun _ h => h))
            clear HT
            unfold tV
            obtain ⟨tx, htx⟩ : ∃ t, hdT s.r = t := ⟨_, rfl⟩
            obtain ⟨q1, hq1⟩ : ∃ q1, QSt.good ⟨s.r.tail, s.ns⟩ = q1 := ⟨_, rfl⟩
            try rw [htx] at HZ
            try rw [htx]
            rw [hq1] at HZ HP HL HG
            clear htx hq1
            go_wp2_with fail
            refine (rnode0 c A (m - 1) q1 w6 15 tx  (by have := HM.out.1; omega) HP.out).mono ?_
            rintro e w7 ⟨y, q', rfl, H⟩
            have HF := Lib.hid (And.intro (HZ.out _ _ H.out.1) (And.intro (H.out.2.1.more (n := m) (fun s e => by have := QR.keep1 H.out.1 HG.out s e; omega)) (HK.out.trans H.out.2.2 (fun _ h => h))))
            clear H
            unfold nV
            go_wp2_with fail
            go_ret
            exact ⟨y, q', rfl, HF.out⟩
          case false =>
            have HZ := Lib.hid (fun (y : _) (q' : QSt) (h : QR _ _ y q') => HZ.out y q' (QR.ifT_f hb h))
            clear hb
            go_wp2_with fail
            refine (zkd_any c A m q w5 3 HP.out).mono ?_
            rintro e w6 ⟨rfl, hk⟩
            have HP := Lib.hid (HP.out.keep hk)
            have HK := Lib.hid (HK.out.trans (KA.of hk) (fun _ h => h))
            obtain ⟨b, hb⟩ : ∃ b, qtk (isKd 3) q = b := ⟨_, rfl⟩
            rw [hb]
            clear hk
            cases b
            case true =>
              obtain ⟨s, rfl, hs⟩ := qtk_good hb
              have HZ := Lib.hid (fun (y : _) (q' : QSt) (h : QR _ _ y q') => HZ.out y q' (QR.ifT_t hs h))
              have HT := Lib.hid (ztake_any c A m s w6 (tk_neR hs) HP.out)
              have HL : Hid ((QSt.good ⟨s.r.tail, s.ns⟩).n < n ∧ 1 ≤ m) := by
                have h1 := tk_lenR hs
                have h2 := HL.out
                have h3 := HP.out.pos hs
                refine ⟨?_, h3⟩
                show s.r.tail.length < n
                have h4 : (QSt.good s).n = s.r.length := rfl
                omega
              have HG : Hid (∀ s', QSt.good ⟨s.r.tail, s.ns⟩ = .good s' → 1 ≤ m) := fun _ _ => HL.out.2
              have HL := Lib.hid HL.out.1
              clear hs hb HP
              go_wp2_with fail
              refine HT.out.mono ?_
              rintro e w7 ⟨rfl, HT⟩
              have HP := Lib.hid HT.out.1
              have HK := Lib.hid (HK.out.trans HT.out.2 (fun _ h => h))
              clear HT
              unfold tV
              obtain ⟨tx, htx⟩ : ∃ t, hdT s.r = t := ⟨_, rfl⟩
              obtain ⟨q1, hq1⟩ : ∃ q1, QSt.good ⟨s.r.tail, s.ns⟩ = q1 := ⟨_, rfl⟩
              try rw [htx] at HZ
              try rw [htx]
              rw [hq1] at HZ HP HL HG
              clear htx hq1
              go_wp2_with fail
              refine (rnode0 c A (m - 1) q1 w7 16 tx  (by have := HM.out.1; omega) HP.out).mono ?_
              rintro e w8 ⟨y, q', rfl, H⟩
              have HF := Lib.hid (And.intro (HZ.out _ _ H.out.1) (And.intro (H.out.2.1.more (n := m) (fun s e => by have := QR.keep1 H.out.1 HG.out s e; omega)) (HK.out.trans H.out.2.2 (fun _ h => h))))
              clear H
              unfold nV
              go_wp2_with fail
              go_ret
              exact ⟨y, q', rfl, HF.out⟩
            case false =>
              have HZ := Lib.hid (fun (y : _) (q' : QSt) (h : QR _ _ y q') => HZ.out y q' (QR.ifT_f hb h))
              clear hb
              go_wp2_with fail
              refine (zkey_any c A m q w6 [116, 114, 117, 101] (by decide) HP.out).mono ?_
              rintro e w7 ⟨rfl, hk⟩
              have HP := Lib.hid (HP.out.keep hk)
              have HK := Lib.hid (HK.out.trans (KA.of hk) (fun _ h => h))
              obtain ⟨b, hb⟩ : ∃ b, qtk (isKy [116, 114, 117, 101]) q = b := ⟨_, rfl⟩
              rw [hb]
              clear hk
              cases b
              case true =>
                obtain ⟨s, rfl, hs⟩ := qtk_good hb
                have HZ := Lib.hid (fun (y : _) (q' : QSt) (h : QR _ _ y q') => HZ.out y q' (QR.ifT_t hs h))
                have HT := Lib.hid (ztake_any c A m s w7 (tk_neR hs) HP.out)
                have HL : Hid ((QSt.good ⟨s.r.tail, s.ns⟩).n < n ∧ 1 ≤ m) := by
                  have h1 := tk_lenR hs
                  have h2 := HL.out
                  have h3 := HP.out.pos hs
                  refine ⟨?_, h3⟩
                  show s.r.tail.length < n
                  have h4 : (QSt.good s).n = s.r.length := rfl
                  omega
                have HG : Hid (∀ s', QSt.good ⟨s.r.tail, s.ns⟩ = .good s' → 1 ≤ m) := fun _ _ => HL.out.2
                have HL := Lib.hid HL.out.1
                clear hs hb HP
                go_wp2_with fail
                refine HT.out.mono ?_
                rintro e w8 ⟨rfl, HT⟩
                have HP := Lib.hid HT.out.1
                have HK := Lib.hid (HK.out.trans HT.out.2 (fun _ h => h))
                clear HT
                unfold tV
                obtain ⟨tx, htx⟩ : ∃ t, hdT s.r = t := ⟨_, rfl⟩
                obtain ⟨q1, hq1⟩ : ∃ q1, QSt.good ⟨s.r.tail, s.ns⟩ = q1 := ⟨_, rfl⟩
                try rw [htx] at HZ
                try rw [htx]
                rw [hq1] at HZ HP HL HG
                clear htx hq1
                go_wp2_with fail
                refine (rnode0 c A (m - 1) q1 w8 17 []  (by have := HM.out.1; omega) HP.out).mono ?_
                rintro e w9 ⟨y, q', rfl, H⟩
                have HF := Lib.hid (And.intro (HZ.out _ _ H.out.1) (And.intro (H.out.2.1.more (n := m) (fun s e => by have := QR.keep1 H.out.1 HG.out s e; omega)) (HK.out.trans H.out.2.2 (fun _ h => h))))
                clear H
                unfold nV
                go_wp2_with fail
                go_ret
                exact ⟨y, q', rfl, HF.out⟩
              case false =>
                have HZ := Lib.hid (fun (y : _) (q' : QSt) (h : QR _ _ y q') => HZ.out y q' (QR.ifT_f hb h))
                clear hb
                go_wp2_with fail
                refine (zkey_any c A m q w7 [102, 97, 108, 115, 101] (by decide) HP.out).mono ?_
                rintro e w8 ⟨rfl, hk⟩
                have HP := Lib.hid (HP.out.keep hk)
                have HK := Lib.hid (HK.out.trans (KA.of hk) (fun _ h => h))
                obtain ⟨b, hb⟩ : ∃ b, qtk (isKy [102, 97, 108, 115, 101]) q = b := ⟨_, rfl⟩
                rw [hb]
                clear hk
                cases b
                case true =>
                  obtain ⟨s, rfl, hs⟩ := qtk_good hb
                  have HZ := Lib.hid (fun (y : _) (q' : QSt) (h : QR _ _ y q') => HZ.out y q' (QR.ifT_t hs h))
                  have HT := Lib.hid (ztake_any c A m s w8 (tk_neR hs) HP.out)
                  have HL : Hid ((QSt.good ⟨s.r.tail, s.ns⟩).n < n ∧ 1 ≤ m) := by
                    have h1 := tk_lenR hs
                    have h2 := HL.out
                    have h3 := HP.out.pos hs
                    refine ⟨?_, h3⟩
                    show s.r.tail.length < n
                    have h4 : (QSt.good s).n = s.r.length := rfl
                    omega
                  have HG : Hid (∀ s', QSt.good ⟨s.r.tail, s.ns⟩ = .good s' → 1 ≤ m) := fun _ _ => HL.out.2
                  have HL := Lib.hid HL.out.1
                  clear hs hb HP
                  go_wp2_with fail
                  refine HT.out.mono ?_
                  rintro e w9 ⟨rfl, HT⟩
                  have HP := Lib.hid HT.out.1
                  have HK := Lib.hid (HK.out.trans HT.out.2 (fun _ h => h))
                  clear HT
                  unfold tV
                  obtain ⟨tx, htx⟩ : ∃ t, hdT s.r = t := ⟨_, rfl⟩
                  obtain ⟨q1, hq1⟩ : ∃ q1, QSt.good ⟨s.r.tail, s.ns⟩ = q1 := ⟨_, rfl⟩
                  try rw [htx] at HZ
                  try rw [htx]
                  rw [hq1] at HZ HP HL HG
                  clear htx hq1
                  go_wp2_with fail
                  refine (rnode0 c A (m - 1) q1 w9 18 []  (by have := HM.out.1; omega) HP.out).mono ?_
                  rintro e w10 ⟨y, q', rfl, H⟩
                  have HF := Lib.hid (And.intro (HZ.out _ _ H.out.1) (And.intro (H.out.2.1.more (n := m) (fun s e => by have := QR.keep1 H.out.1 HG.out s e; omega)) (HK.out.trans H.out.2.2 (fun _ h => h))))
                  clear H
                  unfold nV
                  go_wp2_with fail
                  go_ret
                  exact ⟨y, q', rfl, HF.out⟩
                case false =>
                  have HZ := Lib.hid (fun (y : _) (q' : QSt) (h : QR _ _ y q') => HZ.out y q' (QR.ifT_f hb h))
                  have HO := Lib.hid (HP.out.over (m2 := m))
                  obtain ⟨v, ns, _, _, c2, _, fz, _, _, _⟩ := HP.out.open
                  have f2 := fz 2
                  have hfz := fz
                  clear hb fz
                  go_wp2_with fail
                  go_ret
                  exact ⟨0, _, rfl, HZ.out _ _ (QR.fail 0 _), HO.out.1, HK.out.trans HO.out.2 (fun _ h => h)⟩
end Go.Proofs.YtfpdgdacifiejaaGreat

namespace Go.Proofs.YtfpdgdacifiejaaGreat
open Go.RowKit Go.Maps

theorem Lc.equalOfR (n : Nat) : Lc (equalOf n (plainF n)) := (Lc.plain n).bind fun x => Lc.opLoop (Lc.plain n) _ n x
theorem Lc.bothOfR (n : Nat) : Lc (bothOf n (plainF n)) := (Lc.equalOfR n).bind fun x => Lc.opLoop (Lc.equalOfR n) _ n x
theorem ky_txR {k : List UInt8} {r : List Tok} (h : tkB (isKy k) r = true) : hdT r = k := by
  cases r with
  | nil => cases h
  | cons t r =>
    have h2 : (decide (t.kd = 1) && decide (t.tx = k)) = true := h
    simp at h2
    exact h2.2
theorem eq_orR (q : QSt) : qtk isEq q = (qtk (isSg [61, 61]) q || qtk (isSg [33, 61]) q) := by
  cases q with
  | bad k => rfl
  | good s =>
    show tkB isEq s.r = (tkB (isSg [61, 61]) s.r || tkB (isSg [33, 61]) s.r)
    cases s.r with
    | nil => rfl
    | cons t r => rfl
set_option maxRecDepth 100000 in
set_option maxHeartbeats 8000000 in
theorem zequal_qc (c : PCx) (n : Nat) (hsub : QC c 156 (plainF n) n) : QC c 146 (equalOf n (plainF n)) n := by
  intro A m q w hm hr h
  have HP := Lib.hid h
  have HM := Lib.hid (And.intro hm hr)
  have HSUB := Lib.hid hsub
  have HLC := Lib.hid (Lc.plain n)
  clear h hm hr hsub
  go_enter Tryz.func146, Tryz.ntmps146
  go_wp2_with fail
  refine (HSUB.out A m q w HM.out.1 HM.out.2 HP.out).mono ?_
  rintro e w1 ⟨x, q1, rfl, H1⟩
  have HZ : Hid (∀ y q', QR (opLoop (plainF n) isEq n x) q1 y q' → QR (equalOf n (plainF n)) q y q') := fun y q' h => QR.bind H1.out.1 h
  have HN : Hid (q1.n < n) := Nat.lt_of_le_of_lt (QR.le HLC.out H1.out.1) HM.out.2
  unfold nV
  go_wp2_with fail
  go_loopw [3] (fun v3 wr => ∃ (x j : Nat) (qk : QSt), v3 = .int .i64 x ∧ Hid (QS c A m qk wr ∧ KA c A w wr ∧ qk.n < j ∧ j ≤ n ∧ ∀ y q', QR (opLoop (plainF n) isEq j x) qk y q' → QR (equalOf n (plainF n)) q y q')) (fun _ wr => c.l.length - atOfR c wr)
  case atStart => exact ⟨x, n, q1, rfl, H1.out.2.1, H1.out.2.2, HN.out, Nat.le_refl _, HZ.out⟩
  case round =>
    obtain ⟨x, j, qk, rfl, HS⟩ := hrel
    clear HZ H1 HN
    have HMS := Lib.hid HS.out.1.meas
    obtain ⟨j', rfl⟩ : ∃ j', j = j' + 1 := ⟨j - 1, by have := HS.out.2.2.1; omega⟩
    have HO : Hid (∀ y q', QR (ifT isEq (fun t => pbind (plainF n) fun y => pbind (pnode 19 t [x, y]) fun z => opLoop (plainF n) isEq j' z) (prt x)) qk y q' → QR (equalOf n (plainF n)) q y q') := HS.out.2.2.2.2
    have HSK := Lib.hid HS.out.1
    have HKK := Lib.hid HS.out.2.1
    have HI0 := Lib.hid (fun w h => zsign_any c A m qk w [61, 61] (by decide) h)
    have HI1 := Lib.hid (fun w h => zsign_any c A m qk w [33, 61] (by decide) h)
    have hor := eq_orR qk
    cases hb1 : qtk (isSg [61, 61]) qk with
    | true =>
      rw [hb1] at hor HI0
      have hb : qtk isEq qk = true := hor
      clear hor hb1 HI1
      obtain ⟨s, rfl, hs⟩ := qtk_good hb
      have HZ := Lib.hid (fun (y : _) (q' : QSt) (h : QR _ _ y q') => HO.out y q' (QR.ifT_t hs h))
      have HLN : Hid (s.r.tail.length + 1 = s.r.length ∧ 1 ≤ m ∧ s.r ≠ []) := ⟨tk_lenR hs, HS.out.1.pos hs, tk_neR hs⟩
      have HTX : Hid (hdT s.r = hdT s.r) := rfl
      clear hs hb
      go_wp2_with fail
      refine (HI0.out wr HSK.out).mono ?_
      rintro e wq0 ⟨rfl, hk⟩
      have HSK := Lib.hid (HSK.out.keep hk)
      have HKK := Lib.hid (HKK.out.trans (KA.of hk) (fun _ h => h))
      clear hk
      go_wp2_with fail
      refine (ztake_any c A m s wq0 HLN.out.2.2 HSK.out).mono ?_
      rintro e w3 ⟨rfl, H3⟩
      unfold tV
      obtain ⟨T, hT⟩ : ∃ T, hdT s.r = T := ⟨_, rfl⟩
      try rw [hT] at HTX
      rw [hT] at HZ
      try rw [hT]
      clear hT
      go_wp2_with fail
      refine (HSUB.out A (m - 1) _ w3 (by have := HM.out.1; omega) (by have h1 := HLN.out.1; have h2 : s.r.length < j' + 1 := HS.out.2.2.1; have h3 := HS.out.2.2.2.1; show s.r.tail.length < n; omega) H3.out.1).mono ?_
      rintro e w4 ⟨y, q4, rfl, H4⟩
      unfold nV
      go_wp2_with fail
      have HN2 := Lib.hid (rnode2 c A (m - 1) q4 w4 19 T x y (by have := HM.out.1; omega) H4.out.2.1)
      try rw [HTX.out] at HN2
      refine HN2.out.mono ?_
      rintro e w5 ⟨z, q5, rfl, H5⟩
      try rw [HTX.out] at HZ
      have HR : Hid ((QS c A m q5 w5 ∧ KA c A w w5 ∧ q5.n < j' ∧ j' ≤ n ∧ ∀ y q', QR (opLoop (plainF n) isEq j' z) q5 y q' → QR (equalOf n (plainF n)) q y q') ∧ c.l.length - atOfR c w5 < c.l.length - atOfR c wr) := by
        have h1 := QR.le HLC.out H4.out.1
        have h2 := QR.le (Lc.node _ _ _) H5.out.1
        have h3 := HLN.out
        have h4 : s.r.length < j' + 1 := HS.out.2.2.1
        have h5 := HS.out.2.2.2.1
        have h6 : (QSt.good ⟨s.r.tail, s.ns⟩).n = s.r.tail.length := rfl
        have h7 : (QSt.good s).n = s.r.length := rfl
        have h8 := H5.out.2.1.meas
        have h9 := HMS.out
        exact ⟨⟨H5.out.2.1.more (fun _ _ => by omega), ((HKK.out.trans H3.out.2 (fun _ h => h)).trans H4.out.2.2 (fun _ h => h)).trans H5.out.2.2 (fun _ h => h), by omega, by omega, fun y q' h => HZ.out _ _ (QR.bind H4.out.1 (QR.bind H5.out.1 h))⟩, by omega⟩
      unfold nV
      clear H3 H4 H5 HN2
      go_wp2_with fail
      exact ⟨⟨z, j', q5, rfl, HR.out.1⟩, HR.out.2⟩
    | false =>
      rw [hb1] at hor HI0
      cases hb2 : qtk (isSg [33, 61]) qk with
      | true =>
        rw [hb2] at hor HI1
        have hb : qtk isEq qk = true := hor
        clear hor hb1 hb2
        obtain ⟨s, rfl, hs⟩ := qtk_good hb
        have HZ := Lib.hid (fun (y : _) (q' : QSt) (h : QR _ _ y q') => HO.out y q' (QR.ifT_t hs h))
        have HLN : Hid (s.r.tail.length + 1 = s.r.length ∧ 1 ≤ m ∧ s.r ≠ []) := ⟨tk_lenR hs, HS.out.1.pos hs, tk_neR hs⟩
        have HTX : Hid (hdT s.r = hdT s.r) := rfl
        clear hs hb
        go_wp2_with fail
        refine (HI0.out wr HSK.out).mono ?_
        rintro e wq0 ⟨rfl, hk⟩
        have HSK := Lib.hid (HSK.out.keep hk)
        have HKK := Lib.hid (HKK.out.trans (KA.of hk) (fun _ h => h))
        clear hk
        go_wp2_with fail
        refine (HI1.out wq0 HSK.out).mono ?_
        rintro e wq1 ⟨rfl, hk⟩
        have HSK := Lib.hid (HSK.out.keep hk)
        have HKK := Lib.hid (HKK.out.trans (KA.of hk) (fun _ h => h))
        clear hk
        go_wp2_with fail
        refine (ztake_any c A m s wq1 HLN.out.2.2 HSK.out).mono ?_
        rintro e w3 ⟨rfl, H3⟩
        unfold tV
        obtain ⟨T, hT⟩ : ∃ T, hdT s.r = T := ⟨_, rfl⟩
        try rw [hT] at HTX
        rw [hT] at HZ
        try rw [hT]
        clear hT
        go_wp2_with fail
        refine (HSUB.out A (m - 1) _ w3 (by have := HM.out.1; omega) (by have h1 := HLN.out.1; have h2 : s.r.length < j' + 1 := HS.out.2.2.1; have h3 := HS.out.2.2.2.1; show s.r.tail.length < n; omega) H3.out.1).mono ?_
        rintro e w4 ⟨y, q4, rfl, H4⟩
        unfold nV
        go_wp2_with fail
        have HN2 := Lib.hid (rnode2 c A (m - 1) q4 w4 19 T x y (by have := HM.out.1; omega) H4.out.2.1)
        try rw [HTX.out] at HN2
        refine HN2.out.mono ?_
        rintro e w5 ⟨z, q5, rfl, H5⟩
        try rw [HTX.out] at HZ
        have HR : Hid ((QS c A m q5 w5 ∧ KA c A w w5 ∧ q5.n < j' ∧ j' ≤ n ∧ ∀ y q', QR (opLoop (plainF n) isEq j' z) q5 y q' → QR (equalOf n (plainF n)) q y q') ∧ c.l.length - atOfR c w5 < c.l.length - atOfR c wr) := by
          have h1 := QR.le HLC.out H4.out.1
          have h2 := QR.le (Lc.node _ _ _) H5.out.1
          have h3 := HLN.out
          have h4 : s.r.length < j' + 1 := HS.out.2.2.1
          have h5 := HS.out.2.2.2.1
          have h6 : (QSt.good ⟨s.r.tail, s.ns⟩).n = s.r.tail.length := rfl
          have h7 : (QSt.good s).n = s.r.length := rfl
          have h8 := H5.out.2.1.meas
          have h9 := HMS.out
          exact ⟨⟨H5.out.2.1.more (fun _ _ => by omega), ((HKK.out.trans H3.out.2 (fun _ h => h)).trans H4.out.2.2 (fun _ h => h)).trans H5.out.2.2 (fun _ h => h), by omega, by omega, fun y q' h => HZ.out _ _ (QR.bind H4.out.1 (QR.bind H5.out.1 h))⟩, by omega⟩
        unfold nV
        clear H3 H4 H5 HN2
        go_wp2_with fail
        exact ⟨⟨z, j', q5, rfl, HR.out.1⟩, HR.out.2⟩
      | false =>
        rw [hb2] at hor HI1
        have hb : qtk isEq qk = false := hor
        clear hor hb1 hb2
        have HE := Lib.hid (HO.out _ _ (QR.ifT_f hb (QR.prt x qk)))
        go_wp2_with fail
        refine (HI0.out wr HSK.out).mono ?_
        rintro e wq0 ⟨rfl, hk⟩
        have HSK := Lib.hid (HSK.out.keep hk)
        have HKK := Lib.hid (HKK.out.trans (KA.of hk) (fun _ h => h))
        clear hk
        go_wp2_with fail
        refine (HI1.out wq0 HSK.out).mono ?_
        rintro e wq1 ⟨rfl, hk⟩
        have HSK := Lib.hid (HSK.out.keep hk)
        have HKK := Lib.hid (HKK.out.trans (KA.of hk) (fun _ h => h))
        clear hk
        go_wp2_with fail
        go_ret
        exact ⟨x, qk, rfl, HE.out, HSK.out, HKK.out⟩
set_option maxRecDepth 100000 in
set_option maxHeartbeats 8000000 in
theorem zboth_qc (c : PCx) (n : Nat) (hsub : QC c 146 (equalOf n (plainF n)) n) : QC c 115 (bothOf n (plainF n)) n := by
  intro A m q w hm hr h
  have HP := Lib.hid h
  have HM := Lib.hid (And.intro hm hr)
  have HSUB := Lib.hid hsub
  have HLC := Lib.hid (Lc.equalOfR n)
  clear h hm hr hsub
  go_enter Tryz.func115, Tryz.ntmps115
  go_wp2_with fail
  refine (HSUB.out A m q w HM.out.1 HM.out.2 HP.out).mono ?_
  rintro e w1 ⟨x, q1, rfl, H1⟩
  have HZ : Hid (∀ y q', QR (opLoop (equalOf n (plainF n)) (isKy [97, 110, 100]) n x) q1 y q' → QR (bothOf n (plainF n)) q y q') := fun y q' h => QR.bind H1.out.1 h
  have HN : Hid (q1.n < n) := Nat.lt_of_le_of_lt (QR.le HLC.out H1.out.1) HM.out.2
  unfold nV
  go_wp2_with fail
  go_loopw [3] (fun v3 wr => ∃ (x j : Nat) (qk : QSt), v3 = .int .i64 x ∧ Hid (QS c A m qk wr ∧ KA c A w wr ∧ qk.n < j ∧ j ≤ n ∧ ∀ y q', QR (opLoop (equalOf n (plainF n)) (isKy [97, 110, 100]) j x) qk y q' → QR (bothOf n (plainF n)) q y q')) (fun _ wr => c.l.length - atOfR c wr)
  case atStart => exact ⟨x, n, q1, rfl, H1.out.2.1, H1.out.2.2, HN.out, Nat.le_refl _, HZ.out⟩
  case round =>
    obtain ⟨x, j, qk, rfl, HS⟩ := hrel
    clear HZ H1 HN
    have HMS := Lib.hid HS.out.1.meas
    obtain ⟨j', rfl⟩ : ∃ j', j = j' + 1 := ⟨j - 1, by have := HS.out.2.2.1; omega⟩
    have HO : Hid (∀ y q', QR (ifT (isKy [97, 110, 100]) (fun t => pbind (equalOf n (plainF n)) fun y => pbind (pnode 19 t [x, y]) fun z => opLoop (equalOf n (plainF n)) (isKy [97, 110, 100]) j' z) (prt x)) qk y q' → QR (bothOf n (plainF n)) q y q') := HS.out.2.2.2.2
    have HSK := Lib.hid HS.out.1
    have HKK := Lib.hid HS.out.2.1
    have HI0 := Lib.hid (fun w h => zkey_any c A m qk w [97, 110, 100] (by decide) h)
    cases hb : qtk (isKy [97, 110, 100]) qk with
    | false =>
      rw [hb] at HI0
      have HE := Lib.hid (HO.out _ _ (QR.ifT_f hb (QR.prt x qk)))
      go_wp2_with fail
      refine (HI0.out wr HSK.out).mono ?_
      rintro e wq0 ⟨rfl, hk⟩
      have HSK := Lib.hid (HSK.out.keep hk)
      have HKK := Lib.hid (HKK.out.trans (KA.of hk) (fun _ h => h))
      clear hk
      go_wp2_with fail
      go_ret
      exact ⟨x, qk, rfl, HE.out, HSK.out, HKK.out⟩
    | true =>
      rw [hb] at HI0
      obtain ⟨s, rfl, hs⟩ := qtk_good hb
      have HZ := Lib.hid (fun (y : _) (q' : QSt) (h : QR _ _ y q') => HO.out y q' (QR.ifT_t hs h))
      have HLN : Hid (s.r.tail.length + 1 = s.r.length ∧ 1 ≤ m ∧ s.r ≠ []) := ⟨tk_lenR hs, HS.out.1.pos hs, tk_neR hs⟩
      have HTX : Hid (hdT s.r = [97, 110, 100]) := ky_txR hs
      clear hs hb
      go_wp2_with fail
      refine (HI0.out wr HSK.out).mono ?_
      rintro e wq0 ⟨rfl, hk⟩
      have HSK := Lib.hid (HSK.out.keep hk)
      have HKK := Lib.hid (HKK.out.trans (KA.of hk) (fun _ h => h))
      clear hk
      go_wp2_with fail
      refine (ztake_any c A m s wq0 HLN.out.2.2 HSK.out).mono ?_
      rintro e w3 ⟨rfl, H3⟩
      unfold tV
      obtain ⟨T, hT⟩ : ∃ T, hdT s.r = T := ⟨_, rfl⟩
      try rw [hT] at HTX
      rw [hT] at HZ
      try rw [hT]
      clear hT
      go_wp2_with fail
      refine (HSUB.out A (m - 1) _ w3 (by have := HM.out.1; omega) (by have h1 := HLN.out.1; have h2 : s.r.length < j' + 1 := HS.out.2.2.1; have h3 := HS.out.2.2.2.1; show s.r.tail.length < n; omega) H3.out.1).mono ?_
      rintro e w4 ⟨y, q4, rfl, H4⟩
      unfold nV
      go_wp2_with fail
      have HN2 := Lib.hid (rnode2 c A (m - 1) q4 w4 19 T x y (by have := HM.out.1; omega) H4.out.2.1)
      try rw [HTX.out] at HN2
      refine HN2.out.mono ?_
      rintro e w5 ⟨z, q5, rfl, H5⟩
      try rw [HTX.out] at HZ
      have HR : Hid ((QS c A m q5 w5 ∧ KA c A w w5 ∧ q5.n < j' ∧ j' ≤ n ∧ ∀ y q', QR (opLoop (equalOf n (plainF n)) (isKy [97, 110, 100]) j' z) q5 y q' → QR (bothOf n (plainF n)) q y q') ∧ c.l.length - atOfR c w5 < c.l.length - atOfR c wr) := by
        have h1 := QR.le HLC.out H4.out.1
        have h2 := QR.le (Lc.node _ _ _) H5.out.1
        have h3 := HLN.out
        have h4 : s.r.length < j' + 1 := HS.out.2.2.1
        have h5 := HS.out.2.2.2.1
        have h6 : (QSt.good ⟨s.r.tail, s.ns⟩).n = s.r.tail.length := rfl
        have h7 : (QSt.good s).n = s.r.length := rfl
        have h8 := H5.out.2.1.meas
        have h9 := HMS.out
        exact ⟨⟨H5.out.2.1.more (fun _ _ => by omega), ((HKK.out.trans H3.out.2 (fun _ h => h)).trans H4.out.2.2 (fun _ h => h)).trans H5.out.2.2 (fun _ h => h), by omega, by omega, fun y q' h => HZ.out _ _ (QR.bind H4.out.1 (QR.bind H5.out.1 h))⟩, by omega⟩
      unfold nV
      clear H3 H4 H5 HN2
      go_wp2_with fail
      exact ⟨⟨z, j', q5, rfl, HR.out.1⟩, HR.out.2⟩
set_option maxRecDepth 100000 in
set_option maxHeartbeats 8000000 in
theorem zvalue_qc (c : PCx) (n : Nat) (hsub : QC c 115 (bothOf n (plainF n)) n) : QC c 85 (value n) n := by
  intro A m q w hm hr h
  have HP := Lib.hid h
  have HM := Lib.hid (And.intro hm hr)
  have HSUB := Lib.hid hsub
  have HLC := Lib.hid (Lc.bothOfR n)
  clear h hm hr hsub
  go_enter Tryz.func85, Tryz.ntmps85
  go_wp2_with fail
  refine (HSUB.out A m q w HM.out.1 HM.out.2 HP.out).mono ?_
  rintro e w1 ⟨x, q1, rfl, H1⟩
  have HZ : Hid (∀ y q', QR (opLoop (bothOf n (plainF n)) (isKy [111, 114]) n x) q1 y q' → QR (value n) q y q') := fun y q' h => QR.bind H1.out.1 h
  have HN : Hid (q1.n < n) := Nat.lt_of_le_of_lt (QR.le HLC.out H1.out.1) HM.out.2
  unfold nV
  go_wp2_with fail
  go_loopw [3] (fun v3 wr => ∃ (x j : Nat) (qk : QSt), v3 = .int .i64 x ∧ Hid (QS c A m qk wr ∧ KA c A w wr ∧ qk.n < j ∧ j ≤ n ∧ ∀ y q', QR (opLoop (bothOf n (plainF n)) (isKy [111, 114]) j x) qk y q' → QR (value n) q y q')) (fun _ wr => c.l.length - atOfR c wr)
  case atStart => exact ⟨x, n, q1, rfl, H1.out.2.1, H1.out.2.2, HN.out, Nat.le_refl _, HZ.out⟩
  case round =>
    obtain ⟨x, j, qk, rfl, HS⟩ := hrel
    clear HZ H1 HN
    have HMS := Lib.hid HS.out.1.meas
    obtain ⟨j', rfl⟩ : ∃ j', j = j' + 1 := ⟨j - 1, by have := HS.out.2.2.1; omega⟩
    have HO : Hid (∀ y q', QR (ifT (isKy [111, 114]) (fun t => pbind (bothOf n (plainF n)) fun y => pbind (pnode 19 t [x, y]) fun z => opLoop (bothOf n (plainF n)) (isKy [111, 114]) j' z) (prt x)) qk y q' → QR (value n) q y q') := HS.out.2.2.2.2
    have HSK := Lib.hid HS.out.1
    have HKK := Lib.hid HS.out.2.1
    have HI0 := Lib.hid (fun w h => zkey_any c A m qk w [111, 114] (by decide) h)
    cases hb : qtk (isKy [111, 114]) qk with
    | false =>
      rw [hb] at HI0
      have HE := Lib.hid (HO.out _ _ (QR.ifT_f hb (QR.prt x qk)))
      go_wp2_with fail
      refine (HI0.out wr HSK.out).mono ?_
      rintro e wq0 ⟨rfl, hk⟩
      have HSK := Lib.hid (HSK.out.keep hk)
      have HKK := Lib.hid (HKK.out.trans (KA.of hk) (fun _ h => h))
      clear hk
      go_wp2_with fail
      go_ret
      exact ⟨x, qk, rfl, HE.out, HSK.out, HKK.out⟩
    | true =>
      rw [hb] at HI0
      obtain ⟨s, rfl, hs⟩ := qtk_good hb
      have HZ := Lib.hid (fun (y : _) (q' : QSt) (h : QR _ _ y q') => HO.out y q' (QR.ifT_t hs h))
      have HLN : Hid (s.r.tail.length + 1 = s.r.length ∧ 1 ≤ m ∧ s.r ≠ []) := ⟨tk_lenR hs, HS.out.1.pos hs, tk_neR hs⟩
      have HTX : Hid (hdT s.r = [111, 114]) := ky_txR hs
      clear hs hb
      go_wp2_with fail
      refine (HI0.out wr HSK.out).mono ?_
      rintro e wq0 ⟨rfl, hk⟩
      have HSK := Lib.hid (HSK.out.keep hk)
      have HKK := Lib.hid (HKK.out.trans (KA.of hk) (fun _ h => h))
      clear hk
      go_wp2_with fail
      refine (ztake_any c A m s wq0 HLN.out.2.2 HSK.out).mono ?_
      rintro e w3 ⟨rfl, H3⟩
      unfold tV
      obtain ⟨T, hT⟩ : ∃ T, hdT s.r = T := ⟨_, rfl⟩
      try rw [hT] at HTX
      rw [hT] at HZ
      try rw [hT]
      clear hT
      go_wp2_with fail
      refine (HSUB.out A (m - 1) _ w3 (by have := HM.out.1; omega) (by have h1 := HLN.out.1; have h2 : s.r.length < j' + 1 := HS.out.2.2.1; have h3 := HS.out.2.2.2.1; show s.r.tail.length < n; omega) H3.out.1).mono ?_
      rintro e w4 ⟨y, q4, rfl, H4⟩
      unfold nV
      go_wp2_with fail
      have HN2 := Lib.hid (rnode2 c A (m - 1) q4 w4 19 T x y (by have := HM.out.1; omega) H4.out.2.1)
      try rw [HTX.out] at HN2
      refine HN2.out.mono ?_
      rintro e w5 ⟨z, q5, rfl, H5⟩
      try rw [HTX.out] at HZ
      have HR : Hid ((QS c A m q5 w5 ∧ KA c A w w5 ∧ q5.n < j' ∧ j' ≤ n ∧ ∀ y q', QR (opLoop (bothOf n (plainF n)) (isKy [111, 114]) j' z) q5 y q' → QR (value n) q y q') ∧ c.l.length - atOfR c w5 < c.l.length - atOfR c wr) := by
        have h1 := QR.le HLC.out H4.out.1
        have h2 := QR.le (Lc.node _ _ _) H5.out.1
        have h3 := HLN.out
        have h4 : s.r.length < j' + 1 := HS.out.2.2.1
        have h5 := HS.out.2.2.2.1
        have h6 : (QSt.good ⟨s.r.tail, s.ns⟩).n = s.r.tail.length := rfl
        have h7 : (QSt.good s).n = s.r.length := rfl
        have h8 := H5.out.2.1.meas
        have h9 := HMS.out
        exact ⟨⟨H5.out.2.1.more (fun _ _ => by omega), ((HKK.out.trans H3.out.2 (fun _ h => h)).trans H4.out.2.2 (fun _ h => h)).trans H5.out.2.2 (fun _ h => h), by omega, by omega, fun y q' h => HZ.out _ _ (QR.bind H4.out.1 (QR.bind H5.out.1 h))⟩, by omega⟩
      unfold nV
      clear H3 H4 H5 HN2
      go_wp2_with fail
      exact ⟨⟨z, j', q5, rfl, HR.out.1⟩, HR.out.2⟩
theorem zvalues_qc (c : PCx) : ∀ n, QC c 156 (plainF n) n ∧ QC c 85 (value n) n
  | 0 => ⟨fun A m q w _ h => by omega, fun A m q w _ h => by omega⟩
  | n + 1 => by
    have ih := zvalues_qc c n
    have h1 := zplain_qc c n ih.1 ih.2
    exact ⟨h1, zvalue_qc c (n + 1) (zboth_qc c (n + 1) (zequal_qc c (n + 1) h1))⟩
end Go.Proofs.YtfpdgdacifiejaaGreat

namespace Go.Proofs.YtfpdgdacifiejaaGreat
open Go.RowKit Go.Maps

structure LQ (c : PCx) (A : List Nat) (m : Nat) (q : QSt) (w : World) (v : Value) (l : List Nat) : Prop where
  st : QS c (v.ownBlock.toList ++ A) m q w
  own : OwnJ (c.g + 1) w v l
  apart : ∀ z, v.ownBlock = some z → z ∉ A
theorem LQ.nil {c : PCx} {A : List Nat} {m : Nat} {q : QSt} {w : World} (h : QS c A m q w) : LQ c A m q w (.slice none 0 0) [] := ⟨h, OwnJ.nil _ _, fun z hz => by cases hz⟩
theorem LQ.step {c : PCx} {A : List Nat} {m m2 : Nat} {q q2 : QSt} {w w2 : World} {v : Value} {l : List Nat} (h : LQ c A m q w v l) (hk : KA c (v.ownBlock.toList ++ A) w w2) (hs : QS c (v.ownBlock.toList ++ A) m2 q2 w2) : LQ c A m2 q2 w2 v l :=
  ⟨hs, hk.own h.own (fun z hz => by simp [hz]), h.apart⟩
theorem LQ.more {c : PCx} {A : List Nat} {m m2 : Nat} {q : QSt} {w : World} {v : Value} {l : List Nat} (h : LQ c A m q w v l) (hm : ∀ s, q = .good s → m ≤ m2) : LQ c A m2 q w v l := ⟨h.st.more hm, h.own, h.apart⟩
theorem LQ.keep {c : PCx} {A : List Nat} {m : Nat} {q : QSt} {w w2 : World} {v : Value} {l : List Nat} (h : LQ c A m q w v l) (hk : Kept [] w w2) : LQ c A m q w2 v l := h.step (KA.of hk) (h.st.keep hk)
theorem LQ.low {c : PCx} {A : List Nat} {m : Nat} {q : QSt} {w : World} {v : Value} {l : List Nat} (h : LQ c A m q w v l) : QS c A m q w := h.st.less (fun z hz => by simp [hz])
/-- Numbers are appended to the row. -/
theorem LQ.app {c : PCx} {A : List Nat} {m : Nat} {q : QSt} {w : World} {v t : Value} {l B : List Nat} {b2 : Nat} (h : LQ c A m q w v l) (ht : OwnJ b2 w t B) (hl : l.length + B.length ≤ 20000) :
    ∃ v' w3, (Builtin.append_ #[39, 39] 39 #[v, t]).run Tryz.prog w = .ok v' w3 ∧ LQ c A m q w3 v' (l ++ B) ∧ KA c A w w3 := by
  obtain ⟨v', w3, hrun, ho, hk, hor⟩ := h.own.app h.st.lt ht hl
  have hA := h.st.hA
  refine ⟨v', w3, hrun, ⟨h.st.go hk (fun z hz => by simp at hz; simp [hz]) (fun z hz => ?_), ho, fun z hz hm => ?_⟩, ⟨_, hk, fun z hz => ?_⟩⟩
  · rcases List.mem_append.1 hz with hz | hz
    · simp at hz
      refine ⟨?_, (ho.blk z hz).2⟩
      rcases hor with e | e
      · rw [e] at hz; left; simp [hz]
      · rw [e] at hz; injection hz with hz; right; omega
    · exact ⟨.inl (by simp [hz]), Nat.lt_of_lt_of_le (hA z (by simp [hz])).2 hk.size⟩
  · rcases hor with e | e
    · rw [e] at hz; exact h.apart z hz hm
    · rw [e] at hz
      have hz2 : w.heap.size = z := by injection hz
      have := (hA z (by simp [hm])).2
      omega
  · simp at hz
    exact ⟨h.apart z hz, Nat.le_of_lt (h.own.blk z hz).1⟩
/-- One number that lies in a new block. -/
theorem LQ.app1 {c : PCx} {A : List Nat} {m : Nat} {q : QSt} {w : World} {v : Value} {l : List Nat} (h : LQ c A m q w v l) (x : Nat) (hl : l.length ≤ 15000) :
    ∃ v' w3, (Builtin.append_ #[39, 39] 39 #[v, .slice (some ⟨w.heap.size, 0, none⟩) 1 1]).run Tryz.prog (w.alloc (.cells #[.int .i64 (x : Int)] 3)) = .ok v' w3 ∧ LQ c A m q w3 v' (l ++ [x]) ∧ KA c A w w3 := by
  have h2 : LQ c A m q (w.alloc (.cells #[.int .i64 (x : Int)] 3)) v l := h.keep (Kept.alloc _ _ _)
  obtain ⟨v', w3, h3, h4, h5⟩ := h2.app (B := [x]) (OwnJ.made w [x] 1 rfl 0 (by omega) (by omega)) (by simp; omega)
  exact ⟨v', w3, h3, h4, (KA.of (Kept.alloc _ _ _)).trans h5 (fun _ h => h)⟩
/-- A row of one number in a new block. -/
theorem LQ.one {c : PCx} {A : List Nat} {m : Nat} {q : QSt} {w : World} (h : QS c A m q w) (x : Nat) : LQ c A m q (w.alloc (.cells #[.int .i64 (x : Int)] 3)) (.slice (some ⟨w.heap.size, 0, none⟩) 1 1) [x] :=
  ⟨h.alloc _, OwnJ.made w [x] 1 rfl (c.g + 1) h.lt (by omega), fun z hz hh => by
    have hz2 : w.heap.size = z := by injection hz
    have := (h.hA z hh).2
    omega⟩
theorem LQ.node {c : PCx} {A : List Nat} {m : Nat} {q : QSt} {w : World} {v : Value} {l : List Nat} (h : LQ c A m q w v l) (k : Nat) (tx : List UInt8) (hm : m ≤ 5000) :
    Calls Tryz.prog 54 #[.pointer (some ⟨c.g, 0, none⟩), .int .i64 (k : Int), .string (strL tx), v] w (QRes c (pnode k tx l) nV A (m + 1) q w) := znode_any c A m q w k tx v l hm h.st h.own h.apart
theorem LQ.val {c : PCx} {A : List Nat} {m : Nat} {q : QSt} {w : World} {v : Value} {l : List Nat} (h : LQ c A m q w v l) : ∃ ao cap, v = .slice ao l.length cap := h.own.slice
/-- What a call that reads a list of nodes answers. -/
def LQG (c : PCx) (G : List Nat → QSt → Prop) (A : List Nat) (m : Nat) (w : World) (e : Ending) (w' : World) : Prop := ∃ v l q', e = .returned v ∧ Hid (G l q' ∧ LQ c A m q' w' v l ∧ KA c A w w' ∧ l.length ≤ 14000)
def LQRes (c : PCx) (f : Prs (List Nat)) (A : List Nat) (m : Nat) (q : QSt) (w : World) (e : Ending) (w' : World) : Prop := LQG c (QR f q) A m w e w'
/-- The same with what is to be said of the answer held apart. -/
def QRG {α : Type} (c : PCx) (G : α → QSt → Prop) (val : α → Value) (A : List Nat) (m : Nat) (w : World) (e : Ending) (w' : World) : Prop := ∃ x q', e = .returned (val x) ∧ Hid (G x q' ∧ QS c A m q' w' ∧ KA c A w w')
theorem QRG.res {α : Type} {c : PCx} {f : Prs α} {val : α → Value} {A : List Nat} {m : Nat} {q : QSt} {w : World} {e : Ending} {w' : World} (h : QRG c (QR f q) val A m w e w') : QRes c f val A m q w e w' := h
theorem QR.bifT_t {α β : Type} {p : Tok → Bool} {f : List UInt8 → Prs α} {g : Prs α} {K : α → Prs β} {s : PSt} {y : β} {q2 : QSt} (h : tkB p s.r = true) (k : QR (pbind (f (hdT s.r)) K) (.good ⟨s.r.tail, s.ns⟩) y q2) : QR (pbind (ifT p f g) K) (.good s) y q2 := by
  rw [ifT_bind]
  exact QR.ifT_t h k
theorem QR.bifT_f {α β : Type} {p : Tok → Bool} {f : List UInt8 → Prs α} {g : Prs α} {K : α → Prs β} {q q2 : QSt} {y : β} (h : qtk p q = false) (k : QR (pbind g K) q y q2) : QR (pbind (ifT p f g) K) q y q2 := by
  rw [ifT_bind]
  exact QR.ifT_f h k
theorem QR.bprt {α β : Type} {a : α} {g : α → Prs β} {q q2 : QSt} {y : β} (k : QR (g a) q y q2) : QR (pbind (Go.Proofs.YtfpdgdacifiejaaGreat.prt a) g) q y q2 := k
theorem QR.bun {α β γ : Type} {f : Prs α} {g : α → Prs β} {K : β → Prs γ} {q q2 : QSt} {y : γ} (k : QR (pbind (pbind f g) K) q y q2) : QR (pbind f fun a => pbind (g a) K) q y q2 := by
  rw [bind_bind] at k
  exact k
theorem QR.eat1 {α : Type} {f : Prs α} {q q' : QSt} {x : α} {N : Nat} (h : QR f q x q') (hl : Lc f) (k : q.isBad = false → q.n < N) (hb : q'.isBad = false) : q'.n < N := by
  cases q' with
  | bad k2 => cases hb
  | good s' =>
    obtain ⟨s0, rfl, h1⟩ := h.back
    have h2 := k rfl
    have h3 := hl.le h1
    exact Nat.lt_of_le_of_lt h3 h2
theorem QR.mustE {p : Tok → Bool} {q q' : QSt} {x : List UInt8} (h : QR (must p) q x q') (hb : q'.isBad = false) : q'.n < q.n := by
  cases q' with
  | bad k2 => cases hb
  | good s' =>
    obtain ⟨s0, rfl, h1⟩ := h.back
    cases hp : tkB p s0.r with
    | false => rw [must_f hp] at h1; cases h1
    | true =>
      rw [must_t hp] at h1
      injection h1 with h1 _
      have := tk_lenR hp
      subst h1
      show s0.r.tail.length < s0.r.length
      omega
theorem QR.bbind {α β γ : Type} {f : Prs α} {g : α → Prs β} {K : β → Prs γ} {q q2 : QSt} {y : γ} (k : QR (pbind f fun a => pbind (g a) K) q y q2) : QR (pbind (pbind f g) K) q y q2 := by
  rw [bind_bind]
  exact k
/-- Whether it goes on. -/
def badOfR (c : PCx) (w : World) : Nat := match w.cell? ⟨c.g, 2, none⟩ with
  | some (.bool true) => 0
  | _ => 1
theorem QS.bad0 {c : PCx} {A : List Nat} {m : Nat} {q : QSt} {w : World} (h : QS c A m q w) : badOfR c w = if q.isBad then 0 else 1 := by
  obtain ⟨_, _, _, _, c2, _⟩ := h.open
  unfold badOfR
  rw [c2]
  cases q <;> rfl
theorem QR.mustBack {α : Type} {p : Tok → Bool} {f : List UInt8 → Prs α} {s : PSt} {y : α} {q' : QSt} (hs : tkB p s.r = true) (h : QR (pbind (must p) f) (.good s) y q') : QR (f (hdT s.r)) (.good ⟨s.r.tail, s.ns⟩) y q' := by
  unfold QR at h ⊢
  simp only at h ⊢
  rw [bind_ok (must_t hs)] at h
  exact h
theorem stmts_outR {st : Prs Nat} {j : Nat} {l : List Nat} {q q' : QSt} {t : List UInt8} (hb : q.isBad = true ∨ qtk (isSg [125]) q = true) (h : QR (must (isSg [125])) q t q') : QR (stmts st (j + 1) l) q l q' := by
  cases q with
  | bad k => exact h
  | good s =>
    have hs : tkB (isSg [125]) s.r = true := by
      rcases hb with hb | hb
      · cases hb
      · exact hb
    refine QR.ifT_t hs ?_
    unfold QR at h
    simp only at h
    rw [must_t hs] at h
    obtain ⟨rfl, _⟩ := h
    exact QR.prt _ _
end Go.Proofs.YtfpdgdacifiejaaGreat

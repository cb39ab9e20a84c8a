/-
  Layer 12: the document's parser: resource.
  Conditions: those that each theorem states.
  Layer 12: the document's parser: chain.
  Conditions: those that each theorem states.
-/
import Derived.Test.YtfpdgdacifiejaaGreatVRParm
namespace Go.Proofs.YtfpdgdacifiejaaGreat
open Go.RowKit Go.Maps
set_option maxRecDepth 100000 in
set_option maxHeartbeats 8000000 in
theorem zresource_any (c : PCx) (hw : ∀ t ∈ c.l, t.tx.length ≤ 4611686018427387904) (n : Nat) (hval : QC c 85 (value n) n) (A : List Nat) (m : Nat) (s : PSt) (w : World) (hm : m ≤ 5000) (hs : tkB isNm s.r = true) (hl : s.r.length < n + 1) (h : QS c A m (.good s) w) :
    Calls Tryz.prog 86 #[.pointer (some ⟨c.g, 0, none⟩)] w (QRes c (resOf n (hdT s.r)) nV A m (.good ⟨s.r.tail, s.ns⟩) w) := by
  have HN : Hid ((QSt.good s).n ≤ 5000) := by
    have h1 := h.few s rfl
    show s.r.length ≤ 5000
    omega
  have HP := Lib.hid h
  have HM := Lib.hid hm
  have HL : Hid ((QSt.good s).n < n + 1) := hl
  have HVA := Lib.hid hval
  have HW := Lib.hid hw
  have HK : Hid (KA c A w w) := KA.of (Kept.refl _ _)
  show Calls _ _ _ _ (QRG c (QR (resOf n (hdT s.r)) (.good ⟨s.r.tail, s.ns⟩)) nV A m w)
  have HZ : Hid (∀ y q', QR (pbind (must (isSg [123])) fun _ => pbind (value n) fun v => pbind (must (isSg [58])) fun _ => ifT (isSg [125]) (fun _ => pnode 8 (hdT s.r) [v]) (attLoop n (hdT s.r) n [v])) (.good ⟨s.r.tail, s.ns⟩) y q' → QR (resOf n (hdT s.r)) (.good ⟨s.r.tail, s.ns⟩) y q') := fun _ _ h => h
  generalize QR (resOf n (hdT s.r)) (.good ⟨s.r.tail, s.ns⟩) = G at HZ ⊢
  have hb := hs
  clear h hm hl hval hw
  go_enter Tryz.func86, Tryz.ntmps86
  go_wp2_with fail
  have HT := Lib.hid (ztake_any c _ m s w (tk_neR hs) HP.out)
  have HNS : Hid ((QSt.good ⟨s.r.tail, s.ns⟩).n < 5000) := by
    have h1 := tk_lenR hs
    have h2 := HN.out
    have h4 : (QSt.good s).n = s.r.length := rfl
    show s.r.tail.length < 5000
    omega
  have HN : Hid ((QSt.good ⟨s.r.tail, s.ns⟩).n ≤ 5000) := Nat.le_of_lt HNS.out
  have HL : Hid ((QSt.good ⟨s.r.tail, s.ns⟩).n < n ∧ 1 ≤ m) := by
    have h1 := tk_lenR hs
    have h2 := HL.out
    have h3 := HP.out.pos hs
    refine ⟨?_, h3⟩
    show s.r.tail.length < n
    have h4 : (QSt.good s).n = s.r.length := rfl
    omega
  have HG : Hid (∀ s', QSt.good ⟨s.r.tail, s.ns⟩ = .good s' → 1 ≤ m) := fun _ _ => by have := HL.out.2; omega
  have HL := Lib.hid HL.out.1
  clear hs hb
  go_wp2_with fail
  refine HT.out.mono ?_
  rintro e w1 ⟨rfl, HT⟩
  have HP := Lib.hid HT.out.1
  have HK := Lib.hid (HK.out.trans HT.out.2 (fun _ h => h))
  clear HT
  unfold tV
  obtain ⟨t3, htx⟩ : ∃ t, hdT s.r = t := ⟨_, rfl⟩
  obtain ⟨q2, hq1⟩ : ∃ q1, QSt.good ⟨s.r.tail, s.ns⟩ = q1 := ⟨_, rfl⟩
  try rw [htx] at HZ
  try rw [htx]
  rw [hq1] at HZ HP HL HG HN HNS
  clear htx hq1
  go_wp2_with fail
  refine (zsign_any c _ (m - 1) q2 w1 [123] (by decide) HP.out).mono ?_
  rintro e w4 ⟨rfl, hk⟩
  have HP := Lib.hid (HP.out.keep hk)
  have HK := Lib.hid (HK.out.trans (KA.of hk) (fun _ h => h))
  clear hk
  go_wp2_with fail
  refine (zmust_any c _ (m - 1) q2 w4 (isSg [123]) HP.out).mono ?_
  rintro e w5 ⟨x7, q6, rfl, H⟩
  have HZ := Lib.hid (fun (y : _) (q' : QSt) (h : QR _ _ y q') => HZ.out y q' (QR.bind H.out.1 h))
  have HL := Lib.hid (Nat.lt_of_le_of_lt (QR.le (Lc.must _) H.out.1) HL.out)
  have HG := Lib.hid (QR.keep1 H.out.1 HG.out)
  have HN := Lib.hid (Nat.le_trans (QR.le (Lc.must _) H.out.1) HN.out)
  have HP := Lib.hid H.out.2.1
  have HK := Lib.hid (HK.out.trans H.out.2.2 (fun _ h => h))
  clear H
  unfold tV
  go_wp2_with fail
  refine (HVA.out _ ((m - 1) - 1) q6 w5 (by have := HM.out; omega) HL.out HP.out).mono ?_
  rintro e w8 ⟨x10, q9, rfl, H⟩
  have HZ := Lib.hid (fun (y : _) (q' : QSt) (h : QR _ _ y q') => HZ.out y q' (QR.bind H.out.1 h))
  have HL := Lib.hid (Nat.lt_of_le_of_lt (QR.le (Lc.value n) H.out.1) HL.out)
  have HG := Lib.hid (QR.keep1 H.out.1 HG.out)
  have HN := Lib.hid (Nat.le_trans (QR.le (Lc.value n) H.out.1) HN.out)
  have HP := Lib.hid H.out.2.1
  have HK := Lib.hid (HK.out.trans H.out.2.2 (fun _ h => h))
  clear H
  unfold nV
  have HQ := Lib.hid (LQ.one HP.out x10)
  have HK : Hid (KA c A _ (w8.alloc (.cells #[.int .i64 (x10 : Int)] 3))) := HK.out.trans (KA.of (Kept.alloc _ _ _)) (fun _ h => h)
  obtain ⟨w11, hw1⟩ : ∃ ww, w8.alloc (.cells #[.int .i64 (x10 : Int)] 3) = ww := ⟨_, rfl⟩
  obtain ⟨lb12, hlb⟩ : ∃ b, w8.heap.size = b := ⟨_, rfl⟩
  obtain ⟨LN, hLN⟩ : ∃ L, [x10].length = L := ⟨_, rfl⟩
  rw [hw1, hlb] at HQ
  rw [hw1] at HK
  go_wp2_with fail
  clear hw1 hlb hLN
  refine (zsign_any c _ ((m - 1) - 1) q9 w11 [58] (by decide) HQ.out.st).mono ?_
  rintro e w13 ⟨rfl, hk⟩
  have HQ := Lib.hid (HQ.out.keep hk)
  have HK := Lib.hid (HK.out.trans (KA.of hk) (fun _ h => h))
  clear hk
  go_wp2_with fail
  refine (zmust_any c _ ((m - 1) - 1) q9 w13 (isSg [58]) HQ.out.st).mono ?_
  rintro e w14 ⟨x16, q15, rfl, H⟩
  have HZ := Lib.hid (fun (y : _) (q' : QSt) (h : QR _ _ y q') => HZ.out y q' (QR.bind H.out.1 h))
  have HL := Lib.hid (Nat.lt_of_le_of_lt (QR.le (Lc.must _) H.out.1) HL.out)
  have HG := Lib.hid (QR.keep1 H.out.1 HG.out)
  have HN := Lib.hid (Nat.le_trans (QR.le (Lc.must _) H.out.1) HN.out)
  have HQ := Lib.hid (HQ.out.step H.out.2.2 H.out.2.1)
  have HK := Lib.hid (HK.out.trans H.out.2.2 (by intro z hz; simp [hz]))
  clear H
  unfold tV
  go_wp2_with fail
  refine (zsign_any c _ (((m - 1) - 1) - 1) q15 w14 [125] (by decide) HQ.out.st).mono ?_
  rintro e w17 ⟨rfl, hk⟩
  have HQ := Lib.hid (HQ.out.keep hk)
  have HK := Lib.hid (HK.out.trans (KA.of hk) (fun _ h => h))
  clear hk
  obtain ⟨b, hb⟩ : ∃ b, qtk (isSg [125]) q15 = b := ⟨_, rfl⟩
  rw [hb]
  cases b
  case true =>
    obtain ⟨s, rfl, hs⟩ := qtk_good hb
    have HZ := Lib.hid (fun (y : _) (q' : QSt) (h : QR _ _ y q') => HZ.out y q' (QR.ifT_t hs h))
    have HT := Lib.hid (ztake_any c _ (((m - 1) - 1) - 1) s w17 (tk_neR hs) HQ.out.st)
    have HNS : Hid ((QSt.good ⟨s.r.tail, s.ns⟩).n < 5000) := by
      have h1 := tk_lenR hs
      have h2 := HN.out
      have h4 : (QSt.good s).n = s.r.length := rfl
      show s.r.tail.length < 5000
      omega
    have HN : Hid ((QSt.good ⟨s.r.tail, s.ns⟩).n ≤ 5000) := Nat.le_of_lt HNS.out
    have HL : Hid ((QSt.good ⟨s.r.tail, s.ns⟩).n < n ∧ 1 ≤ (((m - 1) - 1) - 1)) := by
      have h1 := tk_lenR hs
      have h2 := HL.out
      have h3 := HQ.out.st.pos hs
      refine ⟨?_, h3⟩
      show s.r.tail.length < n
      have h4 : (QSt.good s).n = s.r.length := rfl
      omega
    have HG : Hid (∀ s', QSt.good ⟨s.r.tail, s.ns⟩ = .good s' → 1 ≤ m) := fun _ _ => by have := HL.out.2; omega
    have HL := Lib.hid HL.out.1
    clear hs hb
    go_wp2_with fail
    refine HT.out.mono ?_
    rintro e w18 ⟨rfl, HT⟩
    have HQ := Lib.hid (HQ.out.step HT.out.2 HT.out.1)
    have HK := Lib.hid (HK.out.trans HT.out.2 (by intro z hz; simp [hz]))
    clear HT
    unfold tV
    obtain ⟨t20, htx⟩ : ∃ t, hdT s.r = t := ⟨_, rfl⟩
    obtain ⟨q19, hq1⟩ : ∃ q1, QSt.good ⟨s.r.tail, s.ns⟩ = q1 := ⟨_, rfl⟩
    try rw [htx] at HZ
    try rw [htx]
    rw [hq1] at HZ HQ HL HG HN HNS
    clear htx hq1
    go_wp2_with fail
    refine (HQ.out.node 8 t3 (by have := HM.out; omega)).mono ?_
    rintro e w21 ⟨y, q', rfl, H⟩
    have HF := Lib.hid (And.intro (HZ.out _ _ H.out.1) (And.intro (H.out.2.1.more (n := m) (fun s e => by have := QR.keep1 H.out.1 HG.out s e; omega)) (HK.out.trans H.out.2.2 (by intro z hz; simp [hz]))))
    clear H
    unfold nV
    go_wp2_with fail
    go_ret
    exact ⟨y, q', rfl, HF.out⟩
  case false =>
    have HZ := Lib.hid (fun (y : _) (q' : QSt) (h : QR _ _ y q') => HZ.out y q' (QR.ifT_f hb h))
    clear hb
    go_wp2_with fail
    go_loopw [4] (fun v4 wr => ∃ (l : List Nat) (j : Nat) (qk : QSt), Hid (LQ c A (m - 1) qk wr v4 l ∧ KA c A w wr ∧ qk.n < j ∧ j ≤ n ∧ l.length + qk.n ≤ 5001 ∧ ∀ y q', QR (attLoop n t3 j l) qk y q' → G y q')) (fun _ wr => c.l.length - atOfR c wr)
    case atStart => exact ⟨[x10], n, q15, HQ.out.more (fun s e => by omega), HK.out, HL.out, Nat.le_refl _, by have := HN.out; simp; omega, HZ.out⟩
    case round =>
      obtain ⟨l, j, qk, HS⟩ := hrel
      clear HQ HK HL HG HZ HN HNS
      obtain ⟨ao, cap, hv⟩ := HS.out.1.val
      obtain ⟨LN, hLN⟩ : ∃ L, l.length = L := ⟨_, rfl⟩
      rw [hLN] at hv
      subst hv
      have HLN := Lib.hid hLN
      have HMS := Lib.hid HS.out.1.st.meas
      have HQ := Lib.hid HS.out.1
      have HK := Lib.hid HS.out.2.1
      have HL : Hid (qk.n < n) := Nat.lt_of_lt_of_le HS.out.2.2.1 HS.out.2.2.2.1
      have HN : Hid (qk.n ≤ qk.n) := Nat.le_refl _
      obtain ⟨j', rfl⟩ : ∃ j', j = j' + 1 := ⟨j - 1, by have := HS.out.2.2.1; omega⟩
      have HZ : Hid (∀ y q', QR (pbind (must isPl) fun a => pbind (must (isSg [61, 62])) fun _ => pbind (value n) fun v => pbind (pnode 9 a [v]) fun x => ifT (isSg [44]) (fun _ => attLoop n t3 j' (l ++ [x])) (pbind (must (isSg [125])) fun _ => pnode 8 t3 (l ++ [x]))) qk y q' → G y q') := HS.out.2.2.2.2.2
      clear hLN
      go_wp2_with fail
      refine (zplainName_any c HW.out _ (m - 1) qk wr HQ.out.st).mono ?_
      rintro e w22 ⟨rfl, hk⟩
      have HQ := Lib.hid (HQ.out.keep hk)
      have HK := Lib.hid (HK.out.trans (KA.of hk) (fun _ h => h))
      clear hk
      go_wp2_with fail
      refine (zmust_any c _ (m - 1) qk w22 (isPl) HQ.out.st).mono ?_
      rintro e w23 ⟨x25, q24, rfl, H⟩
      have HZ := Lib.hid (fun (y : _) (q' : QSt) (h : QR _ _ y q') => HZ.out y q' (QR.bind H.out.1 h))
      have HL := Lib.hid (Nat.lt_of_le_of_lt (QR.le (Lc.must _) H.out.1) HL.out)
      have HG := Lib.hid (QR.must1 H.out.1 HQ.out.st)
      have HN := Lib.hid (Nat.le_trans (QR.le (Lc.must _) H.out.1) HN.out)
      have HQ := Lib.hid (HQ.out.step H.out.2.2 H.out.2.1)
      have HK := Lib.hid (HK.out.trans H.out.2.2 (by intro z hz; simp [hz]))
      clear H
      unfold tV
      go_wp2_with fail
      refine (zsign_any c _ ((m - 1) - 1) q24 w23 [61, 62] (by decide) HQ.out.st).mono ?_
      rintro e w26 ⟨rfl, hk⟩
      have HQ := Lib.hid (HQ.out.keep hk)
      have HK := Lib.hid (HK.out.trans (KA.of hk) (fun _ h => h))
      clear hk
      go_wp2_with fail
      refine (zmust_any c _ ((m - 1) - 1) q24 w26 (isSg [61, 62]) HQ.out.st).mono ?_
      rintro e w27 ⟨x29, q28, rfl, H⟩
      have HZ := Lib.hid (fun (y : _) (q' : QSt) (h : QR _ _ y q') => HZ.out y q' (QR.bind H.out.1 h))
      have HL := Lib.hid (Nat.lt_of_le_of_lt (QR.le (Lc.must _) H.out.1) HL.out)
      have HG := Lib.hid (QR.keep1 H.out.1 HG.out)
      have HN := Lib.hid (Nat.le_trans (QR.le (Lc.must _) H.out.1) HN.out)
      have HQ := Lib.hid (HQ.out.step H.out.2.2 H.out.2.1)
      have HK := Lib.hid (HK.out.trans H.out.2.2 (by intro z hz; simp [hz]))
      clear H
      unfold tV
      go_wp2_with fail
      refine (HVA.out _ (((m - 1) - 1) - 1) q28 w27 (by have := HM.out; omega) HL.out HQ.out.st).mono ?_
      rintro e w30 ⟨x32, q31, rfl, H⟩
      have HZ := Lib.hid (fun (y : _) (q' : QSt) (h : QR _ _ y q') => HZ.out y q' (QR.bind H.out.1 h))
      have HL := Lib.hid (Nat.lt_of_le_of_lt (QR.le (Lc.value n) H.out.1) HL.out)
      have HG := Lib.hid (QR.keep1 H.out.1 HG.out)
      have HN := Lib.hid (Nat.le_trans (QR.le (Lc.value n) H.out.1) HN.out)
      have HQ := Lib.hid (HQ.out.step H.out.2.2 H.out.2.1)
      have HK := Lib.hid (HK.out.trans H.out.2.2 (by intro z hz; simp [hz]))
      clear H
      unfold nV
      go_wp2_with fail
      refine (rnode1 c _ (((m - 1) - 1) - 1) q31 w30 9 x25 x32 (by have := HM.out; omega) HQ.out.st).mono ?_
      rintro e w33 ⟨x35, q34, rfl, H⟩
      have HZ := Lib.hid (fun (y : _) (q' : QSt) (h : QR _ _ y q') => HZ.out y q' (QR.bind H.out.1 h))
      have HL := Lib.hid (Nat.lt_of_le_of_lt (QR.le (Lc.node _ _ _) H.out.1) HL.out)
      have HG := Lib.hid (QR.keep1 H.out.1 HG.out)
      have HN := Lib.hid (Nat.le_trans (QR.le (Lc.node _ _ _) H.out.1) HN.out)
      have HQ := Lib.hid (HQ.out.step H.out.2.2 H.out.2.1)
      have HK := Lib.hid (HK.out.trans H.out.2.2 (by intro z hz; simp [hz]))
      clear H
      unfold nV
      have HQ := Lib.hid (HQ.out.more (m2 := m - 1) (fun s e => by have := HG.out s e; omega))
      obtain ⟨v37, w36, hrun, hls, hka⟩ := HQ.out.app1 x35 (by have := HS.out.2.2.2.2.1; omega)
      obtain ⟨ao, cap, hv⟩ := hls.val
      obtain ⟨LN, hLN⟩ : ∃ L, (l ++ [x35]).length = L := ⟨_, rfl⟩
      rw [hLN] at hv
      subst hv
      have HRUN := Lib.hid hrun
      have HQ := Lib.hid hls
      have HLN := Lib.hid hLN
      have HK := Lib.hid (HK.out.trans hka (fun _ h => h))
      clear hrun hls hka hLN
      go_wp2_with (at_builtin; refine wpList_append_run rfl _ _ 39 rfl _ _ _ rfl rfl HRUN.out ?_)
      refine (zsign_any c _ (m - 1) q34 w36 [44] (by decide) HQ.out.st).mono ?_
      rintro e w38 ⟨rfl, hk⟩
      have HQ := Lib.hid (HQ.out.keep hk)
      have HK := Lib.hid (HK.out.trans (KA.of hk) (fun _ h => h))
      clear hk
      obtain ⟨b, hb⟩ : ∃ b, qtk (isSg [44]) q34 = b := ⟨_, rfl⟩
      rw [hb]
      cases b
      case true =>
        obtain ⟨s, rfl, hs⟩ := qtk_good hb
        have HZ := Lib.hid (fun (y : _) (q' : QSt) (h : QR _ _ y q') => HZ.out y q' (QR.ifT_t hs h))
        have HT := Lib.hid (ztake_any c _ (m - 1) s w38 (tk_neR hs) HQ.out.st)
        have HNS : Hid ((QSt.good ⟨s.r.tail, s.ns⟩).n < qk.n) := by
          have h1 := tk_lenR hs
          have h2 := HN.out
          have h4 : (QSt.good s).n = s.r.length := rfl
          show s.r.tail.length < qk.n
          omega
        have HN : Hid ((QSt.good ⟨s.r.tail, s.ns⟩).n ≤ qk.n) := Nat.le_of_lt HNS.out
        have HL : Hid ((QSt.good ⟨s.r.tail, s.ns⟩).n < n ∧ 1 ≤ (m - 1)) := by
          have h1 := tk_lenR hs
          have h2 := HL.out
          have h3 := HQ.out.st.pos hs
          refine ⟨?_, h3⟩
          show s.r.tail.length < n
          have h4 : (QSt.good s).n = s.r.length := rfl
          omega
        have HG : Hid (∀ s', QSt.good ⟨s.r.tail, s.ns⟩ = .good s' → 1 ≤ m) := fun _ _ => by have := HL.out.2; omega
        have HL := Lib.hid HL.out.1
        clear hs hb
        go_wp2_with fail
        refine HT.out.mono ?_
        rintro e w39 ⟨rfl, HT⟩
        have HQ := Lib.hid (HQ.out.step HT.out.2 HT.out.1)
        have HK := Lib.hid (HK.out.trans HT.out.2 (by intro z hz; simp [hz]))
        clear HT
        unfold tV
        obtain ⟨t41, htx⟩ : ∃ t, hdT s.r = t := ⟨_, rfl⟩
        obtain ⟨q40, hq1⟩ : ∃ q1, QSt.good ⟨s.r.tail, s.ns⟩ = q1 := ⟨_, rfl⟩
        try rw [htx] at HZ
        try rw [htx]
        rw [hq1] at HZ HQ HL HG HN HNS
        clear htx hq1
        go_wp2_with fail
        have HMS2 := Lib.hid HQ.out.st.meas
        have HREL : Hid (q40.n < j' ∧ (l ++ [x35]).length + q40.n ≤ 5001 ∧ c.l.length - atOfR c w39 < c.l.length - atOfR c wr) := by
          have h1 := HMS.out
          have h2 := HMS2.out
          have h3 := HNS.out
          have h4 := HS.out.2.2.1
          have h5 := HS.out.2.2.2.2.1
          rw [List.length_append, List.length_singleton]
          refine ⟨?_, ?_, ?_⟩ <;> omega
        exact ⟨⟨(l ++ [x35]), j', q40, HQ.out.more (fun s e => by omega), HK.out, HREL.out.1, by have := HS.out.2.2.2.1; omega, HREL.out.2.1, HZ.out⟩, HREL.out.2.2⟩
      case false =>
        have HZ := Lib.hid (fun (y : _) (q' : QSt) (h : QR _ _ y q') => HZ.out y q' (QR.ifT_f hb h))
        clear hb
        go_wp2_with fail
        refine (zsign_any c _ (m - 1) q34 w38 [125] (by decide) HQ.out.st).mono ?_
        rintro e w42 ⟨rfl, hk⟩
        have HQ := Lib.hid (HQ.out.keep hk)
        have HK := Lib.hid (HK.out.trans (KA.of hk) (fun _ h => h))
        clear hk
        go_wp2_with fail
        refine (zmust_any c _ (m - 1) q34 w42 (isSg [125]) HQ.out.st).mono ?_
        rintro e w43 ⟨x45, q44, rfl, H⟩
        have HZ := Lib.hid (fun (y : _) (q' : QSt) (h : QR _ _ y q') => HZ.out y q' (QR.bind H.out.1 h))
        have HL := Lib.hid (Nat.lt_of_le_of_lt (QR.le (Lc.must _) H.out.1) HL.out)
        have HG := Lib.hid (QR.keep1 H.out.1 HG.out)
        have HN := Lib.hid (Nat.le_trans (QR.le (Lc.must _) H.out.1) HN.out)
        have HQ := Lib.hid (HQ.out.step H.out.2.2 H.out.2.1)
        have HK := Lib.hid (HK.out.trans H.out.2.2 (by intro z hz; simp [hz]))
        clear H
        unfold tV
        go_wp2_with fail
        refine (HQ.out.node 8 t3 (by have := HM.out; omega)).mono ?_
        rintro e w46 ⟨y, q', rfl, H⟩
        have HF := Lib.hid (And.intro (HZ.out _ _ H.out.1) (And.intro (H.out.2.1.more (n := m) (fun s e => by have := QR.keep1 H.out.1 HG.out s e; omega)) (HK.out.trans H.out.2.2 (by intro z hz; simp [hz]))))
        clear H
        unfold nV
        go_wp2_with fail
        go_ret
        exact ⟨y, q', rfl, HF.out⟩
end Go.Proofs.YtfpdgdacifiejaaGreat

namespace Go.Proofs.YtfpdgdacifiejaaGreat
open Go.RowKit Go.Maps

theorem Lc.refF (n : Nat) : Lc (refF n) := (Lc.must _).bind fun _ => Lc.refOf n _
theorem ref_n {q q1 : QSt} {n x : Nat} (h : q.n < n ∨ ∃ s, q = .good s ∧ tkB (isKd 2) s.r = true ∧ s.r.length < n + 1) (k : QR (refF n) q x q1) : q1.n < n := by
  rcases h with h | ⟨s, rfl, h1, h2⟩
  · exact Nat.lt_of_le_of_lt (k.le (Lc.refF n)) h
  · have h3 := (QR.mustBack h1 k).le (Lc.refOf n _)
    have h4 := tk_lenR h1
    have h5 : (QSt.good ⟨s.r.tail, s.ns⟩).n = s.r.tail.length := rfl
    omega
theorem aw_orR (q : QSt) : qtk isAw q = (qtk (isSg [45, 62]) q || qtk (isSg [126, 62]) q) := by
  cases q with
  | bad k => rfl
  | good s =>
    show tkB isAw s.r = (tkB (isSg [45, 62]) s.r || tkB (isSg [126, 62]) s.r)
    cases s.r with
    | nil => rfl
    | cons t r => rfl
set_option maxRecDepth 100000 in
set_option maxHeartbeats 8000000 in
theorem zchain_any (c : PCx) (n : Nat) (hval : QC c 85 (value n) n) (A : List Nat) (m : Nat) (s : PSt) (w : World) (hm : m ≤ 5000) (hs : tkB (isKd 2) s.r = true) (hl : s.r.length < n + 1) (h : QS c A m (.good s) w) :
    Calls Tryz.prog 87 #[.pointer (some ⟨c.g, 0, none⟩)] w (QRes c (chain n (hdT s.r)) nV A m (.good ⟨s.r.tail, s.ns⟩) w) := by
  have HN : Hid ((QSt.good s).n ≤ 5000) := by
    have h1 := h.few s rfl
    show s.r.length ≤ 5000
    omega
  have HP := Lib.hid h
  have HM := Lib.hid hm
  have HP1 := Lib.hid (h.pos hs)
  have HD : Hid ((QSt.good s).n < n ∨ ∃ s2, QSt.good s = .good s2 ∧ tkB (isKd 2) s2.r = true ∧ s2.r.length < n + 1) := .inr ⟨s, rfl, hs, hl⟩
  have HVA := Lib.hid hval
  have HK : Hid (KA c A w w) := KA.of (Kept.refl _ _)
  show Calls _ _ _ _ (QRG c (QR (chain n (hdT s.r)) (.good ⟨s.r.tail, s.ns⟩)) nV A m w)
  have HZ : Hid (∀ y q', QR (pbind (refF n) fun r => pbind (must isAw) fun t => chLoop n n [r] t) (.good s) y q' → QR (chain n (hdT s.r)) (.good ⟨s.r.tail, s.ns⟩) y q') := fun y q' h => QR.mustBack hs (QR.bun h)
  have HG : Hid (∀ s', QSt.good s = .good s' → 1 ≤ m) := fun _ _ => HP1.out
  generalize QR (chain n (hdT s.r)) (.good ⟨s.r.tail, s.ns⟩) = G at HZ ⊢
  clear h hm hl hval hs
  go_enter Tryz.func87, Tryz.ntmps87
  go_wp2_with fail
  refine (zref_any c n HVA.out _ m (.good s) w HM.out HD.out HP.out).mono ?_
  rintro e w1 ⟨x3, q2, rfl, H⟩
  have HZ := Lib.hid (fun (y : _) (q' : QSt) (h : QR _ _ y q') => HZ.out y q' (QR.bind H.out.1 h))
  have HL := Lib.hid (ref_n HD.out H.out.1)
  have HG := Lib.hid (QR.keep1 H.out.1 HG.out)
  have HN := Lib.hid (Nat.le_trans (QR.le (Lc.refF n) H.out.1) HN.out)
  have HP := Lib.hid H.out.2.1
  have HK := Lib.hid (HK.out.trans H.out.2.2 (fun _ h => h))
  clear H
  unfold nV
  have HQ := Lib.hid (LQ.one HP.out x3)
  have HK : Hid (KA c A _ (w1.alloc (.cells #[.int .i64 (x3 : Int)] 3))) := HK.out.trans (KA.of (Kept.alloc _ _ _)) (fun _ h => h)
  obtain ⟨w4, hw1⟩ : ∃ ww, w1.alloc (.cells #[.int .i64 (x3 : Int)] 3) = ww := ⟨_, rfl⟩
  obtain ⟨lb5, hlb⟩ : ∃ b, w1.heap.size = b := ⟨_, rfl⟩
  obtain ⟨LN, hLN⟩ : ∃ L, [x3].length = L := ⟨_, rfl⟩
  rw [hw1, hlb] at HQ
  rw [hw1] at HK
  go_wp2_with fail
  clear hw1 hlb hLN
  go_loopw [3] (fun v3 wr => ∃ (l : List Nat) (j : Nat) (qk : QSt), Hid (LQ c A (m - 1) qk wr v3 l ∧ KA c A w wr ∧ qk.n < j ∧ j ≤ n ∧ l.length + 2 * qk.n ≤ 10001 ∧ ∀ y q', QR (pbind (must isAw) fun t => chLoop n j l t) qk y q' → G y q')) (fun _ wr => c.l.length - atOfR c wr)
  case atStart => exact ⟨[x3], n, q2, HQ.out, HK.out, HL.out, Nat.le_refl _, by have := HN.out; simp; omega, HZ.out⟩
  case round =>
    obtain ⟨l, j, qk, HS⟩ := hrel
    clear HQ HK HL HG HZ HN
    obtain ⟨ao, cap, hv⟩ := HS.out.1.val
    obtain ⟨LN, hLN⟩ : ∃ L, l.length = L := ⟨_, rfl⟩
    rw [hLN] at hv
    subst hv
    have HLN := Lib.hid hLN
    have HMS := Lib.hid HS.out.1.st.meas
    have HQ := Lib.hid HS.out.1
    have HK := Lib.hid HS.out.2.1
    have HL : Hid (qk.n < n) := Nat.lt_of_lt_of_le HS.out.2.2.1 HS.out.2.2.2.1
    have HN : Hid (qk.n ≤ qk.n) := Nat.le_refl _
    obtain ⟨j', rfl⟩ : ∃ j', j = j' + 1 := ⟨j - 1, by have := HS.out.2.2.1; omega⟩
    have HZ : Hid (∀ y q', QR (pbind (must isAw) fun t => pbind (pnode 12 t []) fun x => pbind (must (isKd 2)) fun t => pbind (refOf n t) fun r => ifT isAw (fun s2 => chLoop n j' (l ++ [x, r]) s2) (pnode 10 [] (l ++ [x, r]))) qk y q' → G y q') := HS.out.2.2.2.2.2
    clear hLN
    have hor := aw_orR qk
    obtain ⟨ba, hba⟩ : ∃ b, qtk (isSg [45, 62]) qk = b := ⟨_, rfl⟩
    obtain ⟨bb, hbb⟩ : ∃ b, qtk (isSg [126, 62]) qk = b := ⟨_, rfl⟩
    have HI0 := Lib.hid (zsign_any c _ (m - 1) qk wr [45, 62] (by decide) HQ.out.st)
    rw [hba] at hor HI0
    rw [hbb] at hor
    cases ba
    case true =>
      clear hba hbb
      go_wp2_with fail
      refine (HI0.out).mono ?_
      rintro e w6 ⟨rfl, hk⟩
      have HQ := Lib.hid (HQ.out.keep hk)
      have HK := Lib.hid (HK.out.trans (KA.of hk) (fun _ h => h))
      clear hk
      have hor : qtk isAw qk = true := hor
      have HMU := Lib.hid (zmust_any c _ (m - 1) qk w6 isAw HQ.out.st)
      rw [hor] at HMU
      clear hor
      go_wp2_with fail
      refine HMU.out.mono ?_
      rintro e w7 ⟨t9, q8, rfl, H⟩
      have HZ := Lib.hid (fun (y : _) (q' : QSt) (h : QR _ _ y q') => HZ.out y q' (QR.bind H.out.1 h))
      have HL := Lib.hid (Nat.lt_of_le_of_lt H.out.1.mustN HL.out)
      have HN := Lib.hid (Nat.le_trans H.out.1.mustN HN.out)
      have HG := Lib.hid (QR.must1 H.out.1 HQ.out.st)
      have HE := Lib.hid (QR.mustE H.out.1)
      have HQ := Lib.hid (HQ.out.step H.out.2.2 H.out.2.1)
      have HK := Lib.hid (HK.out.trans H.out.2.2 (by intro z hz; simp [hz]))
      clear H HMU
      unfold tV
      go_wp2_with fail
      refine (rnode0 c _ (m - 1 - 1) q8 w7 12 t9 (by have := HM.out; omega) HQ.out.st).mono ?_
      rintro e w10 ⟨x12, q11, rfl, H⟩
      have HZ := Lib.hid (fun (y : _) (q' : QSt) (h : QR _ _ y q') => HZ.out y q' (QR.bind H.out.1 h))
      have HL := Lib.hid (Nat.lt_of_le_of_lt (QR.le (Lc.node _ _ _) H.out.1) HL.out)
      have HG := Lib.hid (QR.keep1 H.out.1 HG.out)
      have HN := Lib.hid (Nat.le_trans (QR.le (Lc.node _ _ _) H.out.1) HN.out)
      have HE := Lib.hid (QR.eat1 H.out.1 (Lc.node _ _ _) HE.out)
      have HQ := Lib.hid (HQ.out.step H.out.2.2 H.out.2.1)
      have HK := Lib.hid (HK.out.trans H.out.2.2 (by intro z hz; simp [hz]))
      clear H
      unfold nV
      have HQ := Lib.hid (HQ.out.more (m2 := m - 1) (fun s e => by have := HG.out s e; omega))
      obtain ⟨v14, w13, hrun, hls, hka⟩ := HQ.out.app1 x12 (by have := HS.out.2.2.2.2.1; omega)
      obtain ⟨ao, cap, hv⟩ := hls.val
      obtain ⟨LN, hLN⟩ : ∃ L, (l ++ [x12]).length = L := ⟨_, rfl⟩
      rw [hLN] at hv
      subst hv
      have HRUN := Lib.hid hrun
      have HQ := Lib.hid hls
      have HLN := Lib.hid hLN
      have HK := Lib.hid (HK.out.trans hka (fun _ h => h))
      clear hrun hls hka hLN
      go_wp2_with (at_builtin; refine wpList_append_run rfl _ _ 39 rfl _ _ _ rfl rfl HRUN.out ?_)
      refine (zref_any c n HVA.out _ (m - 1) q11 w13 (by have := HM.out; omega) (.inl HL.out) HQ.out.st).mono ?_
      rintro e w15 ⟨x17, q16, rfl, H⟩
      have HZ := Lib.hid (fun (y : _) (q' : QSt) (h : QR _ _ y q') => HZ.out y q' (QR.bun (QR.bind H.out.1 h)))
      have HL := Lib.hid (Nat.lt_of_le_of_lt (QR.le (Lc.refF n) H.out.1) HL.out)
      have HG := Lib.hid (QR.keep1 H.out.1 HG.out)
      have HN := Lib.hid (Nat.le_trans (QR.le (Lc.refF n) H.out.1) HN.out)
      have HE := Lib.hid (QR.eat1 H.out.1 (Lc.refF n) HE.out)
      have HQ := Lib.hid (HQ.out.step H.out.2.2 H.out.2.1)
      have HK := Lib.hid (HK.out.trans H.out.2.2 (by intro z hz; simp [hz]))
      clear H
      unfold nV
      have HQ := Lib.hid (HQ.out.more (m2 := m - 1) (fun s e => by omega))
      obtain ⟨v19, w18, hrun, hls, hka⟩ := HQ.out.app1 x17 (by have := HS.out.2.2.2.2.1; rw [List.length_append, List.length_singleton]; omega)
      obtain ⟨ao, cap, hv⟩ := hls.val
      obtain ⟨LN, hLN⟩ : ∃ L, ((l ++ [x12]) ++ [x17]).length = L := ⟨_, rfl⟩
      rw [hLN] at hv
      subst hv
      have HRUN := Lib.hid hrun
      have HQ := Lib.hid hls
      have HLN := Lib.hid hLN
      have HK := Lib.hid (HK.out.trans hka (fun _ h => h))
      clear hrun hls hka hLN
      go_wp2_with (at_builtin; refine wpList_append_run rfl _ _ 39 rfl _ _ _ rfl rfl HRUN.out ?_)
      have HLL : Hid (l ++ [x12] ++ [x17] = (l ++ [x12, x17])) := by show _ = _; simp
      rw [HLL.out] at HQ
      have hor := aw_orR q16
      obtain ⟨ba, hba⟩ : ∃ b, qtk (isSg [45, 62]) q16 = b := ⟨_, rfl⟩
      obtain ⟨bb, hbb⟩ : ∃ b, qtk (isSg [126, 62]) q16 = b := ⟨_, rfl⟩
      have HI0 := Lib.hid (zsign_any c _ (m - 1) q16 w18 [45, 62] (by decide) HQ.out.st)
      rw [hba] at hor HI0
      rw [hbb] at hor
      cases ba
      case true =>
        clear hba hbb
        refine (HI0.out).mono ?_
        rintro e w20 ⟨rfl, hk⟩
        have HQ := Lib.hid (HQ.out.keep hk)
        have HK := Lib.hid (HK.out.trans (KA.of hk) (fun _ h => h))
        clear hk
        have hb : qtk isAw q16 = true := hor
        have HREL : Hid (q16.n < j' ∧ (l ++ [x12, x17]).length + 2 * q16.n ≤ 10001 ∧ c.l.length - atOfR c w20 < c.l.length - atOfR c wr) := by
          have h1 := HMS.out
          have h2 := HQ.out.st.meas
          have h3 : q16.isBad = false := by
            obtain ⟨s2, e, _⟩ := qtk_good hb
            rw [e]
            rfl
          have h4 := HE.out h3
          have h5 := HS.out.2.2.1
          have h6 := HS.out.2.2.2.2.1
          rw [List.length_append, List.length_cons, List.length_singleton]
          refine ⟨?_, ?_, ?_⟩ <;> omega
        have HZ : Hid (∀ y q', QR (pbind (must isAw) fun t => chLoop n j' (l ++ [x12, x17]) t) q16 y q' → G y q') := fun y q' h => by
          obtain ⟨s2, rfl, hs2⟩ := qtk_good hb
          exact HZ.out y q' (QR.ifT_t hs2 (QR.mustBack hs2 h))
        clear hb hor
        go_wp2_with fail
        exact ⟨⟨(l ++ [x12, x17]), j', q16, HQ.out, HK.out, HREL.out.1, by have := HS.out.2.2.2.1; omega, HREL.out.2.1, HZ.out⟩, HREL.out.2.2⟩
      case false =>
        clear hba
        refine (HI0.out).mono ?_
        rintro e w21 ⟨rfl, hk⟩
        have HQ := Lib.hid (HQ.out.keep hk)
        have HK := Lib.hid (HK.out.trans (KA.of hk) (fun _ h => h))
        clear hk
        have HI1 := Lib.hid (zsign_any c _ (m - 1) q16 w21 [126, 62] (by decide) HQ.out.st)
        rw [hbb] at HI1
        clear hbb
        go_wp2_with fail
        cases bb
        case true =>
          refine (HI1.out).mono ?_
          rintro e w22 ⟨rfl, hk⟩
          have HQ := Lib.hid (HQ.out.keep hk)
          have HK := Lib.hid (HK.out.trans (KA.of hk) (fun _ h => h))
          clear hk
          have hb : qtk isAw q16 = true := hor
          have HREL : Hid (q16.n < j' ∧ (l ++ [x12, x17]).length + 2 * q16.n ≤ 10001 ∧ c.l.length - atOfR c w22 < c.l.length - atOfR c wr) := by
            have h1 := HMS.out
            have h2 := HQ.out.st.meas
            have h3 : q16.isBad = false := by
              obtain ⟨s2, e, _⟩ := qtk_good hb
              rw [e]
              rfl
            have h4 := HE.out h3
            have h5 := HS.out.2.2.1
            have h6 := HS.out.2.2.2.2.1
            rw [List.length_append, List.length_cons, List.length_singleton]
            refine ⟨?_, ?_, ?_⟩ <;> omega
          have HZ : Hid (∀ y q', QR (pbind (must isAw) fun t => chLoop n j' (l ++ [x12, x17]) t) q16 y q' → G y q') := fun y q' h => by
            obtain ⟨s2, rfl, hs2⟩ := qtk_good hb
            exact HZ.out y q' (QR.ifT_t hs2 (QR.mustBack hs2 h))
          clear hb hor
          go_wp2_with fail
          exact ⟨⟨(l ++ [x12, x17]), j', q16, HQ.out, HK.out, HREL.out.1, by have := HS.out.2.2.2.1; omega, HREL.out.2.1, HZ.out⟩, HREL.out.2.2⟩
        case false =>
          refine (HI1.out).mono ?_
          rintro e w23 ⟨rfl, hk⟩
          have HQ := Lib.hid (HQ.out.keep hk)
          have HK := Lib.hid (HK.out.trans (KA.of hk) (fun _ h => h))
          clear hk
          have hb : qtk isAw q16 = false := hor
          have HZ := Lib.hid (fun (y : _) (q' : QSt) (h : QR _ _ y q') => HZ.out y q' (QR.ifT_f hb h))
          clear hb hor
          go_wp2_with fail
          refine (HQ.out.node 10 [] (by have := HM.out; omega)).mono ?_
          rintro e w24 ⟨y, q', rfl, H⟩
          have HF := Lib.hid (And.intro (HZ.out _ _ H.out.1) (And.intro (H.out.2.1.more (n := m) (fun s e => by have := QR.keep1 H.out.1 HG.out s e; omega)) (HK.out.trans H.out.2.2 (by intro z hz; simp [hz]))))
          clear H
          unfold nV
          go_wp2_with fail
          go_ret
          exact ⟨y, q', rfl, HF.out⟩
    case false =>
      clear hba
      go_wp2_with fail
      refine (HI0.out).mono ?_
      rintro e w25 ⟨rfl, hk⟩
      have HQ := Lib.hid (HQ.out.keep hk)
      have HK := Lib.hid (HK.out.trans (KA.of hk) (fun _ h => h))
      clear hk
      have HI1 := Lib.hid (zsign_any c _ (m - 1) qk w25 [126, 62] (by decide) HQ.out.st)
      rw [hbb] at HI1
      clear hbb
      go_wp2_with fail
      refine (HI1.out).mono ?_
      rintro e w26 ⟨rfl, hk⟩
      have HQ := Lib.hid (HQ.out.keep hk)
      have HK := Lib.hid (HK.out.trans (KA.of hk) (fun _ h => h))
      clear hk
      have hor : qtk isAw qk = bb := hor
      have HMU := Lib.hid (zmust_any c _ (m - 1) qk w26 isAw HQ.out.st)
      rw [hor] at HMU
      clear hor
      go_wp2_with fail
      refine HMU.out.mono ?_
      rintro e w27 ⟨t29, q28, rfl, H⟩
      have HZ := Lib.hid (fun (y : _) (q' : QSt) (h : QR _ _ y q') => HZ.out y q' (QR.bind H.out.1 h))
      have HL := Lib.hid (Nat.lt_of_le_of_lt H.out.1.mustN HL.out)
      have HN := Lib.hid (Nat.le_trans H.out.1.mustN HN.out)
      have HG := Lib.hid (QR.must1 H.out.1 HQ.out.st)
      have HE := Lib.hid (QR.mustE H.out.1)
      have HQ := Lib.hid (HQ.out.step H.out.2.2 H.out.2.1)
      have HK := Lib.hid (HK.out.trans H.out.2.2 (by intro z hz; simp [hz]))
      clear H HMU
      unfold tV
      go_wp2_with fail
      refine (rnode0 c _ (m - 1 - 1) q28 w27 12 t29 (by have := HM.out; omega) HQ.out.st).mono ?_
      rintro e w30 ⟨x32, q31, rfl, H⟩
      have HZ := Lib.hid (fun (y : _) (q' : QSt) (h : QR _ _ y q') => HZ.out y q' (QR.bind H.out.1 h))
      have HL := Lib.hid (Nat.lt_of_le_of_lt (QR.le (Lc.node _ _ _) H.out.1) HL.out)
      have HG := Lib.hid (QR.keep1 H.out.1 HG.out)
      have HN := Lib.hid (Nat.le_trans (QR.le (Lc.node _ _ _) H.out.1) HN.out)
      have HE := Lib.hid (QR.eat1 H.out.1 (Lc.node _ _ _) HE.out)
      have HQ := Lib.hid (HQ.out.step H.out.2.2 H.out.2.1)
      have HK := Lib.hid (HK.out.trans H.out.2.2 (by intro z hz; simp [hz]))
      clear H
      unfold nV
      have HQ := Lib.hid (HQ.out.more (m2 := m - 1) (fun s e => by have := HG.out s e; omega))
      obtain ⟨v34, w33, hrun, hls, hka⟩ := HQ.out.app1 x32 (by have := HS.out.2.2.2.2.1; omega)
      obtain ⟨ao, cap, hv⟩ := hls.val
      obtain ⟨LN, hLN⟩ : ∃ L, (l ++ [x32]).length = L := ⟨_, rfl⟩
      rw [hLN] at hv
      subst hv
      have HRUN := Lib.hid hrun
      have HQ := Lib.hid hls
      have HLN := Lib.hid hLN
      have HK := Lib.hid (HK.out.trans hka (fun _ h => h))
      clear hrun hls hka hLN
      go_wp2_with (at_builtin; refine wpList_append_run rfl _ _ 39 rfl _ _ _ rfl rfl HRUN.out ?_)
      refine (zref_any c n HVA.out _ (m - 1) q31 w33 (by have := HM.out; omega) (.inl HL.out) HQ.out.st).mono ?_
      rintro e w35 ⟨x37, q36, rfl, H⟩
      have HZ := Lib.hid (fun (y : _) (q' : QSt) (h : QR _ _ y q') => HZ.out y q' (QR.bun (QR.bind H.out.1 h)))
      have HL := Lib.hid (Nat.lt_of_le_of_lt (QR.le (Lc.refF n) H.out.1) HL.out)
      have HG := Lib.hid (QR.keep1 H.out.1 HG.out)
      have HN := Lib.hid (Nat.le_trans (QR.le (Lc.refF n) H.out.1) HN.out)
      have HE := Lib.hid (QR.eat1 H.out.1 (Lc.refF n) HE.out)
      have HQ := Lib.hid (HQ.out.step H.out.2.2 H.out.2.1)
      have HK := Lib.hid (HK.out.trans H.out.2.2 (by intro z hz; simp [hz]))
      clear H
      unfold nV
      have HQ := Lib.hid (HQ.out.more (m2 := m - 1) (fun s e => by omega))
      obtain ⟨v39, w38, hrun, hls, hka⟩ := HQ.out.app1 x37 (by have := HS.out.2.2.2.2.1; rw [List.length_append, List.length_singleton]; omega)
      obtain ⟨ao, cap, hv⟩ := hls.val
      obtain ⟨LN, hLN⟩ : ∃ L, ((l ++ [x32]) ++ [x37]).length = L := ⟨_, rfl⟩
      rw [hLN] at hv
      subst hv
      have HRUN := Lib.hid hrun
      have HQ := Lib.hid hls
      have HLN := Lib.hid hLN
      have HK := Lib.hid (HK.out.trans hka (fun _ h => h))
      clear hrun hls hka hLN
      go_wp2_with (at_builtin; refine wpList_append_run rfl _ _ 39 rfl _ _ _ rfl rfl HRUN.out ?_)
      have HLL : Hid (l ++ [x32] ++ [x37] = (l ++ [x32, x37])) := by show _ = _; simp
      rw [HLL.out] at HQ
      have hor := aw_orR q36
      obtain ⟨ba, hba⟩ : ∃ b, qtk (isSg [45, 62]) q36 = b := ⟨_, rfl⟩
      obtain ⟨bb, hbb⟩ : ∃ b, qtk (isSg [126, 62]) q36 = b := ⟨_, rfl⟩
      have HI0 := Lib.hid (zsign_any c _ (m - 1) q36 w38 [45, 62] (by decide) HQ.out.st)
      rw [hba] at hor HI0
      rw [hbb] at hor
      cases ba
      case true =>
        clear hba hbb
        refine (HI0.out).mono ?_
        rintro e w40 ⟨rfl, hk⟩
        have HQ := Lib.hid (HQ.out.keep hk)
        have HK := Lib.hid (HK.out.trans (KA.of hk) (fun _ h => h))
        clear hk
        have hb : qtk isAw q36 = true := hor
        have HREL : Hid (q36.n < j' ∧ (l ++ [x32, x37]).length + 2 * q36.n ≤ 10001 ∧ c.l.length - atOfR c w40 < c.l.length - atOfR c wr) := by
          have h1 := HMS.out
          have h2 := HQ.out.st.meas
          have h3 : q36.isBad = false := by
            obtain ⟨s2, e, _⟩ := qtk_good hb
            rw [e]
            rfl
          have h4 := HE.out h3
          have h5 := HS.out.2.2.1
          have h6 := HS.out.2.2.2.2.1
          rw [List.length_append, List.length_cons, List.length_singleton]
          refine ⟨?_, ?_, ?_⟩ <;> omega
        have HZ : Hid (∀ y q', QR (pbind (must isAw) fun t => chLoop n j' (l ++ [x32, x37]) t) q36 y q' → G y q') := fun y q' h => by
          obtain ⟨s2, rfl, hs2⟩ := qtk_good hb
          exact HZ.out y q' (QR.ifT_t hs2 (QR.mustBack hs2 h))
        clear hb hor
        go_wp2_with fail
        exact ⟨⟨(l ++ [x32, x37]), j', q36, HQ.out, HK.out, HREL.out.1, by have := HS.out.2.2.2.1; omega, HREL.out.2.1, HZ.out⟩, HREL.out.2.2⟩
      case false =>
        clear hba
        refine (HI0.out).mono ?_
        rintro e w41 ⟨rfl, hk⟩
        have HQ := Lib.hid (HQ.out.keep hk)
        have HK := Lib.hid (HK.out.trans (KA.of hk) (fun _ h => h))
        clear hk
        have HI1 := Lib.hid (zsign_any c _ (m - 1) q36 w41 [126, 62] (by decide) HQ.out.st)
        rw [hbb] at HI1
        clear hbb
        go_wp2_with fail
        cases bb
        case true =>
          refine (HI1.out).mono ?_
          rintro e w42 ⟨rfl, hk⟩
          have HQ := Lib.hid (HQ.out.keep hk)
          have HK := Lib.hid (HK.out.trans (KA.of hk) (fun _ h => h))
          clear hk
          have hb : qtk isAw q36 = true := hor
          have HREL : Hid (q36.n < j' ∧ (l ++ [x32, x37]).length + 2 * q36.n ≤ 10001 ∧ c.l.length - atOfR c w42 < c.l.length - atOfR c wr) := by
            have h1 := HMS.out
            have h2 := HQ.out.st.meas
            have h3 : q36.isBad = false := by
              obtain ⟨s2, e, _⟩ := qtk_good hb
              rw [e]
              rfl
            have h4 := HE.out h3
            have h5 := HS.out.2.2.1
            have h6 := HS.out.2.2.2.2.1
            rw [List.length_append, List.length_cons, List.length_singleton]
            refine ⟨?_, ?_, ?_⟩ <;> omega
          have HZ : Hid (∀ y q', QR (pbind (must isAw) fun t => chLoop n j' (l ++ [x32, x37]) t) q36 y q' → G y q') := fun y q' h => by
            obtain ⟨s2, rfl, hs2⟩ := qtk_good hb
            exact HZ.out y q' (QR.ifT_t hs2 (QR.mustBack hs2 h))
          clear hb hor
          go_wp2_with fail
          exact ⟨⟨(l ++ [x32, x37]), j', q36, HQ.out, HK.out, HREL.out.1, by have := HS.out.2.2.2.1; omega, HREL.out.2.1, HZ.out⟩, HREL.out.2.2⟩
        case false =>
          refine (HI1.out).mono ?_
          rintro e w43 ⟨rfl, hk⟩
          have HQ := Lib.hid (HQ.out.keep hk)
          have HK := Lib.hid (HK.out.trans (KA.of hk) (fun _ h => h))
          clear hk
          have hb : qtk isAw q36 = false := hor
          have HZ := Lib.hid (fun (y : _) (q' : QSt) (h : QR _ _ y q') => HZ.out y q' (QR.ifT_f hb h))
          clear hb hor
          go_wp2_with fail
          refine (HQ.out.node 10 [] (by have := HM.out; omega)).mono ?_
          rintro e w44 ⟨y, q', rfl, H⟩
          have HF := Lib.hid (And.intro (HZ.out _ _ H.out.1) (And.intro (H.out.2.1.more (n := m) (fun s e => by have := QR.keep1 H.out.1 HG.out s e; omega)) (HK.out.trans H.out.2.2 (by intro z hz; simp [hz]))))
          clear H
          unfold nV
          go_wp2_with fail
          go_ret
          exact ⟨y, q', rfl, HF.out⟩
end Go.Proofs.YtfpdgdacifiejaaGreat

/-
  Layer 12: the document's parser: plainName.
  Conditions: those that each theorem states.
  Layer 12: the document's parser: ref.
  Conditions: those that each theorem states.
  Layer 12: the document's parser: block.
  Conditions: those that each theorem states.
  Layer 12: the document's parser: params.
  Conditions: those that each theorem states.
-/
import Derived.Test.YtfpdgdacifiejaaGreatVRStep
import Derived.Deep.DeepCutAuto
import Derived.Test.YtfpdgdacifiejaaGreatVRList
namespace Go.Proofs.YtfpdgdacifiejaaGreat
open Go.RowKit Go.Maps

theorem pl_splitR (r : List Tok) : tkB isPl r = (decide (hdK r = 1) && !decide ((58 : UInt8) ∈ hdT r)) := by
  cases r with
  | nil => simp [tkB, hdK]
  | cons t r => rfl
set_option maxRecDepth 100000 in
set_option maxHeartbeats 8000000 in
theorem zplainName_any (c : PCx) (hw : ∀ t ∈ c.l, t.tx.length ≤ 4611686018427387904) (A : List Nat) (m : Nat) (q : QSt) (w : World) (h : QS c A m q w) :
    Calls Tryz.prog 116 #[.pointer (some ⟨c.g, 0, none⟩)] w fun e w' => e = .returned (.bool (qtk isPl q)) ∧ Kept [] w w' := by
  have HI := Lib.hid (zkd_any c A m q w 1 h)
  cases hb : qtk (isKd 1) q with
  | false =>
    have hn : qtk isPl q = false := by
      cases q with
      | bad k => rfl
      | good s =>
        show tkB isPl s.r = false
        have h3 : tkB (isKd 1) s.r = false := hb
        rw [pl_splitR, ← tkB_kd 1 s.r (by decide), h3]
        rfl
    rw [hn]
    rw [hb] at HI
    clear h hb hn hw
    go_enter Tryz.func116, Tryz.ntmps116
    go_wp2_with fail
    refine HI.out.mono ?_
    rintro e w1 ⟨rfl, hk⟩
    have HK := Lib.hid hk
    clear hk
    go_wp2_with fail
    go_ret
    exact ⟨rfl, HK.out⟩
  | true =>
    rw [hb] at HI
    obtain ⟨s, rfl, hs⟩ := qtk_good hb
    have hr : s.r ≠ [] := tk_neR hs
    have hn : qtk isPl (.good s) = !decide ((58 : UInt8) ∈ hdT s.r) := by
      show tkB isPl s.r = _
      have h3 : tkB (isKd 1) s.r = true := hs
      rw [pl_splitR, ← tkB_kd 1 s.r (by decide), h3]
      rfl
    rw [hn]
    obtain ⟨v, ns, c0, c1, _, _, _, _, hrow, _⟩ := h.open
    obtain ⟨b, o, a, n, cap, hva, hl, hcap, hc63, hn5, hkn, e0, e1, e2⟩ := h.word hr w h.kept
    have hgl := h.lt
    have hTl : (hdT s.r).length ≤ 4611686018427387904 := by
      have h1 := h.suf s rfl
      cases hsr : s.r with
      | nil => exact absurd hsr hr
      | cons t r =>
        refine hw t ?_
        rw [hsr] at h1
        exact List.mem_of_mem_drop (by rw [h1]; simp)
    obtain ⟨j, hj⟩ : ∃ j, c.l.length - s.r.length = j := ⟨_, rfl⟩
    have d1 : w.cell? ⟨c.g, 1, none⟩ = some (.int .i64 ((c.l.length - s.r.length : Nat) : Int)) := c1
    rw [hj] at d1 hkn e0 e1 e2
    rw [hva] at c0
    have hbl := World.block_lt_of_cell? w _ e1
    obtain ⟨g, hg⟩ : ∃ g, c.g = g := ⟨_, rfl⟩
    rw [hg] at c0 d1 HI hgl ⊢
    obtain ⟨T, hT⟩ : ∃ T, hdT s.r = T := ⟨_, rfl⟩
    rw [hT] at e1 hTl ⊢
    obtain ⟨S, hS⟩ : ∃ S, strL T = S := ⟨_, rfl⟩
    have HSZ : Hid (S.size = T.length ∧ ∀ k (h : k < S.size) (h' : k < T.length), S[k] = T[k]) := by
      rw [← hS]
      refine ⟨?_, fun k h h' => ?_⟩
      · show T.toArray.size = _
        simp
      · show T.toArray[k] = _
        simp
    rw [hS] at e1
    have hSl : S.size ≤ 4611686018427387904 := by have := HSZ.out.1; omega
    have HC := Lib.hid (And.intro (And.intro hgl hbl) (And.intro c0 (And.intro d1 (And.intro e0 (And.intro e1 e2)))))
    clear h hb hn hs hrow c0 c1 d1 hr hva hl e0 e1 e2 hj hg hT hgl hbl hS hTl hw
    go_enter Tryz.func116, Tryz.ntmps116
    go_wp2_with fail
    refine HI.out.mono ?_
    rintro e w1 ⟨rfl, hk⟩
    have g0 : w1.cell? ⟨g, 0, none⟩ = some (.slice (some ⟨b, o, none⟩) n cap) := (hk.cell (p := ⟨g, 0, none⟩) HC.out.1.1 (by simp)).trans HC.out.2.1
    have g1 : w1.cell? ⟨g, 1, none⟩ = some (.int .i64 (j : Int)) := (hk.cell (p := ⟨g, 1, none⟩) HC.out.1.1 (by simp)).trans HC.out.2.2.1
    have g2 : w1.cell? ⟨b, o + j * 3 + 1, none⟩ = some (.string S) := (hk.cell (p := ⟨b, o + j * 3 + 1, none⟩) HC.out.1.2 (by simp)).trans HC.out.2.2.2.2.1
    have g3 : w1.cell? ⟨b, o + j * 3, none⟩ = some (.int .i64 (hdK s.r)) := (hk.cell (p := ⟨b, o + j * 3, none⟩) HC.out.1.2 (by simp)).trans HC.out.2.2.2.1
    have g4 : w1.cell? ⟨b, o + j * 3 + 2, none⟩ = some (.int .i64 a) := (hk.cell (p := ⟨b, o + j * 3 + 2, none⟩) HC.out.1.2 (by simp)).trans HC.out.2.2.2.2.2
    have HK := Lib.hid hk
    clear hk
    go_wp2_with fail
    go_quiet (fail)
    generalize hwq : World.drewN _ _ = wq
    have HQ : Hid (Kept [] w wq) := by show Kept _ _ _; rw [← hwq]; exact HK.out.trans (Kept.drewN _ _ _)
    clear g0 g1 g2 g3 g4 hwq
    go_wp2_with fail
    go_loop [4] (fun i => ∃ k : Nat, i = .int .i64 k ∧ k ≤ S.size ∧ Hid (∀ j (hj : j < T.length), j < k → T[j] ≠ 58)) (fun i => S.size - (intOf i).toNat)
    case atStart => exact ⟨0, rfl, by omega, fun j _ h => by omega⟩
    case round =>
      obtain ⟨k, rfl, hk, HB⟩ := hrel
      by_cases hlt : k < S.size
      · have hkT : k < T.length := by have := HSZ.out.1; omega
        have hsk := HSZ.out.2 k hlt hkT
        by_cases h58 : T[k] = 58
        · have hm : Hid (decide ((58 : UInt8) ∈ T) = true) := by
            show _ = _
            rw [decide_eq_true_iff, ← h58]
            exact List.getElem_mem hkT
          rw [h58] at hsk
          have q1 : ((S[k].toNat : Int) == 58) = true := by rw [hsk]; rfl
          clear hsk
          go_wp2_with fail
          go_ret
          rw [hm.out]
          exact ⟨rfl, HQ.out⟩
        · have HB2 : Hid (∀ j (hj : j < T.length), j < k + 1 → T[j] ≠ 58) := fun j hj h => by
            by_cases e : j = k
            · subst e; exact h58
            · exact HB.out j hj (by omega)
          have q1 : ((S[k].toNat : Int) == 58) = false := by
            rw [hsk, beq_eq_false_iff_ne]
            intro e
            apply h58
            have e2 : T[k].toNat = 58 := by omega
            exact UInt8.toNat_inj.1 e2
          have hwr : IntKind.i64.wrap ((k : Int) + 1) = (k : Int) + 1 := by rw [IntKind.wrap_i64]; omega
          clear hsk h58
          go_wp2_with fail
          go_roundw
          case rel => exact ⟨k + 1, by go_num, by omega, HB2⟩
          case measure => simp [intOf]; omega
      · have hm : Hid (decide ((58 : UInt8) ∈ T) = false) := by
          show _ = _
          rw [decide_eq_false_iff_not]
          intro h
          obtain ⟨i, hi, e⟩ := List.getElem_of_mem h
          exact HB.out i hi (by have := HSZ.out.1; omega) e
        go_wp2_with fail
        go_ret
        rw [hm.out]
        exact ⟨rfl, HQ.out⟩
end Go.Proofs.YtfpdgdacifiejaaGreat

namespace Go.Proofs.YtfpdgdacifiejaaGreat
open Go.RowKit Go.Maps

theorem ref_lt {q q1 : QSt} {n : Nat} {x : List UInt8} (h : q.n < n ∨ ∃ s, q = .good s ∧ tkB (isKd 2) s.r = true ∧ s.r.length < n + 1) (k : QR (must (isKd 2)) q x q1) : q1.n < n := by
  rcases h with h | ⟨s, rfl, h1, h2⟩
  · exact Nat.lt_of_le_of_lt k.mustN h
  · unfold QR at k
    simp only at k
    rw [must_t h1] at k
    obtain ⟨rfl, _⟩ := k
    have := tk_lenR h1
    show s.r.tail.length < n
    omega
set_option maxRecDepth 100000 in
set_option maxHeartbeats 8000000 in
theorem zref_any (c : PCx) (n : Nat) : QC c 85 (value n) n → ∀ A m q w, m ≤ 5000 → (q.n < n ∨ ∃ s, q = .good s ∧ tkB (isKd 2) s.r = true ∧ s.r.length < n + 1) → QS c A m q w →
    Calls Tryz.prog 117 #[.pointer (some ⟨c.g, 0, none⟩)] w (QRes c (refF n) nV A (m - 1) q w) := by
  intro HV A m q w hm hq h
  have HP := Lib.hid h
  have HM := Lib.hid hm
  have HQ0 := Lib.hid hq
  have HVA := Lib.hid HV
  have HK : Hid (KA c A w w) := KA.of (Kept.refl _ _)
  show Calls _ _ _ _ (QRG c (QR (refF n) q) nV A (m - 1) w)
  have HZ : Hid (∀ y q', QR (pbind (must (isKd 2)) fun t => refOf n t) q y q' → QR (refF n) q y q') := fun _ _ h => h
  generalize QR (refF n) q = G at HZ ⊢
  clear h hm hq HV
  go_enter Tryz.func117, Tryz.ntmps117
  go_wp2_with fail
  refine (zkd_any c _ m q w 2 HP.out).mono ?_
  rintro e w1 ⟨rfl, hk⟩
  have HP := Lib.hid (HP.out.keep hk)
  have HK := Lib.hid (HK.out.trans (KA.of hk) (fun _ h => h))
  clear hk
  go_wp2_with fail
  refine (zmust_any c _ m q w1 (isKd 2) HP.out).mono ?_
  rintro e w2 ⟨x4, q3, rfl, H⟩
  have HZ := Lib.hid (fun (y : _) (q' : QSt) (h : QR _ _ y q') => HZ.out y q' (QR.bind H.out.1 h))
  have HL := Lib.hid (ref_lt HQ0.out H.out.1)
  have HG := Lib.hid (QR.must1 H.out.1 HP.out)
  have HP := Lib.hid H.out.2.1
  have HK := Lib.hid (HK.out.trans H.out.2.2 (fun _ h => h))
  clear H
  unfold tV
  go_wp2_with fail
  have HZ : Hid (∀ y q', QR (pbind (must (isSg [91])) fun _ => pbind (value n) fun x => pbind (must (isSg [93])) fun _ => pnode 11 x4 [x]) q3 y q' → G y q') := HZ.out
  refine (zsign_any c _ (m - 1) q3 w2 [91] (by decide) HP.out).mono ?_
  rintro e w5 ⟨rfl, hk⟩
  have HP := Lib.hid (HP.out.keep hk)
  have HK := Lib.hid (HK.out.trans (KA.of hk) (fun _ h => h))
  clear hk
  go_wp2_with fail
  refine (zmust_any c _ (m - 1) q3 w5 (isSg [91]) HP.out).mono ?_
  rintro e w6 ⟨x8, q7, rfl, H⟩
  have HZ := Lib.hid (fun (y : _) (q' : QSt) (h : QR _ _ y q') => HZ.out y q' (QR.bind H.out.1 h))
  have HL := Lib.hid (Nat.lt_of_le_of_lt (QR.le (Lc.must _) H.out.1) HL.out)
  have HG := Lib.hid (QR.must1 H.out.1 HP.out)
  have HP := Lib.hid H.out.2.1
  have HK := Lib.hid (HK.out.trans H.out.2.2 (fun _ h => h))
  clear H
  unfold tV
  go_wp2_with fail
  refine (HVA.out _ ((m - 1) - 1) q7 w6 (by have := HM.out; omega) HL.out HP.out).mono ?_
  rintro e w9 ⟨x11, q10, rfl, H⟩
  have HZ := Lib.hid (fun (y : _) (q' : QSt) (h : QR _ _ y q') => HZ.out y q' (QR.bind H.out.1 h))
  have HL := Lib.hid (Nat.lt_of_le_of_lt (QR.le (Lc.value n) H.out.1) HL.out)
  have HG := Lib.hid (QR.keep1 H.out.1 HG.out)
  have HP := Lib.hid H.out.2.1
  have HK := Lib.hid (HK.out.trans H.out.2.2 (fun _ h => h))
  clear H
  unfold nV
  go_wp2_with fail
  refine (zsign_any c _ ((m - 1) - 1) q10 w9 [93] (by decide) HP.out).mono ?_
  rintro e w12 ⟨rfl, hk⟩
  have HP := Lib.hid (HP.out.keep hk)
  have HK := Lib.hid (HK.out.trans (KA.of hk) (fun _ h => h))
  clear hk
  go_wp2_with fail
  refine (zmust_any c _ ((m - 1) - 1) q10 w12 (isSg [93]) HP.out).mono ?_
  rintro e w13 ⟨x15, q14, rfl, H⟩
  have HZ := Lib.hid (fun (y : _) (q' : QSt) (h : QR _ _ y q') => HZ.out y q' (QR.bind H.out.1 h))
  have HL := Lib.hid (Nat.lt_of_le_of_lt (QR.le (Lc.must _) H.out.1) HL.out)
  have HG := Lib.hid (QR.keep1 H.out.1 HG.out)
  have HP := Lib.hid H.out.2.1
  have HK := Lib.hid (HK.out.trans H.out.2.2 (fun _ h => h))
  clear H
  unfold tV
  go_wp2_with fail
  refine (rnode1 c A (((m - 1) - 1) - 1) q14 w13 11 x4 x11 (by have := HM.out; omega) HP.out).mono ?_
  rintro e w16 ⟨y, q', rfl, H⟩
  have HF := Lib.hid (And.intro (HZ.out _ _ H.out.1) (And.intro (H.out.2.1.more (n := (m - 1)) (fun s e => by have := QR.keep1 H.out.1 HG.out s e; omega)) (HK.out.trans H.out.2.2 (fun _ h => h))))
  clear H
  unfold nV
  go_wp2_with fail
  go_ret
  exact ⟨y, q', rfl, HF.out⟩
end Go.Proofs.YtfpdgdacifiejaaGreat

namespace Go.Proofs.YtfpdgdacifiejaaGreat
open Go.RowKit Go.Maps

theorem stmts_out2 {st : Prs Nat} {j : Nat} {l : List Nat} {q q' : QSt} {t : List UInt8} (hb : q.isBad = true ∨ qtk (isSg [125]) q = true) (hj : q.isBad = true ∨ q.n < j) (h : QR (must (isSg [125])) q t q') : QR (stmts st j l) q l q' := by
  cases j with
  | zero =>
    cases q with
    | bad k => exact h
    | good s =>
      rcases hj with hj | hj
      · cases hj
      · omega
  | succ j => exact stmts_outR hb h
theorem stmt_eats {n : Nat} {s : PSt} {x : Nat} {q : QSt} (h : QR (stmtF n) (.good s) x q) : (q.isBad = false → q.n < s.r.length) ∧ q.n ≤ s.r.length := by
  refine ⟨fun hb => ?_, h.le (Lc.stmt n)⟩
  cases q with
  | bad k => cases hb
  | good s2 =>
    obtain ⟨s0, e, h1⟩ := h.back
    injection e with e
    subst e
    exact Eats.stmt n _ _ _ h1
set_option maxRecDepth 100000 in
set_option maxHeartbeats 8000000 in
theorem zblock_qc (c : PCx) (n : Nat) (hst : QC c 53 (stmtF n) n) : QC c 82 (blockOf n (stmtF n)) n := by
  intro A m q w hm hq h
  have HP := Lib.hid h
  have HM := Lib.hid hm
  have HL := Lib.hid hq
  have HST := Lib.hid hst
  have HK : Hid (KA c A w w) := KA.of (Kept.refl _ _)
  show Calls _ _ _ _ (QRG c (QR (blockOf n (stmtF n)) q) nV A m w)
  have HZ : Hid (∀ y q', QR (pbind (must (isSg [123])) fun _ => pbind (stmts (stmtF n) n []) fun l => pnode 1 [] l) q y q' → QR (blockOf n (stmtF n)) q y q') := fun _ _ h => h
  generalize QR (blockOf n (stmtF n)) q = G at HZ ⊢
  clear h hm hq hst
  go_enter Tryz.func82, Tryz.ntmps82
  go_wp2_with fail
  refine (zsign_any c _ m q w [123] (by decide) HP.out).mono ?_
  rintro e w1 ⟨rfl, hk⟩
  have HP := Lib.hid (HP.out.keep hk)
  have HK := Lib.hid (HK.out.trans (KA.of hk) (fun _ h => h))
  clear hk
  go_wp2_with fail
  refine (zmust_any c _ m q w1 (isSg [123]) HP.out).mono ?_
  rintro e w2 ⟨x4, q3, rfl, H⟩
  have HZ := Lib.hid (fun (y : _) (q' : QSt) (h : QR _ _ y q') => HZ.out y q' (QR.bind H.out.1 h))
  have HL := Lib.hid (Nat.lt_of_le_of_lt (QR.le (Lc.must _) H.out.1) HL.out)
  have HG := Lib.hid (QR.must1 H.out.1 HP.out)
  have HP := Lib.hid H.out.2.1
  have HK := Lib.hid (HK.out.trans H.out.2.2 (fun _ h => h))
  clear H
  unfold tV
  go_wp2_with fail
  go_loopw [3] (fun v3 wr => ∃ (l : List Nat) (j : Nat) (qk : QSt), Hid (LQ c A (m - 1) qk wr v3 l ∧ KA c A w wr ∧ (qk.isBad = true ∨ qk.n < j) ∧ j ≤ n ∧ (∀ s, qk = .good s → l.length + s.r.length ≤ 5000 ∧ 1 ≤ m) ∧ l.length ≤ 5001 ∧ ∀ y q', QR (pbind (stmts (stmtF n) j l) fun l => pnode 1 [] l) qk y q' → G y q')) (fun _ wr => 2 * (c.l.length - atOfR c wr) + badOfR c wr)
  case atStart => exact ⟨[], n, q3, LQ.nil HP.out, HK.out, .inr HL.out, Nat.le_refl _, fun s e => by
    have h1 := HP.out.few s e
    have h2 := HG.out s e
    have h3 := HM.out
    simp
    omega, by simp, HZ.out⟩
  case round =>
    obtain ⟨l, j, qk, HS⟩ := hrel
    clear HP HK HL HG HZ
    obtain ⟨ao, cap, hv⟩ := HS.out.1.val
    obtain ⟨LN, hLN⟩ : ∃ L, l.length = L := ⟨_, rfl⟩
    rw [hLN] at hv
    subst hv
    have HLN := Lib.hid hLN
    have HMS := Lib.hid (And.intro HS.out.1.st.meas HS.out.1.st.bad0)
    have HQ := Lib.hid HS.out.1
    have HK := Lib.hid HS.out.2.1
    obtain ⟨_, _, _, _, c2, _⟩ := HS.out.1.st.open
    clear hLN
    cases qk with
    | bad kb =>
      have d2 : wr.cell? ⟨c.g, 2, none⟩ = some (.bool true) := c2
      clear c2
      go_wp2_with fail
      clear d2
      
      refine (zsign_any c _ (m - 1) (.bad kb) wr [125] (by decide) HQ.out.st).mono ?_
      rintro e w5 ⟨rfl, hk⟩
      have HQ := Lib.hid (HQ.out.keep hk)
      have HK := Lib.hid (HK.out.trans (KA.of hk) (fun _ h => h))
      clear hk
      go_wp2_with fail
      refine (zmust_any c _ (m - 1) (.bad kb) w5 (isSg [125]) HQ.out.st).mono ?_
      rintro e w6 ⟨tz, q7, rfl, H⟩
      have HZ := Lib.hid (fun (y : _) (q' : QSt) (h : QR _ _ y q') => HS.out.2.2.2.2.2.2 y q' (QR.bind (stmts_out2 (.inl rfl) HS.out.2.2.1 H.out.1) h))
      have HG : Hid (∀ s, q7 = .good s → 1 ≤ m) := QR.keep1 H.out.1 (fun s e => (HS.out.2.2.2.2.1 s e).2)
      have HQ := Lib.hid (HQ.out.step H.out.2.2 H.out.2.1)
      have HK := Lib.hid (HK.out.trans H.out.2.2 (by intro z hz; simp [hz]))
      clear H
      unfold tV
      go_wp2_with fail
      refine (HQ.out.node 1 [] (by have := HM.out; omega)).mono ?_
      rintro e w8 ⟨y, q', rfl, H⟩
      have HF := Lib.hid (And.intro (HZ.out _ _ H.out.1) (And.intro (H.out.2.1.more (n := m) (fun s e => by have := QR.keep1 H.out.1 HG.out s e; omega)) (HK.out.trans H.out.2.2 (fun _ h => h))))
      clear H
      unfold nV
      go_wp2_with fail
      go_ret
      exact ⟨y, q', rfl, HF.out⟩
    | good s =>
      have d2 : wr.cell? ⟨c.g, 2, none⟩ = some (.bool false) := c2
      clear c2
      go_wp2_with fail
      clear d2
      refine (zsign_any c _ (m - 1) (.good s) wr [125] (by decide) HQ.out.st).mono ?_
      rintro e w9 ⟨rfl, hk⟩
      have HQ := Lib.hid (HQ.out.keep hk)
      have HK := Lib.hid (HK.out.trans (KA.of hk) (fun _ h => h))
      clear hk
      obtain ⟨b, hb⟩ : ∃ b, qtk (isSg [125]) (.good s) = b := ⟨_, rfl⟩
      rw [hb]
      cases b
      case true =>
        have HB := Lib.hid hb
        clear hb
        go_wp2_with fail
        
        refine (zsign_any c _ (m - 1) (.good s) w9 [125] (by decide) HQ.out.st).mono ?_
        rintro e w10 ⟨rfl, hk⟩
        have HQ := Lib.hid (HQ.out.keep hk)
        have HK := Lib.hid (HK.out.trans (KA.of hk) (fun _ h => h))
        clear hk
        go_wp2_with fail
        refine (zmust_any c _ (m - 1) (.good s) w10 (isSg [125]) HQ.out.st).mono ?_
        rintro e w11 ⟨tz, q12, rfl, H⟩
        have HZ := Lib.hid (fun (y : _) (q' : QSt) (h : QR _ _ y q') => HS.out.2.2.2.2.2.2 y q' (QR.bind (stmts_out2 (.inr HB.out) HS.out.2.2.1 H.out.1) h))
        have HG : Hid (∀ s, q12 = .good s → 1 ≤ m) := QR.keep1 H.out.1 (fun s e => (HS.out.2.2.2.2.1 s e).2)
        have HQ := Lib.hid (HQ.out.step H.out.2.2 H.out.2.1)
        have HK := Lib.hid (HK.out.trans H.out.2.2 (by intro z hz; simp [hz]))
        clear H
        unfold tV
        go_wp2_with fail
        refine (HQ.out.node 1 [] (by have := HM.out; omega)).mono ?_
        rintro e w13 ⟨y, q', rfl, H⟩
        have HF := Lib.hid (And.intro (HZ.out _ _ H.out.1) (And.intro (H.out.2.1.more (n := m) (fun s e => by have := QR.keep1 H.out.1 HG.out s e; omega)) (HK.out.trans H.out.2.2 (fun _ h => h))))
        clear H
        unfold nV
        go_wp2_with fail
        go_ret
        exact ⟨y, q', rfl, HF.out⟩
      case false =>
        have hlt : s.r.length < j := by
          rcases HS.out.2.2.1 with h | h
          · cases h
          · exact h
        obtain ⟨j', rfl⟩ : ∃ j', j = j' + 1 := ⟨j - 1, by omega⟩
        have HLT := Lib.hid hlt
        have HZ := Lib.hid (fun (y : _) (q' : QSt) (h : QR _ _ y q') => HS.out.2.2.2.2.2.2 y q' (QR.bifT_f hb h))
        clear hb hlt
        go_wp2_with fail
        refine (HST.out _ (m - 1) (.good s) w9 (by have := HM.out; omega) (by have h1 := HLT.out; have h2 := HS.out.2.2.2.1; show s.r.length < n; omega) HQ.out.st).mono ?_
        rintro e w14 ⟨x, q2, rfl, H⟩
        have HZ := Lib.hid (fun (y : _) (q' : QSt) (h : QR _ _ y q') => HZ.out y q' (QR.bbind (QR.bind H.out.1 h)))
        have HE := Lib.hid (stmt_eats H.out.1)
        have HQ := Lib.hid (HQ.out.step H.out.2.2 H.out.2.1)
        have HK := Lib.hid (HK.out.trans H.out.2.2 (by intro z hz; simp [hz]))
        clear H
        unfold nV
        obtain ⟨v16, w15, hrun, hls, hka⟩ := HQ.out.app1 x (by have := HS.out.2.2.2.2.2.1; omega)
        obtain ⟨ao, cap, hv⟩ := hls.val
        obtain ⟨LN, hLN⟩ : ∃ L, (l ++ [x]).length = L := ⟨_, rfl⟩
        rw [hLN] at hv
        subst hv
        have HRUN := Lib.hid hrun
        have HQ := Lib.hid hls
        have HLN := Lib.hid hLN
        have HK := Lib.hid (HK.out.trans hka (fun _ h => h))
        clear hrun hls hka hLN
        go_wp2_with (at_builtin; refine wpList_append_run rfl _ _ 39 rfl _ _ _ rfl rfl HRUN.out ?_)
        have HMS2 := Lib.hid (And.intro HQ.out.st.meas HQ.out.st.bad0)
        have HREL : Hid ((q2.isBad = true ∨ q2.n < j') ∧ (∀ s, q2 = .good s → (l ++ [x]).length + s.r.length ≤ 5000 ∧ 1 ≤ m) ∧ (l ++ [x]).length ≤ 5001 ∧ 2 * (c.l.length - atOfR c w15) + badOfR c w15 < 2 * (c.l.length - atOfR c wr) + badOfR c wr) := by
          have h1 := (HS.out.2.2.2.2.1 s rfl).1
          have h2 := HE.out
          have h3 := HMS.out
          have h4 := HMS2.out
          have h5 := HLT.out
          have h6 := (HS.out.2.2.2.2.1 s rfl).2
          have h7 : (QSt.good s).n = s.r.length := rfl
          have h8 : (QSt.good s).isBad = false := rfl
          rw [List.length_append, List.length_singleton]
          rw [h4.1, h3.1, h4.2, h3.2, h7, h8]
          cases q2 with
          | bad k =>
            refine ⟨.inl rfl, (fun s e => by cases e), by omega, ?_⟩
            have h9 : k ≤ s.r.length := h2.2
            show 2 * k + 0 < 2 * s.r.length + 1
            omega
          | good s2 =>
            have h9 : s2.r.length < s.r.length := h2.1 rfl
            refine ⟨.inr ?_, fun s3 e => ?_, by omega, ?_⟩
            · show s2.r.length < j'
              omega
            · injection e with e
              subst e
              omega
            · show 2 * s2.r.length + 1 < 2 * s.r.length + 1
              omega
        go_roundw
        case rel => exact ⟨l ++ [x], j', q2, HQ.out, HK.out, HREL.out.1, by have := HS.out.2.2.2.1; omega, HREL.out.2.1, HREL.out.2.2.1, HZ.out⟩
        case measure => exact HREL.out.2.2.2
end Go.Proofs.YtfpdgdacifiejaaGreat

namespace Go.Proofs.YtfpdgdacifiejaaGreat
open Go.RowKit Go.Maps
set_option maxRecDepth 100000 in
set_option maxHeartbeats 8000000 in
theorem zparams_any (c : PCx) (n : Nat) (hval : QC c 85 (value n) n) (A : List Nat) (m : Nat) (q : QSt) (w : World) (hm : m ≤ 5000) (hq : q.n < n) (h : QS c A m q w) :
    Calls Tryz.prog 81 #[.pointer (some ⟨c.g, 0, none⟩)] w (LQRes c (params n) A m q w) := by
  have HP := Lib.hid h
  have HM := Lib.hid hm
  have HL := Lib.hid hq
  have HVA := Lib.hid hval
  have HK : Hid (KA c A w w) := KA.of (Kept.refl _ _)
  show Calls _ _ _ _ (LQG c (QR (params n) q) A m w)
  have HZ : Hid (∀ y q', QR (ifT (isSg [40]) (fun _ => ifT (isSg [41]) (fun _ => prt []) (parLoop n n [])) (prt [])) q y q' → QR (params n) q y q') := fun _ _ h => h
  generalize QR (params n) q = G at HZ ⊢
  clear h hm hq hval
  go_enter Tryz.func81, Tryz.ntmps81
  go_wp2_with fail
  refine (zsign_any c _ m q w [40] (by decide) HP.out).mono ?_
  rintro e w1 ⟨rfl, hk⟩
  have HP := Lib.hid (HP.out.keep hk)
  have HK := Lib.hid (HK.out.trans (KA.of hk) (fun _ h => h))
  clear hk
  obtain ⟨b, hb⟩ : ∃ b, qtk (isSg [40]) q = b := ⟨_, rfl⟩
  rw [hb]
  cases b
  case true =>
    obtain ⟨s, rfl, hs⟩ := qtk_good hb
    have HN : Hid ((QSt.good s).n ≤ 5000) := by
      have h1 := HP.out.few s rfl
      have h2 := HM.out
      show s.r.length ≤ 5000
      omega
    have HZ := Lib.hid (fun (y : _) (q' : QSt) (h : QR _ _ y q') => HZ.out y q' (QR.ifT_t hs h))
    have HT := Lib.hid (ztake_any c _ m s w1 (tk_neR hs) HP.out)
    have HNS : Hid ((QSt.good ⟨s.r.tail, s.ns⟩).n < 5000) := by
      have h1 := tk_lenR hs
      have h2 := HN.out
      have h4 : (QSt.good s).n = s.r.length := rfl
      show s.r.tail.length < 5000
      omega
    have HN : Hid ((QSt.good ⟨s.r.tail, s.ns⟩).n ≤ 5000) := Nat.le_of_lt HNS.out
    have HL : Hid ((QSt.good ⟨s.r.tail, s.ns⟩).n < n ∧ 1 ≤ m) := by
      have h1 := tk_lenR hs
      have h2 := HL.out
      have h3 := HP.out.pos hs
      refine ⟨?_, h3⟩
      show s.r.tail.length < n
      have h4 : (QSt.good s).n = s.r.length := rfl
      omega
    have HG : Hid (∀ s', QSt.good ⟨s.r.tail, s.ns⟩ = .good s' → 1 ≤ m) := fun _ _ => by have := HL.out.2; omega
    have HL := Lib.hid HL.out.1
    clear hs hb
    go_wp2_with fail
    refine HT.out.mono ?_
    rintro e w2 ⟨rfl, HT⟩
    have HP := Lib.hid HT.out.1
    have HK := Lib.hid (HK.out.trans HT.out.2 (fun _ h => h))
    clear HT
    unfold tV
    obtain ⟨t4, htx⟩ : ∃ t, hdT s.r = t := ⟨_, rfl⟩
    obtain ⟨q3, hq1⟩ : ∃ q1, QSt.good ⟨s.r.tail, s.ns⟩ = q1 := ⟨_, rfl⟩
    try rw [htx] at HZ
    try rw [htx]
    rw [hq1] at HZ HP HL HG HN HNS
    clear htx hq1
    go_wp2_with fail
    refine (zsign_any c _ (m - 1) q3 w2 [41] (by decide) HP.out).mono ?_
    rintro e w5 ⟨rfl, hk⟩
    have HP := Lib.hid (HP.out.keep hk)
    have HK := Lib.hid (HK.out.trans (KA.of hk) (fun _ h => h))
    clear hk
    obtain ⟨b, hb⟩ : ∃ b, qtk (isSg [41]) q3 = b := ⟨_, rfl⟩
    rw [hb]
    cases b
    case true =>
      obtain ⟨s, rfl, hs⟩ := qtk_good hb
      have HZ := Lib.hid (fun (y : _) (q' : QSt) (h : QR _ _ y q') => HZ.out y q' (QR.ifT_t hs h))
      have HT := Lib.hid (ztake_any c _ (m - 1) s w5 (tk_neR hs) HP.out)
      have HNS : Hid ((QSt.good ⟨s.r.tail, s.ns⟩).n < 5000) := by
        have h1 := tk_lenR hs
        have h2 := HN.out
        have h4 : (QSt.good s).n = s.r.length := rfl
        show s.r.tail.length < 5000
        omega
      have HN : Hid ((QSt.good ⟨s.r.tail, s.ns⟩).n ≤ 5000) := Nat.le_of_lt HNS.out
      have HL : Hid ((QSt.good ⟨s.r.tail, s.ns⟩).n < n ∧ 1 ≤ (m - 1)) := by
        have h1 := tk_lenR hs
        have h2 := HL.out
        have h3 := HP.out.pos hs
        refine ⟨?_, h3⟩
        show s.r.tail.length < n
        have h4 : (QSt.good s).n = s.r.length := rfl
        omega
      have HG : Hid (∀ s', QSt.good ⟨s.r.tail, s.ns⟩ = .good s' → 1 ≤ m) := fun _ _ => by have := HL.out.2; omega
      have HL := Lib.hid HL.out.1
      clear hs hb
      go_wp2_with fail
      refine HT.out.mono ?_
      rintro e w6 ⟨rfl, HT⟩
      have HP := Lib.hid HT.out.1
      have HK := Lib.hid (HK.out.trans HT.out.2 (fun _ h => h))
      clear HT
      unfold tV
      obtain ⟨t8, htx⟩ : ∃ t, hdT s.r = t := ⟨_, rfl⟩
      obtain ⟨q7, hq1⟩ : ∃ q1, QSt.good ⟨s.r.tail, s.ns⟩ = q1 := ⟨_, rfl⟩
      try rw [htx] at HZ
      try rw [htx]
      rw [hq1] at HZ HP HL HG HN HNS
      clear htx hq1
      go_wp2_with fail
      have HF := Lib.hid (And.intro (HZ.out _ _ (QR.prt _ _)) (And.intro ((LQ.nil HP.out).more (m2 := m) (fun s e => by omega)) HK.out))
      go_ret
      exact ⟨_, [], _, rfl, HF.out.1, HF.out.2.1, HF.out.2.2, by simp⟩
    case false =>
      have HZ := Lib.hid (fun (y : _) (q' : QSt) (h : QR _ _ y q') => HZ.out y q' (QR.ifT_f hb h))
      clear hb
      go_wp2_with fail
      go_loopw [3] (fun v3 wr => ∃ (l : List Nat) (j : Nat) (qk : QSt), Hid (LQ c A m qk wr v3 l ∧ KA c A w wr ∧ qk.n < j ∧ j ≤ n ∧ l.length + qk.n ≤ 5000 ∧ ∀ y q', QR (parLoop n j l) qk y q' → G y q')) (fun _ wr => c.l.length - atOfR c wr)
      case atStart => exact ⟨[], n, q3, (LQ.nil HP.out).more (fun s e => by omega), HK.out, HL.out, Nat.le_refl _, by have := HN.out; simp; omega, HZ.out⟩
      case round =>
        obtain ⟨l, j, qk, HS⟩ := hrel
        clear HP HK HL HG HZ HN HNS
        obtain ⟨ao, cap, hv⟩ := HS.out.1.val
        obtain ⟨LN, hLN⟩ : ∃ L, l.length = L := ⟨_, rfl⟩
        rw [hLN] at hv
        subst hv
        have HLN := Lib.hid hLN
        have HMS := Lib.hid HS.out.1.st.meas
        have HQ := Lib.hid HS.out.1
        have HK := Lib.hid HS.out.2.1
        have HL : Hid (qk.n < n) := Nat.lt_of_lt_of_le HS.out.2.2.1 HS.out.2.2.2.1
        have HN : Hid (qk.n ≤ qk.n) := Nat.le_refl _
        obtain ⟨j', rfl⟩ : ∃ j', j = j' + 1 := ⟨j - 1, by have := HS.out.2.2.1; omega⟩
        have HZ : Hid (∀ y q', QR (pbind (must (isKd 3)) fun t => pbind (ifT (isSg [61]) (fun _ => pbind (value n) fun v => prt [v]) (prt [])) fun v => pbind (pnode 4 t v) fun x => ifT (isSg [44]) (fun _ => parLoop n j' (l ++ [x])) (pbind (must (isSg [41])) fun _ => prt (l ++ [x]))) qk y q' → G y q') := HS.out.2.2.2.2.2
        clear hLN
        go_wp2_with fail
        refine (zkd_any c _ m qk wr 3 HQ.out.st).mono ?_
        rintro e w9 ⟨rfl, hk⟩
        have HQ := Lib.hid (HQ.out.keep hk)
        have HK := Lib.hid (HK.out.trans (KA.of hk) (fun _ h => h))
        clear hk
        go_wp2_with fail
        refine (zmust_any c _ m qk w9 (isKd 3) HQ.out.st).mono ?_
        rintro e w10 ⟨x12, q11, rfl, H⟩
        have HZ := Lib.hid (fun (y : _) (q' : QSt) (h : QR _ _ y q') => HZ.out y q' (QR.bind H.out.1 h))
        have HL := Lib.hid (Nat.lt_of_le_of_lt (QR.le (Lc.must _) H.out.1) HL.out)
        have HG := Lib.hid (QR.must1 H.out.1 HQ.out.st)
        have HN := Lib.hid (Nat.le_trans (QR.le (Lc.must _) H.out.1) HN.out)
        have HQ := Lib.hid (HQ.out.step H.out.2.2 H.out.2.1)
        have HK := Lib.hid (HK.out.trans H.out.2.2 (by intro z hz; simp [hz]))
        clear H
        unfold tV
        go_wp2_with fail
        refine (zsign_any c _ (m - 1) q11 w10 [61] (by decide) HQ.out.st).mono ?_
        rintro e w13 ⟨rfl, hk⟩
        have HQ := Lib.hid (HQ.out.keep hk)
        have HK := Lib.hid (HK.out.trans (KA.of hk) (fun _ h => h))
        clear hk
        obtain ⟨b, hb⟩ : ∃ b, qtk (isSg [61]) q11 = b := ⟨_, rfl⟩
        rw [hb]
        cases b
        case true =>
          obtain ⟨s, rfl, hs⟩ := qtk_good hb
          have HZ := Lib.hid (fun (y : _) (q' : QSt) (h : QR _ _ y q') => HZ.out y q' (QR.bifT_t hs h))
          have HT := Lib.hid (ztake_any c _ (m - 1) s w13 (tk_neR hs) HQ.out.st)
          have HNS : Hid ((QSt.good ⟨s.r.tail, s.ns⟩).n < qk.n) := by
            have h1 := tk_lenR hs
            have h2 := HN.out
            have h4 : (QSt.good s).n = s.r.length := rfl
            show s.r.tail.length < qk.n
            omega
          have HN : Hid ((QSt.good ⟨s.r.tail, s.ns⟩).n ≤ qk.n) := Nat.le_of_lt HNS.out
          have HL : Hid ((QSt.good ⟨s.r.tail, s.ns⟩).n < n ∧ 1 ≤ (m - 1)) := by
            have h1 := tk_lenR hs
            have h2 := HL.out
            have h3 := HQ.out.st.pos hs
            refine ⟨?_, h3⟩
            show s.r.tail.length < n
            have h4 : (QSt.good s).n = s.r.length := rfl
            omega
          have HG : Hid (∀ s', QSt.good ⟨s.r.tail, s.ns⟩ = .good s' → 1 ≤ m) := fun _ _ => by have := HL.out.2; omega
          have HL := Lib.hid HL.out.1
          clear hs hb
          go_wp2_with fail
          refine HT.out.mono ?_
          rintro e w14 ⟨rfl, HT⟩
          have HQ := Lib.hid (HQ.out.step HT.out.2 HT.out.1)
          have HK := Lib.hid (HK.out.trans HT.out.2 (by intro z hz; simp [hz]))
          clear HT
          unfold tV
          obtain ⟨t16, htx⟩ : ∃ t, hdT s.r = t := ⟨_, rfl⟩
          obtain ⟨q15, hq1⟩ : ∃ q1, QSt.good ⟨s.r.tail, s.ns⟩ = q1 := ⟨_, rfl⟩
          try rw [htx] at HZ
          try rw [htx]
          rw [hq1] at HZ HQ HL HG HN HNS
          clear htx hq1
          go_wp2_with fail
          refine (HVA.out _ ((m - 1) - 1) q15 w14 (by have := HM.out; omega) HL.out HQ.out.st).mono ?_
          rintro e w17 ⟨x19, q18, rfl, H⟩
          have HZ := Lib.hid (fun (y : _) (q' : QSt) (h : QR _ _ y q') => HZ.out y q' (QR.bbind (QR.bind H.out.1 h)))
          have HL := Lib.hid (Nat.lt_of_le_of_lt (QR.le (Lc.value n) H.out.1) HL.out)
          have HG := Lib.hid (QR.keep1 H.out.1 HG.out)
          have HN := Lib.hid (Nat.le_trans (QR.le (Lc.value n) H.out.1) HN.out)
          have HQ := Lib.hid (HQ.out.step H.out.2.2 H.out.2.1)
          have HK := Lib.hid (HK.out.trans H.out.2.2 (by intro z hz; simp [hz]))
          clear H
          unfold nV
          have HZ := Lib.hid (fun (y : _) (q' : QSt) (h : QR _ _ y q') => HZ.out y q' (QR.bprt h))
          obtain ⟨v21, w20, hrun, hls, hka⟩ := (LQ.nil HQ.out.st).app1 x19 (by simp)
          obtain ⟨ao2, cap2, hv⟩ := hls.val
          have hv : v21 = .slice ao2 1 cap2 := hv
          subst hv
          have HRUN := Lib.hid hrun
          have HQ := Lib.hid (HQ.out.step hka hls.low)
          have HR := Lib.hid hls
          have HK := Lib.hid (HK.out.trans hka (by intro z hz; simp [hz]))
          clear hrun hls hka
          go_wp2_with (at_builtin; refine wpList_append_run rfl _ _ 39 rfl _ _ _ rfl rfl HRUN.out ?_)
          refine (HR.out.node 4 x12 (by have := HM.out; omega)).mono ?_
          rintro e w22 ⟨x24, q23, rfl, H⟩
          have HZ := Lib.hid (fun (y : _) (q' : QSt) (h : QR _ _ y q') => HZ.out y q' (QR.bind H.out.1 h))
          have HL := Lib.hid (Nat.lt_of_le_of_lt (QR.le (Lc.node _ _ _) H.out.1) HL.out)
          have HG := Lib.hid (QR.keep1 H.out.1 HG.out)
          have HN := Lib.hid (Nat.le_trans (QR.le (Lc.node _ _ _) H.out.1) HN.out)
          have HQ := Lib.hid (HQ.out.step H.out.2.2 H.out.2.1)
          have HK := Lib.hid (HK.out.trans H.out.2.2 (by intro z hz; simp [hz]))
          clear H
          unfold nV
          have HQ := Lib.hid (HQ.out.more (m2 := m) (fun s e => by have := HG.out s e; omega))
          obtain ⟨v26, w25, hrun, hls, hka⟩ := HQ.out.app1 x24 (by have := HS.out.2.2.2.2.1; omega)
          obtain ⟨ao, cap, hv⟩ := hls.val
          obtain ⟨LN, hLN⟩ : ∃ L, (l ++ [x24]).length = L := ⟨_, rfl⟩
          rw [hLN] at hv
          subst hv
          have HRUN := Lib.hid hrun
          have HQ := Lib.hid hls
          have HLN := Lib.hid hLN
          have HK := Lib.hid (HK.out.trans hka (fun _ h => h))
          clear hrun hls hka hLN
          go_wp2_with (at_builtin; refine wpList_append_run rfl _ _ 39 rfl _ _ _ rfl rfl HRUN.out ?_)
          refine (zsign_any c _ m q23 w25 [44] (by decide) HQ.out.st).mono ?_
          rintro e w27 ⟨rfl, hk⟩
          have HQ := Lib.hid (HQ.out.keep hk)
          have HK := Lib.hid (HK.out.trans (KA.of hk) (fun _ h => h))
          clear hk
          obtain ⟨b, hb⟩ : ∃ b, qtk (isSg [44]) q23 = b := ⟨_, rfl⟩
          rw [hb]
          cases b
          case true =>
            obtain ⟨s, rfl, hs⟩ := qtk_good hb
            have HZ := Lib.hid (fun (y : _) (q' : QSt) (h : QR _ _ y q') => HZ.out y q' (QR.ifT_t hs h))
            have HT := Lib.hid (ztake_any c _ m s w27 (tk_neR hs) HQ.out.st)
            have HNS : Hid ((QSt.good ⟨s.r.tail, s.ns⟩).n < qk.n) := by
              have h1 := tk_lenR hs
              have h2 := HN.out
              have h4 : (QSt.good s).n = s.r.length := rfl
              show s.r.tail.length < qk.n
              omega
            have HN : Hid ((QSt.good ⟨s.r.tail, s.ns⟩).n ≤ qk.n) := Nat.le_of_lt HNS.out
            have HL : Hid ((QSt.good ⟨s.r.tail, s.ns⟩).n < n ∧ 1 ≤ m) := by
              have h1 := tk_lenR hs
              have h2 := HL.out
              have h3 := HQ.out.st.pos hs
              refine ⟨?_, h3⟩
              show s.r.tail.length < n
              have h4 : (QSt.good s).n = s.r.length := rfl
              omega
            have HG : Hid (∀ s', QSt.good ⟨s.r.tail, s.ns⟩ = .good s' → 1 ≤ m) := fun _ _ => by have := HL.out.2; omega
            have HL := Lib.hid HL.out.1
            clear hs hb
            go_wp2_with fail
            refine HT.out.mono ?_
            rintro e w28 ⟨rfl, HT⟩
            have HQ := Lib.hid (HQ.out.step HT.out.2 HT.out.1)
            have HK := Lib.hid (HK.out.trans HT.out.2 (by intro z hz; simp [hz]))
            clear HT
            unfold tV
            obtain ⟨t30, htx⟩ : ∃ t, hdT s.r = t := ⟨_, rfl⟩
            obtain ⟨q29, hq1⟩ : ∃ q1, QSt.good ⟨s.r.tail, s.ns⟩ = q1 := ⟨_, rfl⟩
            try rw [htx] at HZ
            try rw [htx]
            rw [hq1] at HZ HQ HL HG HN HNS
            clear htx hq1
            go_wp2_with fail
            have HMS2 := Lib.hid HQ.out.st.meas
            have HREL : Hid (q29.n < j' ∧ (l ++ [x24]).length + q29.n ≤ 5000 ∧ c.l.length - atOfR c w28 < c.l.length - atOfR c wr) := by
              have h1 := HMS.out
              have h2 := HMS2.out
              have h3 := HNS.out
              have h4 := HS.out.2.2.1
              have h5 := HS.out.2.2.2.2.1
              rw [List.length_append, List.length_singleton]
              refine ⟨?_, ?_, ?_⟩ <;> omega
            exact ⟨⟨(l ++ [x24]), j', q29, HQ.out.more (fun s e => by omega), HK.out, HREL.out.1, by have := HS.out.2.2.2.1; omega, HREL.out.2.1, HZ.out⟩, HREL.out.2.2⟩
          case false =>
            have HZ := Lib.hid (fun (y : _) (q' : QSt) (h : QR _ _ y q') => HZ.out y q' (QR.ifT_f hb h))
            clear hb
            go_wp2_with fail
            refine (zsign_any c _ m q23 w27 [41] (by decide) HQ.out.st).mono ?_
            rintro e w31 ⟨rfl, hk⟩
            have HQ := Lib.hid (HQ.out.keep hk)
            have HK := Lib.hid (HK.out.trans (KA.of hk) (fun _ h => h))
            clear hk
            go_wp2_with fail
            refine (zmust_any c _ m q23 w31 (isSg [41]) HQ.out.st).mono ?_
            rintro e w32 ⟨x34, q33, rfl, H⟩
            have HZ := Lib.hid (fun (y : _) (q' : QSt) (h : QR _ _ y q') => HZ.out y q' (QR.bind H.out.1 h))
            have HL := Lib.hid (Nat.lt_of_le_of_lt (QR.le (Lc.must _) H.out.1) HL.out)
            have HG := Lib.hid (QR.keep1 H.out.1 HG.out)
            have HN := Lib.hid (Nat.le_trans (QR.le (Lc.must _) H.out.1) HN.out)
            have HQ := Lib.hid (HQ.out.step H.out.2.2 H.out.2.1)
            have HK := Lib.hid (HK.out.trans H.out.2.2 (by intro z hz; simp [hz]))
            clear H
            unfold tV
            go_wp2_with fail
            have HF := Lib.hid (And.intro (HZ.out _ _ (QR.prt _ _)) (And.intro (HQ.out.more (m2 := m) (fun s e => by omega)) HK.out))
            have HLE : Hid ((l ++ [x24]).length ≤ 14000) := by
              have h5 := HS.out.2.2.2.2.1
              show _ ≤ _
              rw [List.length_append, List.length_singleton]
              omega
            go_ret
            exact ⟨_, (l ++ [x24]), _, rfl, HF.out.1, HF.out.2.1, HF.out.2.2, HLE.out⟩
        case false =>
          have HZ := Lib.hid (fun (y : _) (q' : QSt) (h : QR _ _ y q') => HZ.out y q' (QR.bifT_f hb h))
          clear hb
          go_wp2_with fail
          have HZ := Lib.hid (fun (y : _) (q' : QSt) (h : QR _ _ y q') => HZ.out y q' (QR.bprt h))
          refine (rnode0 c _ (m - 1) q11 w13 4 x12 (by have := HM.out; omega) HQ.out.st).mono ?_
          rintro e w35 ⟨x37, q36, rfl, H⟩
          have HZ := Lib.hid (fun (y : _) (q' : QSt) (h : QR _ _ y q') => HZ.out y q' (QR.bind H.out.1 h))
          have HL := Lib.hid (Nat.lt_of_le_of_lt (QR.le (Lc.node _ _ _) H.out.1) HL.out)
          have HG := Lib.hid (QR.keep1 H.out.1 HG.out)
          have HN := Lib.hid (Nat.le_trans (QR.le (Lc.node _ _ _) H.out.1) HN.out)
          have HQ := Lib.hid (HQ.out.step H.out.2.2 H.out.2.1)
          have HK := Lib.hid (HK.out.trans H.out.2.2 (by intro z hz; simp [hz]))
          clear H
          unfold nV
          have HQ := Lib.hid (HQ.out.more (m2 := m) (fun s e => by have := HG.out s e; omega))
          obtain ⟨v39, w38, hrun, hls, hka⟩ := HQ.out.app1 x37 (by have := HS.out.2.2.2.2.1; omega)
          obtain ⟨ao, cap, hv⟩ := hls.val
          obtain ⟨LN, hLN⟩ : ∃ L, (l ++ [x37]).length = L := ⟨_, rfl⟩
          rw [hLN] at hv
          subst hv
          have HRUN := Lib.hid hrun
          have HQ := Lib.hid hls
          have HLN := Lib.hid hLN
          have HK := Lib.hid (HK.out.trans hka (fun _ h => h))
          clear hrun hls hka hLN
          go_wp2_with (at_builtin; refine wpList_append_run rfl _ _ 39 rfl _ _ _ rfl rfl HRUN.out ?_)
          refine (zsign_any c _ m q36 w38 [44] (by decide) HQ.out.st).mono ?_
          rintro e w40 ⟨rfl, hk⟩
          have HQ := Lib.hid (HQ.out.keep hk)
          have HK := Lib.hid (HK.out.trans (KA.of hk) (fun _ h => h))
          clear hk
          obtain ⟨b, hb⟩ : ∃ b, qtk (isSg [44]) q36 = b := ⟨_, rfl⟩
          rw [hb]
          cases b
          case true =>
            obtain ⟨s, rfl, hs⟩ := qtk_good hb
            have HZ := Lib.hid (fun (y : _) (q' : QSt) (h : QR _ _ y q') => HZ.out y q' (QR.ifT_t hs h))
            have HT := Lib.hid (ztake_any c _ m s w40 (tk_neR hs) HQ.out.st)
            have HNS : Hid ((QSt.good ⟨s.r.tail, s.ns⟩).n < qk.n) := by
              have h1 := tk_lenR hs
              have h2 := HN.out
              have h4 : (QSt.good s).n = s.r.length := rfl
              show s.r.tail.length < qk.n
              omega
            have HN : Hid ((QSt.good ⟨s.r.tail, s.ns⟩).n ≤ qk.n) := Nat.le_of_lt HNS.out
            have HL : Hid ((QSt.good ⟨s.r.tail, s.ns⟩).n < n ∧ 1 ≤ m) := by
              have h1 := tk_lenR hs
              have h2 := HL.out
              have h3 := HQ.out.st.pos hs
              refine ⟨?_, h3⟩
              show s.r.tail.length < n
              have h4 : (QSt.good s).n = s.r.length := rfl
              omega
            have HG : Hid (∀ s', QSt.good ⟨s.r.tail, s.ns⟩ = .good s' → 1 ≤ m) := fun _ _ => by have := HL.out.2; omega
            have HL := Lib.hid HL.out.1
            clear hs hb
            go_wp2_with fail
            refine HT.out.mono ?_
            rintro e w41 ⟨rfl, HT⟩
            have HQ := Lib.hid (HQ.out.step HT.out.2 HT.out.1)
            have HK := Lib.hid (HK.out.trans HT.out.2 (by intro z hz; simp [hz]))
            clear HT
            unfold tV
            obtain ⟨t43, htx⟩ : ∃ t, hdT s.r = t := ⟨_, rfl⟩
            obtain ⟨q42, hq1⟩ : ∃ q1, QSt.good ⟨s.r.tail, s.ns⟩ = q1 := ⟨_, rfl⟩
            try rw [htx] at HZ
            try rw [htx]
            rw [hq1] at HZ HQ HL HG HN HNS
            clear htx hq1
            go_wp2_with fail
            have HMS2 := Lib.hid HQ.out.st.meas
            have HREL : Hid (q42.n < j' ∧ (l ++ [x37]).length + q42.n ≤ 5000 ∧ c.l.length - atOfR c w41 < c.l.length - atOfR c wr) := by
              have h1 := HMS.out
              have h2 := HMS2.out
              have h3 := HNS.out
              have h4 := HS.out.2.2.1
              have h5 := HS.out.2.2.2.2.1
              rw [List.length_append, List.length_singleton]
              refine ⟨?_, ?_, ?_⟩ <;> omega
            exact ⟨⟨(l ++ [x37]), j', q42, HQ.out.more (fun s e => by omega), HK.out, HREL.out.1, by have := HS.out.2.2.2.1; omega, HREL.out.2.1, HZ.out⟩, HREL.out.2.2⟩
          case false =>
            have HZ := Lib.hid (fun (y : _) (q' : QSt) (h : QR _ _ y q') => HZ.out y q' (QR.ifT_f hb h))
            clear hb
            go_wp2_with fail
            refine (zsign_any c _ m q36 w40 [41] (by decide) HQ.out.st).mono ?_
            rintro e w44 ⟨rfl, hk⟩
            have HQ := Lib.hid (HQ.out.keep hk)
            have HK := Lib.hid (HK.out.trans (KA.of hk) (fun _ h => h))
            clear hk
            go_wp2_with fail
            refine (zmust_any c _ m q36 w44 (isSg [41]) HQ.out.st).mono ?_
            rintro e w45 ⟨x47, q46, rfl, H⟩
            have HZ := Lib.hid (fun (y : _) (q' : QSt) (h : QR _ _ y q') => HZ.out y q' (QR.bind H.out.1 h))
            have HL := Lib.hid (Nat.lt_of_le_of_lt (QR.le (Lc.must _) H.out.1) HL.out)
            have HG := Lib.hid (QR.keep1 H.out.1 HG.out)
            have HN := Lib.hid (Nat.le_trans (QR.le (Lc.must _) H.out.1) HN.out)
            have HQ := Lib.hid (HQ.out.step H.out.2.2 H.out.2.1)
            have HK := Lib.hid (HK.out.trans H.out.2.2 (by intro z hz; simp [hz]))
            clear H
            unfold tV
            go_wp2_with fail
            have HF := Lib.hid (And.intro (HZ.out _ _ (QR.prt _ _)) (And.intro (HQ.out.more (m2 := m) (fun s e => by omega)) HK.out))
            have HLE : Hid ((l ++ [x37]).length ≤ 14000) := by
              have h5 := HS.out.2.2.2.2.1
              show _ ≤ _
              rw [List.length_append, List.length_singleton]
              omega
            go_ret
            exact ⟨_, (l ++ [x37]), _, rfl, HF.out.1, HF.out.2.1, HF.out.2.2, HLE.out⟩
  case false =>
    have HZ := Lib.hid (fun (y : _) (q' : QSt) (h : QR _ _ y q') => HZ.out y q' (QR.ifT_f hb h))
    clear hb
    go_wp2_with fail
    have HF := Lib.hid (And.intro (HZ.out _ _ (QR.prt _ _)) (And.intro ((LQ.nil HP.out).more (m2 := m) (fun s e => by omega)) HK.out))
    go_ret
    exact ⟨_, [], _, rfl, HF.out.1, HF.out.2.1, HF.out.2.2, by simp⟩
end Go.Proofs.YtfpdgdacifiejaaGreat

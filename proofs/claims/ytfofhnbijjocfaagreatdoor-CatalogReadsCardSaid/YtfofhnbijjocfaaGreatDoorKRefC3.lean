/-
  Layer 7: the document's Check: a resource stands in the way.
  Conditions: those that each theorem states.
-/
import Derived.Test.YtfofhnbijjocfaaGreatDoorKRefC0
namespace Go.Proofs.YtfofhnbijjocfaaGreatDoor
open Go.RowKit Go.Maps
set_option maxRecDepth 100000

set_option maxRecDepth 100000 in
set_option maxHeartbeats 16000000 in
theorem rcCheck_blk (c : Cat) (v : Value) (w : World) (h : CatIs w v c) (hgood : GoodC c) (hres : resL none c.R = 0) (hblk : blkB c.R = true) :
    Calls Tryz.prog 11 #[v] w fun e w' => e = .returned (.int .i64 (checkO c)) ∧ Kept [] w w' := by
  have hnode := h.node
  have HH := Lib.hid h
  obtain ⟨ra, rc, ea, ec, rfl, hb⟩ := h.box
  have hrl : c.R.length ≤ 140737488355328 := by have := hb.rs.len; omega
  have hel : c.E.length ≤ 140737488355328 := by have := hb.es.len; omega
  have HA := Lib.hid (Kept.alloc [] w (.cells #[.int .i64 c.ver, .string (strL c.node), .slice ra c.R.length rc, .slice ea c.E.length ec] 25))
  obtain ⟨w1, hw1⟩ : ∃ w1, w.alloc (.cells #[.int .i64 c.ver, .string (strL c.node), .slice ra c.R.length rc, .slice ea c.E.length ec] 25) = w1 := ⟨_, rfl⟩
  rw [hw1] at hb HA
  have HB := Lib.hid hb
  clear h hb
  obtain ⟨wb, hwb⟩ : ∃ b, wordB c.node 32 = b := ⟨_, rfl⟩
  have HWD : Hid (∀ w', Calls Tryz.prog 18 #[.string (strL c.node), .int .i64 32] w' fun e w2 => e = .returned (.bool wb) ∧ w' = w2) := fun w' => by rw [← hwb]; exact rword_any c.node 32 w' (by omega)
  obtain ⟨n, hn⟩ : ∃ n, c.R.length = n := ⟨_, rfl⟩
  obtain ⟨m, hm⟩ : ∃ m, c.E.length = m := ⟨_, rfl⟩
  obtain ⟨vv, hvv⟩ : ∃ vv, c.ver = vv := ⟨_, rfl⟩
  have HC : Hid (∀ w', Kept [] w1 w' → w'.cell? ⟨w.heap.size, 0, none⟩ = some (.int .i64 vv) ∧ w'.cell? ⟨w.heap.size, 1, none⟩ = some (.string (strL c.node)) ∧ w'.cell? ⟨w.heap.size, 2, none⟩ = some (.slice ra n rc) ∧ w'.cell? ⟨w.heap.size, 3, none⟩ = some (.slice ea m ec)) := fun w' hk => by
    rw [← hn, ← hm, ← hvv]
    exact ⟨(HB.out.kept hk).c0, (HB.out.kept hk).c1, (HB.out.kept hk).c2, (HB.out.kept hk).c3⟩
  have HRS : Hid (∀ w', Kept [] w1 w' → RsIs w' (.slice ra n rc) c.R) := fun w' hk => by rw [← hn]; exact HB.out.rs.kept hk
  have HES : Hid (∀ w', Kept [] w1 w' → EsIs w' (.slice ea m ec) c.E) := fun w' hk => by rw [← hm]; exact HB.out.es.kept hk
  have HBY : Hid (partsO c = 0 → ∀ w', Kept [] w1 w' → Calls Tryz.prog 16 #[.agg #[.int .i64 vv, .string (strL c.node), .slice ra n rc, .slice ea m ec]] w' fun e w2 => ∃ v', e = .returned v' ∧ Hid (OwnB w'.heap.size w2 v' (catB c) ∧ Kept [] w' w2)) := fun hp w' hk => by
    rw [← hn, ← hm, ← hvv]
    exact rcbytes_any c _ w' (HH.out.kept (HA.out.trans hk)) hp
  rw [hn] at hrl hw1
  rw [hm] at hel hw1
  rw [hvv] at hw1
  rw [hn, hm, hvv]
  have HPA : Hid (¬ (0 ≤ vv ∧ vv ≤ 65535 ∧ c.node ≠ [] ∧ wb = true) → checkO c = 70) := fun hh => by
    have : partsO c = 70 := partsO_A (by
      rw [hvv]
      intro h
      apply hh
      have h3 := h.2.2
      unfold keyB at h3
      rw [Bool.and_eq_true, decide_eq_true_eq, hwb] at h3
      exact ⟨h.1, h.2.1, h3.1, h3.2⟩)
    unfold checkO
    rw [this]
    rfl
  have hkey : 0 ≤ vv ∧ vv ≤ 65535 ∧ c.node ≠ [] ∧ wb = true → 0 ≤ c.ver ∧ c.ver ≤ 65535 ∧ keyB c.node = true := fun hh => by
    rw [hvv]
    refine ⟨hh.1, hh.2.1, ?_⟩
    unfold keyB
    rw [Bool.and_eq_true, decide_eq_true_eq, hwb]
    exact hh.2.2
  have HPB : Hid (0 ≤ vv ∧ vv ≤ 65535 ∧ c.node ≠ [] ∧ wb = true → 32 < n ∨ 96 < m → checkO c = 5) := fun h1 h2 => by
    have : partsO c = 5 := partsO_B (hkey h1) (by rw [hn, hm]; exact h2)
    unfold checkO
    rw [this]
    rfl
  have HPC : Hid (0 ≤ vv ∧ vv ≤ 65535 ∧ c.node ≠ [] ∧ wb = true → ¬ (32 < n ∨ 96 < m) → partsO c = if resL none c.R ≠ 0 then resL none c.R else if blkB c.R = true then 90 else if edgB n c.E = true then 0 else 72) := fun h1 h2 => by
    rw [← hn]; exact partsO_C (hkey h1) (by rw [hn, hm]; exact h2)
  have HN := Lib.hid hn
  have HM := Lib.hid hm
  have HGD : Hid (0 ≤ vv ∧ vv ≤ 65535 ∧ c.node ≠ [] ∧ wb = true ∧ ¬ (32 < n ∨ 96 < m)) := by
    obtain ⟨⟨h1, h2, h3⟩, h4⟩ := hgood
    unfold keyB at h3
    rw [Bool.and_eq_true, decide_eq_true_eq, hwb] at h3
    rw [hn, hm] at h4
    rw [hvv] at h1 h2
    exact ⟨h1, h2, h3.1, h3.2, h4⟩
  have H1 := Lib.hid hres
  clear hres
  have HBB := Lib.hid hblk
  clear hblk
  clear hwb hn hm hvv hkey
  obtain ⟨c0, c1, c2, c3⟩ := HC.out w1 (Kept.refl _ _)
  have g1 : ¬ vv < 0 := by have := HGD.out.1; omega
  have g2 : ¬ 65535 < vv := by have := HGD.out.2.1; omega
  have HDN : Hid (¬ c.node = []) := HGD.out.2.2.1
  have e1 : ((strL c.node).toList == []) = false := by rw [strL_bytes, beq_eq_false_iff_ne]; exact HDN.out
  obtain rfl : wb = true := HGD.out.2.2.2.1
  have g3 : ¬ (32 : Int) < (n : Int) := by have := HGD.out.2.2.2.2; omega
  have g4 : ¬ (96 : Int) < (m : Int) := by have := HGD.out.2.2.2.2; omega
  have HP := Lib.hid (HPC.out ⟨HGD.out.1, HGD.out.2.1, HDN.out, rfl⟩ HGD.out.2.2.2.2)
  clear HPA HPB HPC hgood
  go_enter Tryz.func11, Tryz.ntmps11
  go_wp2_with fail
  refine (HWD.out _).mono ?_
  rintro e w2 ⟨rfl, rfl⟩
  go_wp2_with fail
  clear hw1 c0 c1 c2 c3 e1
  go_loopw [3] (fun i wr => ∃ k : Nat, k ≤ n ∧ i = .int .i64 k ∧ Hid (∀ j (hj : j < c.R.length), j < k → resE (ahead none c.R j) c.R[j] = 0) ∧ Hid (Kept [] w1 wr)) (fun i _ => n - (intOf i).toNat)
  case atStart => exact ⟨0, by omega, rfl, fun j hj h0 => by omega, by show Kept _ _ _; exact Kept.refl _ _⟩
  case round =>
    obtain ⟨k, hk, rfl, HE, HW⟩ := hrel
    obtain ⟨wo, rfl⟩ : ∃ wo, wo = wr := ⟨_, rfl⟩
    obtain ⟨c0, c1, c2, c3⟩ := HC.out wo HW.out
    by_cases hlt : k < n
    case neg =>
      have HB1 := H1
      have HBK : Hid (blkB c.R = true → checkO c = 90) := fun hh => by
        have : partsO c = 90 := by rw [HP.out, if_neg (by rw [HB1.out]; simp), if_pos hh]
        unfold checkO
        rw [this, if_pos (by decide)]
      have HP2 : Hid (blkB c.R = false → partsO c = if edgB n c.E = true then 0 else 72) := fun hh => by rw [HP.out, if_neg (by rw [HB1.out]; simp), if_neg (by rw [hh]; simp)]
      clear HP HE HWD
      go_wp2_with fail
      clear c0 c1 c2 c3 hlt
      have HW0 := HW
      clear HW
      go_loopw [6] (fun i wr => ∃ k : Nat, k ≤ n ∧ i = .int .i64 k ∧ Hid (∀ i (hi : i < c.R.length), i < k → upB c.R[i] = false ∨ ∀ k (hk : k < c.R.length), downB c.R[i] c.R[k] = false) ∧ Hid (Kept [] w1 wr)) (fun i _ => n - (intOf i).toNat)
      case atStart => exact ⟨0, by omega, rfl, fun j hj h0 => by omega, HW0⟩
      case round =>
        clear HW0
        obtain ⟨k, hk, rfl, HE, HW⟩ := hrel
        obtain ⟨c0, c1, c2, c3⟩ := HC.out wr HW.out
        by_cases hlt : k < n
        case neg =>
          exact absurd (blkB_no fun i hi => HE.out i hi (by rw [HN.out] at hi; omega)) (by rw [HBB.out]; simp)
        have hkr : k < c.R.length := by rw [HN.out]; exact hlt
        obtain ⟨r, hr⟩ : ∃ r, c.R[k] = r := ⟨_, rfl⟩
        have HNX : Hid ((upB r = false ∨ ∀ k (hk : k < c.R.length), downB r c.R[k] = false) → ∀ i (hi : i < c.R.length), i < k + 1 → upB c.R[i] = false ∨ ∀ k (hk : k < c.R.length), downB c.R[i] c.R[k] = false) := fun hz i hi hik => by
          by_cases e : i = k
          · subst e; rw [hr]; exact hz
          · exact HE.out i hi (by omega)
        have HYES : Hid (upB r = true → ∀ j (hj : j < c.R.length), downB r c.R[j] = true → checkO c = 90) := fun h1 j hj h2 => HBK.out (blkB_yes hkr hj (by rw [hr]; exact h1) (by rw [hr]; exact h2))
        obtain ⟨b, o, u, hra, hb, hu, f0, f1, f2⟩ := (HRS.out wr HW.out).pick k hkr r hr
        subst hra
        obtain ⟨pa, pc, rfl⟩ := hu.slice
        obtain ⟨pn, hpn⟩ : ∃ m, r.P.length = m := ⟨_, rfl⟩
        rw [hpn] at hu f2
        have HU := Lib.hid hu
        have HL := Lib.hid ((HRS.out wr HW.out).lens hkr hr)
        have HF0 : Hid (∀ w', Kept [] wr w' → w'.cell? ⟨b, o + k * 3, none⟩ = some (.string (strL r.t)) ∧ w'.cell? ⟨b, o + k * 3 + 1, none⟩ = some (.string (strL r.ti)) ∧ w'.cell? ⟨b, o + k * 3 + 2, none⟩ = some (.slice pa pn pc)) := fun w' hk =>
          ⟨(hk.cell (p := ⟨b, o + k * 3, none⟩) hb (by simp)).trans f0, (hk.cell (p := ⟨b, o + k * 3 + 1, none⟩) hb (by simp)).trans f1, (hk.cell (p := ⟨b, o + k * 3 + 2, none⟩) hb (by simp)).trans f2⟩
        obtain ⟨wo, rfl⟩ : ∃ wo, wo = wr := ⟨_, rfl⟩
        clear hr hpn hu HE f0 f1 f2 hb
        go_wp2_with fail
        clear c0 c1 c2 c3
        go_loopw [7] (fun i w9 => ∃ j : Nat, j ≤ n ∧ i = .int .i64 j ∧ Hid (∀ i (hi : i < c.R.length), i < j → ¬ (upB r = true ∧ downB r c.R[i] = true)) ∧ Hid (Kept [] wo w9)) (fun i _ => n - (intOf i).toNat)
        case atStart => exact ⟨0, by omega, rfl, fun j hj h0 => by omega, by show Kept _ _ _; exact Kept.refl _ _⟩
        case round =>
          obtain ⟨j, hj, rfl, HI, HV⟩ := hrel
          obtain ⟨c0, c1, c2, c3⟩ := HC.out wr (HW.out.trans HV.out)
          by_cases hjt : j < n
          case neg =>
            have HZ := Lib.hid (HNX.out (by
              cases hup : upB r
              · exact .inl rfl
              · right
                intro i hi
                have := HI.out i hi (by rw [HN.out] at hi; omega)
                rw [hup] at this
                simpa using this))
            go_wp2_with fail
            go_roundw
            case rel => exact ⟨k + 1, by omega, by go_num, HZ, HW.out.trans HV.out⟩
            case measure => simp [intOf]; omega
          have hjr : j < c.R.length := by rw [HN.out]; exact hjt
          obtain ⟨q, hq⟩ : ∃ q, c.R[j] = q := ⟨_, rfl⟩
          have HNJ : Hid (¬ (upB r = true ∧ downB r q = true) → ∀ i (hi : i < c.R.length), i < j + 1 → ¬ (upB r = true ∧ downB r c.R[i] = true)) := fun hz i hi hij => by
            by_cases e : i = j
            · subst e; rw [hq]; exact hz
            · exact HI.out i hi (by omega)
          have HHIT : Hid (upB r = true → downB r q = true → checkO c = 90) := fun h1 h2 => HYES.out h1 j hjr (by rw [hq]; exact h2)
          obtain ⟨b', o', u', hbo, hb', hu', d0, d1, d2⟩ := (HRS.out wr (HW.out.trans HV.out)).pick j hjr q hq
          injection hbo with hbo
          injection hbo with e1 e2 _
          subst e1 e2
          obtain ⟨qa, qc, rfl⟩ := hu'.slice
          obtain ⟨qn, hqn⟩ : ∃ m, q.P.length = m := ⟨_, rfl⟩
          rw [hqn] at d2 hu'
          have HU2 := Lib.hid hu'
          have HL2 := Lib.hid ((HRS.out wr (HW.out.trans HV.out)).lens hjr hq)
          have HF2 : Hid (∀ w', Kept [] wr w' → w'.cell? ⟨b, o + j * 3, none⟩ = some (.string (strL q.t)) ∧ w'.cell? ⟨b, o + j * 3 + 1, none⟩ = some (.string (strL q.ti)) ∧ w'.cell? ⟨b, o + j * 3 + 2, none⟩ = some (.slice qa qn qc)) := fun w' hk =>
            ⟨(hk.cell (p := ⟨b, o + j * 3, none⟩) hb' (by simp)).trans d0, (hk.cell (p := ⟨b, o + j * 3 + 1, none⟩) hb' (by simp)).trans d1, (hk.cell (p := ⟨b, o + j * 3 + 2, none⟩) hb' (by simp)).trans d2⟩
          obtain ⟨f0, f1, f2⟩ := HF0.out wr HV.out
          obtain ⟨x, hx⟩ : ∃ x, getV r.P nEnsure = x := ⟨_, rfl⟩
          obtain ⟨y, hy⟩ : ∃ y, getV q.P nEnsure = y := ⟨_, rfl⟩
          obtain ⟨xb, hxb⟩ : ∃ x, getB r.P nEnsure = x := ⟨_, rfl⟩
          obtain ⟨yb, hyb⟩ : ∃ y, getB q.P nEnsure = y := ⟨_, rfl⟩
          have HG1 : Hid (∀ w', Kept [] wr w' → Calls Tryz.prog 21 #[.agg #[.string (strL r.t), .string (strL r.ti), .slice pa pn pc], .string ⟨#[101, 110, 115, 117, 114, 101]⟩] w' fun e w2 => e = .returned (.tuple #[.string (strL x), .bool xb]) ∧ Kept [] w' w2) := fun w' hk => by
            rw [← hx, ← hxb]
            exact rsget_any r.t r.ti nEnsure r.P _ w' (HU.out.kept (HV.out.trans hk))
          have HG2 : Hid (∀ w', Kept [] wr w' → Calls Tryz.prog 21 #[.agg #[.string (strL q.t), .string (strL q.ti), .slice qa qn qc], .string ⟨#[101, 110, 115, 117, 114, 101]⟩] w' fun e w2 => e = .returned (.tuple #[.string (strL y), .bool yb]) ∧ Kept [] w' w2) := fun w' hk => by
            rw [← hy, ← hyb]
            exact rsget_any q.t q.ti nEnsure q.P _ w' (HU2.out.kept hk)
          have HUP : Hid (upB r = (decide (r.t = nFile) && decide (x ≠ nDirectory))) := by show _ = _; rw [← hx]; rfl
          have HDN2 : Hid (downB r q = (decide (q.t = nFile) && (decide (y ≠ nAbsent) && decide ((r.ti ++ [47]) <+: q.ti)))) := by show _ = _; rw [← hy]; rfl
          clear hq hqn hu' hx hy hxb hyb HI hb'
          go_wp2_with fail
          refine (HG1.out wr (Kept.refl _ _)).mono ?_
          rintro e w5 ⟨rfl, hk5⟩
          have HK5 := Lib.hid hk5
          clear hk5 c0 c1 c2 c3 d0 d1 d2 f0 f1 f2
          obtain ⟨c0, c1, c2, c3⟩ := HC.out w5 ((HW.out.trans HV.out).trans HK5.out)
          obtain ⟨d0, d1, d2⟩ := HF2.out w5 HK5.out
          go_wp2_with fail
          refine (HG2.out w5 HK5.out).mono ?_
          rintro e w6 ⟨rfl, hk6⟩
          have HK6 : Hid (Kept [] wr w6) := HK5.out.trans hk6
          have HKO : Hid (Kept [] wo w6) := HV.out.trans HK6.out
          clear hk6 c0 c1 c2 c3 d0 d1 d2
          obtain ⟨c0, c1, c2, c3⟩ := HC.out w6 ((HW.out.trans HV.out).trans HK6.out)
          obtain ⟨d0, d1, d2⟩ := HF2.out w6 HK6.out
          obtain ⟨f0, f1, f2⟩ := HF0.out w6 HKO.out
          by_cases a1 : r.t = nFile
          case neg =>
            have p1 : ((strL r.t).toList == [102, 105, 108, 101]) = false := by rw [strL_bytes, beq_eq_false_iff_ne]; exact a1
            have HZ := Lib.hid (HNJ.out (by rw [HUP.out, decide_eq_false a1]; simp))
            clear a1
            go_wp2_with fail
            go_roundw
            case rel => exact ⟨j + 1, by omega, by go_num, HZ, HKO⟩
            case measure => simp [intOf]; omega
          have p1 : ((strL r.t).toList == [102, 105, 108, 101]) = true := by rw [strL_bytes, a1]; rfl
          by_cases a2 : q.t = nFile
          case neg =>
            have p2 : ((strL q.t).toList == [102, 105, 108, 101]) = false := by rw [strL_bytes, beq_eq_false_iff_ne]; exact a2
            have HZ := Lib.hid (HNJ.out (by rw [HDN2.out, decide_eq_false a2]; simp))
            clear a1 a2
            go_wp2_with fail
            go_roundw
            case rel => exact ⟨j + 1, by omega, by go_num, HZ, HKO⟩
            case measure => simp [intOf]; omega
          have p2 : ((strL q.t).toList == [102, 105, 108, 101]) = true := by rw [strL_bytes, a2]; rfl
          by_cases a3 : x = nDirectory
          · have p3 : ((strL x).toList == [100, 105, 114, 101, 99, 116, 111, 114, 121]) = true := by rw [strL_bytes, a3]; rfl
            have HZ := Lib.hid (HNJ.out (by rw [HUP.out, a3]; simp))
            clear a1 a2 a3
            go_wp2_with fail
            go_roundw
            case rel => exact ⟨j + 1, by omega, by go_num, HZ, HKO⟩
            case measure => simp [intOf]; omega
          have p3 : ((strL x).toList == [100, 105, 114, 101, 99, 116, 111, 114, 121]) = false := by rw [strL_bytes, beq_eq_false_iff_ne]; exact a3
          by_cases a4 : y = nAbsent
          · have p4 : ((strL y).toList == [97, 98, 115, 101, 110, 116]) = true := by rw [strL_bytes, a4]; rfl
            have HZ := Lib.hid (HNJ.out (by rw [HDN2.out, a4]; simp))
            clear a1 a2 a3 a4
            go_wp2_with fail
            go_roundw
            case rel => exact ⟨j + 1, by omega, by go_num, HZ, HKO⟩
            case measure => simp [intOf]; omega
          have p4 : ((strL y).toList == [97, 98, 115, 101, 110, 116]) = false := by rw [strL_bytes, beq_eq_false_iff_ne]; exact a4
          have HAA := Lib.hid (And.intro a1 (And.intro a2 (And.intro a3 a4)))
          clear a1 a2 a3 a4
          have hs1 : (strL r.ti).size = r.ti.length := strL_size _
          have hs2 : (strL q.ti).size = q.ti.length := strL_size _
          by_cases a5 : r.ti.length < q.ti.length
          case neg =>
            have p5 : decide (r.ti.length < q.ti.length) = false := decide_eq_false a5
            have HZ := Lib.hid (HNJ.out (by
              rw [HDN2.out]
              intro hh
              have := hh.2
              simp only [Bool.and_eq_true, decide_eq_true_eq] at this
              have := this.2.2.length_le
              simp at this
              omega))
            clear a5
            go_wp2_with fail
            go_roundw
            case rel => exact ⟨j + 1, by omega, by go_num, HZ, HKO⟩
            case measure => simp [intOf]; omega
          have HPI := Lib.hid (pre_iff a5)
          have HSA : Hid (∀ h : r.ti.length < (strL q.ti).size, (strL q.ti)[r.ti.length] = q.ti[r.ti.length]) := fun h => strL_at q.ti _ h a5
          go_wp2_with fail
          · rename_i e1 e2
            have k1 : q.ti.take r.ti.length = r.ti := by rw [strL_take, strL_bytes] at e1; exact e1
            have k2 : q.ti[r.ti.length] = 47 := by
              rw [HSA.out, beq_iff_eq] at e2
              have e3 : q.ti[r.ti.length].toNat = 47 := by omega
              exact UInt8.toNat.inj e3
            have HZ := Lib.hid (HHIT.out (by rw [HUP.out, decide_eq_true HAA.out.1, decide_eq_true HAA.out.2.2.1]; rfl) (by rw [HDN2.out, decide_eq_true HAA.out.2.1, decide_eq_true HAA.out.2.2.2, decide_eq_true (HPI.out.2 ⟨k1, k2⟩)]; rfl))
            go_ret
            exact ⟨ret64 HZ.out.symm, HA.out.trans (HW.out.trans HKO.out)⟩
          · rename_i e1 e2
            have HZ := Lib.hid (HNJ.out (fun hh => by
              have h3 := hh.2
              rw [HDN2.out] at h3
              simp only [Bool.and_eq_true, decide_eq_true_eq] at h3
              have h4 := (HPI.out.1 h3.2.2).2
              rw [HSA.out, beq_eq_false_iff_ne] at e2
              apply e2
              have e3 : q.ti[r.ti.length].toNat = 47 := by rw [h4]; rfl
              omega))
            go_roundw
            case rel => exact ⟨j + 1, by omega, by go_num, HZ, HKO⟩
            case measure => simp [intOf]; omega
          · rename_i e1
            have HZ := Lib.hid (HNJ.out (fun hh => by
              have h3 := hh.2
              rw [HDN2.out] at h3
              simp only [Bool.and_eq_true, decide_eq_true_eq] at h3
              have h4 := (HPI.out.1 h3.2.2).1
              apply e1
              rw [strL_take, strL_bytes]
              exact h4))
            go_roundw
            case rel => exact ⟨j + 1, by omega, by go_num, HZ, HKO⟩
            case measure => simp [intOf]; omega

    have hkr : k < c.R.length := by rw [HN.out]; exact hlt
    obtain ⟨r, hr⟩ : ∃ r, c.R[k] = r := ⟨_, rfl⟩
    have HAT : Hid (∀ z, resE (ahead none c.R k) r = z → z ≠ 0 → False) := fun z hz h0 => by
      have := resL_zero none c.R H1.out k hkr
      rw [hr, hz] at this
      exact h0 this
    have HNX : Hid (resE (ahead none c.R k) r = 0 → ∀ j (hj : j < c.R.length), j < k + 1 → resE (ahead none c.R j) c.R[j] = 0) := fun hz j hj hjk => by
      by_cases e : j = k
      · subst e; rw [hr]; exact hz
      · exact HE.out j hj (by omega)
    obtain ⟨b, o, u, rfl, hb, hu, f0, f1, f2⟩ := (HRS.out wo HW.out).pick k hkr r hr
    have HL := Lib.hid ((HRS.out wo HW.out).lens hkr hr)
    obtain ⟨pa, pc, rfl⟩ := hu.slice
    obtain ⟨pn, hpn⟩ : ∃ m, r.P.length = m := ⟨_, rfl⟩
    rw [hpn] at hu f2
    have HU := Lib.hid hu
    have HP0 : Hid (k = 0 → ahead none c.R k = none) := fun e => by subst e; rfl
    have HP1 : Hid (∀ j (hj : j < c.R.length), k = j + 1 → ahead none c.R k = some c.R[j]) := fun j hj e => by
      subst e
      unfold ahead
      rw [if_neg (by omega), Nat.add_sub_cancel, List.getElem?_eq_getElem hj]
    have HF0 : Hid (∀ w', Kept [] wo w' → w'.cell? ⟨b, o + k * 3, none⟩ = some (.string (strL r.t)) ∧ w'.cell? ⟨b, o + k * 3 + 1, none⟩ = some (.string (strL r.ti)) ∧ w'.cell? ⟨b, o + k * 3 + 2, none⟩ = some (.slice pa pn pc)) := fun w' hk =>
      ⟨(hk.cell (p := ⟨b, o + k * 3, none⟩) hb (by simp)).trans f0, (hk.cell (p := ⟨b, o + k * 3 + 1, none⟩) hb (by simp)).trans f1, (hk.cell (p := ⟨b, o + k * 3 + 2, none⟩) hb (by simp)).trans f2⟩
    obtain ⟨z, hz⟩ : ∃ z, codeO r.t r.ti r.P = z := ⟨_, rfl⟩
    have HZC := Lib.hid hz
    have HFU : Hid (Calls Tryz.prog 19 #[.agg #[.string (strL r.t), .string (strL r.ti), .slice pa pn pc]] wo (FullOut r.t r.ti r.P wo)) := rsfull_any r.t r.ti r.P _ wo HU.out HL.out.2
    clear hr hpn hu HE hz
    go_wp2_with fail
    refine HFU.out.mono ?_
    rintro e w2 ⟨v2, rfl, HF⟩
    obtain ⟨q1, q2, q3, rfl⟩ := prm_val _ _ _ _ HF.out.1
    rw [HZC.out]
    unfold resV
    obtain ⟨y1, hy1⟩ : ∃ y1, txO r.t r.ti r.P r.t = y1 := ⟨_, rfl⟩
    obtain ⟨y2, hy2⟩ : ∃ y2, txO r.t r.ti r.P r.ti = y2 := ⟨_, rfl⟩
    rw [hy1, hy2]
    have HY := Lib.hid (And.intro hy1 hy2)
    clear hy1 hy2 c0 c1 c2 c3 f0 f1 f2
    obtain ⟨w3, hw3⟩ : ∃ w3, w2.alloc (.cells #[.string (strL y1), .string (strL y2), .slice q1 q2 q3] 40) = w3 := ⟨_, rfl⟩
    have H3 : Hid (Kept [] w2 w3 ∧ w3.heap[w2.heap.size]? = some (.cells #[.string (strL y1), .string (strL y2), .slice q1 q2 q3] 40)) := ⟨by rw [← hw3]; exact Kept.alloc _ _ _, by rw [← hw3]; exact heap_alloc_last _ _⟩
    have HKO3 : Hid (Kept [] wo w3) := HF.out.2.trans H3.out.1
    have HK3 : Hid (Kept [] w1 w3) := HW.out.trans HKO3.out
    by_cases h0 : z = 0
    case neg =>
      have q0 : (z != 0) = true := by simpa using h0
      exact (HAT.out z ((resE_A (by rw [HZC.out]; exact h0)).trans HZC.out) h0).elim
    subst h0
    go_wp2_with fail
    clear hw3
    obtain rfl : y1 = r.t := HY.out.1.symm.trans (txO_ok HZC.out)
    obtain rfl : y2 = r.ti := HY.out.2.symm.trans (txO_ok HZC.out)
    obtain ⟨g, hg⟩ : ∃ g, w2.heap.size = g := ⟨_, rfl⟩
    rw [hg]
    have HALL : Hid (∀ w', Kept [] w3 w' → w'.cell? ⟨w.heap.size, 2, none⟩ = some (.slice (some ⟨b, o, none⟩) n rc) ∧ w'.cell? ⟨b, o + k * 3, none⟩ = some (.string (strL r.t)) ∧ w'.cell? ⟨b, o + k * 3 + 1, none⟩ = some (.string (strL r.ti)) ∧ w'.cell? ⟨b, o + k * 3 + 2, none⟩ = some (.slice pa pn pc) ∧
        w'.cell? ⟨g, 0, none⟩ = some (.string (strL r.t)) ∧ w'.cell? ⟨g, 1, none⟩ = some (.string (strL r.ti)) ∧ w'.cell? ⟨g, 2, none⟩ = some (.slice q1 q2 q3)) := fun w' hk => by
      have e0 := hk.heap (by simp) H3.out.2
      rw [hg] at e0
      have e1 := HF0.out w' (HKO3.out.trans hk)
      exact ⟨(HC.out w' (HK3.out.trans hk)).2.2.1, e1.1, e1.2.1, e1.2.2, cell_of_row _ _ 0 _ _ _ e0, cell_of_row _ _ 1 _ _ _ e0, cell_of_row _ _ 2 _ _ _ e0⟩
    clear hg
    obtain ⟨sm, hsm⟩ : ∃ b, sameR r.t r.t r.ti r.ti (outO r.t r.ti r.P) r.P = b := ⟨_, rfl⟩
    have HSM : Hid (∀ w', Kept [] w3 w' → Calls Tryz.prog 17 #[.agg #[.string (strL r.t), .string (strL r.ti), .slice q1 q2 q3], .agg #[.string (strL r.t), .string (strL r.ti), .slice pa pn pc]] w' fun e w2 => e = .returned (.bool sm) ∧ Kept [] w' w2) := fun w' hk => by
      rw [← hsm]
      exact rssame_any r.t r.t r.ti r.ti (outO r.t r.ti r.P) r.P _ _ w' (HF.out.1.ps.kept (H3.out.1.trans hk)) (HU.out.kept (HKO3.out.trans hk))
    cases sm
    · have h2 : outO r.t r.ti r.P ≠ r.P := fun e => by unfold sameR at hsm; rw [e] at hsm; simp at hsm
      exact (HAT.out 70 (resE_B HZC.out h2) (by decide)).elim
    have h2 : outO r.t r.ti r.P = r.P := by unfold sameR at hsm; have := of_decide_eq_true hsm; exact this.2.2
    have H2 := Lib.hid h2
    clear h2 hsm
    by_cases hk0 : k = 0
    · have HZ := Lib.hid (HNX.out (by rw [HP0.out hk0]; exact resE_C HZC.out H2.out))
      have q7 : decide (0 < k) = false := decide_eq_false (by omega)
      have q8 : decide ((0 : Int) < (k : Int)) = false := decide_eq_false (by omega)
      clear hk0
      have z0 := fun w' hk => HALL.out w' ((Kept.drew [] w3).trans hk)
      refine wp_region_ord [(true, 0), (true, 1), (true, 2), (true, 3), (true, 4), (true, 5), (false, 6), (true, 7), (true, 8), (true, 9), (true, 10), (true, 11), (true, 12), (true, 13), (true, 14), (true, 15), (true, 16), (true, 17), (true, 18), (true, 19), (true, 20), (true, 21), (true, 22), (false, 23), (true, 24), (true, 25)] [] (by kernel_rfl) (fun _ _ d _ _ h => by cases d <;> exact h) (by kernel_rfl) rfl (by kernel_rfl) (by kernel_rfl) ?_
      simp only [named, List.getD_cons_zero, List.getD_cons_succ]
      repeat (first | (apply wpGrow_take; (case hw => rfl); (case hv => intro w' hk; go_simp; with_reducible rfl); simp only [Act.put, List.setIfInBounds_toArray, List.set_cons_zero, List.set_cons_succ]) | (refine wpGrow_pass (by rfl) ?_; simp only [Act.put, List.setIfInBounds_toArray, List.set_cons_zero, List.set_cons_succ]) | (refine wpGrow_skip (by rfl) ?_; simp only [Act.put, List.setIfInBounds_toArray, List.set_cons_zero, List.set_cons_succ]))
      clear z0
      refine wpGrow_force (by rfl) (fun K hK => ?_)
      go_simp
      refine (HSM.out _ (Kept.drew _ _)).mono ?_
      rintro e w4 ⟨rfl, hk4⟩
      refine hK _ _ hk4 ?_
      clear hK K
      have HK4 : Hid (Kept [] w3 w4) := (Kept.drew [] _).trans hk4
      clear hk4
      repeat (first | (apply wpGrow_take; (case hw => rfl); (case hv => intro w' hk; go_simp; with_reducible rfl); simp only [Act.put, List.setIfInBounds_toArray, List.set_cons_zero, List.set_cons_succ]) | (refine wpGrow_pass (by rfl) ?_; simp only [Act.put, List.setIfInBounds_toArray, List.set_cons_zero, List.set_cons_succ]) | (refine wpGrow_skip (by rfl) ?_; simp only [Act.put, List.setIfInBounds_toArray, List.set_cons_zero, List.set_cons_succ]))
      refine wpGrow_nil ?_
      go_wp2_with fail
      refine wp_region_ord [(true, 0), (true, 1), (true, 2), (true, 3), (true, 4), (true, 5), (true, 6), (true, 7), (true, 8), (true, 9), (true, 10), (true, 11), (true, 12), (true, 13), (false, 14), (true, 15), (true, 16)] [] (by kernel_rfl) (fun _ _ d _ _ h => by cases d <;> exact h) (by kernel_rfl) rfl (by kernel_rfl) (by kernel_rfl) ?_
      simp only [named, List.getD_cons_zero, List.getD_cons_succ]
      repeat (first | (apply wpGrow_take; (case hw => rfl); (case hv => intro w' hk; go_simp; with_reducible rfl); simp only [Act.put, List.setIfInBounds_toArray, List.set_cons_zero, List.set_cons_succ]) | (refine wpGrow_pass (by rfl) ?_; simp only [Act.put, List.setIfInBounds_toArray, List.set_cons_zero, List.set_cons_succ]) | (refine wpGrow_skip (by rfl) ?_; simp only [Act.put, List.setIfInBounds_toArray, List.set_cons_zero, List.set_cons_succ]))
      refine wpGrow_nil ?_
      go_wp2_with fail
      go_roundw
      case rel => exact ⟨k + 1, by omega, by go_num, HZ, (HK3.out.trans HK4.out).trans (Kept.drew _ _)⟩
      case measure => simp [intOf]; omega
    obtain ⟨j, hj⟩ : ∃ j, k = j + 1 := ⟨k - 1, by omega⟩
    have hjn : j < n := by omega
    have hjr : j < c.R.length := by rw [HN.out]; exact hjn
    obtain ⟨q, hq⟩ : ∃ q, c.R[j] = q := ⟨_, rfl⟩
    have HPR : Hid (ahead none c.R k = some q) := by show _ = _; rw [← hq]; exact HP1.out j hjr hj
    obtain ⟨b', o', u', hbo, hb', hu', d0, d1, d2⟩ := (HRS.out wo HW.out).pick j hjr q hq
    injection hbo with hbo
    injection hbo with e1 e2 _
    subst e1 e2
    obtain ⟨qa, qc, rfl⟩ := hu'.slice
    obtain ⟨qn, hqn⟩ : ∃ m, q.P.length = m := ⟨_, rfl⟩
    rw [hqn] at d2
    have HQQ : Hid (∀ w', Kept [] w3 w' → w'.cell? ⟨b, o + j * 3, none⟩ = some (.string (strL q.t)) ∧ w'.cell? ⟨b, o + j * 3 + 1, none⟩ = some (.string (strL q.ti)) ∧ w'.cell? ⟨b, o + j * 3 + 2, none⟩ = some (.slice qa qn qc)) := fun w' hk =>
      have hk := HKO3.out.trans hk
      ⟨(hk.cell (p := ⟨b, o + j * 3, none⟩) hb (by simp)).trans d0, (hk.cell (p := ⟨b, o + j * 3 + 1, none⟩) hb (by simp)).trans d1, (hk.cell (p := ⟨b, o + j * 3 + 2, none⟩) hb (by simp)).trans d2⟩
    have qw : IntKind.i64.wrap ((k : Int) - 1) = (j : Int) := by rw [IntKind.wrap_i64]; omega
    have q7 : 0 < k := by omega
    clear hk0 hj hq hqn d0 d1 d2 hu' hb'
    obtain ⟨l1, hl1⟩ : ∃ l1, lessR r.t q.t r.ti q.ti = l1 := ⟨_, rfl⟩
    obtain ⟨l2, hl2⟩ : ∃ l2, lessR q.t r.t q.ti r.ti = l2 := ⟨_, rfl⟩
    have HL1 : Hid (∀ w', Calls Tryz.prog 20 #[.agg #[.string (strL r.t), .string (strL r.ti), .slice pa pn pc], .agg #[.string (strL q.t), .string (strL q.ti), .slice qa qn qc]] w' fun e w2 => e = .returned (.bool l1) ∧ Kept [] w' w2) := fun w' => by
      rw [← hl1]; exact rsless_any r.t r.ti q.t q.ti pa qa pn pc qn qc w'
    have HL2 : Hid (∀ w', Calls Tryz.prog 20 #[.agg #[.string (strL q.t), .string (strL q.ti), .slice qa qn qc], .agg #[.string (strL r.t), .string (strL r.ti), .slice pa pn pc]] w' fun e w2 => e = .returned (.bool l2) ∧ Kept [] w' w2) := fun w' => by
      rw [← hl2]; exact rsless_any q.t q.ti r.t r.ti qa pa qn qc pn pc w'
    have HLL : Hid ((l1 = true → False) ∧ (l1 = false → l2 = false → False) ∧ (l1 = false → l2 = true → ∀ j (hj : j < c.R.length), j < k + 1 → resE (ahead none c.R j) c.R[j] = 0)) :=
      ⟨fun e => HAT.out 70 (by rw [HPR.out]; exact resE_D HZC.out H2.out (hl1.trans e)) (by decide), fun e e' => HAT.out 71 (by rw [HPR.out]; exact resE_F HZC.out H2.out (hl1.trans e) (hl2.trans e')) (by decide), fun e e' => HNX.out (by rw [HPR.out]; exact resE_E HZC.out H2.out (hl1.trans e) (hl2.trans e'))⟩
    clear hl1 hl2
    have z0 := fun w' hk => HALL.out w' ((Kept.drew [] w3).trans hk)
    refine wp_region_ord [(true, 0), (true, 1), (true, 2), (true, 3), (true, 4), (true, 5), (false, 6), (true, 7), (true, 8), (true, 9), (true, 10), (true, 11), (true, 12), (true, 13), (true, 14), (true, 15), (true, 16), (true, 17), (true, 18), (true, 19), (true, 20), (true, 21), (true, 22), (false, 23), (true, 24), (true, 25)] [] (by kernel_rfl) (fun _ _ d _ _ h => by cases d <;> exact h) (by kernel_rfl) rfl (by kernel_rfl) (by kernel_rfl) ?_
    simp only [named, List.getD_cons_zero, List.getD_cons_succ]
    repeat (first | (apply wpGrow_take; (case hw => rfl); (case hv => intro w' hk; go_simp; with_reducible rfl); simp only [Act.put, List.setIfInBounds_toArray, List.set_cons_zero, List.set_cons_succ]) | (refine wpGrow_pass (by rfl) ?_; simp only [Act.put, List.setIfInBounds_toArray, List.set_cons_zero, List.set_cons_succ]) | (refine wpGrow_skip (by rfl) ?_; simp only [Act.put, List.setIfInBounds_toArray, List.set_cons_zero, List.set_cons_succ]))
    clear z0
    refine wpGrow_force (by rfl) (fun K hK => ?_)
    go_simp
    refine (HSM.out _ (Kept.drew _ _)).mono ?_
    rintro e w4 ⟨rfl, hk4⟩
    refine hK _ _ hk4 ?_
    clear hK K
    have HK4 : Hid (Kept [] w3 w4) := (Kept.drew [] _).trans hk4
    clear hk4
    have z0 := fun w' hk => HALL.out w' (HK4.out.trans hk)
    have z1 := fun w' hk => HQQ.out w' (HK4.out.trans hk)
    repeat (first | (apply wpGrow_take; (case hw => rfl); (case hv => intro w' hk; go_simp; with_reducible rfl); simp only [Act.put, List.setIfInBounds_toArray, List.set_cons_zero, List.set_cons_succ]) | (refine wpGrow_pass (by rfl) ?_; simp only [Act.put, List.setIfInBounds_toArray, List.set_cons_zero, List.set_cons_succ]) | (refine wpGrow_skip (by rfl) ?_; simp only [Act.put, List.setIfInBounds_toArray, List.set_cons_zero, List.set_cons_succ]))
    clear z0 z1
    refine wpGrow_force (by rfl) (fun K hK => ?_)
    go_simp
    refine (HL1.out _).mono ?_
    rintro e w5 ⟨rfl, hk5⟩
    refine hK _ _ hk5 ?_
    clear hK K
    have HK5 : Hid (Kept [] w3 w5) := HK4.out.trans hk5
    clear hk5
    cases l1
    case true =>
      exact (HLL.out.1 (by trivial)).elim
    repeat (first | (apply wpGrow_take; (case hw => rfl); (case hv => intro w' hk; go_simp; with_reducible rfl); simp only [Act.put, List.setIfInBounds_toArray, List.set_cons_zero, List.set_cons_succ]) | (refine wpGrow_pass (by rfl) ?_; simp only [Act.put, List.setIfInBounds_toArray, List.set_cons_zero, List.set_cons_succ]) | (refine wpGrow_skip (by rfl) ?_; simp only [Act.put, List.setIfInBounds_toArray, List.set_cons_zero, List.set_cons_succ]))
    refine wpGrow_nil ?_
    go_wp2_with fail
    have z0 := fun w' hk => HALL.out w' (HK5.out.trans ((Kept.drew [] w5).trans hk))
    have z1 := fun w' hk => HQQ.out w' (HK5.out.trans ((Kept.drew [] w5).trans hk))
    refine wp_region_ord [(true, 0), (true, 1), (true, 2), (true, 3), (true, 4), (true, 5), (true, 6), (true, 7), (true, 8), (true, 9), (true, 10), (true, 11), (true, 12), (true, 13), (false, 14), (true, 15), (true, 16)] [] (by kernel_rfl) (fun _ _ d _ _ h => by cases d <;> exact h) (by kernel_rfl) rfl (by kernel_rfl) (by kernel_rfl) ?_
    simp only [named, List.getD_cons_zero, List.getD_cons_succ]
    repeat (first | (apply wpGrow_take; (case hw => rfl); (case hv => intro w' hk; go_simp; with_reducible rfl); simp only [Act.put, List.setIfInBounds_toArray, List.set_cons_zero, List.set_cons_succ]) | (refine wpGrow_pass (by rfl) ?_; simp only [Act.put, List.setIfInBounds_toArray, List.set_cons_zero, List.set_cons_succ]) | (refine wpGrow_skip (by rfl) ?_; simp only [Act.put, List.setIfInBounds_toArray, List.set_cons_zero, List.set_cons_succ]))
    clear z0 z1
    refine wpGrow_force (by rfl) (fun K hK => ?_)
    go_simp
    refine (HL2.out _).mono ?_
    rintro e w6 ⟨rfl, hk6⟩
    refine hK _ _ hk6 ?_
    clear hK K
    have HK6 : Hid (Kept [] w1 w6) := (HK3.out.trans HK5.out).trans ((Kept.drew [] _).trans hk6)
    clear hk6
    cases l2
    case false =>
      exact (HLL.out.2.1 (by trivial) (by trivial)).elim
    have HZ := Lib.hid (HLL.out.2.2 (by trivial) (by trivial))
    repeat (first | (apply wpGrow_take; (case hw => rfl); (case hv => intro w' hk; go_simp; with_reducible rfl); simp only [Act.put, List.setIfInBounds_toArray, List.set_cons_zero, List.set_cons_succ]) | (refine wpGrow_pass (by rfl) ?_; simp only [Act.put, List.setIfInBounds_toArray, List.set_cons_zero, List.set_cons_succ]) | (refine wpGrow_skip (by rfl) ?_; simp only [Act.put, List.setIfInBounds_toArray, List.set_cons_zero, List.set_cons_succ]))
    refine wpGrow_nil ?_
    go_wp2_with fail
    go_roundw
    case rel => exact ⟨k + 1, by omega, by go_num, HZ, HK6⟩
    case measure => simp [intOf]; omega
end Go.Proofs.YtfofhnbijjocfaaGreatDoor

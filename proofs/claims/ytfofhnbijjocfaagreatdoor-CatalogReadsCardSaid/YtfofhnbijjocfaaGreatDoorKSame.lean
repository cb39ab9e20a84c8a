/-
  Layer 7: the document's Same and Find.
  Conditions: those that each theorem states.
-/
import Derived.Test.YtfofhnbijjocfaaGreatDoorKCheck
import Derived.Test.YtfofhnbijjocfaaGreatDoorQSame
namespace Go.Proofs.YtfofhnbijjocfaaGreatDoor
open Go.RowKit Go.Maps
set_option maxRecDepth 100000

def sameC (a b : Cat) : Bool := decide (a = b)
theorem sameC_no {a b : Cat} (h : a ≠ b) : sameC a b = false := decide_eq_false h
theorem sameC_yes {a b : Cat} (h1 : a.ver = b.ver) (h2 : a.node = b.node) (h3 : a.R = b.R) (h4 : a.E = b.E) : sameC a b = true := decide_eq_true (by cases a; cases b; simp_all)
theorem sameR_eq (r s : Res) : sameR r.t s.t r.ti s.ti r.P s.P = decide (r = s) := by
  unfold sameR
  rw [Bool.eq_iff_iff, decide_eq_true_eq, decide_eq_true_eq]
  cases r; cases s; simp

set_option maxRecDepth 100000 in
set_option maxHeartbeats 8000000 in
theorem rcsame_any (a b : Cat) (va vb : Value) (w : World) (ha : CatIs w va a) (hb : CatIs w vb b) :
    Calls Tryz.prog 9 #[va, vb] w fun e w' => e = .returned (.bool (sameC a b)) ∧ Kept [] w w' := by
  obtain ⟨ra, rc, ea, ec, rfl, hba⟩ := ha.box
  have hb2 := hb.kept (Kept.alloc [] w (.cells #[.int .i64 a.ver, .string (strL a.node), .slice ra a.R.length rc, .slice ea a.E.length ec] 25))
  obtain ⟨sa, sc, fa, fc, rfl, hbb⟩ := hb2.box
  have hrl := hba.rs.len
  have hel := hba.es.len
  have hsl := hbb.rs.len
  have hfl := hbb.es.len
  obtain ⟨n, hn⟩ : ∃ n, a.R.length = n := ⟨_, rfl⟩
  obtain ⟨m, hm⟩ : ∃ m, a.E.length = m := ⟨_, rfl⟩
  obtain ⟨n', hn'⟩ : ∃ n', b.R.length = n' := ⟨_, rfl⟩
  obtain ⟨m', hm'⟩ : ∃ m', b.E.length = m' := ⟨_, rfl⟩
  obtain ⟨va, hva⟩ : ∃ x, a.ver = x := ⟨_, rfl⟩
  obtain ⟨vb, hvb⟩ : ∃ x, b.ver = x := ⟨_, rfl⟩
  have hA := Kept.alloc [] w (.cells #[.int .i64 a.ver, .string (strL a.node), .slice ra a.R.length rc, .slice ea a.E.length ec] 25)
  have hsz := size_alloc w (.cells #[.int .i64 a.ver, .string (strL a.node), .slice ra a.R.length rc, .slice ea a.E.length ec] 25)
  obtain ⟨w1, hw1⟩ : ∃ w1, w.alloc (.cells #[.int .i64 a.ver, .string (strL a.node), .slice ra a.R.length rc, .slice ea a.E.length ec] 25) = w1 := ⟨_, rfl⟩
  rw [hw1] at hba hA hsz hbb
  have hB := Kept.alloc [] w1 (.cells #[.int .i64 b.ver, .string (strL b.node), .slice sa b.R.length sc, .slice fa b.E.length fc] 25)
  obtain ⟨w2, hw2⟩ : ∃ w2, w1.alloc (.cells #[.int .i64 b.ver, .string (strL b.node), .slice sa b.R.length sc, .slice fa b.E.length fc] 25) = w2 := ⟨_, rfl⟩
  rw [hw2] at hbb hB
  rw [hsz] at hbb
  have HA := Lib.hid (hba.kept hB)
  have HB := Lib.hid hbb
  have HK := Lib.hid (hA.trans hB)
  have HC : Hid (∀ w', Kept [] w2 w' → w'.cell? ⟨w.heap.size, 0, none⟩ = some (.int .i64 va) ∧ w'.cell? ⟨w.heap.size, 1, none⟩ = some (.string (strL a.node)) ∧ w'.cell? ⟨w.heap.size, 2, none⟩ = some (.slice ra n rc) ∧ w'.cell? ⟨w.heap.size, 3, none⟩ = some (.slice ea m ec) ∧
      w'.cell? ⟨w.heap.size + 1, 0, none⟩ = some (.int .i64 vb) ∧ w'.cell? ⟨w.heap.size + 1, 1, none⟩ = some (.string (strL b.node)) ∧ w'.cell? ⟨w.heap.size + 1, 2, none⟩ = some (.slice sa n' sc) ∧ w'.cell? ⟨w.heap.size + 1, 3, none⟩ = some (.slice fa m' fc)) := fun w' hk => by
    rw [← hn, ← hm, ← hva, ← hn', ← hm', ← hvb]
    exact ⟨(HA.out.kept hk).c0, (HA.out.kept hk).c1, (HA.out.kept hk).c2, (HA.out.kept hk).c3, (HB.out.kept hk).c0, (HB.out.kept hk).c1, (HB.out.kept hk).c2, (HB.out.kept hk).c3⟩
  have HRA : Hid (RsIs w2 (.slice ra n rc) a.R) := by show RsIs _ _ _; rw [← hn]; exact HA.out.rs
  have HRB : Hid (RsIs w2 (.slice sa n' sc) b.R) := by show RsIs _ _ _; rw [← hn']; exact HB.out.rs
  have HEA : Hid (EsIs w2 (.slice ea m ec) a.E) := by show EsIs _ _ _; rw [← hm]; exact HA.out.es
  have HEB : Hid (EsIs w2 (.slice fa m' fc) b.E) := by show EsIs _ _ _; rw [← hm']; exact HB.out.es
  have HN := Lib.hid hn
  have HM := Lib.hid hm
  have HN' := Lib.hid hn'
  have HM' := Lib.hid hm'
  have HVA := Lib.hid hva
  have HVB := Lib.hid hvb
  rw [hn] at hrl
  rw [hm] at hel
  rw [hn'] at hsl
  rw [hm'] at hfl
  have HW1 := Lib.hid hw1
  have HW2 := Lib.hid hw2
  rw [hn, hm, hn', hm', hva, hvb]
  rw [hn, hm, hva] at HW1
  rw [hn', hm', hvb] at HW2
  clear ha hb hb2 hba hbb hA hB hn hm hn' hm' hva hvb hsz hw1 hw2
  obtain ⟨c0, c1, c2, c3, d0, d1, d2, d3⟩ := HC.out w2 (Kept.refl _ _)
  have hw2 := HW2.out
  rw [← HW1.out] at hw2
  by_cases g1 : va = vb
  case neg =>
    have q1 : (va != vb) = true := by simpa using g1
    have HZ : Hid (sameC a b = false) := sameC_no fun e => g1 (by rw [← HVA.out, ← HVB.out, e])
    clear g1
    go_enter Tryz.func9, Tryz.ntmps9
    go_wp2_with fail
    go_ret
    exact ⟨retB HZ.out.symm, HK.out⟩
  subst g1
  by_cases g2 : a.node = b.node
  case neg =>
    have q2 : ((strL a.node).toList == (strL b.node).toList) = false := by rw [str_beqP, decide_eq_false g2]
    have HZ : Hid (sameC a b = false) := sameC_no fun e => g2 (by rw [e])
    clear g2
    go_enter Tryz.func9, Tryz.ntmps9
    go_wp2_with fail
    go_ret
    exact ⟨retB HZ.out.symm, HK.out⟩
  have q2 : ((strL a.node).toList == (strL b.node).toList) = true := by rw [str_beqP, decide_eq_true g2]
  have HG2 := Lib.hid g2
  clear g2
  by_cases g3 : n = n'
  case neg =>
    have q3 : ((n : Int) != (n' : Int)) = true := by simp; omega
    have q3' : (n != n') = true := by simpa using g3
    have HZ : Hid (sameC a b = false) := sameC_no fun e => g3 (by rw [← HN.out, ← HN'.out, e])
    clear g3
    go_enter Tryz.func9, Tryz.ntmps9
    go_wp2_with fail
    go_ret
    exact ⟨retB HZ.out.symm, HK.out⟩
  subst g3
  by_cases g4 : m = m'
  case neg =>
    have q4 : ((m : Int) != (m' : Int)) = true := by simp; omega
    have q4' : (m != m') = true := by simpa using g4
    have HZ : Hid (sameC a b = false) := sameC_no fun e => g4 (by rw [← HM.out, ← HM'.out, e])
    clear g4
    go_enter Tryz.func9, Tryz.ntmps9
    go_wp2_with fail
    go_ret
    exact ⟨retB HZ.out.symm, HK.out⟩
  subst g4
  go_enter Tryz.func9, Tryz.ntmps9
  go_wp2_with fail
  clear hw2 c0 c1 c2 c3 d0 d1 d2 d3
  go_loopw [5] (fun i wr => ∃ k : Nat, k ≤ n ∧ i = .int .i64 k ∧ Hid (∀ j (hj : j < a.R.length) (hj2 : j < b.R.length), j < k → a.R[j] = b.R[j]) ∧ Hid (Kept [] w2 wr)) (fun i _ => n - (intOf i).toNat)
  case atStart => exact ⟨0, by omega, rfl, fun j hj hj2 h0 => by omega, Kept.refl _ _⟩
  case round =>
    obtain ⟨k, hk, rfl, HE, HW⟩ := hrel
    obtain ⟨c0, c1, c2, c3, d0, d1, d2, d3⟩ := HC.out wr HW.out
    by_cases hlt : k < n
    · have hka : k < a.R.length := by rw [HN.out]; exact hlt
      have hkb : k < b.R.length := by rw [HN'.out]; exact hlt
      obtain ⟨r, hr⟩ : ∃ r, a.R[k] = r := ⟨_, rfl⟩
      obtain ⟨s, hs⟩ : ∃ s, b.R[k] = s := ⟨_, rfl⟩
      have HNO : Hid (r ≠ s → sameC a b = false) := fun hne => sameC_no fun e => hne (by rw [← hr, ← hs]; simp only [e])
      have HNX : Hid (r = s → ∀ j (hj : j < a.R.length) (hj2 : j < b.R.length), j < k + 1 → a.R[j] = b.R[j]) := fun he j hj hj2 hjk => by
        by_cases e : j = k
        · subst e; rw [hr, hs]; exact he
        · exact HE.out j hj hj2 (by omega)
      obtain ⟨p, o, u, rfl, hp, hu, x0, x1, x2⟩ := HRA.out.pick k hka r hr
      obtain ⟨p', o', u', rfl, hp', hu', y0, y1, y2⟩ := HRB.out.pick k hkb s hs
      have HU := Lib.hid hu
      have HU' := Lib.hid hu'
      obtain ⟨pa, pc, hus⟩ := hu.slice
      obtain ⟨qa, qc, hus'⟩ := hu'.slice
      obtain ⟨pn, hpn⟩ : ∃ m, r.P.length = m := ⟨_, rfl⟩
      obtain ⟨qn, hqn⟩ : ∃ m, s.P.length = m := ⟨_, rfl⟩
      rw [hpn] at hus
      rw [hqn] at hus'
      subst hus hus'
      have HCL : Hid (∀ w', Kept [] w2 w' → w'.cell? ⟨p, o + k * 3, none⟩ = some (.string (strL r.t)) ∧ w'.cell? ⟨p, o + k * 3 + 1, none⟩ = some (.string (strL r.ti)) ∧ w'.cell? ⟨p, o + k * 3 + 2, none⟩ = some (.slice pa pn pc) ∧
          w'.cell? ⟨p', o' + k * 3, none⟩ = some (.string (strL s.t)) ∧ w'.cell? ⟨p', o' + k * 3 + 1, none⟩ = some (.string (strL s.ti)) ∧ w'.cell? ⟨p', o' + k * 3 + 2, none⟩ = some (.slice qa qn qc)) := fun w' hk =>
        ⟨(hk.cell (p := ⟨p, o + k * 3, none⟩) hp (by simp)).trans x0, (hk.cell (p := ⟨p, o + k * 3 + 1, none⟩) hp (by simp)).trans x1, (hk.cell (p := ⟨p, o + k * 3 + 2, none⟩) hp (by simp)).trans x2,
         (hk.cell (p := ⟨p', o' + k * 3, none⟩) hp' (by simp)).trans y0, (hk.cell (p := ⟨p', o' + k * 3 + 1, none⟩) hp' (by simp)).trans y1, (hk.cell (p := ⟨p', o' + k * 3 + 2, none⟩) hp' (by simp)).trans y2⟩
      have z : ∀ w', Kept [] wr.drew w' → Kept [] w2 w' := fun w' hk => HW.out.trans ((Kept.drew [] _).trans hk)
      have ZZ := Lib.hid z
      clear z
      have z0 : ∀ w', Kept [] wr.drew w' → w'.cell? ⟨p, o + k * 3, none⟩ = some (.string (strL r.t)) := fun w' hk => (HCL.out w' (ZZ.out w' hk)).1
      have z1 : ∀ w', Kept [] wr.drew w' → w'.cell? ⟨p, o + k * 3 + 1, none⟩ = some (.string (strL r.ti)) := fun w' hk => (HCL.out w' (ZZ.out w' hk)).2.1
      have z2 : ∀ w', Kept [] wr.drew w' → w'.cell? ⟨p, o + k * 3 + 2, none⟩ = some (.slice pa pn pc) := fun w' hk => (HCL.out w' (ZZ.out w' hk)).2.2.1
      have z3 : ∀ w', Kept [] wr.drew w' → w'.cell? ⟨p', o' + k * 3, none⟩ = some (.string (strL s.t)) := fun w' hk => (HCL.out w' (ZZ.out w' hk)).2.2.2.1
      have z4 : ∀ w', Kept [] wr.drew w' → w'.cell? ⟨p', o' + k * 3 + 1, none⟩ = some (.string (strL s.ti)) := fun w' hk => (HCL.out w' (ZZ.out w' hk)).2.2.2.2.1
      have z5 : ∀ w', Kept [] wr.drew w' → w'.cell? ⟨p', o' + k * 3 + 2, none⟩ = some (.slice qa qn qc) := fun w' hk => (HCL.out w' (ZZ.out w' hk)).2.2.2.2.2
      have z6 : ∀ w', Kept [] wr.drew w' → w'.cell? ⟨w.heap.size, 2, none⟩ = some (.slice (some ⟨p, o, none⟩) n rc) := fun w' hk => (HC.out w' (ZZ.out w' hk)).2.2.1
      have z7 : ∀ w', Kept [] wr.drew w' → w'.cell? ⟨w.heap.size + 1, 2, none⟩ = some (.slice (some ⟨p', o', none⟩) n sc) := fun w' hk => (HC.out w' (ZZ.out w' hk)).2.2.2.2.2.2.1
      obtain ⟨l1, hl1⟩ : ∃ l1, decide (r = s) = l1 := ⟨_, rfl⟩
      have HL1 : Hid (∀ w', Kept [] w2 w' → Calls Tryz.prog 17 #[.agg #[.string (strL r.t), .string (strL r.ti), .slice pa pn pc], .agg #[.string (strL s.t), .string (strL s.ti), .slice qa qn qc]] w' fun e w3 => e = .returned (.bool l1) ∧ Kept [] w' w3) := fun w' hk => by
        have := rssame_any r.t s.t r.ti s.ti r.P s.P _ _ w' (HU.out.kept hk) (HU'.out.kept hk)
        rw [sameR_eq, hl1] at this
        exact this
      have HLL : Hid ((l1 = false → sameC a b = false) ∧ (l1 = true → ∀ j (hj : j < a.R.length) (hj2 : j < b.R.length), j < k + 1 → a.R[j] = b.R[j])) :=
        ⟨fun e => HNO.out (of_decide_eq_false (hl1.trans e)), fun e => HNX.out (of_decide_eq_true (hl1.trans e))⟩
      clear hl1 hr hs hu hu' x0 x1 x2 y0 y1 y2 hpn hqn HE
      go_wp2_with fail
      clear c0 c1 c2 c3 d0 d1 d2 d3
      refine wp_region_ord [(true, 0), (true, 1), (true, 2), (true, 3), (true, 4), (true, 5), (true, 6), (true, 7), (true, 8), (true, 9), (false, 10), (true, 11)] [] (by kernel_rfl) (fun _ _ d _ _ h => by cases d <;> exact h) (by kernel_rfl) rfl (by kernel_rfl) (by kernel_rfl) ?_
      simp only [named, List.getD_cons_zero, List.getD_cons_succ]
      repeat (first | (apply wpGrow_take; (case hw => rfl); (case hv => intro w' hk; go_simp; with_reducible rfl); simp only [Act.put, List.setIfInBounds_toArray, List.set_cons_zero, List.set_cons_succ]) | (refine wpGrow_pass (by rfl) ?_; simp only [Act.put, List.setIfInBounds_toArray, List.set_cons_zero, List.set_cons_succ]) | (refine wpGrow_skip (by rfl) ?_; simp only [Act.put, List.setIfInBounds_toArray, List.set_cons_zero, List.set_cons_succ]))
      clear z0 z1 z2 z3 z4 z5 z6 z7
      refine wpGrow_force (by rfl) (fun K hK => ?_)
      go_simp
      refine (HL1.out _ (HW.out.trans (Kept.drew [] _))).mono ?_
      rintro e w5 ⟨rfl, hk5⟩
      have HK5 : Hid (Kept [] w2 w5) := HW.out.trans ((Kept.drew [] _).trans hk5)
      refine hK _ _ hk5 ?_
      clear hK K hk5
      repeat (first | (apply wpGrow_take; (case hw => rfl); (case hv => intro w' hk; go_simp; with_reducible rfl); simp only [Act.put, List.setIfInBounds_toArray, List.set_cons_zero, List.set_cons_succ]) | (refine wpGrow_pass (by rfl) ?_; simp only [Act.put, List.setIfInBounds_toArray, List.set_cons_zero, List.set_cons_succ]) | (refine wpGrow_skip (by rfl) ?_; simp only [Act.put, List.setIfInBounds_toArray, List.set_cons_zero, List.set_cons_succ]))
      refine wpGrow_nil ?_
      cases l1
      case false =>
        have HZ := Lib.hid (HLL.out.1 (by trivial))
        go_wp2_with fail
        go_ret
        exact ⟨retB HZ.out.symm, HK.out.trans HK5.out⟩
      have HZ := Lib.hid (HLL.out.2 (by trivial))
      go_wp2_with fail
      go_roundw
      case rel => exact ⟨k + 1, by omega, by go_num, HZ, HK5⟩
      case measure => simp [intOf]; omega
    have HRE : Hid (a.R = b.R) := List.ext_getElem (by rw [HN.out, HN'.out]) fun j hj hj2 => HE.out j hj hj2 (by rw [HN.out] at hj; omega)
    go_wp2_with fail
    clear c0 c1 c2 c3 d0 d1 d2 d3
    go_loopw [6] (fun i w9 => ∃ k : Nat, k ≤ m ∧ i = .int .i64 k ∧ Hid (∀ j (hj : j < a.E.length) (hj2 : j < b.E.length), j < k → a.E[j] = b.E[j]) ∧ Hid (Kept [] w2 w9)) (fun i _ => m - (intOf i).toNat)
    case atStart => exact ⟨0, by omega, rfl, fun j hj hj2 h0 => by omega, HW⟩
    case round =>
      clear HW HE
      obtain ⟨k, hk, rfl, HE, HW⟩ := hrel
      obtain ⟨c0, c1, c2, c3, d0, d1, d2, d3⟩ := HC.out wr HW.out
      by_cases hlt : k < m
      · have hka : k < a.E.length := by rw [HM.out]; exact hlt
        have hkb : k < b.E.length := by rw [HM'.out]; exact hlt
        obtain ⟨r, hr⟩ : ∃ r, a.E[k] = r := ⟨_, rfl⟩
        obtain ⟨s, hs⟩ : ∃ s, b.E[k] = s := ⟨_, rfl⟩
        have HNO : Hid (r ≠ s → sameC a b = false) := fun hne => sameC_no fun e => hne (by rw [← hr, ← hs]; simp only [e])
        have HNX : Hid (r = s → ∀ j (hj : j < a.E.length) (hj2 : j < b.E.length), j < k + 1 → a.E[j] = b.E[j]) := fun he j hj hj2 hjk => by
          by_cases e : j = k
          · subst e; rw [hr, hs]; exact he
          · exact HE.out j hj hj2 (by omega)
        obtain ⟨p, o, rfl, hp, x0, x1, x2⟩ := HEA.out.pick k hka r hr
        obtain ⟨p', o', rfl, hp', y0, y1, y2⟩ := HEB.out.pick k hkb s hs
        have f0 := (HW.out.cell (p := ⟨p, o + k * 3, none⟩) hp (by simp)).trans x0
        have f1 := (HW.out.cell (p := ⟨p, o + k * 3 + 1, none⟩) hp (by simp)).trans x1
        have f2 := (HW.out.cell (p := ⟨p, o + k * 3 + 2, none⟩) hp (by simp)).trans x2
        have f3 := (HW.out.cell (p := ⟨p', o' + k * 3, none⟩) hp' (by simp)).trans y0
        have f4 := (HW.out.cell (p := ⟨p', o' + k * 3 + 1, none⟩) hp' (by simp)).trans y1
        have f5 := (HW.out.cell (p := ⟨p', o' + k * 3 + 2, none⟩) hp' (by simp)).trans y2
        obtain ⟨rf, rt, rn⟩ := r
        obtain ⟨sf, st, sn⟩ := s
        clear hr hs x0 x1 x2 y0 y1 y2 HE
        by_cases h1 : rf = sf ∧ rt = st ∧ rn = sn
        · obtain ⟨rfl, rfl, rfl⟩ := h1
          have HZ := Lib.hid (HNX.out rfl)
          go_wp2_with fail
          go_quiet (fail)
          generalize hwq : World.drewN wr _ = wq
          have HWQ : Hid (Kept [] w2 wq) := by rw [← hwq]; exact HW.out.trans (Kept.drewN _ _ _)
          clear hwq c0 c1 c2 c3 d0 d1 d2 d3 f0 f1 f2 f3 f4 f5
          go_wp2_with fail
          go_roundw
          case rel => exact ⟨k + 1, by omega, by go_num, HZ, HWQ⟩
          case measure => simp [intOf]; omega
        · have HZ : Hid (sameC a b = false) := HNO.out (by intro e; injection e with e1 e2 e3; exact h1 ⟨e1, e2, e3⟩)
          by_cases g1 : rf = sf
          · subst g1
            by_cases g2 : rt = st
            · subst g2
              have g3 : ¬ rn = sn := fun e => h1 ⟨rfl, rfl, e⟩
              clear h1
              cases rn <;> cases sn
              · exact absurd rfl g3
              · go_wp2_with fail
                go_quiet (fail)
                generalize hwq : World.drewN wr _ = wq
                have HWQ : Hid (Kept [] w2 wq) := by rw [← hwq]; exact HW.out.trans (Kept.drewN _ _ _)
                clear hwq c0 c1 c2 c3 d0 d1 d2 d3 f0 f1 f2 f3 f4 f5
                go_wp2_with fail
                go_ret
                exact ⟨retB HZ.out.symm, HK.out.trans HWQ.out⟩
              · go_wp2_with fail
                go_quiet (fail)
                generalize hwq : World.drewN wr _ = wq
                have HWQ : Hid (Kept [] w2 wq) := by rw [← hwq]; exact HW.out.trans (Kept.drewN _ _ _)
                clear hwq c0 c1 c2 c3 d0 d1 d2 d3 f0 f1 f2 f3 f4 f5
                go_wp2_with fail
                go_ret
                exact ⟨retB HZ.out.symm, HK.out.trans HWQ.out⟩
              · exact absurd rfl g3
            · have g2' : (rt == st) = false := by simpa using g2
              clear h1
              go_wp2_with fail
              go_quiet (fail)
              generalize hwq : World.drewN wr _ = wq
              have HWQ : Hid (Kept [] w2 wq) := by rw [← hwq]; exact HW.out.trans (Kept.drewN _ _ _)
              clear hwq c0 c1 c2 c3 d0 d1 d2 d3 f0 f1 f2 f3 f4 f5
              go_wp2_with fail
              go_ret
              exact ⟨retB HZ.out.symm, HK.out.trans HWQ.out⟩
          · have g1' : (rf == sf) = false := by simpa using g1
            clear h1
            go_wp2_with fail
            go_quiet (fail)
            generalize hwq : World.drewN wr _ = wq
            have HWQ : Hid (Kept [] w2 wq) := by rw [← hwq]; exact HW.out.trans (Kept.drewN _ _ _)
            clear hwq c0 c1 c2 c3 d0 d1 d2 d3 f0 f1 f2 f3 f4 f5
            go_wp2_with fail
            go_ret
            exact ⟨retB HZ.out.symm, HK.out.trans HWQ.out⟩
      have HZ : Hid (sameC a b = true) := sameC_yes (by rw [HVA.out, HVB.out]) HG2.out HRE.out (List.ext_getElem (by rw [HM.out, HM'.out]) fun j hj hj2 => HE.out j hj hj2 (by rw [HM.out] at hj; omega))
      go_wp2_with fail
      go_ret
      exact ⟨retB HZ.out.symm, HK.out.trans HW.out⟩
end Go.Proofs.YtfofhnbijjocfaaGreatDoor

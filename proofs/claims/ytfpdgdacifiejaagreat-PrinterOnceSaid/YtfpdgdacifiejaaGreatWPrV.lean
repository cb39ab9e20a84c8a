/-
  Layer 12: the document's Parse: RParC.
  Conditions: none.
  Layer 13: the document's examples, over what Print and Check answer.
  Conditions: those that each theorem states.
  Layer 13: the program's Print and Value, of a manifest's tree and of no nodes.
  Conditions: those that each theorem states.
-/
import Derived.Test.YtfpdgdacifiejaaGreatVRTop
import Derived.Test.YtfpdgdacifiejaaGreatWParts
import Derived.Test.YtfpdgdacifiejaaGreatVNds
import Derived.Test.YtfpdgdacifiejaaGreatWPrn
namespace Go.Proofs.YtfpdgdacifiejaaGreat
open Go.RowKit Go.Maps

set_option maxRecDepth 100000 in
set_option maxHeartbeats 8000000 in
theorem rparse_pc : RParC := by
  intro va l w htk hwd
  have hlen := htk.len
  obtain ⟨⟨ao, cap, rfl, hcap, hc63, _⟩, _⟩ := id htk
  obtain ⟨w1, hw1⟩ : ∃ w1, w.alloc (.cells #[.slice none 0 0] 29) = w1 := ⟨_, rfl⟩
  obtain ⟨g, hg⟩ : ∃ g, w.heap.size = g := ⟨_, rfl⟩
  have HK1 : Hid (Kept [] w w1) := by show Kept _ _ _; rw [← hw1]; exact Kept.alloc _ _ _
  have HR1 : Hid (w1.heap[g]? = some (.cells #[.slice none 0 0] 29)) := by show _ = _; rw [← hw1, ← hg]; exact heap_alloc_last _ _
  have HGW : Hid (w.heap.size = g ∧ w1.heap.size = g + 1) := ⟨hg, by rw [← hw1, ← hg]; simp⟩
  obtain ⟨n, hn⟩ : ∃ n, l.length = n := ⟨_, rfl⟩
  have HN := Lib.hid hn
  have HTK := Lib.hid htk
  have HWD := Lib.hid hwd
  rw [hn] at HTK hlen hcap ⊢
  have c0 : w1.cell? ⟨g, 0, none⟩ = some (.slice none 0 0) := cell_of_row _ _ 0 _ _ _ HR1.out
  have f0 : ∀ q, w1.frozen? ⟨g, q, none⟩ = false := fun q => frozen_of_row _ _ q _ _ HR1.out
  clear htk hn hwd
  by_cases hlong : 4096 < n
  · have HP : Hid (parO l = ([], 0, 5)) := by show _ = _; unfold parO; rw [if_pos (by rw [HN.out]; exact hlong)]
    have q1 : decide ((4096 : Int) < (n : Int)) = true := by simp; omega
    have hz := Lib.hid (row_setJ HR1.out 0 (.slice none 0 0))
    have hk := Lib.hid (HK1.out.into (Kept.setCell [g] w1 ⟨g, 0, none⟩ (.slice none 0 0) (by simp)) (by have := HGW.out.1; simp; omega))
    go_enter Tryz.func27, Tryz.ntmps27
    go_wp2_with fail
    refine bodyPost_ret_by (results_row3 (p := 2) (u := 3) (v := 4) rfl _ _ g 29 _ _ rfl hz.out Tryz.underlying29 rfl (by kernel_rfl)) rfl ?_
    exact ParOut.mk HP.out (NdIs.nil _) hk.out
  · have q1 : decide ((4096 : Int) < (n : Int)) = false := by simp; omega
    have HNL : Hid (¬ 4096 < l.length) := by show ¬ _; rw [HN.out]; exact hlong
    obtain ⟨c, hc⟩ : ∃ c : PCx, c = ⟨w1, w1.heap.size, .slice ao n cap, l⟩ := ⟨_, rfl⟩
    have hcg : w1.heap.size = c.g := by rw [hc]
    obtain ⟨w2, hw2⟩ : ∃ w2, w1.alloc (.cells #[.slice ao n cap, .int .i64 0, .bool false, .slice none 0 0] 85) = w2 := ⟨_, rfl⟩
    have HCC : Hid (c.W = w1 ∧ c.l = l ∧ g < c.g) := ⟨by rw [hc], by rw [hc], by rw [← hcg]; have := HGW.out.2; omega⟩
    have HQ0 : Hid (QS c [] n (.good ⟨l, []⟩) w2) := by
      refine ⟨by rw [← hcg, HCC.out.1]; exact Nat.le_refl _, by simp, ⟨.slice none 0 0, [], ?_, NdsIs.nil _ _ _, fun s e => by cases e; rfl⟩, fun s e => ?_, ?_, fun s e => ?_, ?_, ?_⟩
      · rw [← hcg, ← hw2, hc]
        show _ = some (Obj.cells #[_, .int .i64 ((l.length - l.length : Nat) : Int), .bool false, _] _)
        rw [Nat.sub_self]
        exact heap_alloc_last _ _
      · cases e
        rw [HCC.out.2.1]
        simp
      · rw [HCC.out.2.1]
        exact Nat.le_refl _
      · cases e
        have := HN.out
        simp
        omega
      · rw [hc]
        exact HTK.out.kept HK1.out
      · rw [HCC.out.1, ← hw2]
        exact Kept.alloc _ _ _
    have HZS := Lib.hid (zstmts_qc c (by rw [HCC.out.2.1]; exact HWD.out) 5000)
    have HCL : Hid (c.l.length = n) := by show _ = _; rw [HCC.out.2.1]; exact HN.out
    have HNS : Hid (n ≤ 4096) := by show _ ≤ _; omega
    clear hc hlong
    go_enter Tryz.func27, Tryz.ntmps27
    go_wp2_with fail
    clear c0 f0 hw2 hcg
    go_loopw [6] (fun v6 wr => ∃ (L : List Nat) (j : Nat) (qk : QSt), Hid (LQ c [] n qk wr v6 L ∧ (qk.isBad = true ∨ qk.n < j) ∧ j ≤ 5000 ∧ (∀ s, qk = .good s → L.length + s.r.length ≤ 5000) ∧ L.length ≤ 5001 ∧ ∀ y q', QR (topF (stmtF 5000) j L) qk y q' → QR (topF (stmtF 5000) 5000 []) (.good ⟨l, []⟩) y q')) (fun _ wr => 2 * (c.l.length - atOfR c wr) + badOfR c wr)
    case atStart => exact ⟨[], 5000, .good ⟨l, []⟩, LQ.nil HQ0.out, .inr (by have := HNS.out; have := HN.out; show l.length < 5000; omega), Nat.le_refl _, fun s e => by cases e; have := HNS.out; have := HN.out; simp; omega, by simp, fun _ _ h => h⟩
    case round =>
      obtain ⟨L, j, qk, HS⟩ := hrel
      clear HQ0
      obtain ⟨ao2, cap2, hv⟩ := HS.out.1.val
      obtain ⟨LN, hLN⟩ : ∃ k, L.length = k := ⟨_, rfl⟩
      rw [hLN] at hv
      subst hv
      have HLN := Lib.hid hLN
      have HMS := Lib.hid (And.intro HS.out.1.st.meas HS.out.1.st.bad0)
      obtain ⟨_, _, _, c1, c2, _⟩ := HS.out.1.st.open
      clear hLN
      cases qk with
      | bad kb =>
        have d2 : wr.cell? ⟨c.g, 2, none⟩ = some (.bool true) := c2
        clear c1 c2
        go_wp2_with fail
        clear d2
        refine (HS.out.1.node 1 [] (by have := HNS.out; omega)).mono ?_
        rintro e w3 ⟨y, q', rfl, H⟩
        obtain rfl : q' = .bad kb := H.out.1
        have HPO : Hid (parO l = ([], l.length - kb, 120)) := par_badR (HS.out.2.2.2.2.2 y (.bad kb) (top_outR (.inl rfl) H.out.1)) HNL.out
        have hk3 : Kept [] w1 w3 := by rw [← HCC.out.1]; exact H.out.2.1.kept
        have HR3 := Lib.hid (hk3.heap (by simp) HR1.out)
        obtain ⟨_, _, _, d1, d2, _⟩ := H.out.2.1.open
        have d2 : w3.cell? ⟨c.g, 2, none⟩ = some (.bool true) := d2
        have HAT : Hid (l.length - kb = c.l.length - kb) := by show _ = _; rw [HCC.out.2.1]
        have d1 : w3.cell? ⟨c.g, 1, none⟩ = some (.int .i64 ((c.l.length - kb : Nat) : Int)) := d1
        have HLT := Lib.hid H.out.2.1.lt
        obtain ⟨a, ha⟩ : ∃ a, c.l.length - kb = a := ⟨_, rfl⟩
        rw [ha] at d1 HAT
        have HD1 := Lib.hid d1
        have z1 : ∀ w', Kept [g] w3.drew w' → w'.cell? ⟨c.g, 1, none⟩ = some (.int .i64 (a : Int)) := fun w' hk' => ((((Kept.drew [] w3).mono (by simp)).trans hk').cell (p := ⟨c.g, 1, none⟩) HLT.out (by have := HCC.out.2.2; simp; omega)).trans HD1.out
        have HK3 : Hid (Kept [] w w3) := HK1.out.trans hk3
        clear H d1 ha hk3
        unfold nV
        go_wp2_with fail
        clear d2
        refine wp_region_ord [(true, 0), (true, 1), (true, 2), (true, 3), (true, 4), (false, 5), (true, 6), (true, 7)] [g] (by kernel_rfl) (fun _ _ d _ _ h => by cases d <;> exact h) (by kernel_rfl) rfl (by kernel_rfl) (by kernel_rfl) ?_
        simp only [named, List.getD_cons_zero, List.getD_cons_succ]
        repeat (first | (apply wpGrow_take; (case hw => rfl); (case hv => intro w' hk; go_simp; with_reducible rfl); simp only [Act.put, List.setIfInBounds_toArray, List.set_cons_zero, List.set_cons_succ]) | (refine wpGrow_pass (by rfl) ?_; simp only [Act.put, List.setIfInBounds_toArray, List.set_cons_zero, List.set_cons_succ]) | (refine wpGrow_skip (by rfl) ?_; simp only [Act.put, List.setIfInBounds_toArray, List.set_cons_zero, List.set_cons_succ]))
        clear z1
        have c0 : w3.cell? ⟨g, 0, none⟩ = some (.slice none 0 0) := cell_of_row _ _ 0 _ _ _ HR3.out
        have f0 : ∀ q, w3.frozen? ⟨g, q, none⟩ = false := fun q => frozen_of_row _ _ q _ _ HR3.out
        have hz := Lib.hid (row_setJ HR3.out 0 (.slice none 0 0))
        refine wpGrow_force (by rfl) (fun K hK => ?_)
        go_simp
        refine hK _ _ (Kept.setCell _ _ _ _ (by simp)) ?_
        clear hK K c0 f0
        repeat (first | (apply wpGrow_take; (case hw => rfl); (case hv => intro w' hk; go_simp; with_reducible rfl); simp only [Act.put, List.setIfInBounds_toArray, List.set_cons_zero, List.set_cons_succ]) | (refine wpGrow_pass (by rfl) ?_; simp only [Act.put, List.setIfInBounds_toArray, List.set_cons_zero, List.set_cons_succ]) | (refine wpGrow_skip (by rfl) ?_; simp only [Act.put, List.setIfInBounds_toArray, List.set_cons_zero, List.set_cons_succ]))
        refine wpGrow_nil ?_
        go_wp2_with fail
        refine bodyPost_ret_by (results_row3 (p := 2) (u := 3) (v := 4) rfl _ _ g 29 _ _ rfl hz.out Tryz.underlying29 rfl (by kernel_rfl)) rfl ?_
        exact ParOut.mk (by rw [HPO.out, HAT.out]) (NdIs.nil _) ((HK3.out.trans (Kept.drew _ _)).into (Kept.setCell [g] _ ⟨g, 0, none⟩ (.slice none 0 0) (by simp)) (by have := HGW.out.1; simp; omega))
      | good s =>
        have d2 : wr.cell? ⟨c.g, 2, none⟩ = some (.bool false) := c2
        have d1 : wr.cell? ⟨c.g, 1, none⟩ = some (.int .i64 ((c.l.length - s.r.length : Nat) : Int)) := c1
        clear c1 c2
        rw [HCL.out] at d1
        have hlt : s.r.length < j := by
          rcases HS.out.2.1 with h | h
          · cases h
          · exact h
        obtain ⟨j', rfl⟩ : ∃ j', j = j' + 1 := ⟨j - 1, by omega⟩
        have HLT := Lib.hid hlt
        have hle : s.r.length ≤ n := by have := HS.out.1.st.le; rw [HCL.out] at this; exact this
        clear hlt
        by_cases hr : s.r = []
        · rw [hr] at d1
          have d1 : wr.cell? ⟨c.g, 1, none⟩ = some (.int .i64 (n : Int)) := d1
          have HR := Lib.hid hr
          have hnn : ¬ (n : Int) < (n : Int) := by omega
          have hnd : decide (n < n) = false := by simp
          clear hr hle
          go_wp2_with fail
          clear d1 d2 hnn hnd
          refine (HS.out.1.node 1 [] (by have := HNS.out; omega)).mono ?_
          rintro e w3 ⟨y, q', rfl, H⟩
          obtain ⟨rfl, _⟩ : q' = .good ⟨s.r, s.ns ++ [(⟨1, [], L⟩ : Nod)]⟩ ∧ y = s.ns.length := H.out.1
          have HPO := Lib.hid (par_goodR (HS.out.2.2.2.2.2 y _ (top_outR (.inr ⟨s, rfl, HR.out, by omega⟩) H.out.1)) HNL.out)
          obtain ⟨s2, hs2⟩ : ∃ s2 : PSt, (⟨s.r, s.ns ++ [(⟨1, [], L⟩ : Nod)]⟩ : PSt) = s2 := ⟨_, rfl⟩
          rw [hs2] at H HPO
          have hk3 : Kept [] w1 w3 := by rw [← HCC.out.1]; exact H.out.2.1.kept
          have HR3 := Lib.hid (hk3.heap (by simp) HR1.out)
          have HK3 : Hid (Kept [] w w3) := HK1.out.trans hk3
          have hfew := H.out.2.1.few s2 rfl
          obtain ⟨nv, ns, _, _, e2, e3, _, hnds, _, hns⟩ := H.out.2.1.open
          have hns := hns s2 rfl
          subst hns
          obtain ⟨na, nc, hnv⟩ := hnds.val
          have e2 : w3.cell? ⟨c.g, 2, none⟩ = some (.bool false) := e2
          obtain ⟨N, hN⟩ : ∃ N, s2.ns.length = N := ⟨_, rfl⟩
          have HDP := Lib.hid (zDepth_any nv s2.ns N w3 hN (by have := HPO.out.2.1; omega) (by have := HNS.out; omega) HPO.out.2.2 hnds.nd)
          rw [hN] at hnv
          rw [hnv] at e3 HDP
          have HND : Hid (∀ ex w', (∀ z ∈ ex, z ≤ c.g) → Kept ex w3 w' → NdIs w' (.slice na N nc) s2.ns) := fun ex w' h1 h2 => by
            rw [← hnv]
            exact (hnds.low h2 h1).nd
          obtain ⟨D, hD⟩ : ∃ D, depN s2.ns = D := ⟨_, rfl⟩
          rw [hD] at HDP
          have HPP : Hid (parO l = if 1024 < N ∨ 32 < D then ([], 0, 5) else (s2.ns, 0, 0)) := by
            show _ = _
            rw [HPO.out.1, hN, hD]
          have HLT2 := Lib.hid H.out.2.1.lt
          unfold nV
          clear H hs2 hk3 hfew hnds hnv hN hD
          have c0 : w3.cell? ⟨g, 0, none⟩ = some (.slice none 0 0) := cell_of_row _ _ 0 _ _ _ HR3.out
          have f0 : ∀ q, w3.frozen? ⟨g, q, none⟩ = false := fun q => frozen_of_row _ _ q _ _ HR3.out
          by_cases hbig : 1024 < N
          · have q2 : decide ((1024 : Int) < (N : Int)) = true := by simp; omega
            have hz := Lib.hid (row_setJ HR3.out 0 (.slice none 0 0))
            go_wp2_with fail
            refine bodyPost_ret_by (results_row3 (p := 2) (u := 3) (v := 4) rfl _ _ g 29 _ _ rfl hz.out Tryz.underlying29 rfl (by kernel_rfl)) rfl ?_
            exact ParOut.mk (by rw [HPP.out, if_pos (.inl hbig)]) (NdIs.nil _) (HK3.out.into (Kept.setCell [g] _ ⟨g, 0, none⟩ (.slice none 0 0) (by simp)) (by have := HGW.out.1; simp; omega))
          · have q2 : decide ((1024 : Int) < (N : Int)) = false := by simp; omega
            have HE3 := Lib.hid e3
            go_wp2_with fail
            clear c0 f0 e2
            refine HDP.out.mono ?_
            rintro e w4 ⟨rfl, hk4⟩
            have HK4 := Lib.hid hk4
            have HR4 := Lib.hid (hk4.heap (by simp) HR3.out)
            have e4 : w4.cell? ⟨c.g, 3, none⟩ = some (.slice na N nc) := (hk4.cell (p := ⟨c.g, 3, none⟩) HLT2.out (by simp)).trans HE3.out
            have c0 : w4.cell? ⟨g, 0, none⟩ = some (.slice none 0 0) := cell_of_row _ _ 0 _ _ _ HR4.out
            have f0 : ∀ q, w4.frozen? ⟨g, q, none⟩ = false := fun q => frozen_of_row _ _ q _ _ HR4.out
            clear hk4 e3
            by_cases hdeep : 32 < D
            · have q3 : decide ((32 : Int) < (D : Int)) = true := by simp; omega
              have hz := Lib.hid (row_setJ HR4.out 0 (.slice none 0 0))
              go_wp2_with fail
              refine bodyPost_ret_by (results_row3 (p := 2) (u := 3) (v := 4) rfl _ _ g 29 _ _ rfl hz.out Tryz.underlying29 rfl (by kernel_rfl)) rfl ?_
              exact ParOut.mk (by rw [HPP.out, if_pos (.inr hdeep)]) (NdIs.nil _) ((HK3.out.trans HK4.out).into (Kept.setCell [g] _ ⟨g, 0, none⟩ (.slice none 0 0) (by simp)) (by have := HGW.out.1; simp; omega))
            · have q3 : decide ((32 : Int) < (D : Int)) = false := by simp; omega
              have hz := Lib.hid (row_setJ HR4.out 0 (.slice na N nc))
              go_wp2_with fail
              refine bodyPost_ret_by (results_row3 (p := 2) (u := 3) (v := 4) rfl _ _ g 29 _ _ rfl hz.out Tryz.underlying29 rfl (by kernel_rfl)) rfl ?_
              exact ParOut.mk (by rw [HPP.out, if_neg (fun hh => by rcases hh with hh | hh; exact hbig hh; exact hdeep hh)]) (HND.out [g] _ (by have := HCC.out.2.2; simp; omega) ((HK4.out.mono (by simp)).trans (Kept.setCell _ _ _ _ (by simp)))) ((HK3.out.trans HK4.out).into (Kept.setCell [g] _ ⟨g, 0, none⟩ (.slice na N nc) (by simp)) (by have := HGW.out.1; simp; omega))
        · have hpos : 0 < s.r.length := by cases hq : s.r with | nil => exact absurd hq hr | cons x r => simp
          obtain ⟨a, ha⟩ : ∃ a, n - s.r.length = a := ⟨_, rfl⟩
          rw [ha] at d1
          have han : a < n := by omega
          have q2 : decide (a < n) = true := by simpa using han
          have HR := Lib.hid hr
          clear hr ha hle hpos
          go_wp2_with fail
          clear d1 d2 q2
          refine (HZS.out _ n (.good s) wr (by have := HNS.out; omega) (by have h1 := HLT.out; have h2 := HS.out.2.2.1; show s.r.length < 5000; omega) HS.out.1.st).mono ?_
          rintro e w3 ⟨x, q2, rfl, H⟩
          have HZ := Lib.hid (fun (y : _) (q' : QSt) (h : QR _ _ y q') => HS.out.2.2.2.2.2 y q' (top_goR HR.out (QR.bind H.out.1 h)))
          have HE := Lib.hid (stmt_eats H.out.1)
          have HQ := Lib.hid (HS.out.1.step H.out.2.2 H.out.2.1)
          clear H
          unfold nV
          obtain ⟨v4, w4, hrun, hls, hka⟩ := HQ.out.app1 x (by have := HS.out.2.2.2.2.1; omega)
          obtain ⟨ao, cap, hv⟩ := hls.val
          obtain ⟨LN, hLN⟩ : ∃ k, (L ++ [x]).length = k := ⟨_, rfl⟩
          rw [hLN] at hv
          subst hv
          have HRUN := Lib.hid hrun
          have HQ := Lib.hid hls
          clear hrun hls hka hLN
          have HMS2 := Lib.hid (And.intro HQ.out.st.meas HQ.out.st.bad0)
          have HREL : Hid ((q2.isBad = true ∨ q2.n < j') ∧ (∀ s, q2 = .good s → (L ++ [x]).length + s.r.length ≤ 5000) ∧ (L ++ [x]).length ≤ 5001 ∧ 2 * (c.l.length - atOfR c w4) + badOfR c w4 < 2 * (c.l.length - atOfR c wr) + badOfR c wr) := by
            have h1 := HS.out.2.2.2.1 s rfl
            have h2 := HE.out
            have h3 := HMS.out
            have h4 := HMS2.out
            have h5 := HLT.out
            have h7 : (QSt.good s).n = s.r.length := rfl
            have h8 : (QSt.good s).isBad = false := rfl
            rw [List.length_append, List.length_singleton]
            rw [h4.1, h3.1, h4.2, h3.2, h7, h8]
            cases q2 with
            | bad k =>
              refine ⟨.inl rfl, (fun s e => by cases e), by omega, ?_⟩
              have h9 : k ≤ s.r.length := h2.2
              show 2 * k + 0 < 2 * s.r.length + 1
              omega
            | good s2 =>
              have h9 : s2.r.length < s.r.length := h2.1 rfl
              refine ⟨.inr ?_, fun s3 e => ?_, by omega, ?_⟩
              · show s2.r.length < j'
                omega
              · injection e with e
                subst e
                omega
              · show 2 * s2.r.length + 1 < 2 * s.r.length + 1
                omega
          go_wp2_with (at_builtin; refine wpList_append_run rfl _ _ 39 rfl _ _ _ rfl rfl HRUN.out ?_)
          go_roundw
          case rel => exact ⟨L ++ [x], j', q2, HQ.out, HREL.out.1, by have := HS.out.2.2.1; omega, HREL.out.2.1, HREL.out.2.2.1, HZ.out⟩
          case measure => exact HREL.out.2.2.2
end Go.Proofs.YtfpdgdacifiejaaGreat

namespace Go.Proofs.YtfpdgdacifiejaaGreat
open Go.RowKit Go.Maps

/-- Check of no nodes. -/
def ChZ : Prop := ∀ w : World, Calls Tryz.prog 14 #[.agg #[.slice none 0 0]] w fun e w' => e = .returned (.int .i64 120) ∧ Kept [] w w'
theorem KsIs.keptP {w w' : World} {v a : Value} {l : List Nat} {P : Nat} {t : TypeId} {ao : Option Addr} {n c : Nat} (h : KsIs w v l) (ha : a = .slice ao n c) (hr : w.heap[P]? = some (.cells #[a] t)) (hk : Kept [P] w w') : KsIs w' v l := by
  obtain ⟨o1, cap, h1, h2, h3, h4⟩ := h
  refine ⟨o1, cap, h1, h2, h3, fun h0 => ?_⟩
  obtain ⟨b, o, rfl, hb, hc⟩ := h4 h0
  have hbP : b ≠ P := by
    rintro rfl
    have e := hc 0 h0
    rw [cell_of_row _ _ _ _ _ _ hr, ha] at e
    rcases Nat.eq_zero_or_pos (o + 0) with ho | ho
    · rw [ho] at e
      injection e with e
      cases e
    · rw [Array.getElem?_eq_none (by simp; omega)] at e
      cases e
  exact ⟨b, o, rfl, Nat.lt_of_lt_of_le hb hk.size, fun k hkl => (hk.cell (p := ⟨b, o + k, none⟩) hb (by simpa using hbP)).trans (hc k hkl)⟩
theorem NdIs.keptP {w w' : World} {v a : Value} {l : List Nod} {P : Nat} {t : TypeId} {ao : Option Addr} {n c : Nat} (h : NdIs w v l) (ha : a = .slice ao n c) (hr : w.heap[P]? = some (.cells #[a] t)) (hk : Kept [P] w w') : NdIs w' v l := by
  obtain ⟨o1, cap, h1, h2, h3, h4⟩ := h
  refine ⟨o1, cap, h1, h2, h3, fun h0 => ?_⟩
  obtain ⟨b, o, rfl, hb, hc⟩ := h4 h0
  have hbP : b ≠ P := by
    rintro rfl
    obtain ⟨_, e, _⟩ := hc 0 h0
    rw [cell_of_row _ _ _ _ _ _ hr, Array.getElem?_eq_none (by simp)] at e
    cases e
  refine ⟨b, o, rfl, Nat.lt_of_lt_of_le hb hk.size, fun k hkl => ?_⟩
  obtain ⟨c0, c1, lv, c2, c3⟩ := hc k hkl
  exact ⟨(hk.cell (p := ⟨b, o + k * 3, none⟩) hb (by simpa using hbP)).trans c0, (hk.cell (p := ⟨b, o + k * 3 + 1, none⟩) hb (by simpa using hbP)).trans c1, lv, (hk.cell (p := ⟨b, o + k * 3 + 2, none⟩) hb (by simpa using hbP)).trans c2, c3.keptP ha hr hk⟩
set_option maxRecDepth 100000 in
set_option maxHeartbeats 4000000 in
theorem parena_any (S : ByteArray) (ns : List Nod) (n : Nat) (w : World) (hs : S.size ≤ 9223372036854775807) (hw : ∀ t ∈ (lxW (bl S)).map tkW, t.tx.length ≤ 4611686018427387904) (hp : (parO ((lxW (bl S)).map tkW)).1 = ns) (hn : ns.length = n) :
    Calls Tryz.prog 13 #[.string S] w fun e w' => ∃ ao cap, e = .returned (.agg #[.slice ao n cap]) ∧ NdIs w' (.slice ao n cap) ns ∧ Kept [] w w' := by
  obtain ⟨w1, hw1⟩ : ∃ x, w.alloc (.cells #[.slice none 0 0] 29) = x := ⟨_, rfl⟩
  obtain ⟨P, hP⟩ : ∃ x, w.heap.size = x := ⟨_, rfl⟩
  have H1 : Hid (Kept [] w w1 ∧ w1.heap[P]? = some (.cells #[.slice none 0 0] 29)) := by
    rw [← hw1, ← hP]
    exact ⟨Kept.alloc _ _ _, heap_alloc_last _ _⟩
  have HPP := Lib.hid hP
  have HL := Lib.hid (rlex_any S w1 hs)
  obtain ⟨T, hT⟩ : ∃ T, (lxW (bl S)).map tkW = T := ⟨_, rfl⟩
  rw [hT] at hw hp
  have HT := Lib.hid hT
  have HW := Lib.hid hw
  have HNS := Lib.hid (And.intro hp hn)
  clear hs hw hp hn hT
  go_enter Tryz.func13, Tryz.ntmps13
  go_wp2_with fail
  clear hw1 hP
  refine HL.out.mono ?_
  rintro e w2 ⟨vw, rfl, hws, hk2⟩
  have H2 : Hid (TkIs w2 vw T ∧ Kept [] w1 w2) := ⟨by rw [← HT.out]; exact hws.es.tk, hk2⟩
  obtain ⟨la, hla⟩ : ∃ x, lxA (bl S) = x := ⟨_, rfl⟩
  obtain ⟨le, hle⟩ : ∃ x, lxE (bl S) = x := ⟨_, rfl⟩
  rw [hla, hle]
  have HPA := Lib.hid (rparse_pc vw T w2 H2.out.1 HW.out)
  clear hla hle hws hk2
  go_wp2_with fail
  refine HPA.out.mono ?_
  rintro e w3 ⟨va, rfl, hnd, hk3⟩
  rw [HNS.out.1] at hnd
  obtain ⟨ao, cap, hva, hrest⟩ := id hnd
  rw [HNS.out.2] at hva
  subst hva
  obtain ⟨pa, hpa⟩ : ∃ n, (parO T).2.1 = n := ⟨_, rfl⟩
  obtain ⟨pe, hpe⟩ : ∃ n, (parO T).2.2 = n := ⟨_, rfl⟩
  rw [hpa, hpe]
  have H3 : Hid (NdIs w3 (.slice ao n cap) ns ∧ Kept [] w1 w3) := ⟨hnd, H2.out.2.trans hk3⟩
  clear hnd hk3 hpa hpe hrest
  obtain ⟨w4, hw4⟩ : ∃ x, w3.alloc (.cells #[.slice ao n cap] 29) = x := ⟨_, rfl⟩
  obtain ⟨Q, hQ⟩ : ∃ x, w3.heap.size = x := ⟨_, rfl⟩
  have H4 : Hid (Kept [] w3 w4 ∧ w4.heap[Q]? = some (.cells #[.slice ao n cap] 29)) := by
    rw [← hw4, ← hQ]
    exact ⟨Kept.alloc _ _ _, heap_alloc_last _ _⟩
  have HK4 : Hid (Kept [] w1 w4) := H3.out.2.trans H4.out.1
  have hrowP := HK4.out.heap (by simp) H1.out.2
  have HRP := Lib.hid hrowP
  have c0 : w4.cell? ⟨P, 0, none⟩ = some (.slice none 0 0) := cell_of_row _ _ 0 _ _ _ hrowP
  have f0 : ∀ q, w4.frozen? ⟨P, q, none⟩ = false := fun q => frozen_of_row _ _ q _ _ hrowP
  have d0 : w4.cell? ⟨Q, 0, none⟩ = some (.slice ao n cap) := cell_of_row _ _ 0 _ _ _ H4.out.2
  have hz := Lib.hid (row_setJ hrowP 0 (.slice ao n cap))
  have HF : Hid (NdIs (w4.setCell ⟨P, 0, none⟩ (.slice ao n cap)) (.slice ao n cap) ns ∧ Kept [] w (w4.setCell ⟨P, 0, none⟩ (.slice ao n cap))) := by
    have hkp : Kept [P] w4 (w4.setCell ⟨P, 0, none⟩ (.slice ao n cap)) := Kept.setCell _ _ _ _ (by simp)
    exact ⟨(H3.out.1.kept H4.out.1).keptP rfl HRP.out hkp, (H1.out.1.trans HK4.out).into hkp (by have := HPP.out; simp; omega)⟩
  clear hrowP
  go_wp2_with fail
  refine bodyPost_ret_by (results_cell_row rfl _ _ P 29 _ (0, 0) _ rfl hz.out Tryz.underlying29 rfl (by kernel_rfl)) rfl ⟨ao, cap, rfl, HF.out⟩
def X1 : List UInt8 := [105, 102, 32, 36, 120, 61, 61, 49, 32, 97, 110, 100, 32, 33, 36, 121, 123, 105, 110, 99, 108, 117, 100, 101, 32, 97, 125]
def X2 : List UInt8 := [102, 105, 108, 101, 123, 39, 47, 97, 39, 58, 109, 111, 100, 101, 61, 62, 39, 48, 54, 48, 48, 39, 125]
def Y1 : List UInt8 := [105, 102, 32, 40, 40, 36, 120, 32, 61, 61, 32, 49, 41, 32, 97, 110, 100, 32, 33, 36, 121, 41, 32, 123, 10, 32, 32, 105, 110, 99, 108, 117, 100, 101, 32, 97, 10, 125, 10]
def Y2 : List UInt8 := [102, 105, 108, 101, 32, 123, 32, 39, 47, 97, 39, 58, 32, 109, 111, 100, 101, 32, 61, 62, 32, 39, 48, 54, 48, 48, 39, 32, 125, 10]
def D1 : SlT := .cons (.cond (.op [97, 110, 100] (.op [61, 61] (.leaf 16 [120]) (.leaf 15 [49])) (.neg (.leaf 16 [121]))) (.cons (.incl [97]) .nil)) .nil
def D2 : SlT := .cons (.res [102, 105, 108, 101] (.leaf 13 [47, 97]) [([109, 111, 100, 101], .leaf 13 [48, 54, 48, 48])]) .nil
set_option maxRecDepth 100000 in
theorem xp1 : parO ((lxW X1).map tkW) = (topL D1, 0, 0) := by kernel_rfl
set_option maxRecDepth 100000 in
theorem xp2 : parO ((lxW X2).map tkW) = (topL D2, 0, 0) := by kernel_rfl
set_option maxRecDepth 100000 in
theorem xt1 : D1.txt [] = Y1 := by kernel_rfl
set_option maxRecDepth 100000 in
theorem xt2 : D2.txt [] = Y2 := by kernel_rfl
set_option maxRecDepth 100000 in
theorem xl1 : (lxW X1).map tkW = [⟨1, [105, 102]⟩, ⟨3, [120]⟩, ⟨7, [61, 61]⟩, ⟨6, [49]⟩, ⟨1, [97, 110, 100]⟩, ⟨7, [33]⟩, ⟨3, [121]⟩, ⟨7, [123]⟩, ⟨1, [105, 110, 99, 108, 117, 100, 101]⟩, ⟨1, [97]⟩, ⟨7, [125]⟩] := by kernel_rfl
set_option maxRecDepth 100000 in
theorem xl2 : (lxW X2).map tkW = [⟨1, [102, 105, 108, 101]⟩, ⟨7, [123]⟩, ⟨4, [47, 97]⟩, ⟨7, [58]⟩, ⟨1, [109, 111, 100, 101]⟩, ⟨7, [61, 62]⟩, ⟨4, [48, 54, 48, 48]⟩, ⟨7, [125]⟩] := by kernel_rfl
theorem ok1 : D1.Ok TkC := by
  have h := lxW_tk X1
  rw [xl1] at h
  exact ⟨⟨⟨by decide, ⟨by decide, ⟨by omega, h _ (by simp [leafK])⟩, ⟨by omega, h _ (by simp [leafK])⟩⟩, ⟨by omega, h _ (by simp [leafK])⟩⟩, ⟨⟨by decide, h _ (by simp)⟩, trivial⟩⟩, trivial⟩
theorem ok2 : D2.Ok TkC := by
  have h := lxW_tk X2
  rw [xl2] at h
  refine ⟨⟨by decide, h _ (by simp), ⟨by omega, h _ (by simp [leafK])⟩, fun a ha => ?_⟩, trivial⟩
  simp at ha
  subst ha
  exact ⟨by decide, h _ (by simp), ⟨by omega, h _ (by simp [leafK])⟩⟩
theorem dp1 : depN (topL D1) = 5 := by kernel_rfl
theorem dp2 : depN (topL D2) = 4 := by kernel_rfl
theorem tl1 : (topL D1).length = 10 := by kernel_rfl
theorem tl2 : (topL D2).length = 5 := by kernel_rfl
set_option maxRecDepth 100000 in
set_option maxHeartbeats 4000000 in
theorem pshown_any (hpr : PrC) (hch : ChZ) : ShP := by
  intro w
  have HPR := Lib.hid hpr
  have HCH := Lib.hid hch
  have L1 := Lib.hid (fun w => parena_any ⟨#[105, 102, 32, 36, 120, 61, 61, 49, 32, 97, 110, 100, 32, 33, 36, 121, 123, 105, 110, 99, 108, 117, 100, 101, 32, 97, 125]⟩ (topL D1) (topL D1).length w (by decide) (by rw [show bl ⟨#[105, 102, 32, 36, 120, 61, 61, 49, 32, 97, 110, 100, 32, 33, 36, 121, 123, 105, 110, 99, 108, 117, 100, 101, 32, 97, 125]⟩ = X1 from rfl, xl1]; decide) (by rw [show bl ⟨#[105, 102, 32, 36, 120, 61, 61, 49, 32, 97, 110, 100, 32, 33, 36, 121, 123, 105, 110, 99, 108, 117, 100, 101, 32, 97, 125]⟩ = X1 from rfl, xp1]) rfl)
  have L2 := Lib.hid (fun w => parena_any ⟨#[102, 105, 108, 101, 123, 39, 47, 97, 39, 58, 109, 111, 100, 101, 61, 62, 39, 48, 54, 48, 48, 39, 125]⟩ (topL D2) (topL D2).length w (by decide) (by rw [show bl ⟨#[102, 105, 108, 101, 123, 39, 47, 97, 39, 58, 109, 111, 100, 101, 61, 62, 39, 48, 54, 48, 48, 39, 125]⟩ = X2 from rfl, xl2]; decide) (by rw [show bl ⟨#[102, 105, 108, 101, 123, 39, 47, 97, 39, 58, 109, 111, 100, 101, 61, 62, 39, 48, 54, 48, 48, 39, 125]⟩ = X2 from rfl, xp2]) rfl)
  simp only [tl1] at L1
  simp only [tl2] at L2
  have e1 : strL (prtO D1) = ⟨#[105, 102, 32, 40, 40, 36, 120, 32, 61, 61, 32, 49, 41, 32, 97, 110, 100, 32, 33, 36, 121, 41, 32, 123, 10, 32, 32, 105, 110, 99, 108, 117, 100, 101, 32, 97, 10, 125, 10]⟩ := by unfold prtO; rw [xt1]; rfl
  have g1 : prtE D1 = 0 := by unfold prtE; rw [xt1]; rfl
  have e2 : strL (prtO D2) = ⟨#[102, 105, 108, 101, 32, 123, 32, 39, 47, 97, 39, 58, 32, 109, 111, 100, 101, 32, 61, 62, 32, 39, 48, 54, 48, 48, 39, 32, 125, 10]⟩ := by unfold prtO; rw [xt2]; rfl
  have g2 : prtE D2 = 0 := by unfold prtE; rw [xt2]; rfl
  have HE := Lib.hid (And.intro e1 (And.intro g1 (And.intro e2 g2)))
  clear hpr hch e1 g1 e2 g2
  go_enter Tryz.func6, Tryz.ntmps6
  go_wp2_with fail
  refine (L1.out _).mono ?_
  rintro e w1 ⟨a1, c1, rfl, hn, hk⟩
  have HP1 := Lib.hid (HPR.out (.slice a1 10 c1) D1 w1 ok1 (by rw [tl1]; omega) (by rw [dp1]; omega) hn)
  rw [HE.out.1, HE.out.2.1] at HP1
  have HK1 : Hid (Kept [] w w1) := (Kept.refl _ _).trans hk
  clear hn hk
  go_wp2_with fail
  refine HP1.out.mono ?_
  rintro e w2 ⟨rfl, hk⟩
  have HQ1 : Hid (Kept [] w w2) := HK1.out.trans hk
  clear hk
  go_wp2_with fail
  refine (L2.out _).mono ?_
  rintro e w3 ⟨a2, c2, rfl, hn, hk⟩
  have HP2 := Lib.hid (HPR.out (.slice a2 5 c2) D2 w3 ok2 (by rw [tl2]; omega) (by rw [dp2]; omega) hn)
  rw [HE.out.2.2.1, HE.out.2.2.2] at HP2
  have HK2 : Hid (Kept [] w w3) := HQ1.out.trans hk
  clear hn hk
  go_wp2_with fail
  refine HP2.out.mono ?_
  rintro e w4 ⟨rfl, hk⟩
  have HQ2 : Hid (Kept [] w w4) := HK2.out.trans hk
  clear hk
  go_wp2_with fail
  refine (HCH.out _).mono ?_
  rintro e w5 ⟨rfl, hk⟩
  have HF : Hid (Kept [] w w5) := HQ2.out.trans hk
  clear hk
  go_wp2_with fail
  go_ret
  exact ⟨rfl, HF.out⟩
end Go.Proofs.YtfpdgdacifiejaaGreat

namespace Go.Proofs.YtfpdgdacifiejaaGreat
open Go.RowKit Go.Maps

set_option maxRecDepth 100000 in
set_option maxHeartbeats 4000000 in
theorem pCheck_none (v : Value) (w : World) (h : NdIs w v []) :
    Calls Tryz.prog 14 #[.agg #[v]] w fun e w' => e = .returned (.int .i64 120) ∧ Kept [] w w' := by
  have HORD := Lib.hid (fun wx hx => (pinOrder_any v [] wx hx (fun i hi => by simp at hi) (by simp)))
  have HNS := Lib.hid h
  obtain ⟨na, nc, rfl, _⟩ := h
  rw [show ([] : List Nod).length = 0 from rfl] at HORD HNS ⊢
  obtain ⟨w1, hw1⟩ : ∃ w1, w.alloc (.cells #[.slice na 0 nc] 29) = w1 := ⟨_, rfl⟩
  have H1 : Hid (Kept [] w w1) := by rw [← hw1]; exact Kept.alloc _ _ _
  have a0 : w1.cell? ⟨w.heap.size, 0, none⟩ = some (.slice na 0 nc) := by rw [← hw1]; exact cell_of_row _ _ 0 _ _ _ (heap_alloc_last _ _)
  have HP : Hid (Calls Tryz.prog 28 #[.slice na 0 nc] w1 fun e w' => e = .returned (.bool false) ∧ Kept [] w1 w') := (HORD.out w1 (HNS.out.kept H1.out)).mono fun e w' ⟨he, hk⟩ => ⟨by rw [he]; rfl, hk⟩
  go_enter Tryz.func14, Tryz.ntmps14
  go_wp2_with fail
  refine HP.out.mono ?_
  rintro e w2 ⟨rfl, hk2⟩
  have H2 : Hid (Kept [] w w2) := H1.out.trans hk2
  clear hk2 a0 hw1
  go_wp2_with fail
  go_ret
  exact ⟨rfl, H2.out⟩
theorem pch_z : ChZ := fun w => pCheck_none _ w ⟨none, 0, rfl, by simp, by omega, fun h => by simp at h⟩
set_option maxRecDepth 100000 in
set_option maxHeartbeats 4000000 in
theorem ppr_z : PrZ := by
  intro v w h
  have HC := Lib.hid (fun wx (hk : Kept [] w wx) => pCheck_none v wx (h.kept hk))
  obtain ⟨na, nc, rfl, _⟩ := h
  rw [show ([] : List Nod).length = 0 from rfl] at HC ⊢
  obtain ⟨w1, hw1⟩ : ∃ w1, w.alloc (.cells #[.slice na 0 nc] 29) = w1 := ⟨_, rfl⟩
  have H1 : Hid (Kept [] w w1) := by rw [← hw1]; exact Kept.alloc _ _ _
  have a0 : w1.cell? ⟨w.heap.size, 0, none⟩ = some (.slice na 0 nc) := by rw [← hw1]; exact cell_of_row _ _ 0 _ _ _ (heap_alloc_last _ _)
  go_enter Tryz.func9, Tryz.ntmps9
  go_wp2_with fail
  refine (HC.out w1 H1.out).mono ?_
  rintro e w2 ⟨rfl, hk2⟩
  have H2 : Hid (Kept [] w w2) := H1.out.trans hk2
  clear hk2 a0 hw1
  go_wp2_with fail
  go_ret2
  exact ⟨rfl, H2.out⟩
theorem ends_mem : ∀ (l : List (List UInt8)) (x : List UInt8), x ∈ l → x.length ≤ (endsT l).length
  | a :: r, x, h => by
    simp only [endsT, List.length_append, List.length_cons]
    rcases List.mem_cons.1 h with rfl | h
    · omega
    · have := ends_mem r x h
      omega
theorem ahS0 : ahS 0 = [] := rfl
/-- What there is of a manifest's statements, in a world in which it lies. -/
theorem top_pcs {W : World} {nv : Value} {b : SlT} (h : NdIs W nv (topL b)) (ho : b.Ok TkC) (h1 : (topL b).length ≤ 1024) : PCs W nv 1024 (b.idx 0) (b.ls.map fun s bl => s.txt (ahS bl)) := by
  have hin : InN (topL b) 0 (b.lay 0 ++ [⟨1, [], b.idx 0⟩]) := InN.self _
  rw [topL_len] at h1
  exact SlT.pct h b 0 1024 hin.left ho (by omega)
set_option maxRecDepth 100000 in
set_option maxHeartbeats 8000000 in
theorem ppr_c : PrC := by
  intro v b w ho h1 h2 h
  have HCK := Lib.hid (fun wx (hk : Kept [] w wx) => pCheck_good v b wx ho h1 h2 (h.kept hk))
  have hin : InN (topL b) 0 (b.lay 0 ++ [⟨1, [], b.idx 0⟩]) := InN.self _
  have hlast : (topL b)[b.size]? = some ⟨1, [], b.idx 0⟩ := by
    have := (hin.right (b.len 0)).one
    rwa [Nat.zero_add] at this
  obtain ⟨n, hn⟩ : ∃ n, b.size = n := ⟨_, rfl⟩
  have hlen : (topL b).length = n + 1 := by rw [topL_len, hn]
  rw [hn] at hlast
  obtain ⟨hnl, hlast⟩ := List.getElem?_eq_some_iff.1 hlast
  have HNS := Lib.hid h
  have HPC := Lib.hid (fun (W : World) (hk : Kept [] w W) => top_pcs (h.kept hk) ho h1)
  have HTL := Lib.hid (top_long ho h1)
  obtain ⟨na, nc, rfl, hnc, hn63, hnat⟩ := h
  obtain ⟨nb, no, rfl, hnb, hc⟩ := hnat (by omega)
  obtain ⟨e0, e1, lv, e2, hks⟩ := hc n hnl
  rw [hlast] at e0 e1 hks
  rw [hlen] at hnc HNS HCK HPC ⊢
  have HNB := Lib.hid hnb
  have HE := Lib.hid (show w.cell? ⟨nb, no + n * 3, none⟩ = some (.int .i64 1) ∧ w.cell? ⟨nb, no + n * 3 + 1, none⟩ = some (.string ⟨#[]⟩) ∧ w.cell? ⟨nb, no + n * 3 + 2, none⟩ = some lv from ⟨e0, e1, e2⟩)
  have HKS : Hid (KsIs w lv (b.idx 0)) := hks
  obtain ⟨la, m, lc, hlv⟩ : ∃ a m c, lv = .slice a m c := by obtain ⟨a, c, e, _⟩ := hks; exact ⟨a, _, c, e⟩
  subst hlv
  obtain ⟨w1, hw1⟩ : ∃ w1, w.alloc (.cells #[.slice (some ⟨nb, no, none⟩) (n + 1) nc] 29) = w1 := ⟨_, rfl⟩
  have H1 : Hid (Kept [] w w1 ∧ w1.heap[w.heap.size]? = some (.cells #[.slice (some ⟨nb, no, none⟩) (n + 1) nc] 29)) := by
    rw [← hw1]
    exact ⟨Kept.alloc _ _ _, heap_alloc_last _ _⟩
  have a1 : w1.cell? ⟨w.heap.size, 0, none⟩ = some (.slice (some ⟨nb, no, none⟩) (n + 1) nc) := cell_of_row _ _ 0 _ _ _ H1.out.2
  have hw : IntKind.i64.wrap (((n + 1 : Nat) : Int) - 1) = (n : Int) := by rw [IntKind.wrap_i64]; omega
  have hnn : n < n + 1 := by omega
  clear hnat hc hn hlen hlast hin e0 e1 e2 hks hnb h1 h2 ho hnl
  go_enter Tryz.func9, Tryz.ntmps9
  go_wp2_with fail
  refine (HCK.out w1 H1.out.1).mono ?_
  rintro e w2 ⟨rfl, hk2⟩
  have H2 : Hid (Kept [] w w2 ∧ Kept [] w1 w2) := ⟨H1.out.1.trans hk2, hk2⟩
  have a2 : w2.cell? ⟨w.heap.size, 0, none⟩ = some (.slice (some ⟨nb, no, none⟩) (n + 1) nc) := cell_of_row _ _ 0 _ _ _ (hk2.heap (by simp) H1.out.2)
  have f0 := (H2.out.1.cell (p := ⟨nb, no + n * 3, none⟩) HNB.out (by simp)).trans HE.out.1
  have f1 := (H2.out.1.cell (p := ⟨nb, no + n * 3 + 1, none⟩) HNB.out (by simp)).trans HE.out.2.1
  have f2 := (H2.out.1.cell (p := ⟨nb, no + n * 3 + 2, none⟩) HNB.out (by simp)).trans HE.out.2.2
  obtain ⟨w3, hw3⟩ : ∃ w3, w2.alloc (.cells #[.int .i64 1, .string ⟨#[]⟩, .slice la m lc] 41) = w3 := ⟨_, rfl⟩
  have H3 : Hid (Kept [] w w3 ∧ w3.heap[w2.heap.size]? = some (.cells #[.int .i64 ((1 : Nat) : Int), .string (strL []), .slice la m lc] 41)) := by
    rw [← hw3]
    exact ⟨H2.out.1.trans (Kept.alloc _ _ _), heap_alloc_last _ _⟩
  have r3 : w3.heap[w.heap.size]? = some (.cells #[.slice (some ⟨nb, no, none⟩) (n + 1) nc] 29) := by rw [← hw3]; exact (Kept.alloc [] w2 _).heap (by simp) (hk2.heap (by simp) H1.out.2)
  have a3 : w3.cell? ⟨w.heap.size, 0, none⟩ = some (.slice (some ⟨nb, no, none⟩) (n + 1) nc) := cell_of_row _ _ 0 _ _ _ r3
  clear hk2 a1 hw1 r3
  have HTX : Hid (endsT ((b.ls.map fun s bl => s.txt (ahS bl)).map fun f : Nat → List UInt8 => f 0) = b.txt []) := by
    show _ = _
    rw [List.map_map, ← ends_txt]
    rfl
  have HLD := Lib.hid (plaid_any (.slice (some ⟨nb, no, none⟩) (n + 1) nc) (topL b) (b.txt []) w3 22 #[.pointer (some ⟨w2.heap.size, 0, none⟩)] enters_pPrint1 (HNS.out.kept H3.out.1) (by have := HTL.out; omega)
    (fun p wx hp hkx hs => by
      have := pPrint1_any w3 (.slice (some ⟨nb, no, none⟩) (n + 1) nc) 1024 (b.idx 0) _ (.slice la m lc) (HKS.out.kept H3.out.1) (HPC.out w3 H3.out.1) 1 [] w2.heap.size (by omega) H3.out.2 (by rw [HTX.out]; have := HTL.out; omega) p wx hp hkx hs
      rw [HTX.out] at this
      exact this))
  go_wp2_with fail
  refine HLD.out.mono ?_
  rintro e w4 ⟨rfl, hk4⟩
  have H4 : Hid (Kept [] w w4) := H3.out.1.trans hk4
  have hsz : (strL (b.txt [])).size = (b.txt []).length := strL_size _
  have HPO : Hid (prtO b = (if 65536 < (b.txt []).length then [] else b.txt []) ∧ prtE b = (if 65536 < (b.txt []).length then 5 else 0)) := ⟨rfl, rfl⟩
  obtain ⟨X, hX⟩ : ∃ X, b.txt [] = X := ⟨_, rfl⟩
  rw [hX] at hsz HPO ⊢
  obtain ⟨t, ht⟩ : ∃ t, strL X = t := ⟨_, rfl⟩
  rw [ht] at hsz ⊢
  have HT := Lib.hid ht
  clear hk4 f0 f1 f2 a2 a3 hw3 hX ht
  by_cases hc : 65536 < X.length
  · have hci : (65536 : Int) < (t.size : Int) := by omega
    rw [if_pos hc, if_pos hc] at HPO
    clear hsz hc
    go_wp2_with fail
    go_ret2
    exact ⟨by rw [HPO.out.1, HPO.out.2]; rfl, H4.out⟩
  · have hci : ¬ (65536 : Int) < (t.size : Int) := by omega
    rw [if_neg hc, if_neg hc] at HPO
    clear hsz hc
    go_wp2_with fail
    go_ret2
    exact ⟨by rw [HPO.out.1, HPO.out.2, HT.out]; rfl, H4.out⟩
set_option maxRecDepth 100000 in
set_option maxHeartbeats 8000000 in
theorem pva_node (v : Value) (b : SlT) (w : World) (ho : b.Ok TkC) (h1 : (topL b).length ≤ 1024) (h2 : depN (topL b) ≤ 32) (h : NdIs w v (topL b)) (k : Nat) (hk : k < b.ls.length) (hk2 : k < (b.idx 0).length) :
    Calls Tryz.prog 12 #[.agg #[v], .int .i64 ((b.idx 0)[k] : Int)] w fun e w' => e = .returned (.string (strL (b.ls[k].txt []))) ∧ Kept [] w w' := by
  have HCK := Lib.hid (fun wx (hk : Kept [] w wx) => pCheck_good v b wx ho h1 h2 (h.kept hk))
  have hlen : (topL b).length = b.size + 1 := topL_len b
  have hkm : k < (b.ls.map fun s bl => s.txt (ahS bl)).length := by rw [List.length_map]; exact hk
  have HPC := Lib.hid (fun (W : World) (hkw : Kept [] w W) => (top_pcs (h.kept hkw) ho h1).get k hk2 hkm)
  have hin : InN (topL b) 0 (b.lay 0 ++ [⟨1, [], b.idx 0⟩]) := InN.self _
  have hlast : (topL b)[b.size]? = some ⟨1, [], b.idx 0⟩ := by
    have := (hin.right (b.len 0)).one
    rwa [Nat.zero_add] at this
  have hi : (b.idx 0)[k] < b.size := by
    have hz := (top_ar ho h1 h2).seg.kids b.size (Nat.zero_le _) (by rw [hlen]; omega) ((b.idx 0)[k]) (by unfold kidsN; rw [hlast]; exact List.getElem_mem hk2)
    exact hz.2
  have HTL : Hid ((b.ls[k].txt []).length ≤ 100000000) := by
    show _ ≤ _
    have := ends_mem (b.ls.map fun s => s.txt []) (b.ls[k].txt []) (List.mem_map.2 ⟨_, List.getElem_mem hk, rfl⟩)
    rw [ends_txt] at this
    have := top_long ho h1
    omega
  have HFX : Hid ((b.ls.map fun (s : StT) (bl : Nat) => s.txt (ahS bl))[k] 0 = b.ls[k].txt []) := by
    show _ = _
    rw [List.getElem_map]
    rfl
  obtain ⟨f, hf⟩ : ∃ f : Nat → List UInt8, (b.ls.map fun (s : StT) (bl : Nat) => s.txt (ahS bl))[k] = f := ⟨_, rfl⟩
  rw [hf] at HPC HFX
  obtain ⟨T, hT⟩ : ∃ T, b.ls[k].txt [] = T := ⟨_, rfl⟩
  rw [hT] at HTL HFX ⊢
  obtain ⟨i, hie⟩ : ∃ i, (b.idx 0)[k] = i := ⟨_, rfl⟩
  rw [hie] at hi HPC ⊢
  obtain ⟨N, hN⟩ : ∃ N, b.size + 1 = N := ⟨_, rfl⟩
  have HNS := Lib.hid h
  obtain ⟨na, nc, rfl, hnc, _⟩ := h
  rw [hlen, hN] at hnc HNS HCK HPC ⊢
  have hiN : i < N := by omega
  obtain ⟨w1, hw1⟩ : ∃ w1, w.alloc (.cells #[.slice na N nc] 29) = w1 := ⟨_, rfl⟩
  obtain ⟨w2, hw2⟩ : ∃ w2, w1.alloc (.cells #[.int .i64 (i : Int)] 3) = w2 := ⟨_, rfl⟩
  have H2 : Hid (Kept [] w w2 ∧ w2.heap[w.heap.size]? = some (.cells #[.slice na N nc] 29) ∧ w2.heap[w1.heap.size]? = some (.cells #[.int .i64 (i : Int)] 3)) := by
    have g1 : Kept [] w w1 := by rw [← hw1]; exact Kept.alloc _ _ _
    have g2 : Kept [] w1 w2 := by rw [← hw2]; exact Kept.alloc _ _ _
    exact ⟨g1.trans g2, g2.heap (by simp) (by rw [← hw1]; exact heap_alloc_last _ _), by rw [← hw2]; exact heap_alloc_last _ _⟩
  have a0 : w2.cell? ⟨w.heap.size, 0, none⟩ = some (.slice na N nc) := cell_of_row _ _ 0 _ _ _ H2.out.2.1
  have a1 : w2.cell? ⟨w1.heap.size, 0, none⟩ = some (.int .i64 (i : Int)) := cell_of_row _ _ 0 _ _ _ H2.out.2.2
  have h0 : ¬ (i : Int) < 0 := by omega
  have hN2 : ¬ (N : Int) ≤ (i : Int) := by omega
  clear hf hT hie hN hlen hin hlast ho h1 h2 hk hk2 hkm hi
  go_enter Tryz.func12, Tryz.ntmps12
  go_wp2_with fail
  refine (HCK.out w2 H2.out.1).mono ?_
  rintro e w3 ⟨rfl, hk3⟩
  have H3 : Hid (Kept [] w w3 ∧ w3.heap[w1.heap.size]? = some (.cells #[.int .i64 (i : Int)] 3)) := ⟨H2.out.1.trans hk3, hk3.heap (by simp) H2.out.2.2⟩
  have a3 : w3.cell? ⟨w.heap.size, 0, none⟩ = some (.slice na N nc) := cell_of_row _ _ 0 _ _ _ (hk3.heap (by simp) H2.out.2.1)
  have HLD := Lib.hid (plaid_any (.slice na N nc) (topL b) T w3 25 #[.pointer (some ⟨w1.heap.size, 0, none⟩)] enters_pValue1 (HNS.out.kept H3.out.1) (by have := HTL.out; omega)
    (fun p wx hp hkx hs => by
      have := pValue1_any w3 (.slice na N nc) 1024 i f (HPC.out w3 H3.out.1) w1.heap.size (by omega) H3.out.2 (by rw [HFX.out]; have := HTL.out; omega) p wx hp hkx hs
      rw [HFX.out] at this
      exact this))
  clear hk3 a0 a1 hw2 hw1
  go_wp2_with fail
  refine HLD.out.mono ?_
  rintro e w4 ⟨rfl, hk4⟩
  have H4 : Hid (Kept [] w w4) := H3.out.1.trans hk4
  clear hk4 a3
  go_wp2_with fail
  go_ret
  exact ⟨rfl, H4.out⟩
set_option maxRecDepth 100000 in
set_option maxHeartbeats 8000000 in
theorem pva_out (v : Value) (ns : List Nod) (w : World) (h : NdIs w v ns) (i : Int) (hi : i < 0 ∨ (ns.length : Int) ≤ i) :
    Calls Tryz.prog 12 #[.agg #[v], .int .i64 i] w fun e w' => e = .returned (.string ⟨#[]⟩) ∧ Kept [] w w' := by
  obtain ⟨na, nc, rfl, hnc, _⟩ := h
  obtain ⟨N, hN⟩ : ∃ N, ns.length = N := ⟨_, rfl⟩
  rw [hN] at hi hnc ⊢
  obtain ⟨w1, hw1⟩ : ∃ w1, w.alloc (.cells #[.slice na N nc] 29) = w1 := ⟨_, rfl⟩
  obtain ⟨w2, hw2⟩ : ∃ w2, w1.alloc (.cells #[.int .i64 i] 3) = w2 := ⟨_, rfl⟩
  have H2 : Hid (Kept [] w w2 ∧ w2.heap[w.heap.size]? = some (.cells #[.slice na N nc] 29) ∧ w2.heap[w1.heap.size]? = some (.cells #[.int .i64 i] 3)) := by
    have g1 : Kept [] w w1 := by rw [← hw1]; exact Kept.alloc _ _ _
    have g2 : Kept [] w1 w2 := by rw [← hw2]; exact Kept.alloc _ _ _
    exact ⟨g1.trans g2, g2.heap (by simp) (by rw [← hw1]; exact heap_alloc_last _ _), by rw [← hw2]; exact heap_alloc_last _ _⟩
  have a0 : w2.cell? ⟨w.heap.size, 0, none⟩ = some (.slice na N nc) := cell_of_row _ _ 0 _ _ _ H2.out.2.1
  have a1 : w2.cell? ⟨w1.heap.size, 0, none⟩ = some (.int .i64 i) := cell_of_row _ _ 0 _ _ _ H2.out.2.2
  clear hN
  by_cases h0 : i < 0
  · go_enter Tryz.func12, Tryz.ntmps12
    go_wp2_with fail
    go_ret
    exact ⟨rfl, H2.out.1⟩
  · have h1 : (N : Int) ≤ i := by omega
    clear hi
    go_enter Tryz.func12, Tryz.ntmps12
    go_wp2_with fail
    go_ret
    exact ⟨rfl, H2.out.1⟩
theorem pva_c : VaC := fun v b w ho h1 h2 h => ⟨fun k hk hk2 => pva_node v b w ho h1 h2 h k hk hk2, fun i hi => pva_out v (topL b) w h i hi⟩
theorem psh_p : ShP := pshown_any ppr_c pch_z
end Go.Proofs.YtfpdgdacifiejaaGreat

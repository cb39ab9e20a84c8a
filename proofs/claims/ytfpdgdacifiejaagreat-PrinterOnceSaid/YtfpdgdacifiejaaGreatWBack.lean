/-
  Layer 12: the document's Parse answers what parO says.
  Conditions: those that each theorem states.
  Layer 12: the document's Parse: RParC.
  Conditions: none.
  Layer 12: two arenas of the same nodes are the same.
  Conditions: those that the theorem states.
  Layer 13: what Print answers; read, printed, cut, read again.
  Conditions: those that each theorem states.
  Layer 13: PrinterBack, over what Parse and Print answer.
  Conditions: those that the theorem states.
-/
import Derived.Test.YtfpdgdacifiejaaGreatVRStm
import Derived.Test.YtfpdgdacifiejaaGreatVRIs
import Derived.Laws.ResultCell
import Derived.Test.YtfpdgdacifiejaaGreatUCut
import Derived.BigQuiet
import Derived.Test.YtfpdgdacifiejaaGreatVDepP
import Derived.Test.YtfpdgdacifiejaaGreatULex
namespace Go.Proofs.YtfpdgdacifiejaaGreat
open Go.RowKit Go.Maps

theorem results_row3 {P : Program} {fn : Func} {p u v : Tmp} {ty : TypeId} (h : fn.results = #[.cell p ty, .tmp u, .tmp v]) (tmps : Array Value) (w : World) (g : Nat) (t : TypeId) (cs : Array Value) (d : TypeDesc)
    (hp : tmps.getD p undef = .pointer (some ⟨g, 0, none⟩)) (hg : w.heap[g]? = some (.cells cs t)) (hu : P.underlying ty = some d) (hd : d.isRow = true) (hi : (P.info? ty).map (·.size) = some cs.size) :
    (results fn tmps).run P w = .ok (.tuple #[.agg cs, tmps.getD u undef, tmps.getD v undef]) w := by
  have hl := run_loadVar_mid (P := P) w g 0 ty cs.toList d (fun j v hv => by rw [Nat.zero_add, cell_of_row w g j _ _ _ hg]; simpa using hv) hu hd (by simpa using hi)
  have hp' : tmps[p]?.getD undef = .pointer (some ⟨g, 0, none⟩) := by simpa using hp
  simp [results, h, hp', asAddr, hl, Result.andThen]
theorem par_badR {l : List Tok} {k y : Nat} (h : QR (topF (stmtF 5000) 5000 []) (.good ⟨l, []⟩) y (.bad k)) (hl : ¬ 4096 < l.length) : parO l = ([], l.length - k, 120) := by
  unfold QR at h
  simp only at h
  unfold parO
  rw [if_neg hl]
  cases hq : topF (stmtF 5000) 5000 [] ⟨l, []⟩ with
  | ok s a => rw [hq] at h; cases h.1
  | err r =>
    rw [hq] at h
    injection h with h
    subst h
    rfl
theorem par_goodR {l : List Tok} {y : Nat} {s : PSt} (h : QR (topF (stmtF 5000) 5000 []) (.good ⟨l, []⟩) y (.good s)) (hl : ¬ 4096 < l.length) :
    parO l = (if 1024 < s.ns.length ∨ 32 < depN s.ns then ([], 0, 5) else (s.ns, 0, 0)) ∧ 0 < s.ns.length ∧ ∀ i (hi : i < s.ns.length), ∀ x ∈ s.ns[i].ks, x < i := by
  obtain ⟨s0, e, h1⟩ := h.back
  injection e with e
  subst e
  refine ⟨?_, ?_⟩
  · unfold parO
    rw [if_neg hl, h1]
  · have hsg := (Tl.top (Tr.stmt 5000) 5000 [] ⟨l, []⟩ s y 0 (Seg.nil 0) h1).2
    have hx := hsg.last
    refine ⟨by omega, fun i hi x hx => (hsg.kids i (by omega) (by omega) x (by unfold kidsN; rw [List.getElem?_eq_getElem hi]; exact hx)).2⟩
theorem top_outR {st : Prs Nat} {j : Nat} {L : List Nat} {q q' : QSt} {y : Nat} (hb : q.isBad = true ∨ (∃ s, q = .good s ∧ s.r = [] ∧ 0 < j)) (h : QR (pnode 1 [] L) q y q') : QR (topF st j L) q y q' := by
  rcases hb with hb | ⟨s, rfl, h1, h2⟩
  · cases q with
    | bad k => exact h
    | good s => cases hb
  · obtain ⟨r, ns⟩ := s
    simp only at h1
    subst h1
    obtain ⟨j', rfl⟩ : ∃ j', j = j' + 1 := ⟨j - 1, by omega⟩
    exact h
theorem top_goR {st : Prs Nat} {j : Nat} {L : List Nat} {s : PSt} {q' : QSt} {y : Nat} (h1 : s.r ≠ []) (h : QR (pbind st fun x => topF st j (L ++ [x])) (.good s) y q') : QR (topF st (j + 1) L) (.good s) y q' := by
  obtain ⟨r, ns⟩ := s
  cases r with
  | nil => exact absurd rfl h1
  | cons t r => exact h
/-- The document's Parse, as a contract. -/
def RParC : Prop := ∀ (v : Value) (l : List Tok) (w : World), TkIs w v l → (∀ t ∈ l, t.tx.length ≤ 4611686018427387904) → Calls Tryz.prog 27 #[v] w (ParOut l w)
end Go.Proofs.YtfpdgdacifiejaaGreat

namespace Go.Proofs.YtfpdgdacifiejaaGreat
open Go.RowKit Go.Maps

set_option maxRecDepth 100000 in
set_option maxHeartbeats 8000000 in
theorem rparse_pc : RParC := by
  intro va l w htk hwd
  have hlen := htk.len
  obtain ⟨⟨ao, cap, rfl, hcap, hc63, _⟩, _⟩ := id htk
  obtain ⟨w1, hw1⟩ : ∃ w1, w.alloc (.cells #[.slice none 0 0] 29) = w1 := ⟨_, rfl⟩
  obtain ⟨g, hg⟩ : ∃ g, w.heap.size = g := ⟨_, rfl⟩
  have HK1 : Hid (Kept [] w w1) := by show Kept _ _ _; rw [← hw1]; exact Kept.alloc _ _ _
  have HR1 : Hid (w1.heap[g]? = some (.cells #[.slice none 0 0] 29)) := by show _ = _; rw [← hw1, ← hg]; exact heap_alloc_last _ _
  have HGW : Hid (w.heap.size = g ∧ w1.heap.size = g + 1) := ⟨hg, by rw [← hw1, ← hg]; simp⟩
  obtain ⟨n, hn⟩ : ∃ n, l.length = n := ⟨_, rfl⟩
  have HN := Lib.hid hn
  have HTK := Lib.hid htk
  have HWD := Lib.hid hwd
  rw [hn] at HTK hlen hcap ⊢
  have c0 : w1.cell? ⟨g, 0, none⟩ = some (.slice none 0 0) := cell_of_row _ _ 0 _ _ _ HR1.out
  have f0 : ∀ q, w1.frozen? ⟨g, q, none⟩ = false := fun q => frozen_of_row _ _ q _ _ HR1.out
  clear htk hn hwd
  by_cases hlong : 4096 < n
  · have HP : Hid (parO l = ([], 0, 5)) := by show _ = _; unfold parO; rw [if_pos (by rw [HN.out]; exact hlong)]
    have q1 : decide ((4096 : Int) < (n : Int)) = true := by simp; omega
    have hz := Lib.hid (row_setJ HR1.out 0 (.slice none 0 0))
    have hk := Lib.hid (HK1.out.into (Kept.setCell [g] w1 ⟨g, 0, none⟩ (.slice none 0 0) (by simp)) (by have := HGW.out.1; simp; omega))
    go_enter Tryz.func27, Tryz.ntmps27
    go_wp2_with fail
    refine bodyPost_ret_by (results_row3 (p := 2) (u := 3) (v := 4) rfl _ _ g 29 _ _ rfl hz.out Tryz.underlying29 rfl (by kernel_rfl)) rfl ?_
    exact ParOut.mk HP.out (NdIs.nil _) hk.out
  · have q1 : decide ((4096 : Int) < (n : Int)) = false := by simp; omega
    have HNL : Hid (¬ 4096 < l.length) := by show ¬ _; rw [HN.out]; exact hlong
    obtain ⟨c, hc⟩ : ∃ c : PCx, c = ⟨w1, w1.heap.size, .slice ao n cap, l⟩ := ⟨_, rfl⟩
    have hcg : w1.heap.size = c.g := by rw [hc]
    obtain ⟨w2, hw2⟩ : ∃ w2, w1.alloc (.cells #[.slice ao n cap, .int .i64 0, .bool false, .slice none 0 0] 85) = w2 := ⟨_, rfl⟩
    have HCC : Hid (c.W = w1 ∧ c.l = l ∧ g < c.g) := ⟨by rw [hc], by rw [hc], by rw [← hcg]; have := HGW.out.2; omega⟩
    have HQ0 : Hid (QS c [] n (.good ⟨l, []⟩) w2) := by
      refine ⟨by rw [← hcg, HCC.out.1]; exact Nat.le_refl _, by simp, ⟨.slice none 0 0, [], ?_, NdsIs.nil _ _ _, fun s e => by cases e; rfl⟩, fun s e => ?_, ?_, fun s e => ?_, ?_, ?_⟩
      · rw [← hcg, ← hw2, hc]
        show _ = some (Obj.cells #[_, .int .i64 ((l.length - l.length : Nat) : Int), .bool false, _] _)
        rw [Nat.sub_self]
        exact heap_alloc_last _ _
      · cases e
        rw [HCC.out.2.1]
        simp
      · rw [HCC.out.2.1]
        exact Nat.le_refl _
      · cases e
        have := HN.out
        simp
        omega
      · rw [hc]
        exact HTK.out.kept HK1.out
      · rw [HCC.out.1, ← hw2]
        exact Kept.alloc _ _ _
    have HZS := Lib.hid (zstmts_qc c (by rw [HCC.out.2.1]; exact HWD.out) 5000)
    have HCL : Hid (c.l.length = n) := by show _ = _; rw [HCC.out.2.1]; exact HN.out
    have HNS : Hid (n ≤ 4096) := by show _ ≤ _; omega
    clear hc hlong
    go_enter Tryz.func27, Tryz.ntmps27
    go_wp2_with fail
    clear c0 f0 hw2 hcg
    go_loopw [6] (fun v6 wr => ∃ (L : List Nat) (j : Nat) (qk : QSt), Hid (LQ c [] n qk wr v6 L ∧ (qk.isBad = true ∨ qk.n < j) ∧ j ≤ 5000 ∧ (∀ s, qk = .good s → L.length + s.r.length ≤ 5000) ∧ L.length ≤ 5001 ∧ ∀ y q', QR (topF (stmtF 5000) j L) qk y q' → QR (topF (stmtF 5000) 5000 []) (.good ⟨l, []⟩) y q')) (fun _ wr => 2 * (c.l.length - atOfR c wr) + badOfR c wr)
    case atStart => exact ⟨[], 5000, .good ⟨l, []⟩, LQ.nil HQ0.out, .inr (by have := HNS.out; have := HN.out; show l.length < 5000; omega), Nat.le_refl _, fun s e => by cases e; have := HNS.out; have := HN.out; simp; omega, by simp, fun _ _ h => h⟩
    case round =>
      obtain ⟨L, j, qk, HS⟩ := hrel
      clear HQ0
      obtain ⟨ao2, cap2, hv⟩ := HS.out.1.val
      obtain ⟨LN, hLN⟩ : ∃ k, L.length = k := ⟨_, rfl⟩
      rw [hLN] at hv
      subst hv
      have HLN := Lib.hid hLN
      have HMS := Lib.hid (And.intro HS.out.1.st.meas HS.out.1.st.bad0)
      obtain ⟨_, _, _, c1, c2, _⟩ := HS.out.1.st.open
      clear hLN
      cases qk with
      | bad kb =>
        have d2 : wr.cell? ⟨c.g, 2, none⟩ = some (.bool true) := c2
        clear c1 c2
        go_wp2_with fail
        clear d2
        refine (HS.out.1.node 1 [] (by have := HNS.out; omega)).mono ?_
        rintro e w3 ⟨y, q', rfl, H⟩
        obtain rfl : q' = .bad kb := H.out.1
        have HPO : Hid (parO l = ([], l.length - kb, 120)) := par_badR (HS.out.2.2.2.2.2 y (.bad kb) (top_outR (.inl rfl) H.out.1)) HNL.out
        have hk3 : Kept [] w1 w3 := by rw [← HCC.out.1]; exact H.out.2.1.kept
        have HR3 := Lib.hid (hk3.heap (by simp) HR1.out)
        obtain ⟨_, _, _, d1, d2, _⟩ := H.out.2.1.open
        have d2 : w3.cell? ⟨c.g, 2, none⟩ = some (.bool true) := d2
        have HAT : Hid (l.length - kb = c.l.length - kb) := by show _ = _; rw [HCC.out.2.1]
        have d1 : w3.cell? ⟨c.g, 1, none⟩ = some (.int .i64 ((c.l.length - kb : Nat) : Int)) := d1
        have HLT := Lib.hid H.out.2.1.lt
        obtain ⟨a, ha⟩ : ∃ a, c.l.length - kb = a := ⟨_, rfl⟩
        rw [ha] at d1 HAT
        have HD1 := Lib.hid d1
        have z1 : ∀ w', Kept [g] w3.drew w' → w'.cell? ⟨c.g, 1, none⟩ = some (.int .i64 (a : Int)) := fun w' hk' => ((((Kept.drew [] w3).mono (by simp)).trans hk').cell (p := ⟨c.g, 1, none⟩) HLT.out (by have := HCC.out.2.2; simp; omega)).trans HD1.out
        have HK3 : Hid (Kept [] w w3) := HK1.out.trans hk3
        clear H d1 ha hk3
        unfold nV
        go_wp2_with fail
        clear d2
        refine wp_region_ord [(true, 0), (true, 1), (true, 2), (true, 3), (true, 4), (false, 5), (true, 6), (true, 7)] [g] (by kernel_rfl) (fun _ _ d _ _ h => by cases d <;> exact h) (by kernel_rfl) rfl (by kernel_rfl) (by kernel_rfl) ?_
        simp only [named, List.getD_cons_zero, List.getD_cons_succ]
        repeat (first | (apply wpGrow_take; (case hw => rfl); (case hv => intro w' hk; go_simp; with_reducible rfl); simp only [Act.put, List.setIfInBounds_toArray, List.set_cons_zero, List.set_cons_succ]) | (refine wpGrow_pass (by rfl) ?_; simp only [Act.put, List.setIfInBounds_toArray, List.set_cons_zero, List.set_cons_succ]) | (refine wpGrow_skip (by rfl) ?_; simp only [Act.put, List.setIfInBounds_toArray, List.set_cons_zero, List.set_cons_succ]))
        clear z1
        have c0 : w3.cell? ⟨g, 0, none⟩ = some (.slice none 0 0) := cell_of_row _ _ 0 _ _ _ HR3.out
        have f0 : ∀ q, w3.frozen? ⟨g, q, none⟩ = false := fun q => frozen_of_row _ _ q _ _ HR3.out
        have hz := Lib.hid (row_setJ HR3.out 0 (.slice none 0 0))
        refine wpGrow_force (by rfl) (fun K hK => ?_)
        go_simp
        refine hK _ _ (Kept.setCell _ _ _ _ (by simp)) ?_
        clear hK K c0 f0
        repeat (first | (apply wpGrow_take; (case hw => rfl); (case hv => intro w' hk; go_simp; with_reducible rfl); simp only [Act.put, List.setIfInBounds_toArray, List.set_cons_zero, List.set_cons_succ]) | (refine wpGrow_pass (by rfl) ?_; simp only [Act.put, List.setIfInBounds_toArray, List.set_cons_zero, List.set_cons_succ]) | (refine wpGrow_skip (by rfl) ?_; simp only [Act.put, List.setIfInBounds_toArray, List.set_cons_zero, List.set_cons_succ]))
        refine wpGrow_nil ?_
        go_wp2_with fail
        refine bodyPost_ret_by (results_row3 (p := 2) (u := 3) (v := 4) rfl _ _ g 29 _ _ rfl hz.out Tryz.underlying29 rfl (by kernel_rfl)) rfl ?_
        exact ParOut.mk (by rw [HPO.out, HAT.out]) (NdIs.nil _) ((HK3.out.trans (Kept.drew _ _)).into (Kept.setCell [g] _ ⟨g, 0, none⟩ (.slice none 0 0) (by simp)) (by have := HGW.out.1; simp; omega))
      | good s =>
        have d2 : wr.cell? ⟨c.g, 2, none⟩ = some (.bool false) := c2
        have d1 : wr.cell? ⟨c.g, 1, none⟩ = some (.int .i64 ((c.l.length - s.r.length : Nat) : Int)) := c1
        clear c1 c2
        rw [HCL.out] at d1
        have hlt : s.r.length < j := by
          rcases HS.out.2.1 with h | h
          · cases h
          · exact h
        obtain ⟨j', rfl⟩ : ∃ j', j = j' + 1 := ⟨j - 1, by omega⟩
        have HLT := Lib.hid hlt
        have hle : s.r.length ≤ n := by have := HS.out.1.st.le; rw [HCL.out] at this; exact this
        clear hlt
        by_cases hr : s.r = []
        · rw [hr] at d1
          have d1 : wr.cell? ⟨c.g, 1, none⟩ = some (.int .i64 (n : Int)) := d1
          have HR := Lib.hid hr
          have hnn : ¬ (n : Int) < (n : Int) := by omega
          have hnd : decide (n < n) = false := by simp
          clear hr hle
          go_wp2_with fail
          clear d1 d2 hnn hnd
          refine (HS.out.1.node 1 [] (by have := HNS.out; omega)).mono ?_
          rintro e w3 ⟨y, q', rfl, H⟩
          obtain ⟨rfl, _⟩ : q' = .good ⟨s.r, s.ns ++ [(⟨1, [], L⟩ : Nod)]⟩ ∧ y = s.ns.length := H.out.1
          have HPO := Lib.hid (par_goodR (HS.out.2.2.2.2.2 y _ (top_outR (.inr ⟨s, rfl, HR.out, by omega⟩) H.out.1)) HNL.out)
          obtain ⟨s2, hs2⟩ : ∃ s2 : PSt, (⟨s.r, s.ns ++ [(⟨1, [], L⟩ : Nod)]⟩ : PSt) = s2 := ⟨_, rfl⟩
          rw [hs2] at H HPO
          have hk3 : Kept [] w1 w3 := by rw [← HCC.out.1]; exact H.out.2.1.kept
          have HR3 := Lib.hid (hk3.heap (by simp) HR1.out)
          have HK3 : Hid (Kept [] w w3) := HK1.out.trans hk3
          have hfew := H.out.2.1.few s2 rfl
          obtain ⟨nv, ns, _, _, e2, e3, _, hnds, _, hns⟩ := H.out.2.1.open
          have hns := hns s2 rfl
          subst hns
          obtain ⟨na, nc, hnv⟩ := hnds.val
          have e2 : w3.cell? ⟨c.g, 2, none⟩ = some (.bool false) := e2
          obtain ⟨N, hN⟩ : ∃ N, s2.ns.length = N := ⟨_, rfl⟩
          have HDP := Lib.hid (zDepth_any nv s2.ns N w3 hN (by have := HPO.out.2.1; omega) (by have := HNS.out; omega) HPO.out.2.2 hnds.nd)
          rw [hN] at hnv
          rw [hnv] at e3 HDP
          have HND : Hid (∀ ex w', (∀ z ∈ ex, z ≤ c.g) → Kept ex w3 w' → NdIs w' (.slice na N nc) s2.ns) := fun ex w' h1 h2 => by
            rw [← hnv]
            exact (hnds.low h2 h1).nd
          obtain ⟨D, hD⟩ : ∃ D, depN s2.ns = D := ⟨_, rfl⟩
          rw [hD] at HDP
          have HPP : Hid (parO l = if 1024 < N ∨ 32 < D then ([], 0, 5) else (s2.ns, 0, 0)) := by
            show _ = _
            rw [HPO.out.1, hN, hD]
          have HLT2 := Lib.hid H.out.2.1.lt
          unfold nV
          clear H hs2 hk3 hfew hnds hnv hN hD
          have c0 : w3.cell? ⟨g, 0, none⟩ = some (.slice none 0 0) := cell_of_row _ _ 0 _ _ _ HR3.out
          have f0 : ∀ q, w3.frozen? ⟨g, q, none⟩ = false := fun q => frozen_of_row _ _ q _ _ HR3.out
          by_cases hbig : 1024 < N
          · have q2 : decide ((1024 : Int) < (N : Int)) = true := by simp; omega
            have hz := Lib.hid (row_setJ HR3.out 0 (.slice none 0 0))
            go_wp2_with fail
            refine bodyPost_ret_by (results_row3 (p := 2) (u := 3) (v := 4) rfl _ _ g 29 _ _ rfl hz.out Tryz.underlying29 rfl (by kernel_rfl)) rfl ?_
            exact ParOut.mk (by rw [HPP.out, if_pos (.inl hbig)]) (NdIs.nil _) (HK3.out.into (Kept.setCell [g] _ ⟨g, 0, none⟩ (.slice none 0 0) (by simp)) (by have := HGW.out.1; simp; omega))
          · have q2 : decide ((1024 : Int) < (N : Int)) = false := by simp; omega
            have HE3 := Lib.hid e3
            go_wp2_with fail
            clear c0 f0 e2
            refine HDP.out.mono ?_
            rintro e w4 ⟨rfl, hk4⟩
            have HK4 := Lib.hid hk4
            have HR4 := Lib.hid (hk4.heap (by simp) HR3.out)
            have e4 : w4.cell? ⟨c.g, 3, none⟩ = some (.slice na N nc) := (hk4.cell (p := ⟨c.g, 3, none⟩) HLT2.out (by simp)).trans HE3.out
            have c0 : w4.cell? ⟨g, 0, none⟩ = some (.slice none 0 0) := cell_of_row _ _ 0 _ _ _ HR4.out
            have f0 : ∀ q, w4.frozen? ⟨g, q, none⟩ = false := fun q => frozen_of_row _ _ q _ _ HR4.out
            clear hk4 e3
            by_cases hdeep : 32 < D
            · have q3 : decide ((32 : Int) < (D : Int)) = true := by simp; omega
              have hz := Lib.hid (row_setJ HR4.out 0 (.slice none 0 0))
              go_wp2_with fail
              refine bodyPost_ret_by (results_row3 (p := 2) (u := 3) (v := 4) rfl _ _ g 29 _ _ rfl hz.out Tryz.underlying29 rfl (by kernel_rfl)) rfl ?_
              exact ParOut.mk (by rw [HPP.out, if_pos (.inr hdeep)]) (NdIs.nil _) ((HK3.out.trans HK4.out).into (Kept.setCell [g] _ ⟨g, 0, none⟩ (.slice none 0 0) (by simp)) (by have := HGW.out.1; simp; omega))
            · have q3 : decide ((32 : Int) < (D : Int)) = false := by simp; omega
              have hz := Lib.hid (row_setJ HR4.out 0 (.slice na N nc))
              go_wp2_with fail
              refine bodyPost_ret_by (results_row3 (p := 2) (u := 3) (v := 4) rfl _ _ g 29 _ _ rfl hz.out Tryz.underlying29 rfl (by kernel_rfl)) rfl ?_
              exact ParOut.mk (by rw [HPP.out, if_neg (fun hh => by rcases hh with hh | hh; exact hbig hh; exact hdeep hh)]) (HND.out [g] _ (by have := HCC.out.2.2; simp; omega) ((HK4.out.mono (by simp)).trans (Kept.setCell _ _ _ _ (by simp)))) ((HK3.out.trans HK4.out).into (Kept.setCell [g] _ ⟨g, 0, none⟩ (.slice na N nc) (by simp)) (by have := HGW.out.1; simp; omega))
        · have hpos : 0 < s.r.length := by cases hq : s.r with | nil => exact absurd hq hr | cons x r => simp
          obtain ⟨a, ha⟩ : ∃ a, n - s.r.length = a := ⟨_, rfl⟩
          rw [ha] at d1
          have han : a < n := by omega
          have q2 : decide (a < n) = true := by simpa using han
          have HR := Lib.hid hr
          clear hr ha hle hpos
          go_wp2_with fail
          clear d1 d2 q2
          refine (HZS.out _ n (.good s) wr (by have := HNS.out; omega) (by have h1 := HLT.out; have h2 := HS.out.2.2.1; show s.r.length < 5000; omega) HS.out.1.st).mono ?_
          rintro e w3 ⟨x, q2, rfl, H⟩
          have HZ := Lib.hid (fun (y : _) (q' : QSt) (h : QR _ _ y q') => HS.out.2.2.2.2.2 y q' (top_goR HR.out (QR.bind H.out.1 h)))
          have HE := Lib.hid (stmt_eats H.out.1)
          have HQ := Lib.hid (HS.out.1.step H.out.2.2 H.out.2.1)
          clear H
          unfold nV
          obtain ⟨v4, w4, hrun, hls, hka⟩ := HQ.out.app1 x (by have := HS.out.2.2.2.2.1; omega)
          obtain ⟨ao, cap, hv⟩ := hls.val
          obtain ⟨LN, hLN⟩ : ∃ k, (L ++ [x]).length = k := ⟨_, rfl⟩
          rw [hLN] at hv
          subst hv
          have HRUN := Lib.hid hrun
          have HQ := Lib.hid hls
          clear hrun hls hka hLN
          have HMS2 := Lib.hid (And.intro HQ.out.st.meas HQ.out.st.bad0)
          have HREL : Hid ((q2.isBad = true ∨ q2.n < j') ∧ (∀ s, q2 = .good s → (L ++ [x]).length + s.r.length ≤ 5000) ∧ (L ++ [x]).length ≤ 5001 ∧ 2 * (c.l.length - atOfR c w4) + badOfR c w4 < 2 * (c.l.length - atOfR c wr) + badOfR c wr) := by
            have h1 := HS.out.2.2.2.1 s rfl
            have h2 := HE.out
            have h3 := HMS.out
            have h4 := HMS2.out
            have h5 := HLT.out
            have h7 : (QSt.good s).n = s.r.length := rfl
            have h8 : (QSt.good s).isBad = false := rfl
            rw [List.length_append, List.length_singleton]
            rw [h4.1, h3.1, h4.2, h3.2, h7, h8]
            cases q2 with
            | bad k =>
              refine ⟨.inl rfl, (fun s e => by cases e), by omega, ?_⟩
              have h9 : k ≤ s.r.length := h2.2
              show 2 * k + 0 < 2 * s.r.length + 1
              omega
            | good s2 =>
              have h9 : s2.r.length < s.r.length := h2.1 rfl
              refine ⟨.inr ?_, fun s3 e => ?_, by omega, ?_⟩
              · show s2.r.length < j'
                omega
              · injection e with e
                subst e
                omega
              · show 2 * s2.r.length + 1 < 2 * s.r.length + 1
                omega
          go_wp2_with (at_builtin; refine wpList_append_run rfl _ _ 39 rfl _ _ _ rfl rfl HRUN.out ?_)
          go_roundw
          case rel => exact ⟨L ++ [x], j', q2, HQ.out, HREL.out.1, by have := HS.out.2.2.1; omega, HREL.out.2.1, HREL.out.2.2.1, HZ.out⟩
          case measure => exact HREL.out.2.2.2
end Go.Proofs.YtfpdgdacifiejaaGreat

namespace Go.Proofs.YtfpdgdacifiejaaGreat
open Go.RowKit Go.Maps

set_option maxRecDepth 100000 in
set_option maxHeartbeats 8000000 in
theorem nsame_any (va vb : Value) (ns : List Nod) (w : World) (ha : NdIs w va ns) (hb : NdIs w vb ns) (hl : ns.length ≤ 100000) :
    Calls Tryz.prog 10 #[.agg #[va], .agg #[vb]] w fun e w' => e = .returned (.bool true) ∧ Kept [] w w' := by
  obtain ⟨aa, ac, rfl, hac, hac2, hca⟩ := ha
  obtain ⟨ba, bc, rfl, hbc, hbc2, hcb⟩ := hb
  obtain ⟨n, hn⟩ : ∃ n, ns.length = n := ⟨_, rfl⟩
  have HN := Lib.hid hn
  have HCA := Lib.hid hca
  have HCB := Lib.hid hcb
  rw [hn] at hac hbc hl ⊢
  obtain ⟨w1, hw1⟩ : ∃ x, w.alloc (.cells #[.slice aa n ac] 29) = x := ⟨_, rfl⟩
  obtain ⟨w2, hw2⟩ : ∃ x, w1.alloc (.cells #[.slice ba n bc] 29) = x := ⟨_, rfl⟩
  obtain ⟨P, hP⟩ : ∃ x, w.heap.size = x := ⟨_, rfl⟩
  obtain ⟨Q, hQ⟩ : ∃ x, w1.heap.size = x := ⟨_, rfl⟩
  have H2 : Hid (Kept [] w w2 ∧ w2.heap[P]? = some (.cells #[.slice aa n ac] 29) ∧ w2.heap[Q]? = some (.cells #[.slice ba n bc] 29)) := by
    rw [← hw2, ← hw1, ← hQ, ← hP]
    refine ⟨(Kept.alloc _ _ _).trans (Kept.alloc _ _ _), (Kept.alloc [] _ _).heap (by simp) (heap_alloc_last _ _), ?_⟩
    rw [← hw1]
    exact heap_alloc_last _ _
  have HPQ : Hid (∀ w', Kept [] w2 w' → w'.cell? ⟨P, 0, none⟩ = some (.slice aa n ac) ∧ w'.cell? ⟨Q, 0, none⟩ = some (.slice ba n bc)) := fun w' hk =>
    ⟨cell_of_row _ _ 0 _ _ _ (hk.heap (by simp) H2.out.2.1), cell_of_row _ _ 0 _ _ _ (hk.heap (by simp) H2.out.2.2)⟩
  have p0 := (HPQ.out w2 (Kept.refl _ _)).1
  have q0 := (HPQ.out w2 (Kept.refl _ _)).2
  clear hca hcb hn
  go_enter Tryz.func10, Tryz.ntmps10
  go_wp2_with fail
  clear hw1 hw2 hP hQ p0 q0
  go_loopw [5] (fun si wr => ∃ i : Nat, si = .int .i64 i ∧ i ≤ n ∧ Hid (Kept [] w2 wr)) (fun si _ => n - (intOf si).toNat)
  case atStart => exact ⟨0, rfl, by omega, Kept.refl _ _⟩
  case round =>
    obtain ⟨i, rfl, hi, HK⟩ := hrel
    have p0 := (HPQ.out wr HK.out).1
    by_cases hlt : i < n
    · have hil : i < ns.length := by rw [HN.out]; exact hlt
      obtain ⟨b1, o1, rfl, hb1, hc1⟩ := HCA.out (by omega)
      obtain ⟨b2, o2, rfl, hb2, hc2⟩ := HCB.out (by omega)
      obtain ⟨e0, e1, lv, e2, hks⟩ := hc1 i hil
      obtain ⟨f0, f1, lu, f2, hku⟩ := hc2 i hil
      obtain ⟨nd, hnd⟩ : ∃ nd, ns[i] = nd := ⟨_, rfl⟩
      rw [hnd] at e0 e1 hks f0 f1 hku
      obtain ⟨la, lc, rfl, hlc, hlc2, hla⟩ := hks
      obtain ⟨ua, uc, rfl, huc, huc2, hua⟩ := hku
      obtain ⟨m, hm⟩ : ∃ m, nd.ks.length = m := ⟨_, rfl⟩
      have HM := Lib.hid hm
      have HLA := Lib.hid hla
      have HUA := Lib.hid hua
      rw [hm] at e2 f2 hlc huc
      obtain ⟨kd, hkd⟩ : ∃ k, nd.kd = k := ⟨_, rfl⟩
      obtain ⟨tx, htx⟩ : ∃ t, strL nd.tx = t := ⟨_, rfl⟩
      rw [hkd] at e0 f0
      rw [htx] at e1 f1
      have HKW : Hid (Kept [] w wr) := H2.out.1.trans HK.out
      have y0 := (HKW.out.cell (p := ⟨b1, o1 + i * 3, none⟩) hb1 (by simp)).trans e0
      have y1 := (HKW.out.cell (p := ⟨b1, o1 + i * 3 + 1, none⟩) hb1 (by simp)).trans e1
      have y2 := (HKW.out.cell (p := ⟨b1, o1 + i * 3 + 2, none⟩) hb1 (by simp)).trans e2
      obtain ⟨w3, hw3⟩ : ∃ x, wr.alloc (.cells #[.int .i64 (kd : Int), .string tx, .slice la m lc] 41) = x := ⟨_, rfl⟩
      obtain ⟨P3, hP3⟩ : ∃ x, wr.heap.size = x := ⟨_, rfl⟩
      have H3 : Hid (Kept [] wr w3 ∧ w3.heap[P3]? = some (.cells #[.int .i64 (kd : Int), .string tx, .slice la m lc] 41)) := by
        rw [← hw3, ← hP3]
        exact ⟨Kept.alloc _ _ _, heap_alloc_last _ _⟩
      have q0 := (HPQ.out w3 (HK.out.trans H3.out.1)).2
      have z0 := ((HKW.out.trans H3.out.1).cell (p := ⟨b2, o2 + i * 3, none⟩) hb2 (by simp)).trans f0
      have z1 := ((HKW.out.trans H3.out.1).cell (p := ⟨b2, o2 + i * 3 + 1, none⟩) hb2 (by simp)).trans f1
      have z2 := ((HKW.out.trans H3.out.1).cell (p := ⟨b2, o2 + i * 3 + 2, none⟩) hb2 (by simp)).trans f2
      obtain ⟨w4, hw4⟩ : ∃ x, w3.alloc (.cells #[.int .i64 (kd : Int), .string tx, .slice ua m uc] 41) = x := ⟨_, rfl⟩
      obtain ⟨P4, hP4⟩ : ∃ x, w3.heap.size = x := ⟨_, rfl⟩
      have H4 : Hid (Kept [] wr w4 ∧ w4.heap[P3]? = some (.cells #[.int .i64 (kd : Int), .string tx, .slice la m lc] 41) ∧ w4.heap[P4]? = some (.cells #[.int .i64 (kd : Int), .string tx, .slice ua m uc] 41)) := by
        rw [← hw4, ← hP4]
        exact ⟨H3.out.1.trans (Kept.alloc _ _ _), (Kept.alloc [] _ _).heap (by simp) H3.out.2, heap_alloc_last _ _⟩
      have g0 : w4.cell? ⟨P3, 0, none⟩ = some (.int .i64 (kd : Int)) := cell_of_row _ _ 0 _ _ _ H4.out.2.1
      have g1 : w4.cell? ⟨P3, 1, none⟩ = some (.string tx) := cell_of_row _ _ 1 _ _ _ H4.out.2.1
      have g2 : w4.cell? ⟨P3, 2, none⟩ = some (.slice la m lc) := cell_of_row _ _ 2 _ _ _ H4.out.2.1
      have h0 : w4.cell? ⟨P4, 0, none⟩ = some (.int .i64 (kd : Int)) := cell_of_row _ _ 0 _ _ _ H4.out.2.2
      have h1 : w4.cell? ⟨P4, 1, none⟩ = some (.string tx) := cell_of_row _ _ 1 _ _ _ H4.out.2.2
      have h2 : w4.cell? ⟨P4, 2, none⟩ = some (.slice ua m uc) := cell_of_row _ _ 2 _ _ _ H4.out.2.2
      clear hc1 hc2 e0 e1 e2 f0 f1 f2 hnd hm hla hua hkd htx
      go_wp2_with fail
      clear y0 y1 y2 z0 z1 z2 hw3 hw4 hP3 hP4 p0 q0 g0 g1 g2 h0 h1 h2
      go_loopw [8] (fun sk wx => ∃ k : Nat, sk = .int .i64 k ∧ k ≤ m ∧ Hid (Kept [] w4 wx)) (fun sk _ => m - (intOf sk).toNat)
      case atStart => exact ⟨0, rfl, by omega, Kept.refl _ _⟩
      case round =>
        obtain ⟨k, rfl, hk, HX⟩ := hrel
        have g2 : wr.cell? ⟨P3, 2, none⟩ = some (.slice la m lc) := cell_of_row _ _ 2 _ _ _ (HX.out.heap (by simp) H4.out.2.1)
        have h2 : wr.cell? ⟨P4, 2, none⟩ = some (.slice ua m uc) := cell_of_row _ _ 2 _ _ _ (HX.out.heap (by simp) H4.out.2.2)
        by_cases hkm : k < m
        · have hkl : k < nd.ks.length := by rw [HM.out]; exact hkm
          obtain ⟨b3, o3, rfl, hb3, hc3⟩ := HLA.out (by omega)
          obtain ⟨b4, o4, rfl, hb4, hc4⟩ := HUA.out (by omega)
          have HKX := HKW.out.trans (H4.out.1.trans HX.out)
          have r3 := (HKX.cell (p := ⟨b3, o3 + k, none⟩) hb3 (by simp)).trans (hc3 k hkl)
          have r4 := (HKX.cell (p := ⟨b4, o4 + k, none⟩) hb4 (by simp)).trans (hc4 k hkl)
          obtain ⟨x, hx⟩ : ∃ x, nd.ks[k] = x := ⟨_, rfl⟩
          rw [hx] at r3 r4
          clear hc3 hc4 HKX hx
          go_wp2_with fail
          go_quiet (fail)
          go_wp2_with fail
          go_roundw
          case rel => exact ⟨k + 1, by go_num, by omega, HX.out.trans (Kept.drewN _ _ _)⟩
          case measure => simp [intOf]; omega
        · go_wp2_with fail
          go_roundw
          case rel => exact ⟨i + 1, by go_num, by omega, HK.out.trans (H4.out.1.trans HX.out)⟩
          case measure => simp [intOf]; omega
    · go_wp2_with fail
      go_ret
      exact ⟨rfl, H2.out.1.trans HK.out⟩
end Go.Proofs.YtfpdgdacifiejaaGreat

namespace Go.Proofs.YtfpdgdacifiejaaGreat
open Go.RowKit Go.Maps

/-- What is printed of a manifest. -/
def prtO (b : SlT) : List UInt8 := if 65536 < (b.txt []).length then [] else b.txt []
def prtE (b : SlT) : Nat := if 65536 < (b.txt []).length then 5 else 0
/-- Print, as a contract: of a tree that words were read as. -/
def PrC : Prop := ∀ (v : Value) (b : SlT) (w : World), b.Ok TkC → (topL b).length ≤ 1024 → depN (topL b) ≤ 32 → NdIs w v (topL b) →
  Calls Tryz.prog 9 #[.agg #[v]] w fun e w' => e = .returned (.tuple #[.string (strL (prtO b)), .int .i64 (prtE b : Int)]) ∧ Kept [] w w'
/-- The document's examples hold. -/
def ShP : Prop := ∀ w : World, Calls Tryz.prog 6 #[] w fun e w' => e = .returned (.bool true) ∧ Kept [] w w'
theorem bl_strL (l : List UInt8) : bl (strL l) = l := by
  show (strL l).data.toList = l
  simp [strL]
theorem back_all {l : List Tok} (h : (parO l).2.2 = 0) (hw : ∀ w ∈ l, TkC w) :
    ∃ b : SlT, b.Ok TkC ∧ (topL b).length ≤ 1024 ∧ depN (topL b) ≤ 32 ∧ parO l = (topL b, 0, 0) ∧ (lexL (b.txt []) 0).2 = none ∧ parO ((lexL (b.txt []) 0).1.map tkW) = (topL b, 0, 0) := by
  obtain ⟨b, h1, h2, h3, h4⟩ := par_tree TkC h hw
  obtain ⟨h5, h6⟩ := top_lx b (SlT.okm (fun _ ht => ht.ok) b h1)
  refine ⟨b, h1, h3, h4, ?_, h5, by rw [h6]; exact par_back h1 h3 h4⟩
  have h7 : (parO l).2.1 = 0 := by
    unfold parO at h ⊢
    by_cases c : 4096 < l.length
    · rw [if_pos c] at h; cases h
    · rw [if_neg c] at h ⊢
      cases hq : topF (stmtF 5000) 5000 [] ⟨l, []⟩ with
      | err r => rw [hq] at h; cases h
      | ok s a =>
        rw [hq] at h
        simp only at h ⊢
        by_cases d : 1024 < s.ns.length ∨ 32 < depN s.ns
        · rw [if_pos d]
        · rw [if_neg d]
  exact Prod.ext h2 (Prod.ext h7 h)
theorem lxW_tk (L : List UInt8) : ∀ w ∈ (lxW L).map tkW, TkC w := by
  unfold lxW
  split
  · simp
  · split
    · exact fun w hw => lxW_tkc L w hw (by omega)
    · simp
theorem lx_of {L : List UInt8} (h : (lexL L 0).2 = none) (hl : L.length ≤ 65536) : lxW L = (lexL L 0).1 ∧ lxE L = 0 := by
  have h0 : ¬ 65536 < L.length := by omega
  unfold lxW lxE
  rw [if_neg h0, if_neg h0, if_pos h, if_pos h]
  exact ⟨rfl, rfl⟩
end Go.Proofs.YtfpdgdacifiejaaGreat

namespace Go.Proofs.YtfpdgdacifiejaaGreat
open Go.RowKit Go.Maps

/-- An arena in a block of its own. -/
def ArAt (w : World) (P : Nat) (ao : Option Addr) (n cap : Nat) (ns : List Nod) : Prop := ns.length = n ∧ w.heap[P]? = some (.cells #[.slice ao n cap] 29) ∧ NdIs w (.slice ao n cap) ns
theorem ArAt.keep {w w' : World} {P : Nat} {ao : Option Addr} {n cap : Nat} {ns : List Nod} (h : ArAt w P ao n cap ns) (hk : Kept [] w w') : ArAt w' P ao n cap ns := ⟨h.1, hk.heap (by simp) h.2.1, h.2.2.kept hk⟩
theorem ArAt.cell {w : World} {P : Nat} {ao : Option Addr} {n cap : Nat} {ns : List Nod} (h : ArAt w P ao n cap ns) : w.cell? ⟨P, 0, none⟩ = some (.slice ao n cap) := cell_of_row _ _ 0 _ _ _ h.2.1
set_option maxRecDepth 100000 in
set_option maxHeartbeats 8000000 in
theorem back_walk (hsh : ShP) (hp : ParC) (hpr : PrC) (S : ByteArray) (w : World) (hs : S.size ≤ 9223372036854775807) : Calls Tryz.prog 3 #[.string S] w fun e w' => e = .returned (.bool true) ∧ Kept [] w w' := by
  have HSH := Lib.hid hsh
  have HPC := Lib.hid hp
  have HPR := Lib.hid hpr
  have HSZ := Lib.hid hs
  clear hsh hp hpr hs
  go_enter Tryz.func3, Tryz.ntmps3
  go_wp2_with fail
  refine (HSH.out w).mono ?_
  rintro e w1 ⟨rfl, hk1⟩
  have HK1 := Lib.hid hk1
  clear hk1
  go_wp2_with fail
  refine (lex_any S w1 HSZ.out).mono ?_
  rintro e w2 ⟨vw, rfl, hws, hk2⟩
  have H2 := Lib.hid (show WsIs w2 vw (lxW (bl S)) ∧ Kept [] w w2 from ⟨hws.es, HK1.out.trans hk2⟩)
  clear hws hk2
  obtain ⟨la, hla⟩ : ∃ x, lxA (bl S) = x := ⟨_, rfl⟩
  obtain ⟨le, hle⟩ : ∃ x, lxE (bl S) = x := ⟨_, rfl⟩
  rw [hla, hle]
  have HTK : Hid (∀ t ∈ (lxW (bl S)).map tkW, TkC t) := lxW_tk _
  obtain ⟨T, hT⟩ : ∃ T, (lxW (bl S)).map tkW = T := ⟨_, rfl⟩
  rw [hT] at HTK
  have HPA := Lib.hid (HPC.out vw T w2 (by rw [← hT]; exact H2.out.1.tk))
  clear hla hle hT
  go_wp2_with fail
  refine HPA.out.mono ?_
  rintro e w3 ⟨va, rfl, hnd, hk3⟩
  obtain ⟨pa, hpa⟩ : ∃ n, (parO T).2.1 = n := ⟨_, rfl⟩
  obtain ⟨pe, hpe⟩ : ∃ n, (parO T).2.2 = n := ⟨_, rfl⟩
  obtain ⟨ns, hns⟩ : ∃ n, (parO T).1 = n := ⟨_, rfl⟩
  rw [hns] at hnd
  rw [hpa, hpe]
  have HPE := Lib.hid (show (parO T).1 = ns ∧ (parO T).2.2 = pe from ⟨hns, hpe⟩)
  have HND := Lib.hid hnd
  have hval : ∃ ao cap, va = .slice ao ns.length cap := by
    obtain ⟨ao, cap, h, _⟩ := hnd
    exact ⟨ao, cap, h⟩
  obtain ⟨ao, cap, hva⟩ := hval
  obtain ⟨n, hn⟩ : ∃ n, ns.length = n := ⟨_, rfl⟩
  rw [hn] at hva
  subst hva
  have H3 : Hid (Kept [] w w3) := H2.out.2.trans hk3
  obtain ⟨w4, hw4⟩ : ∃ w4, w3.alloc (.cells #[.slice ao n cap] 29) = w4 := ⟨_, rfl⟩
  obtain ⟨P, hP⟩ : ∃ P, w3.heap.size = P := ⟨_, rfl⟩
  have H4 : Hid (ArAt w4 P ao n cap ns ∧ Kept [] w w4) := by
    rw [← hw4, ← hP]
    exact ⟨⟨hn, heap_alloc_last _ _, HND.out.kept (Kept.alloc _ _ _)⟩, H3.out.trans (Kept.alloc _ _ _)⟩
  clear hns hpa hpe hn hk3 hnd
  by_cases hle : le = 0
  case neg =>
    have hlei : ((le : Int) == 0) = false := by simpa using hle
    have hlej : ¬ (le : Int) = 0 := by omega
    go_wp2_with fail
    go_ret
    exact ⟨rfl, H4.out.2⟩
  subst hle
  by_cases hpe : pe = 0
  case neg =>
    have hpei : ((pe : Int) == 0) = false := by simpa using hpe
    have hpej : ¬ (pe : Int) = 0 := by omega
    go_wp2_with fail
    go_ret
    exact ⟨rfl, H4.out.2⟩
  subst hpe
  have HB := Lib.hid (back_all HPE.out.2 HTK.out)
  obtain ⟨b, hb⟩ := HB.out
  have HB := Lib.hid hb
  have HNS : Hid (ns = topL b) := by show _ = _; rw [← HPE.out.1, hb.2.2.2.1]
  have c4 := H4.out.1.cell
  have HP4 := Lib.hid (HPR.out (.slice ao n cap) b w4 hb.1 hb.2.1 hb.2.2.1 (by rw [← HNS.out]; exact H4.out.1.2.2))
  obtain ⟨pt, hpt⟩ : ∃ t, prtO b = t := ⟨_, rfl⟩
  obtain ⟨pg, hpg⟩ : ∃ t, prtE b = t := ⟨_, rfl⟩
  have HPT := Lib.hid (And.intro hpt hpg)
  rw [hpt, hpg] at HP4
  clear hb hpt hpg
  go_wp2_with fail
  clear c4 hw4 hP
  refine HP4.out.mono ?_
  rintro e w5 ⟨rfl, hk5⟩
  have H5 : Hid (ArAt w5 P ao n cap ns ∧ Kept [] w w5) := ⟨H4.out.1.keep hk5, H4.out.2.trans hk5⟩
  clear hk5
  by_cases hlong : 65536 < (b.txt []).length
  case pos =>
    have hg5 : pg = 5 := by rw [← HPT.out.2]; unfold prtE; rw [if_pos hlong]
    subst hg5
    go_wp2_with fail
    go_ret
    exact ⟨rfl, H5.out.2⟩
  have hg0 : pg = 0 := by rw [← HPT.out.2]; unfold prtE; rw [if_neg hlong]
  subst hg0
  have HTX : Hid (pt = b.txt []) := by show _ = _; rw [← HPT.out.1]; unfold prtO; rw [if_neg hlong]
  have HLX : Hid (lxW pt = (lexL (b.txt []) 0).1 ∧ lxE pt = 0) := by
    show _ ∧ _
    rw [HTX.out]
    exact lx_of HB.out.2.2.2.2.1 (by omega)
  have HPZ : Hid (parO ((lxW pt).map tkW) = (topL b, 0, 0)) := by show _ = _; rw [HLX.out.1]; exact HB.out.2.2.2.2.2
  have hsz : (strL pt).size ≤ 9223372036854775807 := by
    have h1 := bl_len (strL pt)
    have h2 := congrArg List.length HTX.out
    rw [bl_strL] at h1
    omega
  have HL2 := Lib.hid (lex_any (strL pt) w5 hsz)
  rw [bl_strL] at HL2
  clear hlong hsz
  go_wp2_with fail
  refine HL2.out.mono ?_
  rintro e w6 ⟨vx, rfl, hwx, hk6⟩
  have HW6 : Hid (TkIs w6 vx ((lxW pt).map tkW)) := hwx.es.tk
  have H6 : Hid (ArAt w6 P ao n cap ns ∧ Kept [] w w6) := ⟨H5.out.1.keep hk6, H5.out.2.trans hk6⟩
  rw [HLX.out.2]
  obtain ⟨la2, hla2⟩ : ∃ x, lxA pt = x := ⟨_, rfl⟩
  rw [hla2]
  have HPA2 := Lib.hid (HPC.out vx _ w6 HW6.out)
  unfold ParOut at HPA2
  rw [HPZ.out] at HPA2
  clear hwx hk6 hla2
  go_wp2_with fail
  refine HPA2.out.mono ?_
  rintro e w7 ⟨vb, rfl, hnb, hk7⟩
  obtain ⟨bo, bcap, hvb, hbrest⟩ := id hnb
  have hlen : (topL b).length = n := by rw [← HNS.out]; exact H4.out.1.1
  rw [hlen] at hvb
  subst hvb
  have HNB := Lib.hid hnb
  obtain ⟨w8, hw8⟩ : ∃ x, w7.alloc (.cells #[.slice bo n bcap] 29) = x := ⟨_, rfl⟩
  obtain ⟨Q, hQ⟩ : ∃ x, w7.heap.size = x := ⟨_, rfl⟩
  have H8 : Hid (ArAt w8 P ao n cap ns ∧ ArAt w8 Q bo n bcap ns ∧ Kept [] w w8) := by
    have hk8 : Kept [] w7 w8 := by rw [← hw8]; exact Kept.alloc _ _ _
    refine ⟨(H6.out.1.keep hk7).keep hk8, ⟨by rw [HNS.out]; exact hlen, by rw [← hw8, ← hQ]; exact heap_alloc_last _ _, ?_⟩, (H6.out.2.trans hk7).trans hk8⟩
    rw [HNS.out]
    exact HNB.out.kept hk8
  have a8 := H8.out.1.cell
  have b8 := H8.out.2.1.cell
  have HSM := Lib.hid (nsame_any (.slice ao n cap) (.slice bo n bcap) ns w8 H8.out.1.2.2 H8.out.2.1.2.2 (by have := HB.out.2.1; have := H4.out.1.1; omega))
  clear hnb hk7 hbrest hlen
  go_wp2_with fail
  clear a8 b8 hw8 hQ
  refine HSM.out.mono ?_
  rintro e w9 ⟨rfl, hk9⟩
  have H9 : Hid (ArAt w9 Q bo n bcap ns ∧ Kept [] w w9) := ⟨H8.out.2.1.keep hk9, H8.out.2.2.trans hk9⟩
  have b9 := H9.out.1.cell
  have HP9 := Lib.hid (HPR.out (.slice bo n bcap) b w9 HB.out.1 HB.out.2.1 HB.out.2.2.1 (by rw [← HNS.out]; exact H9.out.1.2.2))
  rw [HPT.out.1, HPT.out.2] at HP9
  clear hk9
  go_wp2_with fail
  clear b9
  refine HP9.out.mono ?_
  rintro e w10 ⟨rfl, hk10⟩
  have H10 : Hid (Kept [] w w10) := H9.out.2.trans hk10
  clear hk10
  go_wp2_with fail
  go_ret
  exact ⟨rfl, H10.out⟩
end Go.Proofs.YtfpdgdacifiejaaGreat

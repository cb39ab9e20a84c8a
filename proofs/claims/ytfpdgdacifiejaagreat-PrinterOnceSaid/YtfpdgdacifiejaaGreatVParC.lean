/-
  Layer 12: the program's Parse answers what parO says: ParC.
  Conditions: none.
-/
import Derived.Test.YtfpdgdacifiejaaGreatVParse
import Derived.Test.YtfpdgdacifiejaaGreatVRIs
namespace Go.Proofs.YtfpdgdacifiejaaGreat
open Go.RowKit Go.Maps Go.Shelf

set_option maxRecDepth 100000 in
set_option maxHeartbeats 8000000 in
theorem parse_pc : ParC := by
  intro va l w htk
  have hlen := htk.len
  obtain ⟨⟨ao, cap, rfl, hcap, hc63, _⟩, _⟩ := id htk
  have hmf := noFn
  obtain ⟨w1, hw1⟩ : ∃ w1, ((w.alloc (.cells #[.slice none 0 0] 29)).alloc (.cells #[.int .i64 0] 3)).alloc (.cells #[.int .i64 0] 24) = w1 := ⟨_, rfl⟩
  obtain ⟨g, hg⟩ : ∃ g, w.heap.size = g := ⟨_, rfl⟩
  have HK1 : Hid (Kept [] w w1) := by show Kept _ _ _; rw [← hw1]; exact ((Kept.alloc [] _ _).trans (Kept.alloc [] _ _)).trans (Kept.alloc [] _ _)
  have HR1 : Hid (ResY g (.slice none 0 0) (.int .i64 0) (.int .i64 0) w1) := by
    rw [← hw1, ← hg]
    refine ⟨?_, ?_, ?_⟩
    · exact (Kept.alloc [] _ _).heap (by simp) ((Kept.alloc [] _ _).heap (by simp) (heap_alloc_last _ _))
    · refine (Kept.alloc [] _ _).heap (by simp) ?_
      rw [← size_alloc]
      exact heap_alloc_last _ _
    · have : w.heap.size + 2 = ((w.alloc (.cells #[.slice none 0 0] 29)).alloc (.cells #[.int .i64 0] 3)).heap.size := by simp
      rw [this]
      exact heap_alloc_last _ _
  have HS1 : Hid (w1.heap.size = g + 3) := by show _ = _; rw [← hw1, ← hg]; simp
  obtain ⟨n, hn⟩ : ∃ n, l.length = n := ⟨_, rfl⟩
  have HN := Lib.hid hn
  have HTK := Lib.hid htk
  rw [hn] at HTK hlen hcap ⊢
  have c0 : w1.cell? ⟨g, 0, none⟩ = some (.slice none 0 0) := cell_of_row _ _ 0 _ _ _ HR1.out.a
  have c1 : w1.cell? ⟨g + 1, 0, none⟩ = some (.int .i64 0) := cell_of_row _ _ 0 _ _ _ HR1.out.n
  have c2 : w1.cell? ⟨g + 1 + 1, 0, none⟩ = some (.int .i64 0) := cell_of_row _ _ 0 _ _ _ HR1.out.e
  have f0 : ∀ q, w1.frozen? ⟨g, q, none⟩ = false := fun q => frozen_of_row _ _ q _ _ HR1.out.a
  have f1 : ∀ q, w1.frozen? ⟨g + 1, q, none⟩ = false := fun q => frozen_of_row _ _ q _ _ HR1.out.n
  have f2 : ∀ q, w1.frozen? ⟨g + 1 + 1, q, none⟩ = false := fun q => frozen_of_row _ _ q _ _ HR1.out.e
  have HGW : Hid (w.heap.size = g) := hg
  clear htk hn
  by_cases hlong : 4096 < n
  · have HP : Hid (parO l = ([], 0, 5)) := by show _ = _; unfold parO; rw [if_pos (by rw [HN.out]; exact hlong)]
    have q1 : decide (4096 < n) = true := by simpa using hlong
    go_enter_defers Tryz.func8, Tryz.ntmps8
    go_wp2_with fail
    have hz := HR1.out.set (.slice none 0 0) (.int .i64 0) (.int .i64 5)
    refine ydoor_ret g _ _ _ _ _ _ hz.1 rfl rfl rfl ?_
    exact ParOut.mk HP.out (NdIs.nil _) (HK1.out.into hz.2 (by have := HGW.out; simp; omega))
  · have q1 : decide (4096 < n) = false := by simpa using hlong
    obtain ⟨gp, hgp⟩ : ∃ gp, w1.heap.size = gp := ⟨_, rfl⟩
    have HGP : Hid (gp = g + 3) := by show _ = _; rw [← hgp]; exact HS1.out
    obtain ⟨w2, hw2⟩ : ∃ w2, w1.alloc (.cells #[.slice ao n cap, .int .i64 0, .slice none 0 0] 53) = w2 := ⟨_, rfl⟩
    obtain ⟨c, hc⟩ : ∃ c : PCx, c = ⟨w1, gp, .slice ao n cap, l⟩ := ⟨_, rfl⟩
    have hcg : c.g = gp := by rw [hc]
    have hcW : c.W = w1 := by rw [hc]
    have hcl : c.l = l := by rw [hc]
    have HPR : Hid (PrSt c [] n ⟨l, []⟩ w2) := by
      refine ⟨by rw [hcW, hcg, hgp]; exact Nat.le_refl _, by simp, ⟨.slice none 0 0, ?_, NdsIs.nil _ _ _⟩, ?_, by rw [hcl]; exact Nat.le_refl _, by simp; have := HN.out; omega, ?_, by rw [hcW, ← hw2]; exact Kept.alloc _ _ _⟩
      · rw [hcg, ← hw2, ← hgp, hc]
        simp only [Nat.sub_self]
        exact heap_alloc_last _ _
      · rw [hcl]
        simp
      · rw [hcW, hcl, hc]
        exact HTK.out.kept HK1.out
    have HMAN : Hid (Calls Tryz.prog 19 #[.pointer (some ⟨gp, 0, none⟩)] w2 (PRes c (topF (stmtF 5000) 5000 [] ⟨l, []⟩) nV [] (n + 1) w2)) := by
      rw [← hcg]
      exact ymanifest_any c [] n ⟨l, []⟩ w2 (by omega) (by show l.length < 5000; have := HN.out; omega) HPR.out
    have HCC := Lib.hid (And.intro hcg (And.intro hcW hcl))
    have HNL : Hid (¬ 4096 < l.length) := by show ¬ _; rw [HN.out]; exact hlong
    have HW2 := Lib.hid hw2
    clear hc hcg hcW hcl hw2
    go_enter_defers Tryz.func8, Tryz.ntmps8
    go_wp2_with fail
    rw [HW2.out]
    refine HMAN.out.mono ?_
    intro e w3 h3
    rcases h3.way with ⟨r, q, rfl, ha⟩ | ⟨s, x, q, rfl, ha, hd⟩
    · have hkw : Kept [] w1 w3 := by rw [← HCC.out.2.1]; exact ha.1
      have hr3 := HR1.out.go hkw (by simp) (by simp) (by simp)
      refine ydoor_panic g _ _ _ _ _ _ _ hr3 rfl rfl rfl ?_
      intro w' hk'
      refine ParOut.mk (ns := []) ?_ (NdIs.nil _) ((HK1.out.trans hkw).into hk' (by have := HGW.out; simp; omega))
      unfold parO
      rw [if_neg HNL.out, q, HCC.out.2.2]
    have hkw : Kept [] w1 w3 := by rw [← HCC.out.2.1]; exact ha.kept
    have HR3 : Hid (ResY g (.slice none 0 0) (.int .i64 0) (.int .i64 0) w3) := HR1.out.go hkw (by simp) (by simp) (by simp)
    have HK3 : Hid (Kept [] w w3) := HK1.out.trans hkw
    obtain ⟨nv, _, _, d2, _, hnds, _⟩ := ha.open
    obtain ⟨na, nc, hnv⟩ := hnds.val
    have hsg := (Tl.top (Tr.stmt 5000) 5000 [] ⟨l, []⟩ s x 0 (Seg.nil 0) q).2
    have hx := hsg.last
    have hfew := ha.few
    have hx5 : x ≤ 5000 := by omega
    rw [hx] at hsg
    have HDP := Lib.hid (ydepth_any nv s.ns x w3 hx hx5 hsg hnds.nd)
    obtain ⟨N, hN⟩ : ∃ N, s.ns.length = N := ⟨_, rfl⟩
    rw [hN] at hnv
    rw [hnv] at d2 HDP
    rw [HCC.out.1] at d2
    have HNN := Lib.hid hN
    have HND : Hid (∀ ex w', (∀ q ∈ ex, q ≤ gp) → Kept ex w3 w' → NdIs w' (.slice na N nc) s.ns) := fun ex w' h1 h2 => by
      rw [← hnv]
      exact (hnds.low h2 (by rw [HCC.out.1]; exact h1)).nd
    have HQ := Lib.hid q
    obtain ⟨D, hD⟩ : ∃ D, depN s.ns = D := ⟨_, rfl⟩
    have HD := Lib.hid hD
    rw [hD] at HDP
    have HPO : Hid (parO l = if 1024 < N ∨ 32 < D then ([], 0, 5) else (s.ns, 0, 0)) := by
      show _ = _
      unfold parO
      rw [if_neg HNL.out, q]
      simp only
      rw [hN, hD]
    unfold nV
    clear h3 q ha hd hkw hnds hnv hsg hx hx5 hfew hN hD c0 c1 c2 f0 f1 f2 q1
    by_cases hbig : 1024 < N
    · have c0 : w3.cell? ⟨g, 0, none⟩ = some (.slice none 0 0) := cell_of_row _ _ 0 _ _ _ HR3.out.a
      have c1 : w3.cell? ⟨g + 1, 0, none⟩ = some (.int .i64 0) := cell_of_row _ _ 0 _ _ _ HR3.out.n
      have c2 : w3.cell? ⟨g + 1 + 1, 0, none⟩ = some (.int .i64 0) := cell_of_row _ _ 0 _ _ _ HR3.out.e
      have f0 : ∀ q, w3.frozen? ⟨g, q, none⟩ = false := fun q => frozen_of_row _ _ q _ _ HR3.out.a
      have f1 : ∀ q, w3.frozen? ⟨g + 1, q, none⟩ = false := fun q => frozen_of_row _ _ q _ _ HR3.out.n
      have f2 : ∀ q, w3.frozen? ⟨g + 1 + 1, q, none⟩ = false := fun q => frozen_of_row _ _ q _ _ HR3.out.e
      go_wp2_with fail
      have hz := HR3.out.set (.slice none 0 0) (.int .i64 0) (.int .i64 5)
      refine ydoor_ret g _ _ _ _ _ _ hz.1 rfl rfl rfl ?_
      exact ParOut.mk (by rw [HPO.out, if_pos (.inl hbig)]) (NdIs.nil _) (HK3.out.into hz.2 (by have := HGW.out; simp; omega))
    · go_wp2_with fail
      refine HDP.out.mono ?_
      rintro e w4 ⟨rfl, hk4⟩
      have HK4 := Lib.hid hk4
      have HR4 : Hid (ResY g (.slice none 0 0) (.int .i64 0) (.int .i64 0) w4) := HR3.out.go hk4 (by simp) (by simp) (by simp)
      have d4 : w4.cell? ⟨gp, 2, none⟩ = some (.slice na N nc) := (hk4.cell (p := ⟨gp, 2, none⟩) (World.block_lt_of_cell? w3 _ d2) (by simp)).trans d2
      have c0 : w4.cell? ⟨g, 0, none⟩ = some (.slice none 0 0) := cell_of_row _ _ 0 _ _ _ HR4.out.a
      have c1 : w4.cell? ⟨g + 1, 0, none⟩ = some (.int .i64 0) := cell_of_row _ _ 0 _ _ _ HR4.out.n
      have c2 : w4.cell? ⟨g + 1 + 1, 0, none⟩ = some (.int .i64 0) := cell_of_row _ _ 0 _ _ _ HR4.out.e
      have f0 : ∀ q, w4.frozen? ⟨g, q, none⟩ = false := fun q => frozen_of_row _ _ q _ _ HR4.out.a
      have f1 : ∀ q, w4.frozen? ⟨g + 1, q, none⟩ = false := fun q => frozen_of_row _ _ q _ _ HR4.out.n
      have f2 : ∀ q, w4.frozen? ⟨g + 1 + 1, q, none⟩ = false := fun q => frozen_of_row _ _ q _ _ HR4.out.e
      clear hk4 d2
      by_cases hdeep : 32 < D
      · go_wp2_with fail
        have hz := HR4.out.set (.slice none 0 0) (.int .i64 0) (.int .i64 5)
        refine ydoor_ret g _ _ _ _ _ _ hz.1 rfl rfl rfl ?_
        exact ParOut.mk (by rw [HPO.out, if_pos (.inr hdeep)]) (NdIs.nil _) ((HK3.out.trans HK4.out).into hz.2 (by have := HGW.out; simp; omega))
      · go_wp2_with fail
        have hz := HR4.out.set (.slice na N nc) (.int .i64 0) (.int .i64 0)
        refine ydoor_ret g _ _ _ _ _ _ hz.1 rfl rfl rfl ?_
        refine ParOut.mk (by rw [HPO.out, if_neg (fun hh => by rcases hh with hh | hh; exact hbig hh; exact hdeep hh)]) (HND.out [g, g + 1, g + 2] _ (by have := HGP.out; simp; omega) ((HK4.out.mono (by simp)).trans hz.2)) ((HK3.out.trans HK4.out).into hz.2 (by have := HGW.out; simp; omega))
end Go.Proofs.YtfpdgdacifiejaaGreat

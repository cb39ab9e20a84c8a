/-
  Layer 12: how deep a tree is: the program's depth.
  Conditions: those that the theorem states.
-/
import Derived.Test.YtfpdgdacifiejaaGreatVMan
import Derived.Test.YtfpdgdacifiejaaGreatVTree
import Derived.Test.YtfpdgdacifiejaaGreatVDepP
namespace Go.Proofs.YtfpdgdacifiejaaGreat
open Go.RowKit Go.Maps

set_option maxRecDepth 100000 in
set_option maxHeartbeats 8000000 in
theorem ydepth_any (v : Value) (ns : List Nod) (n : Nat) (w : World) (hl : ns.length = n + 1) (hn : n ≤ 5000) (hs : Seg ns 0 (n + 1) [n]) (h : NdIs w v ns) :
    Calls Tryz.prog 20 #[v] w fun e w' => e = .returned (.int .i64 (depN ns : Int)) ∧ Kept [] w w' := by
  obtain ⟨ao, cap, rfl, hcap, hc63, hcell⟩ := h
  rw [hl] at hcap ⊢
  obtain ⟨b, o, rfl, hb, hc⟩ := hcell (by omega)
  obtain ⟨w1, hw1⟩ : ∃ w1, w.alloc (.cells (nvA (List.replicate (n + 1) 0)) 3) = w1 := ⟨_, rfl⟩
  have hmk := run_make_ints (P := Tryz.prog) w 39 3 Tryz.underlying39 (by kernel_rfl) (n + 1) (by omega)
  rw [hw1] at hmk
  have H1 : Hid (DpSt w w.heap.size (List.replicate (n + 1) 0) w1) := ⟨by rw [← hw1]; exact heap_alloc_last _ _, by rw [← hw1]; exact Kept.alloc _ _ _, Nat.le_refl _⟩
  obtain ⟨gd, hgd⟩ : ∃ g, w.heap.size = g := ⟨_, rfl⟩
  rw [hgd] at hmk H1
  have HC := Lib.hid (And.intro hb hc)
  have HKD : Hid (∀ i (hi : i < ns.length), ∀ x ∈ ns[i].ks, x < i) := fun i hi x hx => (hs.kids i (by omega) (by omega) x (by unfold kidsN; rw [List.getElem?_eq_getElem hi]; exact hx)).2
  have HFIN := Lib.hid (dep_last hs hl)
  have HDL : Hid (∀ i, i ≤ n + 1 → (depsN (ns.take i) []).length = i) := fun i hi => by rw [depsN_len]; simp; omega
  obtain ⟨N, hN⟩ : ∃ N, n + 1 = N := ⟨_, rfl⟩
  have HN : Hid (n + 1 = N ∧ ns.length = N) := ⟨hN, by omega⟩
  rw [hN] at hmk H1 hcap HDL
  rw [hN]
  have hN5 : N ≤ 5001 := by omega
  clear hc hl hs hw1 hgd hb hN hcell
  go_enter Tryz.func20, Tryz.ntmps20
  go_wp2_with fail
  go_loopw [13] (fun si wr => ∃ i : Nat, si = .int .i64 i ∧ i ≤ N ∧ Hid (DpSt w gd (depsN (ns.take i) [] ++ List.replicate (N - i) 0) wr)) (fun si _ => N - (intOf si).toNat)
  case atStart => exact ⟨0, rfl, by omega, Lib.hid (by simpa [depsN] using H1.out)⟩
  case round =>
    obtain ⟨i, rfl, hi, HS⟩ := hrel
    clear H1 hmk
    by_cases hlt : i < N
    · have hil : i < ns.length := by have := HN.out; omega
      obtain ⟨e0, e1, lv, e2, hks⟩ := HC.out.2 i hil
      have HDi := Lib.hid (depsN_take ns i hil)
      have HKi := Lib.hid (HKD.out i hil)
      obtain ⟨nd, hnd⟩ : ∃ nd, ns[i] = nd := ⟨_, rfl⟩
      rw [hnd] at e0 e1 hks HDi HKi
      obtain ⟨la, lc, rfl, hlc, hl63, hlat⟩ := hks
      have HLAT := Lib.hid hlat
      obtain ⟨m, hm⟩ : ∃ m, nd.ks.length = m := ⟨_, rfl⟩
      have HM := Lib.hid hm
      rw [hm] at e2 hlc
      obtain ⟨pre, hpre⟩ : ∃ pre, depsN (ns.take i) [] = pre := ⟨_, rfl⟩
      have HPR2 := Lib.hid hpre
      have HPRE : Hid (pre.length = i) := by rw [← hpre]; exact HDL.out i hi
      rw [hpre] at HS HDi
      have hz : N - i = (N - i - 1) + 1 := by omega
      rw [hz, List.replicate_succ] at HS
      have f0 := (HS.out.kept.cell (p := ⟨b, o + i * 3, none⟩) HC.out.1 (by simp)).trans e0
      have f1 := (HS.out.kept.cell (p := ⟨b, o + i * 3 + 1, none⟩) HC.out.1 (by simp)).trans e1
      have f2 := (HS.out.kept.cell (p := ⟨b, o + i * 3 + 2, none⟩) HC.out.1 (by simp)).trans e2
      obtain ⟨kd, hkd⟩ : ∃ k, nd.kd = k := ⟨_, rfl⟩
      obtain ⟨tx, htx⟩ : ∃ t, strL nd.tx = t := ⟨_, rfl⟩
      rw [hkd] at f0
      rw [htx] at f1
      obtain ⟨w2, hw2⟩ : ∃ w2, wr.alloc (.cells #[.int .i64 (kd : Int), .string tx, .slice la m lc] 41) = w2 := ⟨_, rfl⟩
      have hk2 : Kept [] wr w2 := by rw [← hw2]; exact Kept.alloc _ _ _
      have g2 : w2.cell? ⟨wr.heap.size, 2, none⟩ = some (.slice la m lc) := by rw [← hw2]; exact cell_of_row _ _ 2 _ _ _ (heap_alloc_last _ _)
      have H2 : Hid (DpSt w gd (pre ++ 0 :: List.replicate (N - i - 1) 0) w2) := HS.out.keep hk2
      clear e0 e1 e2 hnd hlat hm hpre hz hkd htx hk2
      go_wp2_with fail
      clear f0 f1 f2 g2 hw2
      go_loopw [21] (fun sk wx => ∃ k : Nat, sk = .int .i64 k ∧ k ≤ m ∧ Hid (DpSt w gd (pre ++ ((nd.ks.take k).map fun x => pre.getD x 0).foldl max 0 :: List.replicate (N - i - 1) 0) wx)) (fun sk _ => m - (intOf sk).toNat)
      case atStart => exact ⟨0, rfl, by omega, Lib.hid (by simpa using H2.out)⟩
      case round =>
        obtain ⟨k, rfl, hk, HQ⟩ := hrel
        clear H2
        have HZB : Hid (((nd.ks.take k).map fun x => pre.getD x 0).foldl max 0 ≤ 5001) := by
          show _ ≤ _
          have h1 := dpF_le (x := ⟨0, [], nd.ks.take k⟩) (d := pre) (n := 5000) (fun y hy => by
            have h2 := depsN_le (ns.take i) [] (by simp) y (by rw [HPR2.out]; exact hy)
            have := HPRE.out
            simp at h2
            omega)
          unfold dpF at h1
          simp only at h1
          omega
        obtain ⟨z, hz⟩ : ∃ z, ((nd.ks.take k).map fun x => pre.getD x 0).foldl max 0 = z := ⟨_, rfl⟩
        by_cases hkm : k < m
        · have hkl : k < nd.ks.length := by rw [HM.out]; exact hkm
          obtain ⟨b2, o2, rfl, hb2, hc2⟩ := HLAT.out (by omega)
          have y0 := hc2 k hkl
          have HX := Lib.hid (HKi.out _ (List.getElem_mem hkl))
          have HNX : Hid (((nd.ks.take (k + 1)).map fun x => pre.getD x 0).foldl max 0 = max z (pre.getD nd.ks[k] 0)) := by
            show _ = _
            rw [List.take_add_one, List.getElem?_eq_getElem hkl, Option.toList_some, List.map_append, List.map_singleton, foldl_snoc, hz]
          obtain ⟨x, hx⟩ : ∃ x, nd.ks[k] = x := ⟨_, rfl⟩
          rw [hx] at y0 HX HNX
          rw [hz] at HQ
          have hxi := HX.out
          have hxN : x < N := by omega
          have y1 := (HQ.out.kept.cell (p := ⟨b2, o2 + k, none⟩) hb2 (by simp)).trans y0
          obtain ⟨y, hy⟩ : ∃ y, pre.getD x 0 = y := ⟨_, rfl⟩
          rw [hy] at HNX
          obtain ⟨mx, hmx⟩ : ∃ mx, max z y = mx := ⟨_, rfl⟩
          rw [hmx] at HNX
          have hmi : max (z : Int) (y : Int) = (mx : Int) := by omega
          have HROW := Lib.hid HQ.out
          have hpl := HPRE.out
          have z0 : ∀ w', Kept [] wr.drew w' → w'.cell? ⟨gd, i, none⟩ = some (.int .i64 (z : Int)) := fun w' hk' => by
            have := ((HROW.out.keep (Kept.drew _ _)).keep hk').cell i (by simp; omega)
            rw [this]
            simp [List.getElem_append_right, hpl]
          have z1 : ∀ w', Kept [] wr.drew w' → w'.cell? ⟨gd, x, none⟩ = some (.int .i64 (y : Int)) := fun w' hk' => by
            have := ((HROW.out.keep (Kept.drew _ _)).keep hk').cell x (by simp; omega)
            rw [this, ← hy, List.getD_eq_getElem?_getD, List.getElem?_eq_getElem (by omega)]
            simp [List.getElem_append_left, hpl, hxi]
          have HN2 : Hid (DpSt w gd (pre ++ mx :: List.replicate (N - i - 1) 0) (wr.setCell ⟨gd, i, none⟩ (.int .i64 (mx : Int))).drew) := by
            have := (HROW.out.set i mx).keep (Kept.drew _ _)
            rwa [List.set_append_right _ _ (by omega), hpl, Nat.sub_self, List.set_cons_zero] at this
          have HHMX := Lib.hid hmi
          clear hz hc2 hx hy hmx y0 hb2 hpl
          go_wp2_with fail
          refine wp_region_ordZ (R := (Kept [])) 12 [(true, 0), (true, 1), (true, 2), (true, 3), (true, 4), (true, 5), (true, 6), (true, 7), (true, 8), (true, 9), (true, 10), (true, 11)] (fun _ => Kept.refl _ _) (fun _ _ _ h k => h.trans k) (by kernel_rfl) (fun _ _ d _ _ h => by cases d <;> exact h) (by kernel_rfl) rfl (by decide) (by kernel_rfl) (by kernel_rfl) ?_
          simp only [named, List.getD_cons_zero, List.getD_cons_succ]
          repeat (first | (apply wpR_take; (case hw => rfl); (case hv => intro w' hk; go_simp; with_reducible rfl); simp only [Act.put, List.setIfInBounds_toArray, List.set_cons_zero, List.set_cons_succ]) | (refine wpR_pass (by rfl) ?_; simp only [Act.put, List.setIfInBounds_toArray, List.set_cons_zero, List.set_cons_succ]))
          clear z0 z1
          refine wpR_nil ?_; refine lastQ_go rfl ?_
          have zz : wr.cell? ⟨gd, i, none⟩ = some (.int .i64 (z : Int)) := by
            rw [HROW.out.cell i (by simp; have := HPRE.out; omega)]
            simp [List.getElem_append_right, HPRE.out]
          have ff : ∀ q, wr.frozen? ⟨gd, q, none⟩ = false := fun q => frozen_of_row _ _ q _ _ HROW.out.row
          go_simp
          clear zz ff
          go_wp2_with fail
          go_roundw
          case rel => exact ⟨k + 1, by go_num, by omega, Lib.hid (by rw [HNX.out]; exact HN2.out)⟩
          case measure => simp [intOf]; omega
        · have hkm2 : k = m := by omega
          have HN3 : Hid (DpSt w gd (pre ++ (z + 1) :: List.replicate (N - i - 1) 0) (wr.setCell ⟨gd, i, none⟩ (.int .i64 ((z : Int) + 1)))) := by
            have := HQ.out.set i (z + 1)
            rw [hz, List.set_append_right _ _ (by have := HPRE.out; omega), HPRE.out, Nat.sub_self, List.set_cons_zero] at this
            exact this
          have HNE : Hid (depsN (ns.take (i + 1)) [] ++ List.replicate (N - (i + 1)) 0 = pre ++ (z + 1) :: List.replicate (N - i - 1) 0) := by
            show _ = _
            rw [HDi.out, List.append_assoc]
            unfold dpF
            rw [show nd.ks = nd.ks.take k by rw [hkm2, ← HM.out, List.take_length], hz, Nat.sub_sub]
            rfl
          rw [hz] at HQ
          have zz : wr.cell? ⟨gd, i, none⟩ = some (.int .i64 (z : Int)) := by
            rw [HQ.out.cell i (by simp; have := HPRE.out; omega)]
            simp [List.getElem_append_right, HPRE.out]
          have ff : ∀ q, wr.frozen? ⟨gd, q, none⟩ = false := fun q => frozen_of_row _ _ q _ _ HQ.out.row
          have hwr : IntKind.i64.wrap ((z : Int) + 1) = (z : Int) + 1 := by
            rw [IntKind.wrap_i64]
            have : z ≤ 5001 := by
              have := HZB.out
              rw [hz] at this
              exact this
            omega
          have hki : ¬ (k : Int) < (m : Int) := by omega
          clear hz hkm hkm2
          go_wp2_with fail
          go_roundw
          case rel => exact ⟨i + 1, by go_num, by omega, Lib.hid (by rw [HNE.out]; exact HN3.out)⟩
          case measure => simp [intOf]; omega
    · have hiN : i = N := by omega
      have HE : Hid (DpSt w gd (depsN ns []) wr) := by
        have := HS.out
        rw [hiN, Nat.sub_self, List.take_of_length_le (by have := HN.out; omega)] at this
        exact Lib.hid (by simpa using this)
      have hdl : (depsN ns []).length = N := by rw [depsN_len]; have := HN.out; simp; omega
      have zz : wr.cell? ⟨gd, n, none⟩ = some (.int .i64 ((depN ns : Nat) : Int)) := by
        have hn : n < (depsN ns []).length := by have := HN.out; omega
        rw [HE.out.cell n hn, ← HFIN.out, List.getD_eq_getElem?_getD, List.getElem?_eq_getElem hn]
        rfl
      have hsub : IntKind.i64.wrap ((N : Int) - 1) = (n : Int) := by rw [IntKind.wrap_i64]; have := HN.out; omega
      have hnN : n < N := by have := HN.out; omega
      have hii : ¬ (i : Int) < (N : Int) := by omega
      clear hiN hdl
      go_wp2_with fail
      go_ret
      exact ⟨rfl, HE.out.kept⟩
end Go.Proofs.YtfpdgdacifiejaaGreat

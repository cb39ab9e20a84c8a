/-
  Layer 5: the document's Parse.
  Conditions: those that each theorem states.
-/
import Derived.Test.YtdaofgmdledcbaaDoorTSplitR
import Derived.Test.YtdaofgmdledcbaaDoorTPrintR
import Derived.Test.YtdaofgmdledcbaaDoorTText
namespace Go.Proofs.YtdaofgmdledcbaaDoor
open Go.RowKit Go.Maps

/-- The rows that the document's Parse reads: of the lines but for the last, at most 33. -/
def rlines (b : List UInt8) : List (List UInt8) := (cutC 10 b).take ((cutC 10 b).length - 1)
def rreadL (b : List UInt8) : List TRow := ((rlines b).take 33).map lineR
def rparseE (t b : List UInt8) : Int × List TRow := if widthI t = 0 then (50, []) else if printE t (rreadL b) = (0, b) then (0, rreadL b) else (51, [])
def RParseOut (t b : List UInt8) (w : World) (e : Ending) (w' : World) : Prop :=
  ∃ ao len cap n L, e = .returned (.tuple #[.slice ao len cap, .int .i64 n]) ∧ Hid (rparseE t b = (n, L) ∧ RowsIs w' ao len L ∧ Kept [] w w')

structure RqSt (w : World) (Ls : List (List UInt8)) (k : Nat) (v : Value) (wr : World) : Prop where
  own : OwnRows none w.heap.size wr v ((Ls.take k).map lineR)
  kept : Kept [] w wr
theorem take_map_snoc (Ls : List (List UInt8)) (k : Nat) (hk : k < Ls.length) : (Ls.take (k + 1)).map lineR = (Ls.take k).map lineR ++ [lineR Ls[k]] := by
  rw [List.take_succ_eq_append_getElem hk, List.map_append]
  rfl
theorem CellsIs.tailRange {w : World} {g o cap : Nat} {x : List UInt8} {l : List (List UInt8)} (hg : g < w.heap.size) (h : w.rangeAt g 0 (sv (x :: l))) (hl : l.length * 16 ≤ 140737488355328) (he : ∀ x ∈ l, x.length ≤ 140737488355328) (hc : l.length ≤ cap) (hc2 : cap ≤ 9223372036854775807) (ho : l.length ≠ 0 → o = 1) : CellsIs w (.slice (some ⟨g, o, none⟩) l.length cap) l := by
  refine ⟨⟨_, _, rfl, hc, hc2, fun e => (by cases e), ?_⟩, hl, he⟩
  by_cases h0 : l.length = 0
  · exact .inl h0
  · refine .inr ⟨g, o, rfl, hg, fun j v hv => ?_⟩
    rw [ho h0]
    have := h (1 + j) v (by rw [Nat.add_comm]; simpa [sv] using hv)
    simpa using this

set_option maxRecDepth 100000 in
set_option maxHeartbeats 8000000 in
theorem rparse_go (t : List UInt8) (ao : Option Addr) (len cap : Nat) (b : List UInt8) (n : Int) (w : World) (hb : ArgB w ao len cap b) (hlen : len ≤ 100000000) (hn : widthI t = n) (h0 : n ≠ 0) :
    Calls Tryd.prog 18 #[.string (strL t), .slice ao len cap] w (RParseOut t b w) := by
  have HB := Lib.hid hb
  have HLL := Lib.hid hb.hlen
  clear hb
  have HR : Hid (rparseE t b = if printE t (rreadL b) = (0, b) then (0, rreadL b) else (51, [])) := by show _ = _; unfold rparseE; rw [hn, if_neg h0]
  have HN := Lib.hid hn
  have q0 : (n == 0) = false := by simpa using h0
  clear hn h0
  go_enter Tryd.func18, Tryd.ntmps18
  go_wp2_with fail
  refine (rwidth_any t _).mono ?_
  rw [HN.out]
  rintro e w1 ⟨rfl, rfl⟩
  have hcv : (convert 25 9 (.slice ao len cap)).run Tryd.prog w = .ok (.string (strL b)) w := HB.out.conv
  go_wp2_with fail
  refine (rsplitS_any (strL b) 10 _ (by rw [strL_size, HLL.out]; omega)).mono ?_
  rintro e w2 ⟨v2, rfl, HV⟩
  rw [strL_toList] at HV
  obtain ⟨C, hC⟩ : ∃ C, cutC 10 b = C := ⟨_, rfl⟩
  rw [hC] at HV
  have hCl : C.length ≤ len + 1 := by rw [← hC, ← HLL.out]; exact cutC_len 10 b
  have hC1 : 1 ≤ C.length := by
    rw [← hC]
    have := cutC_ne (c := 10) b
    cases h : cutC 10 b with
    | nil => exact absurd h this
    | cons a l => simp
  have HCE : Hid (∀ x ∈ C, x.length ≤ 100000000) := fun x hx => by
    rw [← hC] at hx
    have := cutC_le b x hx
    rw [HLL.out] at this
    omega
  have HRL : Hid (rreadL b = ((C.take (C.length - 1)).take 33).map lineR) := by show _ = _; unfold rreadL rlines; rw [hC]
  clear hC hcv
  have hcells := HV.out.1.cells (by omega) (fun x hx => by have := HCE.out x hx; omega)
  obtain ⟨cao, ccap, hv, c2, c3, c4, c5⟩ := hcells.open
  subst hv
  have C5 := Lib.hid c5
  have HK2 := Lib.hid HV.out.2
  clear hcells c4 c5 HV
  obtain ⟨M, hM⟩ : ∃ M : Nat, C.length - 1 = M := ⟨_, rfl⟩
  rw [hM] at HRL
  have hML : (C.length : Int) - 1 = (M : Int) := by omega
  have hwM : IntKind.i64.wrap ((C.length : Int) - 1) = (M : Int) := by rw [IntKind.wrap_i64]; omega
  go_wp2_with fail
  go_loopw [6, 8, 9] (fun v i u wr => ∃ k : Nat, k ≤ M ∧ k ≤ 33 ∧ i = .int .i64 k ∧ Hid (RqSt w2 C k v wr)) (fun _ i _ _ => 33 - (intOf i).toNat)
  case atStart => exact ⟨0, by omega, by omega, rfl, ⟨by simpa using OwnRows.nil none w2.heap.size w2, Kept.refl _ _⟩⟩
  case round =>
    obtain ⟨k, hk, hk33, rfl, HS⟩ := hrel
    have HW := Lib.hid HS.out.kept
    by_cases hgo : k < M ∧ k ≤ 32
    · obtain ⟨g1, g2⟩ := hgo
      have hkC : k < C.length := by omega
      obtain ⟨b0, o0, rfl, hb0, hcell⟩ := C5.out (by omega)
      obtain ⟨a, ha⟩ : ∃ a, C[k] = a := ⟨_, rfl⟩
      have c0 : wr.cell? ⟨b0, o0 + k, none⟩ = some (.string (strL a)) := by rw [HW.out.cell hb0 (by simp), hcell k hkC, ha]
      have hal : a.length ≤ 100000000 := by rw [← ha]; exact HCE.out _ (List.getElem_mem hkC)
      have HAS : Hid ((C.take (k + 1)).map lineR = (C.take k).map lineR ++ [lineR a]) := by show _ = _; rw [take_map_snoc C k hkC, ha]
      clear ha hcell
      have g1I : (k : Int) < (M : Int) := by omega
      have g2I : (k : Int) ≤ 32 := by omega
      have hkI : (k : Int) < (C.length : Int) := by omega
      go_wp2_with fail
      refine (rsplitS_any (strL a) 58 _ (by rw [strL_size]; omega)).mono ?_
      rintro e w3 ⟨v3, rfl, HV3⟩
      rw [strL_toList] at HV3
      obtain ⟨D, hD⟩ : ∃ D, cutC 58 a = D := ⟨_, rfl⟩
      rw [hD] at HV3
      obtain ⟨x, T, rfl⟩ : ∃ x T, D = x :: T := by
        cases D with
        | nil => exact absurd hD (cutC_ne _)
        | cons x T => exact ⟨x, T, rfl⟩
      have HLR : Hid (lineR a = (x, T)) := by show _ = _; unfold lineR; rw [hD]; rfl
      have hTl : T.length ≤ 100000000 := by have := cutC_len 58 a; rw [hD] at this; simp at this; omega
      have HDE : Hid (∀ y ∈ x :: T, y.length ≤ 140737488355328) := fun y hy => by
        rw [← hD] at hy
        have := cutC_le a y hy
        omega
      clear hD
      have hown3 := HV3.out.1
      obtain ⟨g, cap3, hv3, hgb, hgs, hcap3, hcm3, hrg3⟩ : ∃ g cap, v3 = .slice (some ⟨g, 0, none⟩) (T.length + 1) cap ∧ wr.heap.size ≤ g ∧ g < w3.heap.size ∧ T.length + 1 ≤ cap ∧ cap ≤ 9223372036854775807 ∧ w3.rangeAt g 0 (sv (x :: T)) := by
        rcases owns_range hown3 with ⟨g, cp, h1, h2, h3, h4, h5, h6⟩ | ⟨_, hn, _⟩
        · exact ⟨g, cp, h1, h2, h3, h4, by unfold maxLen at h5; omega, h6⟩
        · simp at hn
      subst hv3
      have d0 : w3.cell? ⟨g, 0, none⟩ = some (.string (strL x)) := by have := hrg3 0 _ (sv_get (x :: T) 0 (by simp)); simpa using this
      have HRG := Lib.hid hrg3
      have HK3 := Lib.hid HV3.out.2
      clear hrg3 hown3 HV3
      have hsg : w3.drew.heap.size ≠ g := by show w3.heap.size ≠ g; omega
      obtain ⟨q, hq, hqb⟩ := own_blk u6 g (fun q hq => by have := (HS.out.own.blk q hq).2; omega)
      have HQ := Lib.hid hqb
      clear hqb
      obtain ⟨s, hs⟩ : ∃ s, w3.heap.size = s := ⟨_, rfl⟩
      have HSZ := Lib.hid hs
      have hgs2 : g < s := by omega
      have ca : ∀ w', Kept [q, s] w3.drew w' → w'.cell? ⟨g, 0, none⟩ = some (.string (strL x)) := fun w' hk => by rw [((Kept.drew [q, s] w3).trans hk).cell hgs (by simp; omega)]; exact d0
      have hkd : Kept [] wr w3.drew := HK3.out.trans (Kept.drew _ _)
      have HKD := Lib.hid hkd
      have key : ∀ o2, (T.length ≠ 0 → o2 = 1) → ∃ vu vm vc w7 v2 w10, (Builtin.append_ #[32, 32] 32 #[.slice (some ⟨w3.drew.heap.size, 0, none⟩) 0 0, .slice (some ⟨g, o2, none⟩) T.length (cap3 - 1)]).run Tryd.prog (w3.drew.alloc (.cells #[] 9)) = .ok (.slice vu vm vc) w7 ∧ Kept [q, s] (w3.drew.alloc (.cells #[] 9)) w7 ∧
          (Builtin.append_ #[22, 22] 22 #[u6, .slice (some ⟨w7.heap.size, 0, none⟩) 1 1]).run Tryd.prog (w7.alloc (.cells #[.string (strL x), .slice vu vm vc] 34)) = .ok v2 w10 ∧ Kept [q, s] (w7.alloc (.cells #[.string (strL x), .slice vu vm vc] 34)) w10 ∧ RqSt w2 C (k + 1) v2 w10 := fun o2 ho2 => by
        have hct : CellsIs w3.drew (.slice (some ⟨g, o2, none⟩) T.length (cap3 - 1)) T := (CellsIs.tailRange hgs HRG.out (by omega) (fun y hy => HDE.out y (by simp [hy])) (by omega) (by omega) ho2).kept (Kept.drew _ _)
        obtain ⟨v7, w7, hrun1, hc1, hk1, hfr1, hkb1⟩ := copy_strs hct
        have hvs : ∃ u m c, v7 = .slice u m c := by obtain ⟨u, c, rfl, _⟩ := hc1.val; exact ⟨u, _, c, rfl⟩
        obtain ⟨vu, vm, vc, rfl⟩ := hvs
        have hk37 : Kept [] wr w7 := HKD.out.trans hk1
        have ho1 := HS.out.own.kept hk37
        have hds : w3.drew.heap.size = s := HSZ.out
        have hwrs : wr.heap.size ≤ w3.heap.size := HK3.out.size
        have hlen1 : ((C.take k).map lineR).length ≤ 33 := by rw [List.length_map, List.length_take]; omega
        obtain ⟨v2, w10, hrun2, ho2', hap2, hkb2⟩ := ho1.app (by have := hk37.size; have := HS.out.kept.size; omega) (x, T) _ hc1.D (fun b' o' n' c' e hn hm => by
          have h1 := hfr1 b' o' n' c' e
          have h2 := (HS.out.own.blk b' (by simpa using hm)).2
          omega) (by omega) (HDE.out x (by simp))
        refine ⟨vu, vm, vc, w7, v2, w10, hrun1, hkb1.mono (fun y hy _ => by
          rw [List.mem_singleton, hds] at hy
          simp [hy]), hrun2, hkb2.mono (fun y hy _ => by simp [HQ.out y hy]), ⟨by rw [HAS.out, HLR.out]; exact ho2', AppB.intoR (HS.out.kept.trans hk37) hap2 ho1 (Nat.le_refl _)⟩⟩
      by_cases hc31 : cap3 = 1
      · obtain ⟨vu, vm, vc, w7, v2, w10, hrun1, hb2, hrun2, hb4, hs2⟩ := key 0 (fun h => by omega)
        have HR1 := Lib.hid hrun1
        have HR2 := Lib.hid hrun2
        have HB2 := Lib.hid hb2
        have HB4 := Lib.hid hb4
        have HS2 := Lib.hid hs2
        have hT2 : (1 : Int) ≤ (T.length : Int) + 1 := by omega
        clear hrun1 hrun2 hb2 hb4 hs2 key hkd hs
        go_wp2_with fail
        refine wp_region_ord [(true, 0), (true, 1), (true, 2), (true, 3), (true, 5), (true, 6), (false, 4), (false, 7), (true, 8), (false, 9), (false, 10), (true, 11)] [q, s] (by kernel_rfl) (fun _ _ d _ _ h => by cases d <;> exact h) (by kernel_rfl) rfl (by kernel_rfl) (by kernel_rfl) ?_
        simp only [named, List.getD_cons_zero, List.getD_cons_succ]
        repeat (first | (apply wpGrow_take; (case hw => rfl); (case hv => intro w' hk; go_simp; with_reducible rfl); simp only [Act.put, List.setIfInBounds_toArray, List.set_cons_zero, List.set_cons_succ]) | (refine wpGrow_pass (by rfl) ?_; simp only [Act.put, List.setIfInBounds_toArray, List.set_cons_zero, List.set_cons_succ]) | (refine wpGrow_skip (by rfl) ?_; simp only [Act.put, List.setIfInBounds_toArray, List.set_cons_zero, List.set_cons_succ]))
        refine wpGrow_force (by rfl) (fun K hK => ?_)
        go_simp
        refine hK _ _ (Kept.alloc _ _ _) ?_
        clear hK K
        refine wpGrow_force (by rfl) (fun K hK => ?_)
        refine wp_append_run _ _ _ rfl _ _ _ rfl rfl HR1.out ?_
        refine hK _ _ HB2.out ?_
        clear hK K
        repeat (first | (apply wpGrow_take; (case hw => rfl); (case hv => intro w' hk; go_simp; with_reducible rfl); simp only [Act.put, List.setIfInBounds_toArray, List.set_cons_zero, List.set_cons_succ]) | (refine wpGrow_pass (by rfl) ?_; simp only [Act.put, List.setIfInBounds_toArray, List.set_cons_zero, List.set_cons_succ]) | (refine wpGrow_skip (by rfl) ?_; simp only [Act.put, List.setIfInBounds_toArray, List.set_cons_zero, List.set_cons_succ]))
        refine wpGrow_force (by rfl) (fun K hK => ?_)
        go_simp
        refine hK _ _ (Kept.alloc _ _ _) ?_
        clear hK K
        refine wpGrow_force (by rfl) (fun K hK => ?_)
        refine wp_append_run _ _ _ rfl _ _ _ rfl rfl HR2.out ?_
        refine hK _ _ HB4.out ?_
        clear hK K
        repeat (first | (apply wpGrow_take; (case hw => rfl); (case hv => intro w' hk; go_simp; with_reducible rfl); simp only [Act.put, List.setIfInBounds_toArray, List.set_cons_zero, List.set_cons_succ]) | (refine wpGrow_pass (by rfl) ?_; simp only [Act.put, List.setIfInBounds_toArray, List.set_cons_zero, List.set_cons_succ]) | (refine wpGrow_skip (by rfl) ?_; simp only [Act.put, List.setIfInBounds_toArray, List.set_cons_zero, List.set_cons_succ]))
        refine wpGrow_nil ?_
        clear ca HR1 HR2 HB2 HB4
        go_wp2_with fail
        go_roundw
        case rel => exact ⟨k + 1, by omega, by omega, by go_num, HS2⟩
        case measure => simp [intOf]; omega
      · obtain ⟨vu, vm, vc, w7, v2, w10, hrun1, hb2, hrun2, hb4, hs2⟩ := key 1 (fun _ => rfl)
        have HR1 := Lib.hid hrun1
        have HR2 := Lib.hid hrun2
        have HB2 := Lib.hid hb2
        have HB4 := Lib.hid hb4
        have HS2 := Lib.hid hs2
        have hT2 : (1 : Int) ≤ (T.length : Int) + 1 := by omega
        clear hrun1 hrun2 hb2 hb4 hs2 key hkd hs
        go_wp2_with fail
        refine wp_region_ord [(true, 0), (true, 1), (true, 2), (true, 3), (true, 5), (true, 6), (false, 4), (false, 7), (true, 8), (false, 9), (false, 10), (true, 11)] [q, s] (by kernel_rfl) (fun _ _ d _ _ h => by cases d <;> exact h) (by kernel_rfl) rfl (by kernel_rfl) (by kernel_rfl) ?_
        simp only [named, List.getD_cons_zero, List.getD_cons_succ]
        repeat (first | (apply wpGrow_take; (case hw => rfl); (case hv => intro w' hk; go_simp; with_reducible rfl); simp only [Act.put, List.setIfInBounds_toArray, List.set_cons_zero, List.set_cons_succ]) | (refine wpGrow_pass (by rfl) ?_; simp only [Act.put, List.setIfInBounds_toArray, List.set_cons_zero, List.set_cons_succ]) | (refine wpGrow_skip (by rfl) ?_; simp only [Act.put, List.setIfInBounds_toArray, List.set_cons_zero, List.set_cons_succ]))
        refine wpGrow_force (by rfl) (fun K hK => ?_)
        go_simp
        refine hK _ _ (Kept.alloc _ _ _) ?_
        clear hK K
        refine wpGrow_force (by rfl) (fun K hK => ?_)
        refine wp_append_run _ _ _ rfl _ _ _ rfl rfl HR1.out ?_
        refine hK _ _ HB2.out ?_
        clear hK K
        repeat (first | (apply wpGrow_take; (case hw => rfl); (case hv => intro w' hk; go_simp; with_reducible rfl); simp only [Act.put, List.setIfInBounds_toArray, List.set_cons_zero, List.set_cons_succ]) | (refine wpGrow_pass (by rfl) ?_; simp only [Act.put, List.setIfInBounds_toArray, List.set_cons_zero, List.set_cons_succ]) | (refine wpGrow_skip (by rfl) ?_; simp only [Act.put, List.setIfInBounds_toArray, List.set_cons_zero, List.set_cons_succ]))
        refine wpGrow_force (by rfl) (fun K hK => ?_)
        go_simp
        refine hK _ _ (Kept.alloc _ _ _) ?_
        clear hK K
        refine wpGrow_force (by rfl) (fun K hK => ?_)
        refine wp_append_run _ _ _ rfl _ _ _ rfl rfl HR2.out ?_
        refine hK _ _ HB4.out ?_
        clear hK K
        repeat (first | (apply wpGrow_take; (case hw => rfl); (case hv => intro w' hk; go_simp; with_reducible rfl); simp only [Act.put, List.setIfInBounds_toArray, List.set_cons_zero, List.set_cons_succ]) | (refine wpGrow_pass (by rfl) ?_; simp only [Act.put, List.setIfInBounds_toArray, List.set_cons_zero, List.set_cons_succ]) | (refine wpGrow_skip (by rfl) ?_; simp only [Act.put, List.setIfInBounds_toArray, List.set_cons_zero, List.set_cons_succ]))
        refine wpGrow_nil ?_
        clear ca HR1 HR2 HB2 HB4
        go_wp2_with fail
        go_roundw
        case rel => exact ⟨k + 1, by omega, by omega, by go_num, HS2⟩
        case measure => simp [intOf]; omega
    · have HFL : Hid ((C.take k).map lineR = rreadL b) := by
        show _ = _
        rw [HRL.out, List.take_take]
        congr 2
        omega
      have HOW : Hid (OwnRows none w2.heap.size wr u6 (rreadL b) ∧ Kept [] w wr) := by
        have := HS.out.own
        rw [HFL.out] at this
        exact ⟨this, HK2.out.trans HS.out.kept⟩
      obtain ⟨L, hL⟩ : ∃ L, rreadL b = L := ⟨_, rfl⟩
      rw [hL] at HOW HR
      clear hL HFL HRL HS
      obtain ⟨rao, rcap, hv, -, -, -, hrows⟩ := HOW.out.1.rows
      subst hv
      have HRW := Lib.hid hrows
      have HK := Lib.hid HOW.out.2
      have hLl : L.length ≤ 140737488355328 := by have := hrows.bytes; omega
      clear hrows HOW
      have cvb : ∀ w', Kept [] w w' → (convert 25 9 (.slice ao len cap)).run Tryd.prog w' = .ok (.string (strL b)) w' := fun w' h => (HB.out.kept h).conv
      have CVB := Lib.hid cvb
      clear cvb
      rcases (by omega : ¬ (k : Int) < (M : Int) ∨ ((k : Int) < (M : Int) ∧ ¬ (k : Int) ≤ 32)) with g1 | ⟨g1, g2⟩
      all_goals
        clear hgo
        go_wp2_with fail
        refine (rprint_any t rao L.length rcap L _ HRW.out).mono ?_
        rintro e w4 ⟨v4, m, c, rfl, HP⟩
        have hcv4 : (convert 25 9 v4).run Tryd.prog w4 = .ok (.string (strL c)) w4 := convL HP.out.2.1
        have HRW4 := Lib.hid (HRW.out.kept HP.out.2.2.2)
        have HK4 := Lib.hid (HK.out.trans HP.out.2.2.2)
        have hcvb := CVB.out w4 HK4.out
        by_cases hm : m = 0
        · have q2 : (m != 0) = false := by simpa using hm
          have q2' : (m == 0) = true := by simpa using hm
          by_cases hc : c = b
          · have HF : Hid (rparseE t b = (0, L)) := by show _ = _; rw [HR.out, HP.out.1, hm, hc, if_pos rfl]
            have q3 : ((strL c).toList != (strL b).toList) = false := by rw [strL_bytes, strL_bytes, hc]; simp
            have q3' : ((strL c).toList == (strL b).toList) = true := by rw [strL_bytes, strL_bytes, hc]; simp
            clear hc hm HP HR
            go_wp2_with fail
            go_ret2
            exact ⟨_, _, _, _, L, rfl, HF.out, HRW4.out, HK4.out⟩
          · have HF : Hid (rparseE t b = (51, [])) := by show _ = _; rw [HR.out, HP.out.1, hm, if_neg (by simpa using hc)]
            have q3 : ((strL c).toList != (strL b).toList) = true := by rw [strL_bytes, strL_bytes]; simpa using hc
            have q3' : ((strL c).toList == (strL b).toList) = false := by rw [strL_bytes, strL_bytes]; simpa using hc
            clear hc hm HP HR
            go_wp2_with fail
            go_ret2
            exact ⟨_, _, _, _, [], rfl, HF.out, RowsIs.nil _ _, HK4.out⟩
        · have q2 : (m != 0) = true := by simpa using hm
          have q2' : (m == 0) = false := by simpa using hm
          have HF : Hid (rparseE t b = (51, [])) := by
            show _ = _
            rw [HR.out, HP.out.1, if_neg]
            intro h
            injection h with h1 h2
            exact hm h1
          clear hm HP HR
          go_wp2_with fail
          go_ret2
          exact ⟨_, _, _, _, [], rfl, HF.out, RowsIs.nil _ _, HK4.out⟩

set_option maxHeartbeats 1000000 in
theorem rparse_any (t : List UInt8) (ao : Option Addr) (len cap : Nat) (b : List UInt8) (w : World) (hb : ArgB w ao len cap b) (hlen : len ≤ 100000000) :
    Calls Tryd.prog 18 #[.string (strL t), .slice ao len cap] w (RParseOut t b w) := by
  obtain ⟨n, hn⟩ : ∃ n, widthI t = n := ⟨_, rfl⟩
  by_cases h0 : n = 0
  · have HR : Hid (rparseE t b = (50, [])) := by show _ = _; unfold rparseE; rw [hn, if_pos h0]
    have q0 : (n == 0) = true := by simpa using h0
    have HN := Lib.hid hn
    clear hn h0 hb
    go_enter Tryd.func18, Tryd.ntmps18
    go_wp2_with fail
    refine (rwidth_any t _).mono ?_
    rw [HN.out]
    rintro e w1 ⟨rfl, rfl⟩
    go_wp2_with fail
    go_ret2
    exact ⟨_, _, _, _, [], rfl, HR.out, RowsIs.nil _ _, Kept.refl _ _⟩
  · exact rparse_go t ao len cap b n w hb hlen hn h0

/-- The lines of a text of sound rows. -/
theorem cut_text {n : Int} : ∀ (l : List TRow), (∀ r ∈ l, rowB n r = true) → cutC 10 (textL l) = (l.map fun r => r.1 ++ cellsL r.2) ++ [[]]
  | [], _ => rfl
  | r :: l, h => by
    rw [show textL (r :: l) = rowL r ++ textL l from rfl, rowL_eq, cutC_hit _ _ (row_free (h r (by simp))), cut_text l fun y hy => h y (by simp [hy])]
    rfl
theorem rread_text {n : Int} {l : List TRow} (h : ∀ r ∈ l, rowB n r = true) (h32 : l.length ≤ 32) : rreadL (textL l) = l := by
  have e1 : rlines (textL l) = l.map fun r => r.1 ++ cellsL r.2 := by
    unfold rlines
    rw [cut_text l h]
    simp
  unfold rreadL
  rw [e1, List.take_of_length_le (by simp; omega), List.map_map]
  conv => rhs; rw [← List.map_id l]
  exact List.map_congr_left fun r hr => line_row (h r hr)
/-- Both read the same. -/
theorem parse_same (t b : List UInt8) : rparseE t b = parseE t b := by
  unfold rparseE parseE
  by_cases h0 : widthI t = 0
  · rw [if_pos h0, if_pos h0]
  · rw [if_neg h0, if_neg h0]
    by_cases hp : printE t (readL b) = (0, b)
    · obtain ⟨_, h2, h3, h4, h5⟩ := print_ok hp
      have hb : ¬ 2432 < b.length := by rw [h4]; omega
      have e : rreadL b = readL b := by
        conv => lhs; rw [h4]
        exact rread_text (goodR_mem h3) h2
      rw [if_neg hb, e, if_pos hp]
    · by_cases hq : printE t (rreadL b) = (0, b)
      · obtain ⟨_, h2, h3, h4, h5⟩ := print_ok hq
        have e : readL b = rreadL b := by
          conv => lhs; rw [h4]
          exact read_text _ (goodR_mem h3)
        rw [e] at hp
        exact absurd hq hp
      · rw [if_neg hq]
        by_cases h5 : 2432 < b.length
        · rw [if_pos h5]
        · rw [if_neg h5, if_neg hp]
end Go.Proofs.YtdaofgmdledcbaaDoor

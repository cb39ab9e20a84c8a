/-
  Layer 8: the program's gather: which edges there are.
  Conditions: those that each theorem states.
-/
import Derived.Test.YtpdngekolhcndaaGClos
namespace Go.Proofs.Ytpdngekolhcndaa
open Go.RowKit Go.Maps

theorem results_cellTmp {P : Program} {fn : Func} {p u : Tmp} {ty : TypeId} (h : fn.results = #[.cell p ty, .tmp u]) (tmps : Array Value) (w : World) (g : Nat) (t : TypeId) (cs : Array Value) (d : TypeDesc)
    (hp : tmps.getD p undef = .pointer (some ⟨g, 0, none⟩)) (hg : w.heap[g]? = some (.cells cs t)) (hu : P.underlying ty = some d) (hd : d.isRow = true) (hi : (P.info? ty).map (·.size) = some cs.size) :
    (results fn tmps).run P w = .ok (.tuple #[.agg cs, tmps.getD u undef]) w := by
  have hl := run_loadVar_mid (P := P) w g 0 ty cs.toList d (fun j v hv => by rw [Nat.zero_add, cell_of_row w g j _ _ _ hg]; simpa using hv) hu hd (by simpa using hi)
  rw [results_cell_tmp h, hp]
  simp only [asAddr, Sem.run_pure, Result.andThen_ok, hl, Array.toArray_toList]

/-- What gather answers. -/
def GathOut (n : Int) (L : List Edg) (w : World) (e : Ending) (w' : World) : Prop :=
  ∃ (M : List Bool) (c : Int), e = .returned (.tuple #[.agg (blA M), .int .i64 c]) ∧ Hid (M.length = 1024 ∧ c = (if GOk n L then 0 else 1) ∧ (GOk n L → ∀ i j, i < 32 → j < 32 → M.getD (i * 32 + j) false = adjL L i j) ∧ Kept [] w w')
/-- The state of gather's loop. -/
structure GaSt (w : World) (n : Int) (L : List Edg) (Z : Array Value) (k : Nat) (wr : World) : Prop where
  each : ∀ x ∈ L.take k, EdOk n x
  res : wr.heap[w.heap.size]? = some (.cells Z 42)
  ld : LdIs wr (w.heap.size + 1) (adjL (L.take k))
  kept : Kept [] w wr
theorem GaSt.kept' {w : World} {n : Int} {L : List Edg} {Z : Array Value} {k : Nat} {wr w' : World} (h : GaSt w n L Z k wr) (hk : Kept [] wr w') : GaSt w n L Z k w' :=
  ⟨h.each, hk.heap (by simp) h.res, h.ld.kept hk (by simp), h.kept.trans hk⟩
theorem GaSt.next {w : World} {n : Int} {L : List Edg} {Z : Array Value} {k : Nat} {wr w' : World} (h : GaSt w n L Z k wr) (hk : k < L.length) (a b : Nat) (ha : L[k].fr = (a : Int)) (hb : L[k].tw = (b : Int)) (a32 : a < 32) (b32 : b < 32) (ok : EdOk n L[k]) (hkk : Kept [] wr w') :
    GaSt w n L Z (k + 1) (w'.setCell ⟨w.heap.size + 1, a * 32 + b, none⟩ (.bool true)) := by
  have h2 := h.kept' hkk
  have hc := Kept.setCell [w.heap.size + 1] w' ⟨w.heap.size + 1, a * 32 + b, none⟩ (.bool true) (by simp)
  have hs := h2.ld.set a b a32 b32
  have e : put2 (adjL (L.take k)) a b = adjL (L.take (k + 1)) := by
    funext i j
    rw [List.take_succ_eq_append_getElem hk]
    unfold put2 adjL
    rw [List.any_append]
    simp only [List.any_cons, List.any_nil, Bool.or_false, ha, hb]
    by_cases e : i = a ∧ j = b
    · obtain ⟨rfl, rfl⟩ := e
      simp
    · rw [if_neg e, decide_eq_false (p := ((a : Int) = i ∧ (b : Int) = j)) (by omega), Bool.or_false]
  rw [e] at hs
  refine ⟨?_, hc.heap (by simp) h2.res, hs, h2.kept.into hc (by simp)⟩
  rw [List.take_succ_eq_append_getElem hk]
  intro x hx
  rcases List.mem_append.1 hx with hx | hx
  · exact h.each x hx
  · simp at hx; rw [hx]; exact ok
theorem GathOut.bad {n : Int} {L : List Edg} {w w' : World} {M : List Bool} (hM : M.length = 1024) (h : ¬ GOk n L) (hk : Kept [] w w') : GathOut n L w (.returned (.tuple #[.agg (blA M), .int .i64 1])) w' :=
  ⟨M, 1, rfl, hM, by rw [if_neg h], fun g => absurd g h, hk⟩

set_option maxRecDepth 100000 in
set_option maxHeartbeats 4000000 in
theorem gather_any (n : Int) (L : List Edg) (v : Value) (w : World) (h : EsIs w v L) :
    Calls Try.prog 15 #[.int .i64 n, v] w (GathOut n L w) := by
  obtain ⟨ao, cap, rfl, hcap, hc63, _, hcell⟩ := h.open
  have HC := Lib.hid hcell
  have hlen := h.len
  obtain ⟨m, hm⟩ : ∃ m, L.length = m := ⟨_, rfl⟩
  have HM := Lib.hid hm
  rw [hm] at hlen
  rw [hm]
  obtain ⟨A0, hA0⟩ : ∃ A0, blA (List.replicate 1024 false) = A0 := ⟨_, rfl⟩
  have hz : ∀ w, (zeroValue 42).run Try.prog w = .ok (.agg A0) w := fun w => by rw [← hA0]; exact zero_ged w
  have HZ := Lib.hid hA0
  clear h hcell hm hA0 hcap
  have hA1 : A0.size = 1024 := by rw [← HZ.out, blA_size, List.length_replicate]
  have hAo : A0.all (·.oneCell') = true := by rw [← HZ.out]; exact blA_one _
  have HA1 := Lib.hid hA1
  have HAO := Lib.hid hAo
  have HL0 : Hid (∀ w : World, LdIs (w.alloc (.cells A0 42)) w.heap.size (adjL [])) := by
    refine fun w => ⟨List.replicate 1024 false, ?_, List.length_replicate, fun i j hi hj => ?_⟩
    · rw [heap_alloc_last, HZ.out]
    · rw [List.getD_eq_getElem?_getD, List.getElem?_replicate, if_pos (by omega)]; rfl
  by_cases hb : n < 0 ∨ 32 < n
  · have HB : Hid (¬ GOk n L) := fun g => by have := g.1; omega
    have hst := run_storeCells_new (P := Try.prog) w 42 A0 A0 (by rw [hA1]; exact size_ged) rfl hAo
    clear hAo
    by_cases h0 : n < 0
    all_goals
      go_enter Try.func15, Try.ntmps15
      go_wp2_with fail
      refine bodyPost_ret_by (results_cellTmp rfl _ _ w.heap.size 42 A0 _ rfl (heap_alloc_last _ _) Try.underlying42 rfl (by rw [HA1.out]; exact size_ged)) rfl ?_
      rw [← HZ.out]
      exact GathOut.bad List.length_replicate HB.out (Kept.alloc _ _ _)
  · obtain ⟨q, rfl⟩ : ∃ q : Nat, n = q := ⟨n.toNat, by omega⟩
    have hq : q ≤ 32 := by omega
    have h1 : ¬ (q : Int) < 0 := by omega
    have h2 : ¬ (32 : Int) < q := by omega
    clear hb hA1 hAo
    go_enter Try.func15, Try.ntmps15
    go_wp2_with fail
    generalize hw1 : World.alloc (World.alloc w _) _ = w1
    have HS0 : Hid (GaSt w q L A0 0 w1) := by
      rw [← hw1]
      have h1 := HL0.out (w.alloc (.cells A0 42))
      rw [size_alloc] at h1
      exact ⟨by simp, (Kept.alloc [] _ _).heap (by simp) (heap_alloc_last w _), h1, (Kept.alloc _ _ _).trans (Kept.alloc _ _ _)⟩
    clear hw1 HL0
    go_loopw [18] (fun i wr => ∃ k : Nat, k ≤ m ∧ i = .int .i64 k ∧ Hid (GaSt w q L A0 k wr)) (fun i _ => m - (intOf i).toNat)
    case atStart => exact ⟨0, by omega, rfl, HS0⟩
    case round =>
      clear HS0
      obtain ⟨k, hk, rfl, HS⟩ := hrel
      by_cases hlt : k < m
      · have hkl : k < L.length := by rw [HM.out]; exact hlt
        obtain ⟨b, o, rfl, hb, hcc⟩ := HC.out (by omega)
        obtain ⟨a0, a1, a2⟩ := hcc k hkl
        obtain ⟨F, hF⟩ : ∃ F, L[k].fr = F := ⟨_, rfl⟩
        obtain ⟨T, hT⟩ : ∃ T, L[k].tw = T := ⟨_, rfl⟩
        obtain ⟨N, hN⟩ : ∃ N, L[k].nt = N := ⟨_, rfl⟩
        rw [hF] at a0
        rw [hT] at a1
        rw [hN] at a2
        have c0 := (HS.out.kept.cell (p := ⟨b, o + k * 3, none⟩) hb (by simp)).trans a0
        have c1 := (HS.out.kept.cell (p := ⟨b, o + k * 3 + 1, none⟩) hb (by simp)).trans a1
        have c2 := (HS.out.kept.cell (p := ⟨b, o + k * 3 + 2, none⟩) hb (by simp)).trans a2
        have HF := Lib.hid hF
        have HT := Lib.hid hT
        have HX : Hid (GOk q L → EdOk q L[k]) := fun g => g.2 _ (List.getElem_mem hkl)
        clear a0 a1 a2 hcc hF hT hN hb
        obtain ⟨w2, hw2⟩ : ∃ w2, wr.alloc (.cells #[.int .i64 F, .int .i64 T, .bool N] 32) = w2 := ⟨_, rfl⟩
        have HK2 : Hid (Kept [] wr w2) := by rw [← hw2]; exact Kept.alloc _ _ _
        have hx2 : w2.heap[wr.heap.size]? = some (.cells #[.int .i64 F, .int .i64 T, .bool N] 32) := by rw [← hw2]; exact heap_alloc_last _ _
        have d0 : w2.cell? ⟨wr.heap.size, 0, none⟩ = some (.int .i64 F) := cell_of_row _ _ 0 _ _ _ hx2
        have d1 : w2.cell? ⟨wr.heap.size, 1, none⟩ = some (.int .i64 T) := cell_of_row _ _ 1 _ _ _ hx2
        have HX2 := Lib.hid hx2
        have HG2 := Lib.hid (HS.out.kept' HK2.out)
        clear hx2
        by_cases r : F < 0 ∨ (q : Int) ≤ F ∨ T < 0 ∨ (q : Int) ≤ T
        · have HB : Hid (¬ GOk q L) := fun g => by
            have := HX.out g
            unfold EdOk at this
            rw [HF.out, HT.out] at this
            omega
          have hr := HG2.out.res
          have hsz : (Try.prog.info? 42).map (·.size) = some A0.size := by rw [HA1.out]; exact size_ged
          have HSZ := Lib.hid hsz
          have HR := Lib.hid hr
          clear hsz hr
          have fin : ∀ (e : Ending), e = .returned (.tuple #[.agg A0, .int .i64 1]) → GathOut q L w e (w2.setRow w.heap.size A0) := by
            rintro e rfl
            rw [← HZ.out]
            exact GathOut.bad List.length_replicate HB.out (HG2.out.kept.into (setRow_kept _ _ _) (by simp))
          have FIN := Lib.hid fin
          clear fin
          by_cases r1 : F < 0
          · go_wp2_with (refine wpList_store_vals rfl 42 _ _ rfl w.heap.size 42 A0 A0 rfl rfl HR.out rfl HAO.out HSZ.out ?_)
            refine bodyPost_ret_by (results_cellTmp rfl _ _ w.heap.size 42 A0 _ rfl (setRow_heap _ _ _ _ _ _ HR.out) Try.underlying42 rfl HSZ.out) rfl ?_
            exact FIN.out _ rfl
          · by_cases r2 : (q : Int) ≤ F
            · go_wp2_with (refine wpList_store_vals rfl 42 _ _ rfl w.heap.size 42 A0 A0 rfl rfl HR.out rfl HAO.out HSZ.out ?_)
              refine bodyPost_ret_by (results_cellTmp rfl _ _ w.heap.size 42 A0 _ rfl (setRow_heap _ _ _ _ _ _ HR.out) Try.underlying42 rfl HSZ.out) rfl ?_
              exact FIN.out _ rfl
            · by_cases r3 : T < 0
              · go_wp2_with (refine wpList_store_vals rfl 42 _ _ rfl w.heap.size 42 A0 A0 rfl rfl HR.out rfl HAO.out HSZ.out ?_)
                refine bodyPost_ret_by (results_cellTmp rfl _ _ w.heap.size 42 A0 _ rfl (setRow_heap _ _ _ _ _ _ HR.out) Try.underlying42 rfl HSZ.out) rfl ?_
                exact FIN.out _ rfl
              · have r4 : (q : Int) ≤ T := by omega
                go_wp2_with (refine wpList_store_vals rfl 42 _ _ rfl w.heap.size 42 A0 A0 rfl rfl HR.out rfl HAO.out HSZ.out ?_)
                refine bodyPost_ret_by (results_cellTmp rfl _ _ w.heap.size 42 A0 _ rfl (setRow_heap _ _ _ _ _ _ HR.out) Try.underlying42 rfl HSZ.out) rfl ?_
                exact FIN.out _ rfl
        · obtain ⟨x, rfl⟩ : ∃ x : Nat, F = x := ⟨F.toNat, by omega⟩
          obtain ⟨y, rfl⟩ : ∃ y : Nat, T = y := ⟨T.toNat, by omega⟩
          have x32 : x < 32 := by omega
          have y32 : y < 32 := by omega
          have x32i : (x : Int) < 32 := by omega
          have y32i : (y : Int) < 32 := by omega
          have r1 : ¬ (x : Int) < 0 := by omega
          have r2 : ¬ (q : Int) ≤ x := by omega
          have r3 : ¬ (y : Int) < 0 := by omega
          have r4 : ¬ (q : Int) ≤ y := by omega
          have HOK : Hid (EdOk q L[k]) := by
            show EdOk _ _
            unfold EdOk
            rw [HF.out, HT.out]
            omega
          clear r hz
          go_wp2_with fail
          have hm2 := HG2.out.ld.lt
          have hmr := HS.out.ld.lt
          have z0 : ∀ w', Kept [w.heap.size + 1] w2.drew w' → w'.cell? ⟨wr.heap.size, 0, none⟩ = some (.int .i64 x) := fun w' hk =>
            cell_of_row _ _ 0 _ _ _ (hk.heap (by simp; omega) (show w2.drew.heap[wr.heap.size]? = _ from HX2.out))
          have z1 : ∀ w', Kept [w.heap.size + 1] w2.drew w' → w'.cell? ⟨wr.heap.size, 1, none⟩ = some (.int .i64 y) := fun w' hk =>
            cell_of_row _ _ 1 _ _ _ (hk.heap (by simp; omega) (show w2.drew.heap[wr.heap.size]? = _ from HX2.out))
          have z2 : w2.cell? ⟨w.heap.size + 1, x * 32 + y, none⟩ = some (.bool (adjL (L.take k) x y)) := HG2.out.ld.cell x32 y32
          have z3 : w2.frozen? ⟨w.heap.size + 1, x * 32 + y, none⟩ = false := by
            obtain ⟨M, hM, _⟩ := HG2.out.ld
            exact frozen_of_row _ _ _ _ _ hM
          clear hm2 hmr d0 d1 c0 c1 c2
          refine wp_region_ord [(true, 0), (true, 1), (true, 2), (true, 3), (true, 4), (true, 5), (false, 6)] [w.heap.size + 1] (by kernel_rfl) (fun _ _ d _ _ h => by cases d <;> exact h) (by kernel_rfl) rfl (by kernel_rfl) (by kernel_rfl) ?_
          simp only [named, List.getD_cons_zero, List.getD_cons_succ]
          repeat (first | (apply wpGrow_take; (case hw => rfl); (case hv => intro w' hk; go_simp; with_reducible rfl); simp only [Act.put, List.setIfInBounds_toArray, List.set_cons_zero, List.set_cons_succ]) | (refine wpGrow_pass (by rfl) ?_; simp only [Act.put, List.setIfInBounds_toArray, List.set_cons_zero, List.set_cons_succ]) | (refine wpGrow_skip (by rfl) ?_; simp only [Act.put, List.setIfInBounds_toArray, List.set_cons_zero, List.set_cons_succ]))
          refine wpGrow_force (by rfl) (fun K hK => ?_)
          go_simp
          refine hK _ _ (Kept.setCell _ _ _ _ (by simp)) ?_
          clear hK K z0 z1 z2 z3
          refine wpGrow_nil ?_
          have HN : Hid (GaSt w q L A0 (k + 1) (w2.drew.setCell ⟨w.heap.size + 1, x * 32 + y, none⟩ (.bool true))) := HS.out.next hkl x y HF.out HT.out x32 y32 HOK.out (HK2.out.trans (Kept.drew _ _))
          go_wp2_with fail
          go_roundw
          case rel => exact ⟨k + 1, by omega, by go_num, HN⟩
          case measure => simp [intOf]; omega
      · have hkm : k = m := by omega
        have HT : Hid (L.take k = L) := by show _ = _; rw [hkm, ← HM.out, List.take_length]
        have hok : GOk q L := ⟨by omega, fun x hx => HS.out.each x (by rw [HT.out]; exact hx)⟩
        have HOK := Lib.hid hok
        have hld := HS.out.ld
        rw [HT.out] at hld
        obtain ⟨M, hM, hMl, hMA⟩ := hld
        have hrg : wr.rangeAt (w.heap.size + 1) 0 (blv M) := fun j v hv => by
          rw [Nat.zero_add, cell_of_row wr _ j _ _ _ hM]
          simpa [blA] using hv
        have hsz : (Try.prog.info? 42).map (·.size) = some (blv M).length := by rw [blv_length, hMl]; exact size_ged
        have hsz2 : (Try.prog.info? 42).map (·.size) = some (blv M).toArray.size := by simpa using hsz
        have HRG := Lib.hid hrg
        have HSZ := Lib.hid hsz
        have HSZ2 := Lib.hid hsz2
        have HMM := Lib.hid (And.intro hMl hMA)
        have HR := Lib.hid HS.out.res
        have HEQ : Hid ((blv M).toArray.size = A0.size) := by show _ = _; rw [HA1.out]; simp [blv_length, hMl]
        have HON : Hid ((blv M).toArray.all (·.oneCell') = true) := blA_one M
        clear hkm hok hM hMl hMA hrg hsz hsz2 hz
        go_wp2_with first
          | (refine wpList_load_mid rfl 42 _ rfl _ 0 rfl (blv M) _ HRG.out Try.underlying42 rfl HSZ.out ?_)
          | (refine wpList_store_vals rfl 42 _ _ rfl w.heap.size 42 A0 (blv M).toArray rfl rfl HR.out HEQ.out HON.out HSZ2.out ?_)
        refine bodyPost_ret_by (results_cellTmp rfl _ _ w.heap.size 42 (blv M).toArray _ rfl (setRow_heap _ _ _ _ _ _ HR.out) Try.underlying42 rfl HSZ2.out) rfl ?_
        exact ⟨M, 0, rfl, HMM.out.1, by rw [if_pos HOK.out], fun _ => HMM.out.2, HS.out.kept.into (setRow_kept _ _ _) (by simp)⟩
end Go.Proofs.Ytpdngekolhcndaa

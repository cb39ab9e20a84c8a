/-
  Layer 4: areas: the walk.
  Conditions: those that each theorem states.
  What the calls of package disk do, each as one contract over the plain description of a disk (its size, its power, its fuse, its count of writes, what each block holds).
  Conditions: fewer than 2^62 writes so far; numbers are int's.
-/
import Derived.Test.YtiedoocgbajjjaaGreatDoorFPutN
import Derived.Test.YtiedoocgbajjjaaGreatDoorFInode
import Derived.Test.YtiedoocgbajjjaaGreatDoorLTakeE
import Derived.Test.YtiedoocgbajjjaaGreatDoorRows
import Derived.Test.YtiedoocgbajjjaaGreatDoorOrder
namespace Go.Proofs.YtiedoocgbajjjaaGreatDoor
open Go.RowKit Go.Maps
set_option maxRecDepth 100000

/-- While the areas' bytes are made: they lie in block A. -/
structure ArSt (w4 : World) (A : Nat) (M : List UInt8) (wr : World) : Prop where
  kept : Kept [A] w4 wr
  row : wr.heap[A]? = some (.cells (bvA M) 5)
theorem ArSt.bit {w4 wr : World} {A : Nat} {M : List UInt8} (h : ArSt w4 A M wr) (i : Nat) (v : Int) (hv : v = ((orB (M.getD (i / 8) 0) (i % 8)).toNat : Int)) : ArSt w4 A (bitL M i) (wr.setCell ⟨A, i / 8, none⟩ (.int .u8 v)) := by
  refine ⟨h.kept.trans (Kept.setCell _ _ _ _ (by simp)), ?_⟩
  rw [heap_setCell_same wr A (i / 8) _ _ _ h.row, hv, bvA_set]
  rfl
theorem ArSt.drew {w4 wr : World} {A : Nat} {M : List UInt8} (h : ArSt w4 A M wr) : ArSt w4 A M wr.drew := ⟨h.kept.trans (Kept.drew _ _), h.row⟩
theorem ArSt.go {w4 wr w' : World} {A : Nat} {M : List UInt8} (h : ArSt w4 A M wr) (hk : Kept [] wr w') : ArSt w4 A M w' := ⟨h.kept.trans (hk.mono (by simp)), hk.heap (by simp) h.row⟩

set_option maxRecDepth 100000 in
set_option maxHeartbeats 4000000 in
theorem bareas_any (N q : Nat) (t : ATr) (w : World) (hT : TrOk w t) (hf : t.er.fine) (hs : SetOk N (233 + q) 64 t.addr t.nds) (hN : N ≤ 4096) (hq : N ≤ q * 512 ∧ q ≤ 8) (hal : t.all.length ≤ 64) :
    Calls Tryz.prog 39 #[.agg (layW N 0 1 2 201 ((201 + q : Nat) : Int) ((233 + q : Nat) : Int) 64), .pointer (some ⟨t.addr, 0, none⟩)] w fun e w' => ∃ v, e = .returned v ∧
      Hid (w'.ownsRow w.heap.size 77 64 v (q + 32) (bv (areaL N q t)) ∧ Kept [] w w') := by
  unfold layW
  have hsm := fine_small hf
  obtain ⟨P, hP⟩ : ∃ P, w.heap.size = P := ⟨_, rfl⟩
  obtain ⟨D, hD⟩ : ∃ D : Int, ((233 + q : Nat) : Int) = D := ⟨_, rfl⟩
  obtain ⟨E, hE⟩ : ∃ E : Int, ((201 + q : Nat) : Int) = E := ⟨_, rfl⟩
  obtain ⟨n, hn⟩ : ∃ n : Nat, (q + 32) * 64 = n := ⟨_, rfl⟩
  obtain ⟨k0, hk0⟩ : ∃ k0 : Nat, q * 64 = k0 := ⟨_, rfl⟩
  have HDE := Lib.hid (And.intro hD (And.intro hE (And.intro hn (And.intro hk0 hP))))
  rw [hD, hE]
  have hDb : 0 ≤ D ∧ D ≤ 1000 := by omega
  have hEb : 0 ≤ E ∧ E ≤ 1000 := by omega
  obtain ⟨w1, hw1⟩ : ∃ w1, w.alloc (.cells #[.int .i64 N, .int .i64 0, .int .i64 1, .int .i64 2, .int .i64 201, .int .i64 E, .int .i64 D, .int .i64 64] 60) = w1 := ⟨_, rfl⟩
  have HK1 : Hid (Kept [] w w1) := by show Kept _ _ _; rw [← hw1]; exact Kept.alloc _ _ _
  have hx : w1.heap[P]? = some (.cells #[.int .i64 N, .int .i64 0, .int .i64 1, .int .i64 2, .int .i64 201, .int .i64 E, .int .i64 D, .int .i64 64] 60) := by rw [← hw1, ← hP]; exact heap_alloc_last _ _
  have hs1 : w1.heap.size = P + 1 := by rw [← hw1, size_alloc, hP]
  have c4 : w1.cell? ⟨P, 4, none⟩ = some (.int .i64 201) := cell_of_row _ _ 4 _ _ _ hx
  have c6 : w1.cell? ⟨P, 6, none⟩ = some (.int .i64 D) := cell_of_row _ _ 6 _ _ _ hx
  obtain ⟨A, hA⟩ : ∃ A, P + 1 = A := ⟨_, rfl⟩
  have e1 : D - 201 = (q : Int) + 32 := by omega
  have e2 : ((q : Int) + 32) * 64 = (n : Int) := by omega
  have hnb : n ≤ 2560 := by omega
  have hmk := run_make_bytes (P := Tryz.prog) w1 22 5 Tryz.underlying22 (by kernel_rfl) (n : Int) (by omega) (by omega)
  rw [Int.toNat_natCast, hs1, hA] at hmk
  obtain ⟨w2, hw2⟩ : ∃ w2, w1.alloc (.cells (bvA (zerosL n)) 5) = w2 := ⟨_, rfl⟩
  rw [hw2] at hmk
  have H2 : Hid (Kept [] w w2 ∧ w2.heap[A]? = some (.cells (bvA (zerosL n)) 5) ∧ w2.heap[P]? = some (.cells #[.int .i64 N, .int .i64 0, .int .i64 1, .int .i64 2, .int .i64 201, .int .i64 E, .int .i64 D, .int .i64 64] 60)) := by
    rw [← hw2]
    exact ⟨HK1.out.trans (Kept.alloc _ _ _), by rw [← hA, ← hs1]; exact heap_alloc_last _ _, (Kept.alloc [] _ _).heap (by simp) hx⟩
  have HALL := Lib.hid (nall_any t.ht t w2 (Nat.le_refl _) (hT.kept H2.out.1) hsm (by omega))
  have HT := Lib.hid hT
  have HF := Lib.hid hf
  have HS := Lib.hid hs
  have HA : Hid (P + 1 = A) := hA
  have HAL := Lib.hid hal
  clear hx hw2 hT hf hs hsm hD hE hn hk0 hA hal
  rw [hP]
  go_enter Tryz.func39, Tryz.ntmps39
  go_wp2_with fail
  refine HALL.out.mono ?_
  rintro e w3 ⟨v3, rfl, H3⟩
  obtain ⟨K, hK⟩ : ∃ K, t.all.length = K := ⟨_, rfl⟩
  have hKp : 0 < K := by rw [← hK]; exact t.all_pos
  obtain ⟨g, gc, rfl, hgl, hgr⟩ : ∃ g gc, v3 = .slice (some ⟨g, 0, none⟩) K gc ∧ g < w3.heap.size ∧ w3.rangeAt g 0 (pv t.all) := by
    rcases owns_range H3.out.2 with ⟨g, cap, rfl, _, hg, _, _, hr⟩ | ⟨_, hz, _⟩
    · exact ⟨g, cap, by rw [hK], hg, hr⟩
    · omega
  have HGR := Lib.hid (And.intro hgl hgr)
  have HKK := Lib.hid hK
  have hK64 : K ≤ 64 := by rw [← hK]; exact HAL.out
  have HLY : Hid (∀ w', Kept [A] w2 w' → w'.heap[P]? = some (.cells #[.int .i64 N, .int .i64 0, .int .i64 1, .int .i64 2, .int .i64 201, .int .i64 E, .int .i64 D, .int .i64 64] 60)) := fun w' hk => hk.heap (by have := HA.out; simp; omega) H2.out.2.2
  have hx3 := HLY.out w3 (H3.out.1.mono (by simp))
  have c0 : w3.cell? ⟨P, 0, none⟩ = some (.int .i64 N) := cell_of_row _ _ 0 _ _ _ hx3
  have c1 : w3.cell? ⟨P, 1, none⟩ = some (.int .i64 0) := cell_of_row _ _ 1 _ _ _ hx3
  have c2 : w3.cell? ⟨P, 2, none⟩ = some (.int .i64 1) := cell_of_row _ _ 2 _ _ _ hx3
  have c3 : w3.cell? ⟨P, 3, none⟩ = some (.int .i64 2) := cell_of_row _ _ 3 _ _ _ hx3
  have c4' : w3.cell? ⟨P, 4, none⟩ = some (.int .i64 201) := cell_of_row _ _ 4 _ _ _ hx3
  have c5 : w3.cell? ⟨P, 5, none⟩ = some (.int .i64 E) := cell_of_row _ _ 5 _ _ _ hx3
  have c6' : w3.cell? ⟨P, 6, none⟩ = some (.int .i64 D) := cell_of_row _ _ 6 _ _ _ hx3
  have c7 : w3.cell? ⟨P, 7, none⟩ = some (.int .i64 64) := cell_of_row _ _ 7 _ _ _ hx3
  have HKW3 : Hid (Kept [] w w3) := H2.out.1.trans H3.out.1
  have HAA : Hid (∀ s ∈ t.all, TrOk w s ∧ s.er.fine ∧ s.rc.blocks.length ≤ 1000 ∧ (∀ b ∈ s.rc.blocks, b < N) ∧ s.rc.more < N ∧ s.rc.slot < 64 ∧ validB s.rc.kind s.rc.mode s.size s.rc.more (natI s.rc.blocks) = true) := fun s hs => by
    have hfs := fine_all HF.out s hs
    have hnd : s.nd ∈ t.nds := List.mem_map.2 ⟨s, hs, rfl⟩
    have hv := set_valid HS.out hN HF.out hs
    have hc := (HS.out.full _ hnd).1
    have h38 := (fine_cost hfs).2.2.2
    have hc' : s.rc.blocks.length = s.cont := hc
    refine ⟨(HT.out.mem (fine_small HF.out) s hs).1, hfs, by omega, fun b hb => (HS.out.rng b (List.mem_flatMap.2 ⟨_, hnd, List.mem_append.2 (.inl hb)⟩)).2, ?_, HS.out.slotlt _ hnd, hv⟩
    by_cases hm : 0 < s.rc.more
    · refine (HS.out.rng s.rc.more (List.mem_flatMap.2 ⟨_, hnd, List.mem_append.2 (.inr ?_)⟩)).2
      show s.rc.more ∈ if 0 < s.rc.more then [s.rc.more] else []
      rw [if_pos hm]; simp
    · have := HS.out.low; omega
  obtain ⟨F, hF⟩ : ∃ F, takenL N (233 + q) (t.all.flatMap ATr.blks) = F := ⟨_, rfl⟩
  have HFL : Hid (F.length = N) := by show _ = _; rw [← hF]; unfold takenL; rw [setAll_length, setAll_length]; simp
  have HTB := takenBlocks_any t.all w2.heap.size (.slice (some ⟨g, 0, none⟩) K gc) w3 N 0 1 2 201 E 64 (233 + q) H3.out.2 t.all_pos (by omega) (fun s hs => by
    obtain ⟨h1, _, h2, h3, h4, _⟩ := HAA.out s hs
    exact ⟨h1.kept HKW3.out, h2, h3, h4⟩) (by omega) (by have := HS.out.low; omega)
  unfold layW at HTB
  rw [HDE.out.1] at HTB
  have HTBH := Lib.hid HTB
  have HFF := Lib.hid hF
  clear HTB hF hx3 hgl hgr hK HALL hmk hw1 hs1 c4 c6
  go_wp2_with fail
  refine HTBH.out.mono ?_
  rintro e w4 ⟨rfl, H4⟩
  obtain ⟨Q, hQ⟩ : ∃ Q, w3.heap.size + 1 = Q := ⟨_, rfl⟩
  rw [hQ] at H4 ⊢
  have HQ : Hid (Q ≠ A ∧ g ≠ A ∧ A < w3.heap.size) := by
    have ha : A < w3.heap.size := (Array.getElem?_eq_some_iff.1 (H3.out.1.heap (by simp) H2.out.2.1)).1
    refine ⟨by omega, fun e => ?_, ha⟩
    have hr := HGR.out.2 0 _ (show (pv t.all)[0]? = some (.pointer (some ⟨(t.all[0]'(t.all_pos)).addr, 0, none⟩)) by simp [pv, t.all_pos])
    rw [e, cell_of_row _ _ 0 _ _ _ (H3.out.1.heap (by simp) H2.out.2.1)] at hr
    simp [bvA, bv] at hr
  have H40 : Hid (ArSt w4 A (bitsTo (zerosL n) F 0) w4) := ⟨Kept.refl _ _, H4.out.kept.heap (by simp) (H3.out.1.heap (by simp) H2.out.2.1)⟩
  have HSH : Hid (∀ wr, Kept [A] w4 wr → ∀ j, j < N → ∃ bb, F[j]? = some bb ∧ wr.cell? ⟨Q, j, none⟩ = some (.bool bb)) := fun wr hk j hj => by
    have hjF : j < F.length := by rw [HFL.out]; exact hj
    refine ⟨F[j], List.getElem?_eq_getElem hjF, ?_⟩
    have hrow := H4.out.row
    rw [← HFF.out] at hjF
    unfold takenL at hjF
    have := hk.heap (by have := HQ.out.1; simpa using this) hrow
    rw [cell_of_row _ _ j _ _ _ this]
    have e2 : setAll (setAll (List.replicate N false) (List.range (233 + q))) (t.all.flatMap ATr.blks) = F := HFF.out
    simp only [e2]
    simp [bvl, show j < F.length by rw [HFL.out]; exact hj]
  have HKW4 : Hid (∀ wr, Kept [A] w4 wr → Kept [] w wr) := fun wr hk => (HKW3.out.trans H4.out.kept).into hk (fun b hb => by
    have : b = A := by simpa using hb
    have := HDE.out.2.2.2.2
    have := HA.out
    omega)
  clear c0 c1 c2 c3 c4' c5 c6' c7 hQ HTBH
  go_wp2_with fail
  go_loopw [28] (fun i wr => ∃ j : Nat, j ≤ N ∧ i = .int .i64 j ∧ Hid (ArSt w4 A (bitsTo (zerosL n) F j) wr)) (fun i _ => N - (intOf i).toNat)
  case atStart => exact ⟨0, by omega, rfl, H40.out⟩
  case round =>
    clear H40
    obtain ⟨j, hj, rfl, HR⟩ := hrel
    by_cases hlt : j < N
    · obtain ⟨bb, hbb, cb⟩ := HSH.out wr HR.out.kept j hlt
      obtain ⟨M, hM⟩ : ∃ M, bitsTo (zerosL n) F j = M := ⟨_, rfl⟩
      have hMl : M.length = n := by rw [← hM, bitsTo_len, zerosL_length]
      rw [hM] at HR
      cases bb with
      | false =>
        have HN : Hid (ArSt w4 A (bitsTo (zerosL n) F (j + 1)) wr) := by
          show ArSt _ _ _ _
          unfold bitsTo
          rw [List.getD_eq_getElem?_getD, hbb]
          simp only [Option.getD_some, Bool.false_eq_true, if_false]
          rw [hM]; exact HR.out
        clear hbb hM
        go_wp2_with fail
        go_roundw
        case rel => exact ⟨j + 1, by omega, by go_num, HN.out⟩
        case measure => simp [intOf]; omega
      | true =>
        obtain ⟨d, hd⟩ : ∃ d, j / 8 = d := ⟨_, rfl⟩
        obtain ⟨k, hk⟩ : ∃ k, j % 8 = k := ⟨_, rfl⟩
        have hdn : d < n := by omega
        have hk8 : k < 8 := by omega
        have e8 : Int.tdiv (j : Int) 8 = (d : Int) := by rw [Int.tdiv_eq_ediv_of_nonneg (by omega)]; omega
        have e8m : Int.tmod (j : Int) 8 = (k : Int) := by rw [Int.tmod_eq_emod_of_nonneg (by omega)]; omega
        have e8' : (j : Int) / 8 = (d : Int) := by omega
        have e8m' : (j : Int) % 8 = (k : Int) := by omega
        have ew1 : IntKind.i64.wrap (d : Int) = (d : Int) := by rw [IntKind.wrap_i64]; omega
        have ew2 : IntKind.i64.wrap (k : Int) = (k : Int) := by rw [IntKind.wrap_i64]; omega
        obtain ⟨x, hxx⟩ : ∃ x : Int, ((M.getD d 0).toNat : Int) = x := ⟨_, rfl⟩
        have HROW := Lib.hid HR.out.row
        have zc : ∀ w', Kept [] wr.drew w' → w'.cell? ⟨A, d, none⟩ = some (.int .u8 x) := fun w' hk' => by
          rw [cell_of_row _ _ d _ _ _ (hk'.heap (by simp) (show wr.drew.heap[A]? = _ from HROW.out)), ← hxx]
          simp [bvA, bv, show d < M.length by omega]
        have HN : Hid (ArSt w4 A (bitsTo (zerosL n) F (j + 1)) (wr.setCell ⟨A, d, none⟩ (.int .u8 (bits .or .u8 x (IntKind.u8.wrap (2 ^ k))))).drew) := by
          refine ArSt.drew ?_
          unfold bitsTo
          rw [List.getD_eq_getElem?_getD, hbb]
          simp only [Option.getD_some, if_true]
          rw [hM, ← hd]
          refine HR.out.bit j _ ?_
          rw [orB_val, hd, hxx, hk, Int.one_mul]
        have HZA := Lib.hid (zc wr.drew (Kept.refl _ _))
        clear hbb hM hMl
        go_wp2_with fail
        refine wp_region_ordZ (R := (Kept [])) 10 [(true, 0), (true, 1), (true, 2), (true, 3), (true, 4), (true, 5), (true, 6), (true, 7), (true, 8), (true, 9)] (fun _ => Kept.refl _ _) (fun _ _ _ h k => h.trans k) (by kernel_rfl) (fun _ _ d _ _ h => by cases d <;> exact h) (by kernel_rfl) rfl (by decide) (by kernel_rfl) (by kernel_rfl) ?_
        simp only [named, List.getD_cons_zero, List.getD_cons_succ]
        repeat (first | (apply wpR_take; (case hw => rfl); (case hv => intro w' hk; go_simp; with_reducible rfl); simp only [Act.put, List.setIfInBounds_toArray, List.set_cons_zero, List.set_cons_succ]) | (refine wpR_pass (by rfl) ?_; simp only [Act.put, List.setIfInBounds_toArray, List.set_cons_zero, List.set_cons_succ]))
        clear zc
        refine wpR_nil ?_; refine lastQ_go rfl ?_
        have fA : ∀ q, wr.drew.frozen? ⟨A, q, none⟩ = false := fun q => frozen_of_row _ _ q _ _ (show wr.drew.heap[A]? = _ from HROW.out)
        have zA := HZA.out
        go_simp
        clear zA fA
        go_wp2_with fail
        go_roundw
        case rel => exact ⟨j + 1, by omega, by go_num, HN.out⟩
        case measure => simp [intOf]; omega
    · obtain rfl : j = N := by omega
      obtain ⟨M1, hM1⟩ : ∃ M1, bitsTo (zerosL n) F j = M1 := ⟨_, rfl⟩
      have HM1 := Lib.hid hM1
      rw [hM1] at HR
      have hM1l : M1.length = n := by rw [← hM1, bitsTo_len, zerosL_length]
      have HM1L := Lib.hid hM1l
      have HR0 := HR
      have hx5 := HLY.out wr ((H3.out.1.mono (by simp)).trans ((H4.out.kept.mono (by simp)).trans HR.out.kept))
      have c4 : wr.cell? ⟨P, 4, none⟩ = some (.int .i64 201) := cell_of_row _ _ 4 _ _ _ hx5
      have c5 : wr.cell? ⟨P, 5, none⟩ = some (.int .i64 E) := cell_of_row _ _ 5 _ _ _ hx5
      have e3 : E - 201 = (q : Int) := by have := HDE.out.2.1; omega
      have e4 : (q : Int) * 64 = (k0 : Int) := by have := HDE.out.2.2.2.1; omega
      have hk0n : k0 + 2048 = n := by have := HDE.out; omega
      have H50 : Hid (ArSt w4 A (recsTo k0 M1 (t.all.take 0)) wr) := HR.out
      clear hM1 hM1l HR hx5 HSH
      go_wp2_with fail
      go_loopw [55] (fun i wz => ∃ j : Nat, j ≤ K ∧ i = .int .i64 j ∧ Hid (ArSt w4 A (recsTo k0 M1 (t.all.take j)) wz)) (fun i _ => K - (intOf i).toNat)
      case atStart => exact ⟨0, by omega, rfl, H50.out⟩
      case round =>
        clear H50 c4 c5 HR0
        obtain ⟨j2, hj2, rfl, HR⟩ := hrel
        by_cases hlt2 : j2 < K
        · have hjl : j2 < t.all.length := by rw [HKK.out]; exact hlt2
          obtain ⟨s, hs⟩ : ∃ s, t.all[j2] = s := ⟨_, rfl⟩
          have hmem : s ∈ t.all := by rw [← hs]; exact List.getElem_mem hjl
          obtain ⟨hTs, hfs, hb1000, hbN, hmN, hsl, hval⟩ := HAA.out s hmem
          have hkz : Kept [] w wr := HKW4.out wr HR.out.kept
          have cp : wr.cell? ⟨g, j2, none⟩ = some (.pointer (some ⟨s.addr, 0, none⟩)) := by
            have h1 := (H4.out.kept.range HGR.out.1 (by simp) HGR.out.2)
            have h2 := HR.out.kept.range (Nat.lt_of_lt_of_le HGR.out.1 H4.out.kept.size) (by have := HQ.out.2.1; simpa using this) h1 j2 _ (show (pv t.all)[j2]? = some (.pointer (some ⟨s.addr, 0, none⟩)) by simp [pv, hjl, hs])
            rwa [Nat.zero_add] at h2
          have HIN := Lib.hid (ninode_any s wr (hTs.kept hkz) (by have := (fine_parts hfs).2.1; omega))
          obtain ⟨m, va, vb, hrow, _⟩ := hTs.row
          have HROW := Lib.hid hrow
          obtain ⟨kN, hkN⟩ : ∃ kN : Nat, s.rc.kind = kN := by obtain ⟨kN, _, _, _, _, e, _⟩ := valid_parts hval; exact ⟨kN, e⟩
          obtain ⟨mN, hmoN⟩ : ∃ mN : Nat, s.rc.mode = mN := by obtain ⟨_, mN, _, _, _, _, e, _⟩ := valid_parts hval; exact ⟨mN, e⟩
          have HREC : Hid (s.recB = recL kN (fieldsL mN s.size s.rc.more s.rc.blocks)) := by show _ = _; unfold ATr.recB; rw [hkN, hmoN]; rfl
          have hval' := hval
          rw [hkN, hmoN] at hval' HIN
          obtain ⟨sz, hsz⟩ : ∃ sz, s.size = sz := ⟨_, rfl⟩
          obtain ⟨mo, hmo⟩ : ∃ mo, s.rc.more = mo := ⟨_, rfl⟩
          obtain ⟨bl, hbl⟩ : ∃ bl, s.rc.blocks = bl := ⟨_, rfl⟩
          obtain ⟨nb, hnb⟩ : ∃ nb, bl.length = nb := ⟨_, rfl⟩
          obtain ⟨sl, hsle⟩ : ∃ sl, s.rc.slot = sl := ⟨_, rfl⟩
          obtain ⟨sa, hsa⟩ : ∃ sa, s.addr = sa := ⟨_, rfl⟩
          rw [hsz, hmo, hbl] at hval' HIN HREC
          rw [hnb] at HIN
          rw [hsa] at HIN HROW cp
          rw [hsle] at hsl
          unfold nodeRow at HROW
          rw [hsle] at HROW
          have HVAL := Lib.hid hval'
          have HNX : Hid (recsTo k0 M1 (t.all.take (j2 + 1)) = putAtL (recsTo k0 M1 (t.all.take j2)) (k0 + sl * 32) s.recB) := by
            show _ = _
            rw [List.take_succ_eq_append_getElem hjl, recsTo_snoc, hs, hsle]
          obtain ⟨M2, hM2⟩ : ∃ M2, recsTo k0 M1 (t.all.take j2) = M2 := ⟨_, rfl⟩
          rw [hM2] at HNX HR
          have hNB := Lib.hid hnb
          clear hTs hfs hb1000 hbN hmN hval hval' hrow hkN hmoN hsz hmo hbl hnb hsle hsa hs hmem hjl
          unfold nodeV at HIN
          go_wp2_with fail
          refine HIN.out.mono ?_
          rintro e w5 ⟨ao, cap, rfl, H5⟩
          have HPN := Lib.hid (putNodeN_yes kN mN sz mo ao nb cap bl w5 H5.out.2.2 H5.out.2.1 HVAL.out)
          unfold nodeV at HPN
          go_wp2_with fail
          refine HPN.out.mono ?_
          rintro e w6 ⟨va6, vm6, rfl, hsl6, _, hk6⟩
          have HK6 := Lib.hid hk6
          obtain ⟨R, hR⟩ : ∃ R, recL kN (fieldsL mN sz mo bl) = R := ⟨_, rfl⟩
          have hRl : R.length = 32 := by rw [← hR]; exact recL_length (fieldsL_length _ _ _ _)
          rw [hR] at hsl6 HREC
          obtain ⟨rb, ro, rc, rfl, hrb, hrr⟩ : ∃ b o c, va6 = .slice (some ⟨b, o, none⟩) 32 c ∧ b < w6.heap.size ∧ w6.rangeAt b o (bv R) := by
            rcases hsl6 with ⟨b, o, c, rfl, hb, hr⟩ | ⟨_, e⟩
            · exact ⟨b, o, c, by rw [hRl], hb, hr⟩
            · rw [e] at hRl; simp at hRl
          clear hk6 hsl6
          go_wp2_with fail
          refine (bsure_any w6).mono ?_
          rintro e w7 ⟨rfl, rfl⟩
          have HR7 : Hid (ArSt w4 A M2 w7) := (HR.out.go H5.out.1).go HK6.out
          have HM2L : Hid (M2.length = n) := by
            show _ = _
            rw [← hM2, recsTo_len _ _ _ (fun x hx => by
              obtain ⟨h1, h2, _, _, _, h3, h4⟩ := HAA.out x (List.mem_of_mem_take hx)
              exact ⟨recB_len x, by have := HM1L.out; omega⟩)]
            exact HM1L.out
          obtain ⟨mm, hmm⟩ : ∃ mm, sl * 32 = mm := ⟨_, rfl⟩
          have c4s : w7.cell? ⟨sa, 4, none⟩ = some (.int .i64 (sl : Int)) := cell_of_row _ _ 4 _ _ _ (((hkz.trans H5.out.1).trans HK6.out).heap (by simp) HROW.out)
          have es : (sl : Int) * 32 = (mm : Int) := by omega
          have hcs : (bv R).length = Nat.min 32 (n - k0 - mm) := by
            rw [bv_length, hRl]
            exact (Nat.min_eq_left (by omega)).symm
          have hrun := run_copy_row (P := Tryz.prog) w7 22 22 3 5 A (k0 + mm) (n - k0 - mm) (n - k0 - mm) ⟨rb, ro, none⟩ 32 rc (bvA M2) 5 (bv R) Tryz.underlying22 (by kernel_rfl) HR7.out.row hcs
            (fun q u hu => by rw [Addr.add_mid]; exact hrr q u hu) (by rw [bv_length, hRl, bvA_size, HM2L.out]; omega) (bv_one R)
          have hrow2 : ((bvA M2).toList.take (k0 + mm) ++ bv R ++ (bvA M2).toList.drop (k0 + mm + (bv R).length)).toArray = bvA (putAtL M2 (k0 + mm) R) := by
            apply Array.toList_inj.1
            rw [bvA_toList, bvA_toList]
            simp [putAtL, bv, List.map_take, List.map_drop]
          rw [hrow2, bv_length, hRl] at hrun
          have HN : Hid (ArSt w4 A (recsTo k0 M1 (t.all.take (j2 + 1))) (w7.setRow A (bvA (putAtL M2 (k0 + mm) R)))) := by
            show ArSt _ _ _ _
            rw [HNX.out, HREC.out, hmm]
            exact ⟨HR7.out.kept.trans (setRow_kept _ _ _), setRow_heap _ _ _ _ _ _ HR7.out.row⟩
          clear hrb hrr hR hRl hcs hrow2 hmm hkz hM2
          go_wp2_with fail
          go_roundw
          case rel => exact ⟨j2 + 1, by omega, by go_num, HN.out⟩
          case measure => simp [intOf]; omega
        · obtain rfl : j2 = K := by omega
          have hall : t.all.take j2 = t.all := by rw [← HKK.out, List.take_length]
          rw [hall] at HR
          obtain ⟨M3, hM3⟩ : ∃ M3, recsTo k0 M1 t.all = M3 := ⟨_, rfl⟩
          rw [hM3] at HR
          have hM3l : M3.length = n := by
            rw [← hM3, recsTo_len _ _ _ (fun x hx => by
              obtain ⟨h1, h2, _, _, _, h3, h4⟩ := HAA.out x hx
              exact ⟨recB_len x, by have := HM1L.out; omega⟩)]
            exact HM1L.out
          have HM3 : Hid (areaL j q t = M3) := by
            show _ = _
            unfold areaL
            rw [HFF.out, HDE.out.2.2.2.1, HDE.out.2.2.1, HM1.out]
            exact hM3
          have hsl : SlIs wr (.slice (some ⟨A, 0, none⟩) n n) M3 := SlIs.row HR.out.row n n hM3l
          have HC := Lib.hid (bcut_any (.slice (some ⟨A, 0, none⟩) n n) M3 wr hsl ⟨_, _, _, rfl, Nat.le_refl _, by omega⟩ (by omega))
          have hkz : Kept [] w wr := HKW4.out wr HR.out.kept
          have HKZ := Lib.hid hkz
          have HPAD : Hid (blkN M3 = q + 32 ∧ padL M3 = M3) := by
            have hn64 : n = (q + 32) * 64 := HDE.out.2.2.1.symm
            have hb : blkN M3 = q + 32 := by unfold blkN; omega
            refine ⟨hb, ?_⟩
            unfold padL
            rw [hb, show 64 * (q + 32) - M3.length = 0 by omega]
            simp [zerosL]
          have HM3L := Lib.hid hM3l
          clear hall hM3 hM3l hsl hkz
          go_wp2_with fail
          refine HC.out.mono ?_
          rintro e w8 ⟨v8, rfl, H8⟩
          go_wp2_with fail
          go_ret
          refine ⟨v8, rfl, ?_, HKZ.out.trans H8.out.kept⟩
          have ho := H8.out.own
          rw [HPAD.out.1, HPAD.out.2, List.take_of_length_le (by rw [HM3L.out]; have := HDE.out.2.2.1; omega)] at ho
          rw [HM3.out]
          have hsz := HKZ.out.size
          exact ⟨ho.1, ho.2.imp id (fun ⟨g, cap, cur, e, h1, h2⟩ => ⟨g, cap, cur, e, by have := HDE.out.2.2.2.2; omega, h2⟩)⟩
end Go.Proofs.YtiedoocgbajjjaaGreatDoor

namespace Go.Proofs.YtiedoocgbajjjaaGreatDoor
open Go.RowKit Go.Maps
set_option maxRecDepth 100000

theorem infoByte : (Tryz.prog.info? 5).map (fun i => (i.zero, i.size, i.bytes)) = some (some (.int .u8 0), 1, 1) := by kernel_rfl

/-- What a disk is. -/
structure DiskS where
  size : Int
  m : Nat
  off : Bool
  fused : Bool
  left : Int
  writes : Int
  blk : Int → List UInt8

def DiskS.cells (S : DiskS) : Array Value := #[.int .i64 S.size, .map (some S.m), .bool S.off, .bool S.fused, .int .i64 S.left, .int .i64 S.writes]

structure IsDisk (w : World) (a : Nat) (S : DiskS) : Prop where
  here : w.heap[a]? = some (.cells S.cells 70)
  map : BlkMap Tryz.prog 3 w S.m S.writes.toNat S.blk
  s0 : 0 ≤ S.size
  s1 : S.size ≤ 4096
  l0 : 0 ≤ S.left
  l1 : S.left ≤ 9223372036854775807
  w0 : 0 ≤ S.writes
  blk64 : ∀ i, (S.blk i).length = 64

theorem IsDisk.ne {w : World} {a : Nat} {S : DiskS} (h : IsDisk w a S) : S.m ≠ a := fun e => h.map.notCells (e ▸ h.here)
theorem IsDisk.lt {w : World} {a : Nat} {S : DiskS} (h : IsDisk w a S) : a < w.heap.size := (Array.getElem?_eq_some_iff.1 h.here).1
theorem IsDisk.kept {w w' : World} {a : Nat} {S : DiskS} (h : IsDisk w a S) {ex : List Nat} (hk : Kept ex w w') (ha : a ∉ ex) (hm : S.m ∉ ex) : IsDisk w' a S :=
  ⟨hk.heap ha h.here, h.map.kept hk hm, h.s0, h.s1, h.l0, h.l1, h.w0, h.blk64⟩

theorem IsDisk.cell {w : World} {a : Nat} {S : DiskS} (h : IsDisk w a S) (j : Nat) : w.cell? ⟨a, j, none⟩ = S.cells[j]? := cell_of_row w a j _ _ _ h.here
theorem IsDisk.free {w : World} {a : Nat} {S : DiskS} (h : IsDisk w a S) (j : Nat) : w.frozen? ⟨a, j, none⟩ = false := frozen_of_row w a j _ _ h.here

/-- A store into the struct. -/
theorem IsDisk.set {w : World} {a : Nat} {S : DiskS} (h : IsDisk w a S) (j : Nat) (v : Value) (S' : DiskS) (hc : S.cells.setIfInBounds j v = S'.cells) (hm : S'.m = S.m) (hb : S'.blk = S.blk)
    (hw : S.writes.toNat ≤ S'.writes.toNat) (s0 : 0 ≤ S'.size) (s1 : S'.size ≤ 4096) (l0 : 0 ≤ S'.left) (l1 : S'.left ≤ 9223372036854775807) (w0 : 0 ≤ S'.writes) :
    IsDisk (w.setCell ⟨a, j, none⟩ v) a S' := by
  refine ⟨?_, ?_, s0, s1, l0, l1, w0, by rw [hb]; exact h.blk64⟩
  · rw [heap_setCell_same w a j _ _ v h.here, hc]
  · rw [hm, hb]
    exact (h.map.mono hw).kept (Kept.setCell [a] w ⟨a, j, none⟩ v (by simp)) (by simpa using h.ne)

def DiskS.new (n : Int) (m : Nat) : DiskS := ⟨n, m, false, false, 0, 0, fun _ => zeroL⟩

theorem IsDisk.new (n : Int) (w : World) (h0 : 1 ≤ n) (h1 : n ≤ 4096) : IsDisk ((w.alloc (.map #[] 0)).alloc (.cells #[.int .i64 n, .map (some w.heap.size), .bool false, .bool false, .int .i64 0, .int .i64 0] 70)) (w.heap.size + 1) (DiskS.new n w.heap.size) := by
  refine ⟨?_, ?_, by simp [DiskS.new]; omega, h1, by simp [DiskS.new], by simp [DiskS.new], by simp [DiskS.new], fun i => fullL_length 0⟩
  · have := heap_alloc_last (w.alloc (.map #[] 0)) (.cells (DiskS.new n w.heap.size).cells 70)
    rw [show (w.alloc (.map #[] 0)).heap.size = w.heap.size + 1 by simp] at this
    exact this
  · exact (BlkMap.made _ _ w).kept (Kept.alloc [] _ _) (by simp)

set_option maxHeartbeats 400000 in
theorem new_ok (n : Int) (w : World) (h0 : 1 ≤ n) (h1 : n ≤ 4096) :
    Calls Tryz.prog 10 #[.int .i64 n] w fun e w' => e = .returned (.tuple #[.pointer (some ⟨w.heap.size + 1, 0, none⟩), .int .i64 0]) ∧ IsDisk w' (w.heap.size + 1) (DiskS.new n w.heap.size) ∧ Kept [] w w' := by
  have hmm := @run_makeMap Tryz.prog
  go_enter Tryz.func10, Tryz.ntmps10
  go_wp2
  go_ret2
  exact ⟨rfl, IsDisk.new n w h0 h1, (Kept.alloc _ _ _).trans (Kept.alloc _ _ _)⟩

set_option maxHeartbeats 400000 in
theorem new_bad (n : Int) (w : World) (h0 : n < 1 ∨ 4096 < n) :
    Calls Tryz.prog 10 #[.int .i64 n] w fun e w' => e = .returned (.tuple #[.pointer none, .int .i64 1]) ∧ w = w' := by
  rcases h0 with h | h
  · go_enter Tryz.func10, Tryz.ntmps10
    go_wp2
    go_ret2
    exact ⟨rfl, rfl⟩
  · have h' : ¬ n < 1 := by omega
    go_enter Tryz.func10, Tryz.ntmps10
    go_wp2
    go_ret2
    exact ⟨rfl, rfl⟩

def DiskS.reach (S : DiskS) (i : Int) : Int := if S.off then 2 else if i < 0 ∨ S.size ≤ i then 10 else 0

set_option maxHeartbeats 400000 in
theorem reach_any (a : Nat) (S : DiskS) (i : Int) (w : World) (h : IsDisk w a S) :
    Calls Tryz.prog 30 #[.pointer (some ⟨a, 0, none⟩), .int .i64 i] w fun e w' => e = .returned (.int .i64 (S.reach i)) ∧ w = w' := by
  have c0 : w.cell? ⟨a, 0, none⟩ = some (.int .i64 S.size) := h.cell 0
  have c2 : w.cell? ⟨a, 2, none⟩ = some (.bool S.off) := h.cell 2
  clear h
  obtain ⟨size, m, off, fused, left, writes, blk⟩ := S
  simp only at c0 c2
  unfold DiskS.reach
  go_enter Tryz.func30, Tryz.ntmps30
  cases off
  · by_cases h1 : i < 0
    · go_wp2
      go_ret
      exact ⟨by simp, rfl⟩
    · by_cases h2 : size ≤ i
      · go_wp2
        go_ret
        exact ⟨by simp, rfl⟩
      · go_wp2
        go_ret
        exact ⟨by simp, rfl⟩
  · go_wp2
    go_ret
    exact ⟨rfl, rfl⟩

def DiskS.unfused (S : DiskS) : DiskS := { S with fused := false, left := 0 }

set_option maxHeartbeats 400000 in
theorem unfuse_any (a : Nat) (S : DiskS) (w : World) (h : IsDisk w a S) :
    Calls Tryz.prog 62 #[.pointer (some ⟨a, 0, none⟩)] w fun e w' => e = .returned (.tuple #[]) ∧ IsDisk w' a S.unfused ∧ Kept [a] w w' := by
  have c3 : w.cell? ⟨a, 3, none⟩ = some (.bool S.fused) := h.cell 3
  have c4 : w.cell? ⟨a, 4, none⟩ = some (.int .i64 S.left) := h.cell 4
  have f3 := h.free 3
  have f4 := h.free 4
  have HF := Lib.hid h
  clear h
  go_enter Tryz.func62, Tryz.ntmps62
  go_wp2
  go_end0
  refine ⟨rfl, ?_, (Kept.setCell _ _ _ _ (by simp)).trans (Kept.setCell _ _ _ _ (by simp))⟩
  have h1 := HF.out
  exact (h1.set 3 _ { S with fused := false } rfl rfl rfl (Nat.le_refl _) h1.s0 h1.s1 h1.l0 h1.l1 h1.w0).set 4 _ S.unfused rfl rfl rfl (Nat.le_refl _) h1.s0 h1.s1 (by simp [DiskS.unfused]) (by simp [DiskS.unfused]) h1.w0

def DiskS.burn (S : DiskS) : Bool × DiskS :=
  if S.fused then if S.left = 0 then (false, { S with off := true, fused := false, left := 0 }) else (true, { S with left := S.left - 1 }) else (true, S)

set_option maxHeartbeats 400000 in
theorem burn_any (a : Nat) (S : DiskS) (w : World) (h : IsDisk w a S) :
    Calls Tryz.prog 31 #[.pointer (some ⟨a, 0, none⟩)] w fun e w' => e = .returned (.bool S.burn.1) ∧ IsDisk w' a S.burn.2 ∧ Kept [a] w w' := by
  have c2 : w.cell? ⟨a, 2, none⟩ = some (.bool S.off) := h.cell 2
  have c3 : w.cell? ⟨a, 3, none⟩ = some (.bool S.fused) := h.cell 3
  have c4 : w.cell? ⟨a, 4, none⟩ = some (.int .i64 S.left) := h.cell 4
  have f2 := h.free 2
  have f4 := h.free 4
  have l0 := h.l0
  have l1 := h.l1
  have HF := Lib.hid h
  clear h
  obtain ⟨size, m, off, fused, left, writes, blk⟩ := S
  simp only at c2 c3 c4 l0 l1
  cases fused
  · have hb : Hid (DiskS.burn ⟨size, m, off, false, left, writes, blk⟩ = (true, ⟨size, m, off, false, left, writes, blk⟩)) := rfl
    go_enter Tryz.func31, Tryz.ntmps31
    go_wp2
    go_ret
    rw [hb.out]
    exact ⟨rfl, HF.out, Kept.refl _ _⟩
  · by_cases hl : left = 0
    · subst hl
      have hb : Hid (DiskS.burn ⟨size, m, off, true, 0, writes, blk⟩ = (false, ⟨size, m, true, false, 0, writes, blk⟩)) := rfl
      have h1 := HF.out
      have HX := Lib.hid (h1.set 2 (.bool true) ⟨size, m, true, true, 0, writes, blk⟩ rfl rfl rfl (Nat.le_refl _) h1.s0 h1.s1 h1.l0 h1.l1 h1.w0)
      clear h1
      go_enter Tryz.func31, Tryz.ntmps31
      go_wp2_with (go_at_call 62; refine (unfuse_any a _ _ HX.out).mono ?_; rintro e w' ⟨rfl, hd, hk⟩)
      go_ret
      rw [hb.out]
      exact ⟨rfl, hd, (Kept.setCell _ _ _ _ (by simp)).trans hk⟩
    · have hb : Hid (DiskS.burn ⟨size, m, off, true, left, writes, blk⟩ = (true, ⟨size, m, off, true, left - 1, writes, blk⟩)) := by
        show _ = _
        simp [DiskS.burn, hl]
      have hl' : (left == 0) = false := by simpa using hl
      go_enter Tryz.func31, Tryz.ntmps31
      go_wp2
      go_ret
      rw [hb.out]
      have h1 := HF.out
      exact ⟨rfl, h1.set 4 _ ⟨size, m, off, true, left - 1, writes, blk⟩ rfl rfl rfl (Nat.le_refl _) h1.s0 h1.s1 (by simp; omega) (by simp; omega) h1.w0, Kept.setCell _ _ _ _ (by simp)⟩

def DiskS.wr (S : DiskS) (i : Int) (l : List UInt8) : Int × DiskS :=
  if S.reach i = 0 then
    if l.length = 64 then
      if S.burn.1 then (0, { S.burn.2 with blk := updL S.blk i l, writes := S.writes + 1 }) else (2, S.burn.2)
    else (11, S)
  else (S.reach i, S)

theorem zeroBlock (w : World) : (zeroValue 73).run Tryz.prog w = .ok (.agg (bvA zeroL)) w := by kernel_rfl
theorem sizeBlock : (Tryz.prog.info? 73).map (·.size) = some 64 := by kernel_rfl

theorem DiskS.burn_m (S : DiskS) : S.burn.2.m = S.m ∧ S.burn.2.blk = S.blk ∧ S.burn.2.writes = S.writes ∧ S.burn.2.size = S.size := by
  unfold DiskS.burn; split <;> (try split) <;> simp

theorem reach_zero {S : DiskS} {i : Int} (h : S.reach i = 0) : 0 ≤ i ∧ i < S.size ∧ S.off = false := by
  unfold DiskS.reach at h
  split at h
  · cases h
  · split at h
    · cases h
    · rename_i h1 h2
      exact ⟨by omega, by omega, by simpa using h1⟩

set_option maxHeartbeats 400000 in
theorem write_ok (a b o cap : Nat) (S : DiskS) (i : Int) (l : List UInt8) (w : World) (h : IsDisk w a S) (hr : S.reach i = 0) (hl : l.length = 64) (hb : S.burn.1 = true) (hlw : S.writes < 4611686018427387904)
    (hba : b ≠ a) (hc : w.rangeAt b o (bv l)) (hblt : b < w.heap.size) :
    Calls Tryz.prog 11 #[.pointer (some ⟨a, 0, none⟩), .int .i64 i, .slice (some ⟨b, o, none⟩) 64 cap] w fun e w' => e = .returned (.int .i64 0) ∧ IsDisk w' a { S.burn.2 with blk := updL S.blk i l, writes := S.writes + 1 } ∧ Kept [a, S.m] w w' := by
  obtain ⟨hi0, hi1, hoff⟩ := reach_zero hr
  have hs1 := h.s1
  have hbm := Lib.hid S.burn_m
  have HF := Lib.hid h
  have Hr := Lib.hid hr
  have Hb := Lib.hid hb
  have Hc := Lib.hid hc
  have HL := Lib.hid hl
  clear h hr hb hc hoff hl
  go_enter Tryz.func11, Tryz.ntmps11
  go_wp2_with fail
  refine (reach_any a S i w HF.out).mono ?_
  rw [Hr.out]
  rintro e w' ⟨rfl, rfl⟩
  go_wp2_with fail
  refine (burn_any a S w HF.out).mono ?_
  rw [Hb.out]
  rintro e w1 ⟨rfl, hd, hk⟩
  have c1 : w1.cell? ⟨a, 1, none⟩ = some (.map (some S.m)) := by rw [hd.cell 1, ← hbm.out.1]; rfl
  have HD := Lib.hid hd
  have HK := Lib.hid hk
  clear hd hk
  go_wp2_with fail
  have har := run_arrayAt (P := Tryz.prog) 73 5 64 Tryz.underlying73 (some ⟨b, o, none⟩) 64 cap (Nat.le_refl _)
  refine wp_region_still_tail 8 (by kernel_rfl) (by kernel_rfl) ?_
  simp only [List.take_succ_cons, List.take_zero, List.drop_succ_cons, List.drop_zero]
  still_step
  still_step
  still_step
  still_step
  still_step
  still_step
  still_step
  clear har
  have hkc : (w1.drew).rangeAt b o (bv l) := (World.rangeAt_drew _ _ _ _).2 (HK.out.range hblt (by simpa using hba) Hc.out)
  refine wpStill_load_mid rfl 73 _ rfl b o rfl (bv l) _ hkc Tryz.underlying73 rfl (by rw [sizeBlock, bv_length, HL.out]) ?_
  refine wpStill_nil ?_
  have hm := HD.out.map
  rw [hbm.out.1, hbm.out.2.1, hbm.out.2.2.1] at hm
  refine wpList_upd _ rfl _ _ _ 3 73 68 rfl Tryz.underlying3 Tryz.underlying68 S.m _ _ i l rfl rfl rfl ?_ ?_ HL.out (hm.kept (Kept.drew [] _) (by simp)) ?_
  · simp [Lit.wf, IntKind.min, IntKind.max, IntKind.signed, IntKind.bits]; omega
  · unfold maxLen; omega
  intro w2 hm2 hg2
  have hk2 : Kept [S.m] w1 w2 := (Kept.drew _ _).trans (Kept.grown hg2 (by simp))
  have hne := HF.out.ne
  have hh : w2.heap[a]? = some (.cells S.burn.2.cells 70) := hk2.heap (by simpa using hne.symm) HD.out.here
  have c5 : w2.cell? ⟨a, 5, none⟩ = some (.int .i64 S.writes) := by rw [cell_of_row w2 a 5 _ _ _ hh, ← hbm.out.2.2.1]; rfl
  have f5 : w2.frozen? ⟨a, 5, none⟩ = false := frozen_of_row w2 a 5 _ _ hh
  have hw0 := HF.out.w0
  have Hm2 := Lib.hid hm2
  have Hk2 := Lib.hid hk2
  have Hne := Lib.hid hne
  have Hh := Lib.hid hh
  clear hm2 hg2 hk2 hne hh hm hkc c1
  go_wp2
  go_ret
  refine ⟨rfl, ⟨?_, ?_, HD.out.s0, HD.out.s1, HD.out.l0, HD.out.l1, by simp; omega, fun j => ?_⟩, (HK.out.mono (by simp)).trans ((Hk2.out.mono (by simp)).trans (Kept.setCell _ _ _ _ (by simp)))⟩
  · rw [heap_setCell_same w2 a 5 _ _ _ Hh.out]; rfl
  · have := Hm2.out.kept (Kept.setCell [a] w2 ⟨a, 5, none⟩ (.int .i64 (S.writes + 1)) (by simp)) (by simpa using Hne.out)
    have e1 : (S.writes + 1).toNat = S.writes.toNat + 1 := by omega
    rw [← e1] at this
    show BlkMap _ _ _ S.burn.2.m _ _
    rw [hbm.out.1]
    exact this
  · show (updL S.blk i l j).length = 64
    unfold updL
    split
    · exact HL.out
    · exact HF.out.blk64 j

set_option maxHeartbeats 400000 in
theorem write_burnt (a : Nat) (S : DiskS) (i : Int) (sl : Option Addr) (cap : Nat) (w : World) (h : IsDisk w a S) (hr : S.reach i = 0) (hb : S.burn.1 = false) :
    Calls Tryz.prog 11 #[.pointer (some ⟨a, 0, none⟩), .int .i64 i, .slice sl 64 cap] w fun e w' => e = .returned (.int .i64 2) ∧ IsDisk w' a S.burn.2 ∧ Kept [a, S.m] w w' := by
  have HF := Lib.hid h
  have Hr := Lib.hid hr
  have Hb := Lib.hid hb
  clear h hr hb
  go_enter Tryz.func11, Tryz.ntmps11
  go_wp2_with fail
  refine (reach_any a S i w HF.out).mono ?_
  rw [Hr.out]
  rintro e w' ⟨rfl, rfl⟩
  go_wp2_with fail
  refine (burn_any a S w HF.out).mono ?_
  rw [Hb.out]
  rintro e w1 ⟨rfl, hd, hk⟩
  go_wp2_with fail
  go_ret
  exact ⟨rfl, hd, hk.mono (by simp)⟩

set_option maxHeartbeats 400000 in
theorem write_len (a : Nat) (S : DiskS) (i : Int) (sl : Option Addr) (len cap : Nat) (w : World) (h : IsDisk w a S) (hr : S.reach i = 0) (hl : ((len : Int) != 64) = true) :
    Calls Tryz.prog 11 #[.pointer (some ⟨a, 0, none⟩), .int .i64 i, .slice sl len cap] w fun e w' => e = .returned (.int .i64 11) ∧ w = w' := by
  have HF := Lib.hid h
  have Hr := Lib.hid hr
  clear h hr
  go_enter Tryz.func11, Tryz.ntmps11
  go_wp2_with fail
  refine (reach_any a S i w HF.out).mono ?_
  rw [Hr.out]
  rintro e w' ⟨rfl, rfl⟩
  go_wp2_with fail
  go_ret
  exact ⟨rfl, rfl⟩

set_option maxHeartbeats 400000 in
theorem write_away (a : Nat) (S : DiskS) (i : Int) (v : Value) (w : World) (h : IsDisk w a S) (hr : (S.reach i != 0) = true) :
    Calls Tryz.prog 11 #[.pointer (some ⟨a, 0, none⟩), .int .i64 i, v] w fun e w' => e = .returned (.int .i64 (S.reach i)) ∧ w = w' := by
  have HF := Lib.hid h
  obtain ⟨x, hx⟩ : ∃ x, S.reach i = x := ⟨_, rfl⟩
  rw [hx] at hr ⊢
  have HX := Lib.hid hx
  clear h hx
  go_enter Tryz.func11, Tryz.ntmps11
  go_wp2_with fail
  refine (reach_any a S i w HF.out).mono ?_
  rw [HX.out]
  rintro e w' ⟨rfl, rfl⟩
  go_wp2_with fail
  go_ret
  exact ⟨rfl, rfl⟩

/-- 'Write', whatever is asked. -/
theorem write_any (a : Nat) (S : DiskS) (i : Int) (v : Value) (l : List UInt8) (w : World) (h : IsDisk w a S) (hlw : S.writes < 4611686018427387904) (hv : SlIs w v l)
    (hba : ∀ b o n c, v = .slice (some ⟨b, o, none⟩) n c → b ≠ a) :
    Calls Tryz.prog 11 #[.pointer (some ⟨a, 0, none⟩), .int .i64 i, v] w fun e w' => e = .returned (.int .i64 (S.wr i l).1) ∧ IsDisk w' a (S.wr i l).2 ∧ Kept [a, S.m] w w' := by
  unfold DiskS.wr
  by_cases hr : S.reach i = 0
  · rw [if_pos hr]
    by_cases hl : l.length = 64
    · rw [if_pos hl]
      rcases hv with ⟨b, o, cap, rfl, hlt, hc⟩ | ⟨rfl, rfl⟩
      · cases hb : S.burn.1
        · rw [if_neg (by simp), hl]
          exact write_burnt a S i _ cap w h hr hb
        · rw [if_pos rfl, hl]
          exact write_ok a b o cap S i l w h hr hl hb hlw (hba _ _ _ _ rfl) hc hlt
      · simp at hl
    · rw [if_neg hl]
      have h2 : ((l.length : Int) != 64) = true := by rw [bne_iff_ne]; omega
      rcases hv with ⟨b, o, cap, rfl, hlt, hc⟩ | ⟨rfl, rfl⟩
      · exact (write_len a S i _ _ cap w h hr h2).mono fun e w' ⟨he, hw⟩ => ⟨he, hw ▸ h, hw ▸ Kept.refl _ _⟩
      · exact (write_len a S i _ 0 0 w h hr (by decide)).mono fun e w' ⟨he, hw⟩ => ⟨he, hw ▸ h, hw ▸ Kept.refl _ _⟩
  · rw [if_neg hr]
    exact (write_away a S i v w h (by rw [bne_iff_ne]; exact hr)).mono fun e w' ⟨he, hw⟩ => ⟨he, hw ▸ h, hw ▸ Kept.refl _ _⟩

set_option maxHeartbeats 400000 in
theorem read_ok (a : Nat) (S : DiskS) (i : Int) (w : World) (h : IsDisk w a S) (hr : S.reach i = 0) :
    Calls Tryz.prog 15 #[.pointer (some ⟨a, 0, none⟩), .int .i64 i] w fun e w' => e = .returned (.tuple #[.slice (some ⟨w.heap.size, 0, none⟩) 64 64, .int .i64 0]) ∧ w' = w.alloc (.cells (bvA (S.blk i)) 73) := by
  obtain ⟨hi0, hi1, hoff⟩ := reach_zero hr
  have hs1 := h.s1
  have c1 : w.cell? ⟨a, 1, none⟩ = some (.map (some S.m)) := h.cell 1
  have HF := Lib.hid h
  have Hr := Lib.hid hr
  have hz := zeroBlock w
  have hsz : (bvA (S.blk i)).size = 64 := by rw [bvA_size]; exact h.blk64 i
  have hst := run_storeCells_new (P := Tryz.prog) w 73 (bvA zeroL) (bvA (S.blk i)) (by rw [sizeBlock, hsz]) (by rw [hsz, bvA_size]; exact fullL_length 0) (bvA_one _)
  clear h hr hoff
  go_enter Tryz.func15, Tryz.ntmps15
  go_wp2_with fail
  refine (reach_any a S i w HF.out).mono ?_
  rw [Hr.out]
  rintro e w' ⟨rfl, rfl⟩
  go_wp2_with (at_lookup; refine wpList_look _ rfl _ _ 3 73 68 rfl Tryz.underlying3 Tryz.underlying68 hz S.m _ _ i rfl rfl (by simp [Lit.wf, IntKind.min, IntKind.max, IntKind.signed, IntKind.bits]; omega) HF.out.map ?_)
  go_ret2
  exact ⟨rfl, rfl⟩

set_option maxHeartbeats 400000 in
theorem read_away (a : Nat) (S : DiskS) (i : Int) (w : World) (h : IsDisk w a S) (hr : (S.reach i != 0) = true) :
    Calls Tryz.prog 15 #[.pointer (some ⟨a, 0, none⟩), .int .i64 i] w fun e w' => e = .returned (.tuple #[.slice none 0 0, .int .i64 (S.reach i)]) ∧ w = w' := by
  have HF := Lib.hid h
  obtain ⟨x, hx⟩ : ∃ x, S.reach i = x := ⟨_, rfl⟩
  rw [hx] at hr ⊢
  have HX := Lib.hid hx
  clear h hx
  go_enter Tryz.func15, Tryz.ntmps15
  go_wp2_with fail
  refine (reach_any a S i w HF.out).mono ?_
  rw [HX.out]
  rintro e w' ⟨rfl, rfl⟩
  go_wp2_with fail
  go_ret2
  exact ⟨rfl, rfl⟩

/-- What 'Read' hands out: the value, the bytes. -/
def DiskS.rdV (S : DiskS) (i : Int) (n : Nat) : Value := if S.reach i = 0 then .slice (some ⟨n, 0, none⟩) 64 64 else .slice none 0 0
def DiskS.rdL (S : DiskS) (i : Int) : List UInt8 := if S.reach i = 0 then S.blk i else []
def DiskS.rdW (S : DiskS) (i : Int) (w : World) : World := if S.reach i = 0 then w.alloc (.cells (bvA (S.blk i)) 73) else w

theorem slIs_new (w : World) (l : List UInt8) (t : TypeId) (n : Nat) (hn : l.length = n) : SlIs (w.alloc (.cells (bvA l) t)) (.slice (some ⟨w.heap.size, 0, none⟩) n n) l := by
  subst hn
  refine Or.inl ⟨_, 0, _, rfl, by simp, fun j v hv => ?_⟩
  rw [World.cell?_alloc_mark]
  simpa [bvA] using hv

theorem read_any (a : Nat) (S : DiskS) (i : Int) (w : World) (h : IsDisk w a S) :
    Calls Tryz.prog 15 #[.pointer (some ⟨a, 0, none⟩), .int .i64 i] w fun e w' => e = .returned (.tuple #[S.rdV i w.heap.size, .int .i64 (S.reach i)]) ∧ w' = S.rdW i w := by
  unfold DiskS.rdV DiskS.rdW
  by_cases hr : S.reach i = 0
  · rw [if_pos hr, if_pos hr, hr]
    exact read_ok a S i w h hr
  · rw [if_neg hr, if_neg hr]
    exact (read_away a S i w h (by rw [bne_iff_ne]; exact hr)).mono fun e w' ⟨he, hw⟩ => ⟨he, hw.symm⟩

theorem DiskS.rdW_kept (S : DiskS) (i : Int) (w : World) (ex : List Nat) : Kept ex w (S.rdW i w) := by
  unfold DiskS.rdW
  split
  · exact Kept.alloc _ _ _
  · exact Kept.refl _ _
theorem DiskS.rd_slIs {w : World} {a : Nat} {S : DiskS} (h : IsDisk w a S) (i : Int) : SlIs (S.rdW i w) (S.rdV i w.heap.size) (S.rdL i) := by
  unfold DiskS.rdW DiskS.rdV DiskS.rdL
  split
  · exact slIs_new w _ _ _ (h.blk64 i)
  · exact Or.inr ⟨rfl, rfl⟩

def DiskS.fuse (S : DiskS) (n : Int) : DiskS := if S.off then S else if n < 0 then { S with fused := false, left := 0 } else { S with fused := true, left := n }

def DiskS.boot (S : DiskS) : DiskS := { S with off := false, fused := false, left := 0 }

end Go.Proofs.YtiedoocgbajjjaaGreatDoor

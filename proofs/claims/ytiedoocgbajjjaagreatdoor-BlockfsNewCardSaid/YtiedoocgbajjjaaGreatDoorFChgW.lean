/-
  Layer 4: changes: the walk.
  Conditions: those that each theorem states.
-/
import Derived.Test.YtiedoocgbajjjaaGreatDoorDisk
import Derived.Test.YtiedoocgbajjjaaGreatDoorFPutsW
namespace Go.Proofs.YtiedoocgbajjjaaGreatDoor
open Go.RowKit Go.Maps
set_option maxRecDepth 100000

/-- A row of E blocks that is read. -/
def BlkRow (w : World) (v : Value) (E : Nat) (M : List UInt8) : Prop := ∃ g cap, v = .slice (some ⟨g, 0, none⟩) E cap ∧ g < w.heap.size ∧ ∀ j, j < E → w.rangeAt g (j * 64) (bv (blkAt M j))
theorem BlkRow.of {w : World} {base : Nat} {v : Value} {E : Nat} {M : List UInt8} (h : w.ownsRow base 77 64 v E (bv M)) (hM : M.length = 64 * E) (hE : 0 < E) : BlkRow w v E M := by
  obtain ⟨h1, ⟨rfl, h2⟩ | ⟨g, cap, cur, rfl, hb, hg, hc1, hc2, hcs, htk⟩⟩ := h
  · omega
  · refine ⟨g, cap, rfl, (Array.getElem?_eq_some_iff.1 hg).1, fun j hj q u hu => ?_⟩
    have hb : blkN M = E := by unfold blkN; omega
    have hp : padL M = M := by unfold padL; rw [hb, show 64 * E - M.length = 0 by omega]; simp [zerosL]
    rw [cell_of_row w g _ _ _ _ hg]
    have hq : q < 64 := by
      have := (List.getElem?_eq_some_iff.1 hu).1
      rw [bv_length, blkAt_len (by omega)] at this
      exact this
    have e : (bv M)[j * 64 + q]? = some u := by
      unfold blkAt at hu
      rw [hp] at hu
      simp only [bv, List.map_take, List.map_drop] at hu ⊢
      rw [List.getElem?_take_of_lt hq, List.getElem?_drop] at hu
      rw [show j * 64 + q = 64 * j + q by omega]
      exact hu
    rw [← htk, List.getElem?_take_of_lt (by omega)] at e
    simpa using e
theorem BlkRow.kept {w w' : World} {v : Value} {E : Nat} {M : List UInt8} (h : BlkRow w v E M) (hk : Kept [] w w') : BlkRow w' v E M := by
  obtain ⟨g, cap, e, h1, h2⟩ := h
  exact ⟨g, cap, e, Nat.lt_of_lt_of_le h1 hk.size, fun j hj => hk.range h1 (by simp) (h2 j hj)⟩
/-- A row of writes behind another one. -/
theorem RPuts.cat {base B2 : Nat} {w : World} {v v2 : Value} {l l2 : List PutL} (h : RPuts base w v l) (h2 : RPuts B2 w v2 l2) (hb : base ≤ w.heap.size) (hB : base ≤ B2) (hl : l.length + l2.length ≤ 4096) :
    ∃ v' w', (Builtin.append_ #[135, 135] 135 #[v, v2]).run Tryz.prog w = .ok v' w' ∧ RPuts base w' v' (l ++ l2) ∧ Kept v.ownBlock.toList w w' := by
  obtain ⟨ys, ho2, he2⟩ := h2.row
  obtain ⟨y1, ⟨rfl, y2⟩ | ⟨g, cap, cur, rfl, hgb, hg, hc1, hc2, hcs, htk⟩⟩ := ho2
  · have hl2 : l2 = [] := List.eq_nil_of_length_eq_zero y2
    subst hl2
    obtain ⟨xs, ho, he⟩ := h.row
    obtain ⟨i, hi, _⟩ := info_parts elemPut.info
    have hrun := run_append_owned_none (P := Tryz.prog) (w := w) base 135 135 169 i 2 Tryz.underlying135 hi v l.length xs ho
    rw [List.append_nil]
    exact ⟨_, _, hrun, h, Kept.refl _ _⟩
  · obtain ⟨v', w', hrun, hR, hk, _⟩ := h.app hb ⟨g, 0, none⟩ l2.length cap l2 ys rfl (he2.base hB) (fun q u hu => by
      rw [Addr.add_mid, Nat.zero_add, cell_of_row w g _ _ _ _ hg]
      have hq : q < l2.length * 2 := by have := (List.getElem?_eq_some_iff.1 hu).1; omega
      rw [← htk, List.getElem?_take_of_lt hq] at hu
      simpa using hu) hl
    exact ⟨v', w', hrun, hR, hk⟩
/-- The writes of the areas' blocks that change; of the nodes that are fresh. -/
def diffL (M0 M1 : List UInt8) (j : Nat) : List PutL := ((List.range j).filter fun i => !decide (blkAt M1 i = blkAt M0 i)).map fun i => (((201 + i : Nat) : Int), blkAt M1 i)
theorem diffL_succ (M0 M1 : List UInt8) (j : Nat) : diffL M0 M1 (j + 1) = diffL M0 M1 j ++ if blkAt M1 j = blkAt M0 j then [] else [(((201 + j : Nat) : Int), blkAt M1 j)] := by
  unfold diffL
  rw [List.range_succ, List.filter_append, List.map_append]
  congr 1
  by_cases h : blkAt M1 j = blkAt M0 j
  · simp [h]
  · simp [h]
theorem diffL_len (M0 M1 : List UInt8) (j : Nat) : (diffL M0 M1 j).length ≤ j := by
  unfold diffL
  rw [List.length_map]
  have := List.length_filter_le (fun i => !decide (blkAt M1 i = blkAt M0 i)) (List.range j)
  simpa using this
def freshL (l : List ATr) : List PutL := (l.filter fun s => s.rc.fresh).flatMap ATr.putsL
theorem freshL_snoc (l : List ATr) (s : ATr) : freshL (l ++ [s]) = freshL l ++ if s.rc.fresh then s.putsL else [] := by
  unfold freshL
  rw [List.filter_append, List.flatMap_append]
  congr 1
  cases h : s.rc.fresh <;> simp [h]
def changesL (N q : Nat) (t u : ATr) : List PutL := diffL (areaL N q t) (areaL N q u) (q + 32) ++ freshL u.all
/-- The nodes' row, in a block of pointers. -/
def PtrRow (w : World) (g : Nat) (l : List ATr) : Prop := ∃ cur, w.heap[g]? = some (.cells cur 81) ∧ w.rangeAt g 0 (pv l)
theorem PtrRow.keptX {w w' : World} {g : Nat} {l : List ATr} {ex : List Nat} (h : PtrRow w g l) (hk : Kept ex w w') (hx : g ∉ ex) : PtrRow w' g l := by
  obtain ⟨cur, h1, h2⟩ := h
  exact ⟨cur, hk.heap hx h1, hk.range (Array.getElem?_eq_some_iff.1 h1).1 hx h2⟩
theorem areaL_len {N q : Nat} {t : ATr} (hsl : ∀ s ∈ t.all, s.rc.slot < 64) : (areaL N q t).length = 64 * (q + 32) := by
  unfold areaL
  rw [recsTo_len _ _ _ (fun x hx => ⟨recB_len x, by rw [bitsTo_len, zerosL_length]; have := hsl x hx; omega⟩), bitsTo_len, zerosL_length]
  omega
/-- What a node's writes want. -/
theorem nputs_set {N q : Nat} {t : ATr} {w : World} (hT : TrOk w t) (hf : t.er.fine) (hs : SetOk N (233 + q) 64 t.addr t.nds) (hN : N ≤ 4096) (hslot : t.rc.slot = 0) {s : ATr} (hm : s ∈ t.all) :
    Calls Tryz.prog 109 #[.pointer (some ⟨s.addr, 0, none⟩)] w fun e w' => ∃ v, e = .returned v ∧ Hid (RPuts w.heap.size w' v s.putsL ∧ Kept [] w w') := by
  have hfs := fine_all hf s hm
  have hso := (hT.mem (fine_small hf) s hm).1
  have hnd : s.nd ∈ t.nds := List.mem_map.2 ⟨s, hm, rfl⟩
  obtain ⟨hd, hc, hfar, h38⟩ := fine_cost hfs
  obtain ⟨f1, f2⟩ := hs.full _ hnd
  have hlow := hs.low
  refine nputs_any s w hso (fine_parts hfs).2.1 (fun _ => set_good hs (Nat.le_refl _) hf hT hslot hm) (set_valid hs hN hf hm) (fun b hb => ?_) f1 ?_ h38 ?_
  · have := hs.rng b (List.mem_flatMap.2 ⟨_, hnd, hb⟩)
    omega
  · unfold blkN ATr.bodyL ATr.cont
    by_cases hk : s.rc.kind = 2
    · rw [if_pos hk, if_pos hk]
      have hg := set_good hs (Nat.le_refl _) hf hT hslot hm
      rw [entsL_length (good_len hg), AKs.ents_length]
      obtain ⟨a, m, va, vb, r, ks⟩ := s
      have hk' : r.kind = 2 := hk
      simp only [ATr.size, if_pos hk', ATr.ks]
      congr 1
      omega
    · rw [if_neg hk, if_neg hk]
      obtain ⟨a, m, va, vb, r, ks⟩ := s
      have hk' : ¬ r.kind = 2 := hk
      simp only [ATr.size, if_neg hk', ATr.rc]
  · have f2' : 0 < s.rc.more ↔ s.far = true := f2
    rw [f2', hfar]
    simp

theorem equal_blk (w : World) (A B : List UInt8) (ha : A.length = 64) (hb : B.length = 64) : (Op.equalIn 10000 77 (.agg (bvA A)) (.agg (bvA B))).run Tryz.prog w = .ok (decide (A = B)) w :=
  equal_bytesN 64 77 Tryz.underlying77 w A B ha hb

set_option maxRecDepth 100000 in
set_option maxHeartbeats 4000000 in
theorem bchanges_any (N q : Nat) (t u : ATr) (w : World) (hT : TrOk w t) (hft : t.er.fine) (hst : SetOk N (233 + q) 64 t.addr t.nds) (htl : t.all.length ≤ 64)
    (hU : TrOk w u) (hfu : u.er.fine) (hsu : SetOk N (233 + q) 64 u.addr u.nds) (hul : u.all.length ≤ 64) (huslot : u.rc.slot = 0) (hN : N ≤ 4096) (hq : N ≤ q * 512 ∧ q ≤ 8) (hlen : (freshL u.all).length ≤ 1000) :
    Calls Tryz.prog 82 #[.agg (layW N 0 1 2 201 ((201 + q : Nat) : Int) ((233 + q : Nat) : Int) 64), .pointer (some ⟨t.addr, 0, none⟩), .pointer (some ⟨u.addr, 0, none⟩)] w fun e w' => ∃ v, e = .returned v ∧
      Hid (RPuts w.heap.size w' v (changesL N q t u) ∧ Kept [] w w') := by
  obtain ⟨E, hE⟩ : ∃ E, q + 32 = E := ⟨_, rfl⟩
  have hA0 := fun w' (hk : Kept [] w w') => bareas_any N q t w' (hT.kept hk) hft hst hN hq htl
  have hA1 := fun w' (hk : Kept [] w w') => bareas_any N q u w' (hU.kept hk) hfu hsu hN hq hul
  unfold layW at hA0 hA1 ⊢
  obtain ⟨M0, hM0⟩ : ∃ M0, areaL N q t = M0 := ⟨_, rfl⟩
  obtain ⟨M1, hM1⟩ : ∃ M1, areaL N q u = M1 := ⟨_, rfl⟩
  have hl0 : M0.length = 64 * E := by rw [← hM0, ← hE]; exact areaL_len (fun s hs => hst.slotlt _ (List.mem_map.2 ⟨s, hs, rfl⟩))
  have hl1 : M1.length = 64 * E := by rw [← hM1, ← hE]; exact areaL_len (fun s hs => hsu.slotlt _ (List.mem_map.2 ⟨s, hs, rfl⟩))
  have HCH : Hid (changesL N q t u = diffL M0 M1 E ++ freshL u.all) := by show _ = _; unfold changesL; rw [hM0, hM1, hE]
  rw [hE, hM0] at hA0
  rw [hE, hM1] at hA1
  obtain ⟨D, hD⟩ : ∃ D : Int, ((233 + q : Nat) : Int) = D := ⟨_, rfl⟩
  obtain ⟨F, hF⟩ : ∃ F : Int, ((201 + q : Nat) : Int) = F := ⟨_, rfl⟩
  rw [hD, hF] at hA0 hA1 ⊢
  have HA0 := Lib.hid hA0
  have HA1 := Lib.hid hA1
  have HB : Hid (M0.length = 64 * E ∧ M1.length = 64 * E ∧ blkN M0 = E ∧ blkN M1 = E) := ⟨hl0, hl1, by unfold blkN; omega, by unfold blkN; omega⟩
  have hE40 : 0 < E ∧ E ≤ 40 := by omega
  have HAL := Lib.hid (fun w' (hk : Kept [] w w') => nall_any u.ht u w' (Nat.le_refl _) (hU.kept hk) (fine_small hfu) (by omega))
  have HPT : Hid (∀ s ∈ u.all, ∀ w', Kept [] w w' → Calls Tryz.prog 109 #[.pointer (some ⟨s.addr, 0, none⟩)] w' fun e w2 => ∃ v, e = .returned v ∧ Hid (RPuts w'.heap.size w2 v s.putsL ∧ Kept [] w' w2)) := fun s hs w' hk => nputs_set (hU.kept hk) hfu hsu hN huslot hs
  have HTR : Hid (∀ s ∈ u.all, TrOk w s) := fun s hs => (hU.mem (fine_small hfu) s hs).1
  have HLEN := Lib.hid hlen
  have HUL := Lib.hid hul
  have HUP := Lib.hid u.all_pos
  obtain ⟨P, hP⟩ : ∃ P, w.heap.size = P := ⟨_, rfl⟩
  obtain ⟨w1, hw1⟩ : ∃ w1, w.alloc (.cells #[.int .i64 N, .int .i64 0, .int .i64 1, .int .i64 2, .int .i64 201, .int .i64 F, .int .i64 D, .int .i64 64] 60) = w1 := ⟨_, rfl⟩
  have HK1 : Hid (Kept [] w w1) := by show Kept _ _ _; rw [← hw1]; exact Kept.alloc _ _ _
  have hx : w1.heap[P]? = some (.cells #[.int .i64 N, .int .i64 0, .int .i64 1, .int .i64 2, .int .i64 201, .int .i64 F, .int .i64 D, .int .i64 64] 60) := by rw [← hw1, ← hP]; exact heap_alloc_last _ _
  have HLY : Hid (∀ w', Kept [] w1 w' → w'.cell? ⟨P, 0, none⟩ = some (.int .i64 N) ∧ w'.cell? ⟨P, 1, none⟩ = some (.int .i64 0) ∧ w'.cell? ⟨P, 2, none⟩ = some (.int .i64 1) ∧ w'.cell? ⟨P, 3, none⟩ = some (.int .i64 2) ∧ w'.cell? ⟨P, 4, none⟩ = some (.int .i64 201) ∧ w'.cell? ⟨P, 5, none⟩ = some (.int .i64 F) ∧
      w'.cell? ⟨P, 6, none⟩ = some (.int .i64 D) ∧ w'.cell? ⟨P, 7, none⟩ = some (.int .i64 64)) := fun w' hk => by
    have e0 := hk.heap (by simp) hx
    exact ⟨cell_of_row _ _ 0 _ _ _ e0, cell_of_row _ _ 1 _ _ _ e0, cell_of_row _ _ 2 _ _ _ e0, cell_of_row _ _ 3 _ _ _ e0, cell_of_row _ _ 4 _ _ _ e0, cell_of_row _ _ 5 _ _ _ e0, cell_of_row _ _ 6 _ _ _ e0, cell_of_row _ _ 7 _ _ _ e0⟩
  obtain ⟨ta, hta⟩ : ∃ ta, t.addr = ta := ⟨_, rfl⟩
  obtain ⟨ua, hua⟩ : ∃ ua, u.addr = ua := ⟨_, rfl⟩
  rw [hta] at HA0 ⊢
  rw [hua] at HA1 HAL ⊢
  have HPE := Lib.hid hP
  rw [hP]
  obtain ⟨c0, c1, c2, c3, c4, c5, c6, c7⟩ := HLY.out w1 (Kept.refl _ _)
  clear hA0 hA1 hT hft hst htl hU hfu hsu hul huslot hN hq hlen hM0 hM1 hl0 hl1 hE hD hF hx hta hua
  go_enter Tryz.func82, Tryz.ntmps82
  go_wp2_with fail
  refine (HA0.out w1 HK1.out).mono ?_
  rintro e w2 ⟨v2, rfl, H2⟩
  have HR0 : Hid (BlkRow w2 v2 E M0) := BlkRow.of H2.out.1 HB.out.1 hE40.1
  clear hw1 hP c0 c1 c2 c3 c4 c5 c6 c7
  obtain ⟨c0, c1, c2, c3, c4, c5, c6, c7⟩ := HLY.out w2 H2.out.2
  have HK2 : Hid (Kept [] w1 w2) := H2.out.2
  clear H2
  go_wp2_with fail
  refine (HA1.out w2 (HK1.out.trans HK2.out)).mono ?_
  rintro e w3 ⟨v3, rfl, H3⟩
  have HR1 : Hid (BlkRow w3 v3 E M1) := BlkRow.of H3.out.1 HB.out.2.1 hE40.1
  have HR03 : Hid (BlkRow w3 v2 E M0) := HR0.out.kept H3.out.2
  have HK13 : Hid (Kept [] w1 w3) := HK2.out.trans H3.out.2
  clear H3 c0 c1 c2 c3 c4 c5 c6 c7 HR0
  obtain ⟨g0, p0, rfl, hg0, hr0⟩ := HR03.out
  obtain ⟨g1, p1, rfl, hg1, hr1⟩ := HR1.out
  have HRR := Lib.hid (And.intro (And.intro hg0 hr0) (And.intro hg1 hr1))
  obtain ⟨B3, hB3⟩ : ∃ B3, w3.heap.size = B3 := ⟨_, rfl⟩
  have HB3 : Hid (w3.heap.size = B3 ∧ P ≤ B3) := ⟨hB3, by have := (HK1.out.trans HK13.out).size; have := HPE.out; omega⟩
  have H0 : Hid (RPuts B3 w3 (.slice none 0 0) (diffL M0 M1 0) ∧ Kept [] w3 w3) := ⟨RPuts.nil _ _, Kept.refl _ _⟩
  clear hg0 hr0 hg1 hr1 hB3 HR1 HR03
  go_wp2_with fail
  go_loopw [7, 20] (fun v i wr => ∃ j : Nat, j ≤ E ∧ i = .int .i64 j ∧ Hid (RPuts B3 wr v (diffL M0 M1 j) ∧ Kept [] w3 wr)) (fun _ i _ => E - (intOf i).toNat)
  case atStart => exact ⟨0, by omega, rfl, H0.out⟩
  case round =>
    clear H0
    obtain ⟨j, hj, rfl, HS⟩ := hrel
    obtain ⟨pa, pc, rfl⟩ := HS.out.1.slice
    obtain ⟨nl, hnl⟩ : ∃ nl, (diffL M0 M1 j).length = nl := ⟨_, rfl⟩
    have hnj : nl ≤ j := by rw [← hnl]; exact diffL_len _ _ _
    have HNL := Lib.hid hnl
    rw [hnl] at HS ⊢
    clear hnl
    by_cases hlt : j < E
    · obtain ⟨L, hL⟩ : ∃ L, blkAt M1 j = L := ⟨_, rfl⟩
      obtain ⟨L0, hL0⟩ : ∃ L0, blkAt M0 j = L0 := ⟨_, rfl⟩
      have hLl : L.length = 64 := by rw [← hL]; exact blkAt_len (by rw [HB.out.2.2.2]; exact hlt)
      have hL0l : L0.length = 64 := by rw [← hL0]; exact blkAt_len (by rw [HB.out.2.2.1]; exact hlt)
      have hrg : wr.rangeAt g1 (j * 64) (bv L) := by rw [← hL]; exact HS.out.2.range HRR.out.2.1 (by simp) (HRR.out.2.2 j hlt)
      have HRG0 : Hid (∀ w', Kept [] w3 w' → w'.rangeAt g0 (j * 64) (bv L0)) := fun w' hk => by rw [← hL0]; exact hk.range HRR.out.1.1 (by simp) (HRR.out.1.2 j hlt)
      have HNX : Hid (diffL M0 M1 (j + 1) = diffL M0 M1 j ++ if L = L0 then [] else [(((201 + j : Nat) : Int), L)]) := by show _ = _; rw [diffL_succ, hL, hL0]
      have zb := zeroB wr
      have hszL : (Tryz.prog.info? 77).map (·.size) = some (bv L).length := by rw [bv_length, hLl]; exact sizeB
      have hszL0 : (Tryz.prog.info? 77).map (·.size) = some (bv L0).length := by rw [bv_length, hL0l]; exact sizeB
      have hszL2 : (Tryz.prog.info? 77).map (·.size) = some L.length := by rw [hLl]; exact sizeB
      have hra : (wr.alloc (.cells (bvA (zerosL 64)) 77)).heap[wr.heap.size]? = some (.cells (bvA (zerosL 64)) 77) := heap_alloc_last _ _
      have hl64 : L.length = (zerosL 64).length := by rw [hLl]; rfl
      obtain ⟨w4, hw4⟩ : ∃ w4, (wr.alloc (.cells (bvA (zerosL 64)) 77)).setRow wr.heap.size (bvA L) = w4 := ⟨_, rfl⟩
      obtain ⟨s, hs⟩ : ∃ s, wr.heap.size = s := ⟨_, rfl⟩
      have H4 : Hid (Kept [] wr w4 ∧ w4.heap[s]? = some (.cells (bvA L) 77) ∧ B3 ≤ s) := by
        rw [← hw4, ← hs]
        refine ⟨(Kept.alloc _ _ _).into (setRow_kept _ _ _) (by simp), setRow_heap _ _ _ _ _ _ hra, ?_⟩
        rw [← HB3.out.1]; exact HS.out.2.size
      have HW4 := Lib.hid hw4
      have HSZ := Lib.hid hs
      have HK34 : Hid (Kept [] w3 w4.drew) := (HS.out.2.trans H4.out.1).trans (Kept.drew _ _)
      have KA : Hid (∀ w', Kept [] w4.drew w' → w'.rangeAt s 0 (bv L)) := fun w' hk => range_row (hk.heap (by simp) (show w4.drew.heap[s]? = _ from H4.out.2.1))
      have KB : Hid (∀ w', Kept [] w4.drew w' → w'.rangeAt g0 (j * 64) (bv L0)) := fun w' hk => HRG0.out w' (HK34.out.trans hk)
      obtain ⟨ok, hok⟩ : ∃ ok, decide (L = L0) = ok := ⟨_, rfl⟩
      have HOK := Lib.hid hok
      have HE : Hid (∀ w', (Op.equalIn 10000 77 (.agg (bvA L)) (.agg (bvA L0))).run Tryz.prog w' = .ok ok w') := fun w' => by rw [equal_blk w' L L0 hLl hL0l, hok]
      have hjE : (j : Int) < (E : Int) := by omega
      clear hL hL0 hw4 hs hok
      go_wp2_with first
        | (refine wpList_load_mid rfl 77 _ rfl _ _ rfl (bv L) _ (by first | exact hrg | (simpa using hrg)) Tryz.underlying77 rfl hszL ?_)
        | (refine wpList_store_row rfl 77 _ _ rfl wr.heap.size 77 (zerosL 64) L rfl rfl hra hl64 hszL2 ?_)
      rw [HW4.out, HSZ.out]
      clear HW4 hra
      refine wp_region_ord [(true, 0), (true, 1), (true, 2), (true, 3), (true, 4), (true, 5)] [] (by kernel_rfl) (fun _ _ d _ _ h => by cases d <;> exact h) (by kernel_rfl) rfl (by kernel_rfl) (by kernel_rfl) ?_
      simp only [named, List.getD_cons_zero, List.getD_cons_succ]
      refine ⟨_, yieldsIf_load_mid rfl 77 _ rfl s 0 rfl (bv L) _ KA.out Tryz.underlying77 rfl hszL, ?_⟩
      simp only [Act.put, List.setIfInBounds_toArray, List.set_cons_zero, List.set_cons_succ]
      repeat (apply wpGrow_take; (case hw => rfl); (case hv => intro w' hk; go_simp; with_reducible rfl); simp only [Act.put, List.setIfInBounds_toArray, List.set_cons_zero, List.set_cons_succ])
      refine ⟨_, yieldsIf_load_mid rfl 77 _ rfl g0 (j * 64) rfl (bv L0) _ KB.out Tryz.underlying77 rfl hszL0, ?_⟩
      simp only [Act.put, List.setIfInBounds_toArray, List.set_cons_zero, List.set_cons_succ]
      refine wpGrow_take (.bool (!ok)) rfl (fun w' hk => ?_) ?_
      · have he := HE.out w'
        rw [show (bv L).toArray = bvA L from rfl, show (bv L0).toArray = bvA L0 from rfl]
        go_simp
      refine wpGrow_nil ?_
      simp only [Act.put, List.setIfInBounds_toArray, List.set_cons_zero, List.set_cons_succ]
      have HS4 : Hid (RPuts B3 w4.drew (.slice pa nl pc) (diffL M0 M1 j) ∧ Kept [] w3 w4.drew) := ⟨(HS.out.1.kept H4.out.1).kept (Kept.drew _ _), HK34.out⟩
      cases ok
      case true =>
        have HN : Hid (RPuts B3 w4.drew (.slice pa nl pc) (diffL M0 M1 (j + 1)) ∧ Kept [] w3 w4.drew) := by
          refine ⟨?_, HS4.out.2⟩
          rw [HNX.out, if_pos (of_decide_eq_true HOK.out), List.append_nil]
          exact HS4.out.1
        go_wp2_with fail
        go_roundw
        case rel => exact ⟨j + 1, by omega, by go_num, HN.out⟩
        case measure => simp [intOf]; omega
      case false =>
        have hne : ¬ L = L0 := of_decide_eq_false HOK.out
        obtain ⟨wa, hwa⟩ : ∃ wa, w4.drew = wa := ⟨_, rfl⟩
        have hsa : wa.heap[s]? = some (.cells (bvA L) 77) := by rw [← hwa]; exact H4.out.2.1
        have hs3 := H4.out.2.2
        rw [hwa] at HS4 ⊢
        obtain ⟨X, hX⟩ : ∃ X : Int, ((201 + j : Nat) : Int) = X := ⟨_, rfl⟩
        have hXb : 0 ≤ X ∧ X < 4096 := by omega
        have x1 : (201 : Int) + (j : Int) = X := by omega
        have x2 : IntKind.i64.wrap X = X := by rw [IntKind.wrap_i64]; omega
        have x3 : IntKind.i64.wrap (201 + (j : Int)) = X := by rw [x1]; exact x2
        obtain ⟨w5, hw5⟩ : ∃ w5, (wa.alloc (.cells #[.int .i64 X, .slice (some ⟨s, 0, none⟩) 64 64] 169)).drew = w5 := ⟨_, rfl⟩
        have HK5 : Hid (Kept [] wa.drew w5 ∧ Kept [] wa w5) := by
          have e : Kept [] wa.drew w5 := by rw [← hw5]; exact Kept.alloc [] wa.drew _
          exact ⟨e, (Kept.drew _ _).trans e⟩
        have hR5 : RPuts B3 w5 (.slice pa (diffL M0 M1 j).length pc) (diffL M0 M1 j) := by rw [HNL.out]; exact HS4.out.1.kept HK5.out.2
        obtain ⟨v6, w6, hrun, hR6, hk6, _⟩ := hR5.app (by have := (HS4.out.2.trans HK5.out.2).size; have := HB3.out.1; omega) ⟨wa.heap.size, 0, none⟩ 1 1 [(X, L)] [.int .i64 X, .slice (some ⟨s, 0, none⟩) 64 64] rfl
          (EachPut.one (HK5.out.2.heap (by simp) hsa) (by decide) hs3 hLl hXb) (fun q u hu => by
            rw [Addr.add_mid, Nat.zero_add, ← hw5]
            show (wa.drew.alloc _).cell? ⟨wa.drew.heap.size, q, none⟩ = _
            rw [cell_of_row _ _ q _ _ _ (heap_alloc_last wa.drew _)]
            simpa using hu) (by rw [HNL.out]; omega)
        have HN : Hid (RPuts B3 w6 v6 (diffL M0 M1 (j + 1)) ∧ Kept [] w3 w6) := by
          refine ⟨?_, (HS4.out.2.trans HK5.out.2).into hk6 (fun q hq => by have := (hR5.blk q (by simpa using hq)).1.1; have := HB3.out.1; omega)⟩
          rw [HNX.out, if_neg hne, hX]
          exact hR6
        rw [HNL.out] at hrun
        have HRUN := Lib.hid hrun
        have HW5 := Lib.hid hw5
        have HKA : Hid (Kept [] w1 wa.drew) := (HK13.out.trans HS4.out.2).trans (Kept.drew _ _)
        have z4 : ∀ w', Imp (Kept [] w1) wa.drew w' → w'.cell? ⟨P, 4, none⟩ = some (.int .i64 201) := fun w' hk => (HLY.out w' (hk HKA.out)).2.2.2.2.1
        clear hne hwa hsa hs3 hX hw5 hR5 hrun hR6 hk6 KA KB HE HS4
        go_wp2_with fail
        refine wp_region_ordR (R := Imp (Kept [] w1)) [(true, 0), (true, 1), (true, 2), (true, 3), (true, 4), (true, 5), (true, 6), (false, 7), (false, 8), (true, 9)] (fun _ => Imp.refl _ _) (fun _ _ _ h k => Imp.trans h k) (by kernel_rfl) (fun _ _ d _ _ h => by cases d <;> exact h) (by kernel_rfl) rfl (by kernel_rfl) (by kernel_rfl) ?_
        simp only [named, List.getD_cons_zero, List.getD_cons_succ]
        repeat (first | (apply wpR_take; (case hw => rfl); (case hv => intro w' hk; go_simp; with_reducible rfl); simp only [Act.put, List.setIfInBounds_toArray, List.set_cons_zero, List.set_cons_succ]) | (refine wpR_pass (by rfl) ?_; simp only [Act.put, List.setIfInBounds_toArray, List.set_cons_zero, List.set_cons_succ]))
        clear z4
        refine wpR_force (by rfl) (fun K hK => ?_)
        go_simp
        rw [HW5.out]
        refine hK _ _ (fun hh => hh.trans HK5.out.1) ?_
        clear hK K
        refine wpR_force (by rfl) (fun K hK => ?_)
        refine wp_append_run _ _ _ rfl _ _ _ rfl rfl HRUN.out ?_
        refine hK _ _ (fun _ => HK13.out.trans HN.out.2) ?_
        clear hK K
        repeat (first | (apply wpR_take; (case hw => rfl); (case hv => intro w' hk; go_simp; with_reducible rfl); simp only [Act.put, List.setIfInBounds_toArray, List.set_cons_zero, List.set_cons_succ]) | (refine wpR_pass (by rfl) ?_; simp only [Act.put, List.setIfInBounds_toArray, List.set_cons_zero, List.set_cons_succ]))
        refine wpR_nil ?_
        go_wp2_with fail
        go_roundw
        case rel => exact ⟨j + 1, by omega, by go_num, HN.out⟩
        case measure => simp [intOf]; omega
    · obtain rfl : j = E := by omega
      have hkz : Kept [] w wr := (HK1.out.trans HK13.out).trans HS.out.2
      have HKZ := Lib.hid hkz
      have HALL := Lib.hid (HAL.out wr hkz)
      have HS0 : Hid (RPuts B3 wr (.slice pa nl pc) (diffL M0 M1 j ++ freshL (u.all.take 0)) ∧ Kept [] wr wr) := ⟨by
        rw [show diffL M0 M1 j ++ freshL (u.all.take 0) = diffL M0 M1 j by simp [freshL]]
        exact HS.out.1, Kept.refl _ _⟩
      have HB4 : Hid (B3 ≤ wr.heap.size) := by have := HS.out.2.size; have := HB3.out.1; show _ ≤ _; omega
      clear hkz HRR HS
      go_wp2_with fail
      refine HALL.out.mono ?_
      rintro e w7 ⟨v7, rfl, H7⟩
      obtain ⟨K, hK⟩ : ∃ K, u.all.length = K := ⟨_, rfl⟩
      obtain ⟨g, gc, rfl, hgr⟩ : ∃ g gc, v7 = .slice (some ⟨g, 0, none⟩) K gc ∧ PtrRow w7 g u.all := by
        have ho := H7.out.2
        rcases owns_range ho with ⟨g, cap, rfl, _, hg, _, _, hr⟩ | ⟨_, hz, _⟩
        · obtain ⟨_, ⟨e, _⟩ | ⟨g', cap', cur, e, _, hgg, _⟩⟩ := ho
          · cases e
          · injection e with e1 _ _
            injection e1 with e1
            injection e1 with e1
            subst e1
            exact ⟨g, cap, by rw [hK], cur, hgg, hr⟩
        · have := HUP.out; omega
      have HGR := Lib.hid hgr
      have HKK := Lib.hid hK
      have hK64 : K ≤ 64 := by rw [← hK]; exact HUL.out
      have HS1 : Hid (RPuts B3 w7 (.slice pa nl pc) (diffL M0 M1 j ++ freshL (u.all.take 0)) ∧ Kept [] wr w7) := ⟨HS0.out.1.kept H7.out.1, H7.out.1⟩
      have HKB : Hid (Kept [] w w7 ∧ B3 ≤ w7.heap.size) := ⟨HKZ.out.trans H7.out.1, by have := H7.out.1.size; have := HB4.out; omega⟩
      have HW0 : Hid (P ≤ w.heap.size ∧ w.heap.size ≤ P) := ⟨by have := HPE.out; omega, by have := HPE.out; omega⟩
      clear hgr hK HALL HS0
      go_wp2_with fail
      go_loopw [7, 44] (fun v i wz => ∃ j2 : Nat, j2 ≤ K ∧ i = .int .i64 j2 ∧ Hid (RPuts B3 wz v (diffL M0 M1 j ++ freshL (u.all.take j2)) ∧ Kept [] w wz ∧ B3 ≤ wz.heap.size ∧ PtrRow wz g u.all)) (fun _ i _ => K - (intOf i).toNat)
      case atStart => exact ⟨0, by omega, rfl, HS1.out.1, HKB.out.1, HKB.out.2, HGR.out⟩
      case round =>
        obtain ⟨j2, hj2, rfl, HS⟩ := hrel
        obtain ⟨pa2, pc2, rfl⟩ := HS.out.1.slice
        obtain ⟨n2, hn2⟩ : ∃ n2, (diffL M0 M1 j ++ freshL (u.all.take j2)).length = n2 := ⟨_, rfl⟩
        have HN2 := Lib.hid hn2
        rw [hn2] at HS ⊢
        clear hn2
        have HKW : Hid (Kept [] w wr) := HS.out.2.1
        by_cases hlt2 : j2 < K
        · have hjl : j2 < u.all.length := by rw [HKK.out]; exact hlt2
          obtain ⟨s, hs⟩ : ∃ s, u.all[j2] = s := ⟨_, rfl⟩
          have hmem : s ∈ u.all := by rw [← hs]; exact List.getElem_mem hjl
          have cp : wr.cell? ⟨g, j2, none⟩ = some (.pointer (some ⟨s.addr, 0, none⟩)) := by
            obtain ⟨_, _, hr2⟩ := HS.out.2.2.2
            have h2 := hr2 j2 _ (show (pv u.all)[j2]? = some (.pointer (some ⟨s.addr, 0, none⟩)) by simp [pv, hjl, hs])
            rwa [Nat.zero_add] at h2
          obtain ⟨m, va, vb, hrow, _⟩ := ((HTR.out s hmem).kept HKW.out).row
          have c7 : wr.cell? ⟨s.addr, 7, none⟩ = some (.bool s.rc.fresh) := cell_of_row _ _ 7 _ _ _ hrow
          have HPS := Lib.hid (HPT.out s hmem wr HKW.out)
          have HNX : Hid (freshL (u.all.take (j2 + 1)) = freshL (u.all.take j2) ++ if s.rc.fresh then s.putsL else []) := by
            show _ = _
            rw [List.take_succ_eq_append_getElem hjl, freshL_snoc, hs]
          have HLE : Hid ((freshL (u.all.take (j2 + 1))).length ≤ 1000) := by
            show _ ≤ _
            have e : freshL u.all = freshL (u.all.take (j2 + 1)) ++ freshL (u.all.drop (j2 + 1)) := by
              conv => lhs; rw [← List.take_append_drop (j2 + 1) u.all]
              unfold freshL
              rw [List.filter_append, List.flatMap_append]
            have := HLEN.out
            rw [e, List.length_append] at this
            omega
          obtain ⟨sa, hsa⟩ : ∃ sa, s.addr = sa := ⟨_, rfl⟩
          rw [hsa] at cp c7 HPS
          obtain ⟨fr, hfr⟩ : ∃ fr, s.rc.fresh = fr := ⟨_, rfl⟩
          rw [hfr] at c7 HNX
          clear hs hmem hrow hsa hfr hjl
          cases fr
          case false =>
            have HN : Hid (RPuts B3 wr (.slice pa2 n2 pc2) (diffL M0 M1 j ++ freshL (u.all.take (j2 + 1))) ∧ Kept [] w wr ∧ B3 ≤ wr.heap.size ∧ PtrRow wr g u.all) := by
              refine ⟨?_, HS.out.2⟩
              rw [HNX.out]
              simpa using HS.out.1
            go_wp2_with fail
            go_roundw
            case rel => exact ⟨j2 + 1, by omega, by go_num, HN.out⟩
            case measure => simp [intOf]; omega
          case true =>
            go_wp2_with fail
            refine HPS.out.mono ?_
            rintro e w8 ⟨v8, rfl, H8⟩
            have hR8 : RPuts B3 w8 (.slice pa2 (diffL M0 M1 j ++ freshL (u.all.take j2)).length pc2) (diffL M0 M1 j ++ freshL (u.all.take j2)) := by rw [HN2.out]; exact HS.out.1.kept H8.out.2
            have hB3r := HS.out.2.2.1
            have hsz8 := H8.out.2.size
            obtain ⟨v9, w9, hrun, hR9, hk9⟩ := hR8.cat H8.out.1 (by omega) (by omega) (by
              have h1 := HLE.out
              have h2 := diffL_len M0 M1 j
              rw [HNX.out] at h1
              simp only [if_true, List.length_append] at h1 ⊢
              omega)
            obtain ⟨qa, qc, rfl⟩ := H8.out.1.slice
            have HN : Hid (RPuts B3 w9 v9 (diffL M0 M1 j ++ freshL (u.all.take (j2 + 1))) ∧ Kept [] w w9 ∧ B3 ≤ w9.heap.size ∧ PtrRow w9 g u.all) := by
              refine ⟨?_, ?_, by have := hk9.size; omega, ?_⟩
              · rw [HNX.out]
                simp only [if_true]
                rw [← List.append_assoc]
                exact hR9
              · refine (HKW.out.trans H8.out.2).into hk9 (fun q hq => ?_)
                have := (hR8.blk q (by simpa using hq)).1.1
                have := HB3.out.2
                have := HW0.out.2
                omega
              · refine (HS.out.2.2.2.keptX H8.out.2 (by simp)).keptX hk9 (fun hq => ?_)
                obtain ⟨cur, h1, _⟩ := HS.out.2.2.2.keptX H8.out.2 (by simp)
                obtain ⟨cs, fr, h2⟩ := (hR8.blk g (by simpa using hq)).2
                rw [h1] at h2
                injection h2 with h2
                injection h2 with _ h2
                cases h2
            rw [HN2.out] at hrun
            have HRUN := Lib.hid hrun
            clear hR8 hrun hR9 hk9 hB3r hsz8
            go_wp2_with (at_builtin; refine wpList_append_run rfl _ _ 135 rfl _ _ _ rfl rfl HRUN.out ?_)
            go_roundw
            case rel => exact ⟨j2 + 1, by omega, by go_num, HN.out⟩
            case measure => simp [intOf]; omega
        · obtain rfl : j2 = K := by omega
          have hall : u.all.take j2 = u.all := by rw [← HKK.out, List.take_length]
          have HFIN : Hid (RPuts P wr (.slice pa2 n2 pc2) (changesL N q t u) ∧ Kept [] w wr) := by
            refine ⟨?_, HKW.out⟩
            have h1 := HS.out.1
            rw [hall, ← HCH.out] at h1
            exact h1.mono HB3.out.2
          go_wp2_with fail
          go_ret
          exact ⟨_, rfl, HFIN.out⟩
end Go.Proofs.YtiedoocgbajjjaaGreatDoor

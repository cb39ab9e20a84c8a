/-
  Layer 4: Format of a disk that answers.
  Conditions: those that each theorem states.
  Layer 4: what Open reads of the root of an empty tree.
  Conditions: those that each theorem states.
-/
import Derived.Test.YtiedoocgbajjjaaGreatDoorFIo
import Derived.Test.YtiedoocgbajjjaaGreatDoorFChgW
import Derived.Test.YtiedoocgbajjjaaGreatDoorLPath
import Derived.Test.YtiedoocgbajjjaaGreatDoorLTakeE
import Derived.Test.YtiedoocgbajjjaaGreatDoorLTake
import Derived.Test.YtiedoocgbajjjaaGreatDoorLEntR
namespace Go.Proofs.YtiedoocgbajjjaaGreatDoor
open Go.RowKit Go.Maps
set_option maxRecDepth 100000

/-- A region in a function that defers: nothing panics in it. -/
def calmQ (Q : Exit → Act → World → Prop) : Exit → Act → World → Prop
  | .panic _, _, _ => False
  | e, a, w => Q e a w
theorem wp_calm {P : Program} {c : Code} {a : Act} {w : World} {Q : Exit → Act → World → Prop} (h : c.wp P (calmQ Q) a w) : c.wp P Q a w :=
  Code.wp_mono (fun e a w h => by cases e <;> first | exact h.elim | exact h) h
theorem layV_q {N q : Nat} (hq : q = (N + 511) / 512) : layV (N : Int) = layW N 0 1 2 201 ((201 + q : Nat) : Int) ((233 + q : Nat) : Int) 64 := by
  have e : ((N : Int) + 511) / 512 = (q : Int) := by omega
  unfold layV layW
  rw [e]
  rw [show (201 : Int) + (q : Int) = ((201 + q : Nat) : Int) by omega, show ((201 + q : Nat) : Int) + 32 = ((233 + q : Nat) : Int) by omega]
theorem root_nds (mode : Int) (a : Nat) : (newT 2 mode a).nds = [⟨a, 0, false, 0, ⟨2, mode, [], 0, [], 0, false⟩⟩] := by
  have hk : (newT 2 mode a).rc.kind = 2 := rfl
  have hz : (newT 2 mode a).size = 0 := by simp [newT, ATr.size, AKs.kids]
  have h0 : (newT 2 mode a).cost = 0 := by
    unfold ATr.cost
    rw [hk, hz]
    decide
  have h1 : (newT 2 mode a).cont = 0 := by
    unfold ATr.cont
    rw [if_pos hk, hz]
  have h2 : (newT 2 mode a).far = false := by
    unfold ATr.far
    rw [h0, h1]
    rfl
  show [(newT 2 mode a).nd] = _
  unfold ATr.nd
  rw [h1, h2]
  simp [newT, ATr.addr, ATr.ks, AKs.kids, ATr.rc]
/-- The root of a tree that has nothing else. -/
theorem root_stands {N q : Nat} (h : SizeOk N q) (a : Nat) : Stands N q (newT 2 493 a) := by
  have hn := root_nds 493 a
  refine ⟨⟨⟨.inr (.inl rfl), ⟨by decide, by decide⟩, by decide, fun _ => rfl, fun hh => by cases hh⟩, by decide, fun hh => absurd rfl hh, trivial⟩, ⟨rfl, rfl⟩, ?_, ?_⟩
  · rw [hn]
    have := h.lo
    have := h.hi
    have := h.q
    exact ⟨⟨_, [], rfl, rfl, rfl⟩, by simp, by simp, by simp, by simp [blksL, Nd.blks], by simp [blksL, Nd.blks], by simp, by omega⟩
  · rw [← nds_length, hn]; simp

set_option maxRecDepth 100000 in
set_option maxHeartbeats 2000000 in
theorem fmt_idle (p : Addr) (w : World) :
    CallsD Tryz.prog 36 #[.pointer (some p)] .returning w fun e u' w' => e = .returned (.tuple #[]) ∧ u' = .returning ∧ w' = w := by
  refine callsD_of_wpS Tryz.func36 rfl fun c₀ stk hu => ?_
  apply wpS_seq
  apply wpS_region
  simp [wpOpsS, go_sem, recoverD, hu, Tryz.ntmps36, Exit.thenS]
  apply wpS_of_wp
  change Code.wp _ _ _ { tmps := #[Value.pointer (some p), .nilIface, .nilIface, undef, undef, undef, undef], defers := [] } w
  go_wp2_with fail
  cases c₀
  simp_all [bodyPostS, results, Tryz.results36]
def doorFmt (gc : Nat) : List Deferred := [{ target := Target.fn (Fn.func 36) #[.pointer (some ⟨gc, 0, none⟩)], args := #[] }]
theorem fmt_door (gc : Nat) (n : Int) (T : Array Value) (w : World) (R : Ending → World → Prop) (h : w.heap[gc]? = some (.cells #[.int .i64 n] 25)) (h4 : T.getD 2 undef = .pointer (some ⟨gc, 0, none⟩)) (hR : R (.returned (.int .i64 n)) w) :
    bodyPostD Tryz.prog Tryz.f13 R Exit.ret { tmps := T, defers := doorFmt gc } w := by
  refine leaves_cons (f := 36) (args := #[.pointer (some ⟨gc, 0, none⟩)]) (by simp) (by simp [go_sem]) ?_
  refine (fmt_idle ⟨gc, 0, none⟩ _).mono ?_
  rintro e u' w'' ⟨rfl, rfl, rfl⟩
  have e0 : w''.cell? ⟨gc, 0, none⟩ = some (.int .i64 n) := cell_of_row _ _ 0 _ _ _ h
  refine ⟨_, ?_, hR⟩
  have h4' : T[2]?.getD undef = .pointer (some ⟨gc, 0, none⟩) := by simpa using h4
  simp [results, Tryz.results13, go_sem, h4', e0, loadVar]

/-- The areas of a disk that was just formatted. -/
def areaF (N q : Nat) : List UInt8 := areaL N q (newT 2 493 0)
theorem areaF_eq (N q a : Nat) : areaL N q (newT 2 493 a) = areaF N q := rfl
/-- A disk that was formatted. -/
structure Formatted (N q : Nat) (S : DiskS) : Prop where
  size : S.size = N
  super : S.blk 0 = superL N
  jour : S.blk 2 = encL 2 0 0 false
  area : ∀ i < q + 32, S.blk ((201 + i : Nat) : Int) = blkAt (areaF N q) i

set_option maxRecDepth 100000 in
set_option maxHeartbeats 8000000 in
theorem bFormat_any (d N q : Nat) (S : DiskS) (w : World) (h : Live w d S) (hs : S.size = N) (hok : SizeOk N q) (hq : q = (N + 511) / 512) (hw : S.writes ≤ 1000) :
    Calls Tryz.prog 13 #[.pointer (some ⟨d, 0, none⟩)] w fun e w' => e = .returned (.int .i64 0) ∧ Hid (∃ S', Live w' d S' ∧ S'.m = S.m ∧ Formatted N q S' ∧ S'.writes ≤ S.writes + 100 ∧ S'.blk 1 = S.blk 1 ∧ Kept [d, S.m] w w') := by
  have hmf : ∀ (fn : Fn) (first cap : Array Value) (w : World), (Instr.makeFunc fn first cap).run Tryz.prog w = .ok (.func fn first cap) w := fun _ _ _ _ => rfl
  have hz : ∀ w, (zeroValue 77).run Tryz.prog w = .ok (.agg (bvA zeroL)) w := fun _ => by kernel_rfl
  obtain ⟨gc, hgc⟩ : ∃ gc, w.heap.size = gc := ⟨_, rfl⟩
  obtain ⟨w1, hw1⟩ : ∃ w1, w.alloc (.cells #[.int .i64 0] 25) = w1 := ⟨_, rfl⟩
  have HK1 : Hid (Kept [] w w1 ∧ w1.heap[gc]? = some (.cells #[.int .i64 0] 25)) := by rw [← hw1, ← hgc]; exact ⟨Kept.alloc _ _ _, heap_alloc_last _ _⟩
  have HGC := Lib.hid hgc
  have HW1 := Lib.hid hw1
  have HL0 := Lib.hid h
  have HL1 := Lib.hid (h.kept HK1.out.1 (by simp) (by simp))
  have HS := Lib.hid (And.intro hs (And.intro hok (And.intro hq hw)))
  have HLN := Lib.hid (len_any d S w1 HL1.out.disk)
  have HOF := Lib.hid (of_yes N w1 (by have := hok.lo; omega) (by have := hok.hi; omega))
  rw [layV_q hq] at HOF
  rw [hs] at HLN
  unfold layW at HOF
  obtain ⟨D, hD⟩ : ∃ D : Int, ((233 + q : Nat) : Int) = D := ⟨_, rfl⟩
  obtain ⟨E, hE⟩ : ∃ E : Int, ((201 + q : Nat) : Int) = E := ⟨_, rfl⟩
  have HDE := Lib.hid (And.intro hD hE)
  rw [hD, hE] at HOF
  clear h hs hok hq hw hgc hw1 hD hE
  go_enter_defers Tryz.func13, Tryz.ntmps13
  go_wp2_with fail
  rw [HW1.out, HGC.out]
  refine HLN.out.mono ?_
  rintro e w2 ⟨rfl, rfl⟩
  go_wp2_with fail
  refine HOF.out.mono ?_
  rintro e w2 ⟨rfl, hk2⟩
  have hrow : (w2.alloc (.cells #[.int .i64 N, .int .i64 0, .int .i64 1, .int .i64 2, .int .i64 201, .int .i64 E, .int .i64 D, .int .i64 64] 60)).heap[gc]? = some (.cells #[.int .i64 0] 25) := (hk2.trans (Kept.alloc [] _ _)).heap (by simp) HK1.out.2
  have e0 := cell_of_row _ gc 0 _ _ _ hrow
  have fe := fun q => frozen_of_row _ gc q _ _ hrow
  obtain ⟨P, hP⟩ : ∃ P, w2.heap.size = P := ⟨_, rfl⟩
  obtain ⟨w3, hw3⟩ : ∃ w3, (w2.alloc (.cells #[.int .i64 N, .int .i64 0, .int .i64 1, .int .i64 2, .int .i64 201, .int .i64 E, .int .i64 D, .int .i64 64] 60)).setCell ⟨gc, 0, none⟩ (.int .i64 0) = w3 := ⟨_, rfl⟩
  have hgP : gc < P := by rw [← hP]; have h1 := hk2.size; have h2 := (Array.getElem?_eq_some_iff.1 HK1.out.2).1; omega
  have hk23 : Kept [gc] w2 w3 := by rw [← hw3]; exact (Kept.alloc _ _ _).trans (Kept.setCell _ _ _ _ (by simp))
  have hP3 : w3.heap[P]? = some (.cells #[.int .i64 N, .int .i64 0, .int .i64 1, .int .i64 2, .int .i64 201, .int .i64 E, .int .i64 D, .int .i64 64] 60) := by
    rw [← hw3]
    exact (Kept.setCell [gc] _ ⟨gc, 0, none⟩ _ (by simp)).heap (by simp; omega) (by rw [← hP]; exact heap_alloc_last _ _)
  have hg3 : w3.heap[gc]? = some (.cells #[.int .i64 0] 25) := by rw [← hw3]; exact rowSet hrow 0 _
  have H3 : Hid (Kept [] w w3 ∧ w3.heap[P]? = some (.cells #[.int .i64 N, .int .i64 0, .int .i64 1, .int .i64 2, .int .i64 201, .int .i64 E, .int .i64 D, .int .i64 64] 60) ∧ w3.heap[gc]? = some (.cells #[.int .i64 0] 25) ∧ gc < P) := ⟨(HK1.out.1.trans hk2).into hk23 (by have := HGC.out; simp; omega), hP3, hg3, hgP⟩
  have HW3 := Lib.hid hw3
  have HPS := Lib.hid hP
  have c0 : w3.cell? ⟨gc, 0, none⟩ = some (.int .i64 0) := cell_of_row _ _ 0 _ _ _ hg3
  have c1 : w3.cell? ⟨P, 1, none⟩ = some (.int .i64 0) := cell_of_row _ _ 1 _ _ _ hP3
  have HL3 : Hid (Live w3 d S) := HL0.out.kept H3.out.1 (by simp) (by simp)
  have HNE : Hid (gc ∉ [d, S.m] ∧ P ∉ [d, S.m] ∧ w.heap.size ≤ gc) := by
    have h1 := HL0.out.disk.lt
    have h2 := HL0.out.disk.map.lt
    have h3 := HGC.out
    have h4 := H3.out.2.2.2
    refine ⟨?_, ?_, by omega⟩ <;> simp <;> omega
  clear hrow hw3 hk23 hP3 hg3 hgP hP hk2
  go_wp2_with fail
  rw [HW3.out, HPS.out]
  have hN0 := HS.out.2.1.lo
  obtain ⟨S1, hS1⟩ : ∃ S1, S.putB 0 zeroL = S1 := ⟨_, rfl⟩
  obtain ⟨S2, hS2⟩ : ∃ S2, S1.putB 2 (encL 2 0 0 false) = S2 := ⟨_, rfl⟩
  have HS1 := Lib.hid hS1
  have HS2 := Lib.hid hS2
  have HBW := Lib.hid (bwrite_any d S 0 zeroL w3 HL3.out (by omega) (by have := HS.out.1; omega) rfl (by have := HS.out.2.2.2; omega))
  rw [hS1] at HBW
  clear c0 c1 e0 fe hS1 hS2
  refine HBW.out.mono ?_
  rintro e w4 ⟨rfl, hl4, hk4⟩
  have HJF := Lib.hid (format_yes d S1 S2 2 2 0 w4 hl4.disk rfl (by rw [← HS1.out]; show (2 : Int) + 199 ≤ S.size; have := HS.out.1; omega) (by rw [← HS1.out]; show S.writes + 1 < _; have := HS.out.2.2.2; omega)
    (by rw [← HS2.out]; exact wr_live (by omega) (by rw [← HS1.out]; show (2 : Int) < S.size; have := HS.out.1; omega) hl4.off hl4.fused (encL_length _ _ _ _)))
  have H4 : Hid (Kept [d, S.m] w w4 ∧ w4.heap[P]? = _ ∧ w4.heap[gc]? = _ ∧ Live w4 d S1) := ⟨(H3.out.1.mono (by simp)).trans hk4, hk4.heap HNE.out.2.1 H3.out.2.1, hk4.heap HNE.out.1 H3.out.2.2.1, hl4⟩
  have c3 : w4.cell? ⟨P, 3, none⟩ = some (.int .i64 2) := cell_of_row _ _ 3 _ _ _ H4.out.2.1
  clear hl4 hk4
  go_wp2_with fail
  refine HJF.out.mono ?_
  rintro e w5 ⟨rfl, hd5, hk5⟩
  have HM : Hid (S1.m = S.m ∧ S2.m = S.m) := by rw [← HS2.out, ← HS1.out]; exact ⟨rfl, rfl⟩
  rw [HM.out.1] at hk5
  have H5 : Hid (Kept [d, S.m] w w5 ∧ w5.heap[P]? = _ ∧ w5.heap[gc]? = _ ∧ Live w5 d S2) := ⟨H4.out.1.trans hk5, hk5.heap HNE.out.2.1 H4.out.2.1, hk5.heap HNE.out.1 H4.out.2.2.1, hd5, by rw [← HS2.out, ← HS1.out]; exact HL0.out.off, by rw [← HS2.out, ← HS1.out]; exact HL0.out.fused⟩
  clear c3 hd5 hk5 HJF HBW
  go_wp2_with fail
  refine wp_calm ?_
  have hzl : ∀ w', Imp (Kept [] w5) w5.drew w' → ∀ j v, #[Value.int .i64 N, .int .i64 0, .int .i64 1, .int .i64 2, .int .i64 201, .int .i64 E, .int .i64 D, .int .i64 64][j]? = some v → w'.cell? ⟨P, j, none⟩ = some v := fun w' hk j v hv => by
    rw [cell_of_row _ _ j _ _ _ ((hk (Kept.drew _ _)).heap (by simp) H5.out.2.1)]; exact hv
  have q0 : ∀ w', Imp (Kept [] w5) w5.drew w' → w'.cell? ⟨P, 0, none⟩ = some (.int .i64 N) := fun w' hk => hzl w' hk 0 _ rfl
  have q1 : ∀ w', Imp (Kept [] w5) w5.drew w' → w'.cell? ⟨P, 1, none⟩ = some (.int .i64 0) := fun w' hk => hzl w' hk 1 _ rfl
  have q2 : ∀ w', Imp (Kept [] w5) w5.drew w' → w'.cell? ⟨P, 2, none⟩ = some (.int .i64 1) := fun w' hk => hzl w' hk 2 _ rfl
  have q3 : ∀ w', Imp (Kept [] w5) w5.drew w' → w'.cell? ⟨P, 3, none⟩ = some (.int .i64 2) := fun w' hk => hzl w' hk 3 _ rfl
  have q4 : ∀ w', Imp (Kept [] w5) w5.drew w' → w'.cell? ⟨P, 4, none⟩ = some (.int .i64 201) := fun w' hk => hzl w' hk 4 _ rfl
  have q5 : ∀ w', Imp (Kept [] w5) w5.drew w' → w'.cell? ⟨P, 5, none⟩ = some (.int .i64 E) := fun w' hk => hzl w' hk 5 _ rfl
  have q6 : ∀ w', Imp (Kept [] w5) w5.drew w' → w'.cell? ⟨P, 6, none⟩ = some (.int .i64 D) := fun w' hk => hzl w' hk 6 _ rfl
  have q7 : ∀ w', Imp (Kept [] w5) w5.drew w' → w'.cell? ⟨P, 7, none⟩ = some (.int .i64 64) := fun w' hk => hzl w' hk 7 _ rfl
  refine wp_region_ordR (R := Imp (Kept [] w5)) [(true, 0), (true, 4), (false, 1), (false, 2), (true, 3)] (fun _ => Imp.refl _ _) (fun _ _ _ h k => Imp.trans h k) (by kernel_rfl) (fun _ _ d _ _ h => by cases d <;> exact h) (by kernel_rfl) rfl (by kernel_rfl) (by kernel_rfl) ?_
  simp only [named, List.getD_cons_zero, List.getD_cons_succ]
  repeat (first | (apply wpR_take; (case hw => rfl); (case hv => intro w' hk; go_simp; with_reducible rfl); simp only [Act.put, List.setIfInBounds_toArray, List.set_cons_zero, List.set_cons_succ]) | (refine wpR_pass (by rfl) ?_; simp only [Act.put, List.setIfInBounds_toArray, List.set_cons_zero, List.set_cons_succ]))
  clear q0 q1 q2 q3 q4 q5 q6 q7 hzl
  refine wpR_force (by rfl) (fun K hK => ?_)
  go_simp
  refine (newNode_any 2 493 w5.drew).mono ?_
  rintro e w6 ⟨rfl, H6⟩
  refine hK _ _ (fun hh => hh.trans H6.out.1) ?_
  clear hK K
  have hst := root_stands HS.out.2.1 w5.drew.heap.size
  obtain ⟨a, ha⟩ : ∃ a, w5.drew.heap.size = a := ⟨_, rfl⟩
  rw [ha] at hst H6
  have har := bareas_any N q (newT 2 493 a) w6 H6.out.2.ok hst.fine hst.set HS.out.2.1.hi HS.out.2.1.q (by have := hst.len; exact this)
  rw [areaF_eq, HDE.out.1, HDE.out.2] at har
  unfold layW at har
  have HAR := Lib.hid har
  have HK6 : Hid (Kept [] w5 w6) := (Kept.drew _ _).trans H6.out.1
  clear H6 hst har
  rw [show (newT 2 493 a).addr = a from rfl] at HAR
  refine wpR_force (by rfl) (fun K hK => ?_)
  go_simp
  refine HAR.out.mono ?_
  rintro e w7 ⟨v, rfl, H7⟩
  refine hK _ _ (fun hh => hh.trans H7.out.2) ?_
  clear hK K
  obtain ⟨A, hA⟩ : ∃ A, areaF N q = A := ⟨_, rfl⟩
  rw [hA] at H7
  have hlA := H7.out.1.1
  rw [bv_length] at hlA
  have hbr : BlkRow w7 v (q + 32) A := BlkRow.of H7.out.1 (by rw [hlA, Nat.mul_comm]) (Nat.lt_of_lt_of_le (by decide : 0 < 32) (Nat.le_add_left _ _))
  obtain ⟨ga, gk, rfl, hga, hra⟩ := hbr
  have HAA := Lib.hid hA
  have HRA := Lib.hid (And.intro hga hra)
  have HAL := Lib.hid hlA
  have HK7 : Hid (Kept [] w5 w7) := HK6.out.trans H7.out.2
  have H7R : Hid (Kept [d, S.m] w w7 ∧ w7.heap[P]? = _ ∧ w7.heap[gc]? = _ ∧ Live w7 d S2) := ⟨H5.out.1.trans (HK7.out.mono (by simp)), HK7.out.heap (by simp) H5.out.2.1, HK7.out.heap (by simp) H5.out.2.2.1, H5.out.2.2.2.kept HK7.out (by simp) (by simp)⟩
  have HGA : Hid (ga ∉ [d, S.m]) := by
    have h0 := (World.ownsRow.lt H7.out.1 ga rfl).1
    have h1 := HL0.out.disk.lt
    have h2 := HL0.out.disk.map.lt
    have h3 := H5.out.1.size
    have h4 := HK6.out.size
    show ga ∉ [d, S.m]
    simp
    omega
  clear H7 hA hga hra hlA
  obtain ⟨B, hB⟩ : ∃ B, q + 32 = B := ⟨_, rfl⟩
  have HB := Lib.hid hB
  rw [hB] at HRA HAL ⊢
  clear hB
  repeat (first | (apply wpR_take; (case hw => rfl); (case hv => intro w' hk; go_simp; with_reducible rfl); simp only [Act.put, List.setIfInBounds_toArray, List.set_cons_zero, List.set_cons_succ]) | (refine wpR_pass (by rfl) ?_; simp only [Act.put, List.setIfInBounds_toArray, List.set_cons_zero, List.set_cons_succ]))
  refine wpR_nil ?_
  simp only [calmQ]
  have hB40 : B ≤ 40 := by rw [← HB.out]; have := HS.out.2.1.q; omega
  have H0 : Hid (∃ Sj, Live w7 d Sj ∧ Sj.m = S.m ∧ Sj.size = N ∧ Sj.writes = S.writes + 2 + ((0 : Nat) : Int) ∧ (∀ i < 0, Sj.blk ((201 + i : Nat) : Int) = blkAt A i) ∧ (∀ z, z < 201 → Sj.blk z = S2.blk z) ∧ Kept [d, S.m] w7 w7) := by
    refine ⟨S2, H7R.out.2.2.2, HM.out.2, ?_, ?_, fun i hi => by omega, fun z _ => rfl, Kept.refl _ _⟩
    · rw [← HS2.out, ← HS1.out]; exact HS.out.1
    · rw [← HS2.out, ← HS1.out]; show S.writes + 1 + 1 = _; omega
  have hN200 : (233 : Int) ≤ N := by have := HS.out.2.1.lo; omega
  have HNB : Hid (201 + B ≤ N) := by have := HS.out.2.1.lo; have := HS.out.2.1.q; show 201 + B ≤ N; rw [← HB.out]; omega
  go_wp2_with fail
  go_loopw [33] (fun i wr => ∃ j : Nat, j ≤ B ∧ i = .int .i64 j ∧ Hid (∃ Sj, Live wr d Sj ∧ Sj.m = S.m ∧ Sj.size = N ∧ Sj.writes = S.writes + 2 + (j : Int) ∧ (∀ i < j, Sj.blk ((201 + i : Nat) : Int) = blkAt A i) ∧ (∀ z, z < 201 → Sj.blk z = S2.blk z) ∧ Kept [d, S.m] w7 wr)) (fun i _ => B - (intOf i).toNat)
  case atStart => exact ⟨0, by omega, rfl, H0.out⟩
  case round =>
    clear H0
    obtain ⟨j, hj, rfl, HR⟩ := hrel
    obtain ⟨Sj, hlv, hm, hsz0, hwr, hblk, hlow, hkw⟩ := HR.out
    have HV := Lib.hid (And.intro hlv (And.intro hm (And.intro hsz0 (And.intro hwr (And.intro hblk (And.intro hlow hkw))))))
    have hPr := hkw.heap HNE.out.2.1 H7R.out.2.1
    have hGr := hkw.heap HNE.out.1 H7R.out.2.2.1
    have HPR := Lib.hid (And.intro hPr hGr)
    by_cases hlt : j < B
    · obtain ⟨L, hL⟩ : ∃ L, blkAt A j = L := ⟨_, rfl⟩
      have hrg : wr.rangeAt ga (j * 64) (bv L) := by rw [← hL]; exact hkw.range HRA.out.1 HGA.out (HRA.out.2 j hlt)
      have hLl : L.length = 64 := by rw [← hL]; exact blkAt_len (by unfold blkN; rw [HAL.out]; omega)
      have hszL : (Tryz.prog.info? 77).map (·.size) = some (bv L).length := by rw [bv_length, hLl]; exact sizeB
      have hszL2 : (Tryz.prog.info? 77).map (·.size) = some L.length := by rw [hLl]; exact sizeB
      have hra : (wr.alloc (.cells (bvA (zeroL)) 77)).heap[wr.heap.size]? = some (.cells (bvA (zeroL)) 77) := heap_alloc_last _ _
      have hl64 : L.length = zeroL.length := by rw [hLl]; rfl
      obtain ⟨w8, hw8⟩ : ∃ w8, (wr.alloc (.cells (bvA (zeroL)) 77)).setRow wr.heap.size (bvA L) = w8 := ⟨_, rfl⟩
      have hk8 : Kept [] wr w8 := by rw [← hw8]; exact (Kept.alloc _ _ _).into (setRow_kept _ _ _) (by simp)
      have hr8 : w8.heap[wr.heap.size]? = some (.cells (bvA L) 77) := by rw [← hw8]; exact setRow_heap _ _ _ _ _ _ hra
      obtain ⟨s, hs⟩ : ∃ s, wr.heap.size = s := ⟨_, rfl⟩
      rw [hs] at hr8
      have HSZ := Lib.hid hs
      have HW8 := Lib.hid hw8
      have x4 : ((wr.alloc (.cells (bvA (zeroL)) 77)).setRow wr.heap.size (bvA L)).cell? ⟨P, 4, none⟩ = some (.int .i64 201) := by rw [hw8]; exact cell_of_row _ _ 4 _ _ _ (hk8.heap (by simp) hPr)
      have hrg8 : ((wr.alloc (.cells (bvA (zeroL)) 77)).setRow wr.heap.size (bvA L)).rangeAt wr.heap.size 0 (bv L) := by rw [hw8, hs]; exact range_row hr8
      have HK8 := Lib.hid hk8
      have hBW := bwrite_any d Sj ((201 + j : Nat) : Int) L w8 (hlv.kept hk8 (by simp) (by simp)) (by omega) (by rw [hsz0]; have := HNB.out; omega) hLl (by rw [hwr]; have := HS.out.2.2.2; omega)
      obtain ⟨X, hX⟩ : ∃ X : Int, ((201 + j : Nat) : Int) = X := ⟨_, rfl⟩
      rw [hX] at hBW
      have x1 : (201 : Int) + (j : Int) = X := by omega
      have x2 : IntKind.i64.wrap X = X := by rw [IntKind.wrap_i64]; omega
      have x3 : IntKind.i64.wrap (201 + (j : Int)) = X := by rw [x1]; exact x2
      have HBW := Lib.hid hBW
      have HX := Lib.hid (And.intro hX hL)
      have hjB : (j : Int) < (B : Int) := by omega
      clear hlv hm hsz0 hwr hblk hlow hkw hPr hGr HR hL hw8 hs hr8 hk8 hBW hX hLl
      go_wp2_with first
        | (refine wpList_load_mid rfl 77 _ rfl _ _ rfl (bv L) _ (by first | exact hrg | (simpa using hrg) | exact hrg8) Tryz.underlying77 rfl hszL ?_)
        | (refine wpList_store_row rfl 77 _ _ rfl wr.heap.size 77 zeroL L rfl rfl hra hl64 hszL2 ?_)
      rw [HW8.out]
      rw [show (bv L).toArray = bvA L from rfl]
      clear hrg hrg8 hra x4
      refine HBW.out.mono ?_
      rintro e w9 ⟨rfl, hl9, hk9⟩
      have HN : Hid (∃ Sj, Live w9 d Sj ∧ Sj.m = S.m ∧ Sj.size = N ∧ Sj.writes = S.writes + 2 + ((j + 1 : Nat) : Int) ∧ (∀ i < j + 1, Sj.blk ((201 + i : Nat) : Int) = blkAt A i) ∧ (∀ z, z < 201 → Sj.blk z = S2.blk z) ∧ Kept [d, S.m] w7 w9) := by
        obtain ⟨_, hm, hsz0, hwr, hblk, hlow, hkw⟩ := HV.out
        refine ⟨_, hl9, hm, hsz0, ?_, fun i hi => ?_, fun z hz => ?_, (hkw.trans (HK8.out.mono (by simp))).trans (by rw [← hm]; exact hk9)⟩
        · show Sj.writes + 1 = _; rw [hwr]; omega
        · show updL Sj.blk X L _ = _
          unfold updL
          by_cases hij : i = j
          · subst hij
            rw [if_pos HX.out.1, HX.out.2]
          · rw [if_neg (by rw [← HX.out.1]; omega)]
            exact hblk i (by omega)
        · show updL Sj.blk X L z = _
          unfold updL
          rw [if_neg (by rw [← HX.out.1]; omega)]
          exact hlow z hz
      clear hl9 hk9 HBW
      go_wp2_with fail
      go_roundw
      case rel => exact ⟨j + 1, by omega, by go_num, HN.out⟩
      case measure => simp [intOf]; omega
    · obtain rfl : j = B := by omega
      have hjB : ¬ (j : Int) < (j : Int) := by omega
      have e0 : wr.cell? ⟨gc, 0, none⟩ = some (.int .i64 0) := cell_of_row _ _ 0 _ _ _ hGr
      clear hlv hm hsz0 hwr hblk hlow hkw hPr hGr HR
      go_wp2_with fail
      refine wp_calm ?_
      have hzl : ∀ w', Imp (Kept [d, S.m] wr) wr.drew w' → ∀ j v, #[Value.int .i64 N, .int .i64 0, .int .i64 1, .int .i64 2, .int .i64 201, .int .i64 E, .int .i64 D, .int .i64 64][j]? = some v → w'.cell? ⟨P, j, none⟩ = some v := fun w' hk j v hv => by
        rw [cell_of_row _ _ j _ _ _ ((hk (Kept.drew _ _)).heap HNE.out.2.1 HPR.out.1)]; exact hv
      have q0 : ∀ w', Imp (Kept [d, S.m] wr) wr.drew w' → w'.cell? ⟨P, 0, none⟩ = some (.int .i64 N) := fun w' hk => hzl w' hk 0 _ rfl
      have q1 : ∀ w', Imp (Kept [d, S.m] wr) wr.drew w' → w'.cell? ⟨P, 1, none⟩ = some (.int .i64 0) := fun w' hk => hzl w' hk 1 _ rfl
      have q2 : ∀ w', Imp (Kept [d, S.m] wr) wr.drew w' → w'.cell? ⟨P, 2, none⟩ = some (.int .i64 1) := fun w' hk => hzl w' hk 2 _ rfl
      have q3 : ∀ w', Imp (Kept [d, S.m] wr) wr.drew w' → w'.cell? ⟨P, 3, none⟩ = some (.int .i64 2) := fun w' hk => hzl w' hk 3 _ rfl
      have q4 : ∀ w', Imp (Kept [d, S.m] wr) wr.drew w' → w'.cell? ⟨P, 4, none⟩ = some (.int .i64 201) := fun w' hk => hzl w' hk 4 _ rfl
      have q5 : ∀ w', Imp (Kept [d, S.m] wr) wr.drew w' → w'.cell? ⟨P, 5, none⟩ = some (.int .i64 E) := fun w' hk => hzl w' hk 5 _ rfl
      have q6 : ∀ w', Imp (Kept [d, S.m] wr) wr.drew w' → w'.cell? ⟨P, 6, none⟩ = some (.int .i64 D) := fun w' hk => hzl w' hk 6 _ rfl
      have q7 : ∀ w', Imp (Kept [d, S.m] wr) wr.drew w' → w'.cell? ⟨P, 7, none⟩ = some (.int .i64 64) := fun w' hk => hzl w' hk 7 _ rfl
      clear e0
      refine wp_region_ordR (R := Imp (Kept [d, S.m] wr)) [(true, 0), (true, 1), (true, 2), (true, 3), (false, 4), (false, 5)] (fun _ => Imp.refl _ _) (fun _ _ _ h k => Imp.trans h k) (by kernel_rfl) (fun _ _ d _ _ h => by cases d <;> exact h) (by kernel_rfl) rfl (by kernel_rfl) (by kernel_rfl) ?_
      simp only [named, List.getD_cons_zero, List.getD_cons_succ]
      repeat (first | (apply wpR_take; (case hw => rfl); (case hv => intro w' hk; go_simp; with_reducible rfl); simp only [Act.put, List.setIfInBounds_toArray, List.set_cons_zero, List.set_cons_succ]) | (refine wpR_pass (by rfl) ?_; simp only [Act.put, List.setIfInBounds_toArray, List.set_cons_zero, List.set_cons_succ]))
      clear q0 q1 q2 q3 q4 q5 q6 q7 hzl
      refine wpR_force (by rfl) (fun K hK => ?_)
      go_simp
      have hsb := superBlock_any N 0 1 2 201 E D 64 wr.drew HS.out.2.1.hi
      unfold layW at hsb
      refine hsb.mono ?_
      rintro e w8 ⟨rfl, hk8⟩
      refine hK _ _ (fun hh => hh.trans (hk8.mono (by simp))) ?_
      clear hK K hsb
      have HK8 : Hid (Kept [] wr w8) := (Kept.drew _ _).trans hk8
      obtain ⟨L, hL⟩ : ∃ L, superL N = L := ⟨_, rfl⟩
      rw [hL]
      have HLL := Lib.hid hL
      have HBW := Lib.hid (bwrite_any d Sj 0 L w8 (HV.out.1.kept HK8.out (by simp) (by simp)) (by omega) (by rw [HV.out.2.2.1]; omega) (by rw [← hL]; exact superL_length N) (by rw [HV.out.2.2.2.1]; have := HS.out.2.2.2; omega))
      clear hk8 hL
      refine wpR_force (by rfl) (fun K hK => ?_)
      go_simp
      refine HBW.out.mono ?_
      rintro e w9 ⟨rfl, hl9, hk9⟩
      rw [HV.out.2.1] at hk9
      refine hK _ _ (fun hh => hh.trans hk9) ?_
      clear hK K
      refine wpR_nil ?_
      simp only [calmQ]
      have hG9 : w9.heap[gc]? = some (.cells #[.int .i64 0] 25) := hk9.heap HNE.out.1 (HK8.out.heap (by simp) HPR.out.2)
      have H9 := Lib.hid (And.intro hl9 (And.intro hk9 hG9))
      have e0 : w9.cell? ⟨gc, 0, none⟩ = some (.int .i64 0) := cell_of_row _ _ 0 _ _ _ hG9
      have f0 : ∀ q, w9.frozen? ⟨gc, q, none⟩ = false := fun q => frozen_of_row _ _ q _ _ hG9
      clear hl9 hk9 hG9 HBW
      go_wp2_with fail
      refine fmt_door gc 0 _ _ _ ?_ rfl ⟨rfl, ?_⟩
      · exact rowSet H9.out.2.2 0 _
      · obtain ⟨_, hm, hsz0, hwr, hblk, hlow, hkw⟩ := HV.out
        refine ⟨_, H9.out.1.kept (Kept.setCell [gc] _ _ _ (by simp)) (by have := HNE.out.1; simp at this ⊢; omega) (by show Sj.m ∉ _; rw [hm]; have := HNE.out.1; simp at this ⊢; omega), hm, ⟨hsz0, ?_, ?_, ?_⟩, ?_, ?_, ?_⟩
        · show updL Sj.blk 0 L 0 = _
          unfold updL
          rw [if_pos rfl, HLL.out]
        · show updL Sj.blk 0 L 2 = _
          unfold updL
          rw [if_neg (by omega), hlow 2 (by omega), ← HS2.out]
          rfl
        · intro i hi
          show updL Sj.blk 0 L _ = _
          unfold updL
          rw [if_neg (by omega), hblk i (by rw [← HB.out]; exact hi), HAA.out]
        · show Sj.writes + 1 ≤ _
          rw [hwr]
          omega
        · show updL Sj.blk 0 L 1 = _
          unfold updL
          rw [if_neg (by omega), hlow 1 (by omega), ← HS2.out, ← HS1.out]
          rfl
        · exact (((H7R.out.1.trans hkw).trans (HK8.out.mono (by simp))).trans H9.out.2.1).andThen (Kept.setCell [gc] w9 ⟨gc, 0, none⟩ (.int .i64 0) (by simp)) (fun b hb => .inr (by have := HNE.out.2.2; simp at hb; omega))
end Go.Proofs.YtiedoocgbajjjaaGreatDoor

namespace Go.Proofs.YtiedoocgbajjjaaGreatDoor
open Go.RowKit Go.Maps
set_option maxRecDepth 100000

set_option maxRecDepth 100000 in
set_option maxHeartbeats 2000000 in
/-- A place that nobody has claimed is claimed. -/
theorem sclaim_any (g n cap i : Nat) (A : Array Value) (t : TypeId) (w : World) (h : w.heap[g]? = some (.cells A t)) (hi : i < n) (hA : A[i]? = some (.bool false)) :
    Calls Tryz.prog 115 #[.slice (some ⟨g, 0, none⟩) n cap, .int .i64 i] w fun e w' => e = .returned (.tuple #[]) ∧ w' = w.setCell ⟨g, i, none⟩ (.bool true) := by
  have c : w.cell? ⟨g, i, none⟩ = some (.bool false) := by rw [cell_of_row _ _ i _ _ _ h]; exact hA
  have f : ∀ q, w.frozen? ⟨g, q, none⟩ = false := fun q => frozen_of_row _ _ q _ _ h
  have h1 : ¬ (n : Int) ≤ (i : Int) := by omega
  have h2 : (i : Int) < (n : Int) := by omega
  clear h hA
  go_enter Tryz.func115, Tryz.ntmps115
  go_wp2_with fail
  go_end0
  exact ⟨rfl, rfl⟩

set_option maxRecDepth 100000 in
set_option maxHeartbeats 2000000 in
theorem lbody_nil (r : Value) (ao : Option Addr) (cap : Nat) (w : World) :
    Calls Tryz.prog 117 #[r, .slice ao 0 cap] w fun e w' => e = .returned (.slice none 0 0) ∧ w' = w := by
  go_enter Tryz.func117, Tryz.ntmps117
  go_wp2_with fail
  refine wp_loop_rounds 1 ?_
  rw [rounds_succ]
  go_wp2_with fail
  go_ret
  exact ⟨rfl, rfl⟩

set_option maxRecDepth 100000 in
set_option maxHeartbeats 2000000 in
theorem lentries_nil (r n : Value) (w : World) :
    Calls Tryz.prog 118 #[r, n, .slice none 0 0] w fun e w' => e = .returned (.tuple #[]) ∧ Kept [] w w' := by
  have HT := Lib.hid (takeE_go none 0 0 [] w (by omega) rfl (by omega) (by omega) (fun _ => rfl) (.inl rfl))
  have HB : Hid (takeEB [] 0 = true) := by show _ = _; decide
  go_enter Tryz.func118, Tryz.ntmps118
  go_wp2_with fail
  refine HT.out.mono ?_
  rintro e w2 ⟨hk2, ⟨hf, _⟩ | ⟨_, v, rfl, hown⟩⟩
  · rw [HB.out] at hf
    cases hf
  have HK2 := Lib.hid hk2
  obtain ⟨ao, cap, rfl⟩ : ∃ ao cap, v = .slice ao 0 cap := by
    rcases hown.2 with ⟨e, _⟩ | ⟨_, _, _, e, _⟩ <;> exact ⟨_, _, e⟩
  clear hk2 hown
  go_wp2_with fail
  refine (bsure_any w2).mono ?_
  rintro e w3 ⟨rfl, rfl⟩
  go_wp2_with fail
  refine wp_loop_rounds 1 ?_
  rw [rounds_succ]
  go_wp2_with fail
  go_end0
  exact ⟨rfl, HK2.out⟩

/-- A loader, and what it keeps. -/
def loaderRow (d N E D g2 n2 g3 : Nat) : Array Value := #[.pointer (some ⟨d, 0, none⟩), .int .i64 N, .int .i64 0, .int .i64 1, .int .i64 2, .int .i64 201, .int .i64 (E : Int), .int .i64 (D : Int), .int .i64 64, .slice (some ⟨g2, 0, none⟩) n2 n2, .slice (some ⟨g3, 0, none⟩) N N]
/-- The root's record on a disk that was formatted. -/
def rootRec : List UInt8 := recL 2 (fieldsL 493 0 0 [])
theorem root_taken : takeB rootRec = true ∧ kindN rootRec = 2 ∧ numAt rootRec 1 = 493 ∧ numAt rootRec 3 = 0 ∧ numAt rootRec 5 = 0 ∧ dirL rootRec = [] ∧ rootRec.length = 32 := by
  have h := take_put (k := 2) (m := 493) (s := 0) (more := 0) (r := []) (by decide)
  exact ⟨h.2.2.2.2.2.1, h.1, h.2.1, h.2.2.1, h.2.2.2.1, h.2.2.2.2.1, recL_length (fieldsL_length _ _ _ _)⟩
end Go.Proofs.YtiedoocgbajjjaaGreatDoor

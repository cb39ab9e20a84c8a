/-
  The walk through JournalApart: two journals on one disk know nothing of one another.
  Conditions: none.
-/
import Derived.Test.YtmckapfncnoddaaOrdl
namespace Go.Proofs.Ytmckapfncnoddaa
open Go.RowKit Go.Maps

theorem size40 : (Try.prog.info? 63).map (·.size) = some 40 := by kernel_rfl
theorem size20b : (Try.prog.info? 64).map (·.size) = some 20 := by kernel_rfl
theorem zero40 (w : World) : (zeroValue 63).run Try.prog w = .ok (.agg (bvA (zerosL 40))) w := by kernel_rfl
theorem zero20b (w : World) : (zeroValue 64).run Try.prog w = .ok (.agg (boolA (List.replicate 20 false))) w := by kernel_rfl

/-- Two journals on one disk, as the statement holds them. -/
structure TwoSt (a : Nat) (S : DiskS) (j0 j1 g0 g1 pl jb nb : Nat) (wr : World) : Prop where
  live : Live wr a S
  jr0 : IsJour wr j0 ⟨a, 0, g0, false, 0⟩
  jr1 : IsJour wr j1 ⟨a, 199, g1, false, 0⟩
  plc : wr.heap[pl]? = some (.cells #[.int .i64 0, .int .i64 199] 61)
  jsc : wr.heap[jb]? = some (.cells #[.pointer (some ⟨j0, 0, none⟩), .pointer (some ⟨j1, 0, none⟩)] 62)
  nc : wr.heap[nb]? = some (.cells #[.int .i64 g0, .int .i64 g1] 61)

theorem TwoSt.grow {a : Nat} {S : DiskS} {j0 j1 g0 g1 pl jb nb : Nat} {w w' : World} (h : TwoSt a S j0 j1 g0 g1 pl jb nb w) (hk : Kept [] w w') : TwoSt a S j0 j1 g0 g1 pl jb nb w' :=
  ⟨h.live.kept hk (by simp) (by simp), h.jr0.kept hk (by simp), h.jr1.kept hk (by simp), hk.heap (by simp) h.plc, hk.heap (by simp) h.jsc, hk.heap (by simp) h.nc⟩

theorem ne_of_type {w : World} {b b' : Nat} {cs cs' : Array Value} {t t' : TypeId} (h : w.heap[b]? = some (.cells cs t)) (h' : w.heap[b']? = some (.cells cs' t')) (ht : t ≠ t') : b' ≠ b := fun e => by
  rw [e, h] at h'
  simp at h'
  exact ht h'.2

theorem TwoSt.set {a : Nat} {S : DiskS} {j0 j1 g0 g1 pl jb nb : Nat} {w w' : World} (h : TwoSt a S j0 j1 g0 g1 pl jb nb w) {b : Nat} {cs : Array Value} {t : TypeId} (hb : w.heap[b]? = some (.cells cs t))
    (h1 : t ≠ 67) (h2 : t ≠ 71) (h3 : t ≠ 61) (h4 : t ≠ 62) (hk : Kept [b] w w') : TwoSt a S j0 j1 g0 g1 pl jb nb w' := by
  have e1 := ne_of_type hb h.live.disk.here h1
  have e2 : S.m ≠ b := fun e => h.live.disk.map.notCells (e ▸ hb)
  have e3 := ne_of_type hb h.jr0 h2
  have e4 := ne_of_type hb h.jr1 h2
  have e5 := ne_of_type hb h.plc h3
  have e6 := ne_of_type hb h.jsc h4
  have e7 := ne_of_type hb h.nc h3
  exact ⟨h.live.kept hk (by simpa using e1) (by simpa using e2), h.jr0.kept hk (by simpa using e3), h.jr1.kept hk (by simpa using e4), hk.heap (by simpa using e5) h.plc, hk.heap (by simpa using e6) h.jsc, hk.heap (by simpa using e7) h.nc⟩

theorem TwoSt.ownKept {a : Nat} {S : DiskS} {j0 j1 g0 g1 pl jb nb : Nat} {w w' : World} (h : TwoSt a S j0 j1 g0 g1 pl jb nb w) {base : Nat} {v : Value} {l : List PutL} {xs : List Value} (ho : OwnPuts w base v l xs) (hk : Kept v.ownBlock.toList w w') : TwoSt a S j0 j1 g0 g1 pl jb nb w' := by
  obtain ⟨b, cap, cur, rfl, _, hg, _⟩ := ho.shape
  exact h.set hg (by decide) (by decide) (by decide) (by decide) hk

structure ApSt (w : World) (a m h pl jb nb k : Nat) (S : DiskS) (j0 j1 g0 g1 : Nat) (H : List UInt8) (wr : World) : Prop where
  two : TwoSt a S j0 j1 g0 g1 pl jb nb wr
  m : S.m = m
  size : S.size = 438
  writes : S.writes ≤ 2 + 100 * k
  rd0 : Ready S 0 g0
  rd1 : Ready S 199 g1
  gk : g0 ≤ k ∧ g1 ≤ k
  new : w.heap.size ≤ j0 ∧ w.heap.size ≤ j1
  has : wr.heap[h]? = some (.cells (bvA H) 63)
  hlen : H.length = 40
  blk : ∀ q : Nat, q < 40 → H.getD q 0 ≠ 0 → S.blk ((398 : Nat) + (q : Int)) = fullE (H.getD q 0) 3
  kept : Kept [] w wr

theorem ApSt.grow {w : World} {a m h pl jb nb k : Nat} {S : DiskS} {j0 j1 g0 g1 : Nat} {H : List UInt8} {wr w' : World} (R : ApSt w a m h pl jb nb k S j0 j1 g0 g1 H wr) (hk : Kept [] wr w') : ApSt w a m h pl jb nb k S j0 j1 g0 g1 H w' :=
  ⟨R.two.grow hk, R.m, R.size, R.writes, R.rd0, R.rd1, R.gk, R.new, hk.heap (by simp) R.has, R.hlen, R.blk, R.kept.trans hk⟩

theorem io_blk {w : World} {base : Nat} {c : UInt8} {th tz : TypeId} {h sb B : Nat} {H0 H : List UInt8} {off : Nat} {Z : List Bool} {l : List PutL} {cnt : Nat} {v : Value} {xs : List Value} {wr : World}
    (R : IoSt w 20 base (fun _ => 3) c th tz h sb B H0 H off Z l cnt v xs wr) (hbase : base = 398 + off) (g g' : Int → List UInt8)
    (hb : ∀ q : Nat, q < 40 → g' ((398 : Nat) + (q : Int)) = applyL g l ((398 : Nat) + (q : Int)))
    (hold : ∀ q : Nat, q < 40 → H0.getD q 0 ≠ 0 → g ((398 : Nat) + (q : Int)) = fullE (H0.getD q 0) 3) :
    ∀ q : Nat, q < 40 → H.getD q 0 ≠ 0 → g' ((398 : Nat) + (q : Int)) = fullE (H.getD q 0) 3 := by
  intro q hq h0
  rw [hb q hq]
  by_cases hin : off ≤ q ∧ q < off + 20
  · obtain ⟨r, rfl⟩ : ∃ r, q = off + r := ⟨q - off, by omega⟩
    have hr := R.rel r (by omega)
    have ha := R.apply g r (by omega)
    rw [show ((398 : Nat) : Int) + ((off + r : Nat) : Int) = (base : Int) + (r : Int) by omega, ha]
    by_cases hz : Z.getD r false = true
    · rw [if_pos hz] at hr ⊢
      rw [hr]
    · rw [if_neg hz] at hr ⊢
      rw [hr] at h0 ⊢
      rw [← hold _ hq h0]
      congr 1
      omega
  · have hr := R.rest q hin
    rw [hr] at h0 ⊢
    rw [applyL_other]
    · exact hold q hq h0
    · intro p hp e
      obtain ⟨r, hr20, _, rfl⟩ := (R.mem p).1 hp
      simp only [putO] at e
      omega

set_option maxHeartbeats 8000000 in
set_option maxRecDepth 100000 in
theorem apart_walk (ao : Option Addr) (len cap : Nat) (L : List (List UInt8)) (w : World) (hl : SliceOf w 1 (RowQ w) ao len L) :
    Calls Try.prog 8 #[.slice ao len cap] w fun e w' => e = .returned (.bool true) ∧ Kept [] w w' := by
  obtain ⟨rfl, hlen, harg⟩ := hl
  have HARG := Lib.hid harg
  clear harg
  go_enter Try.func8, Try.ntmps8
  go_wp2_with fail
  refine (shown_true w).mono ?_
  rintro e w1 ⟨rfl, hk1⟩
  have HK1 := Lib.hid hk1
  clear hk1
  go_wp2_with fail
  refine (new_ok 438 _ (by omega) (by omega)).mono ?_
  rintro e w2 ⟨rfl, hd2, hk2⟩
  obtain ⟨a, ha⟩ : ∃ a, a = w1.heap.size + 1 := ⟨_, rfl⟩
  obtain ⟨m, hm⟩ : ∃ m, m = w1.heap.size := ⟨_, rfl⟩
  rw [← ha, ← hm] at hd2
  rw [← ha]
  have HA : Hid (w.heap.size ≤ a ∧ w.heap.size ≤ m) := by have := HK1.out.size; exact ⟨by omega, by omega⟩
  have HD2 := Lib.hid hd2
  have HK2 := Lib.hid (HK1.out.trans hk2)
  clear hd2 hk2 ha hm
  go_wp2_with fail
  generalize hw3 : World.alloc (World.alloc w2 _) _ = w3
  obtain ⟨pl, hpl⟩ : ∃ pl, pl = w2.heap.size := ⟨_, rfl⟩
  obtain ⟨jb, hjb⟩ : ∃ jb, jb = w2.heap.size + 1 := ⟨_, rfl⟩
  have hk3 : Kept [] w2 w3 := by rw [← hw3]; exact (Kept.alloc _ _ _).trans (Kept.alloc _ _ _)
  have hp3 : w3.heap[pl]? = some (.cells #[.int .i64 0, .int .i64 199] 61) := by rw [← hw3, hpl]; exact (Kept.alloc [] _ _).heap (by simp) (heap_alloc_last w2 _)
  have hj3 : w3.heap[jb]? = some (.cells #[.pointer none, .pointer none] 62) := by rw [← hw3, hjb]; exact heap_alloc2 w2 _ _
  have HD3 := Lib.hid (HD2.out.kept hk3 (by simp) (by simp))
  have HK3 := Lib.hid (HK2.out.trans hk3)
  have HPJ : Hid (w.heap.size ≤ pl ∧ w.heap.size ≤ jb) := by have := HK2.out.size; exact ⟨by omega, by omega⟩
  have HP3 := Lib.hid hp3
  have HJ3 := Lib.hid hj3
  rw [← hjb, ← hpl]
  clear hw3 hk3 hp3 hj3 hpl hjb
  have c0 : w3.cell? ⟨pl, 0, none⟩ = some (.int .i64 0) := cell_of_row w3 _ 0 _ _ _ HP3.out
  refine wp_loop_rounds 3 ?_
  rw [rounds_succ]
  go_wp2_with fail
  obtain ⟨S1, hS1⟩ : ∃ S : DiskS, S = ⟨438, m, false, false, 0, 1, updL (fun _ => zeroL) 0 (encL 0 0 0 false)⟩ := ⟨_, rfl⟩
  refine (format_yes a (DiskS.new 438 m) S1 0 _ 0 _ HD3.out rfl (by show (0 : Int) + 199 ≤ 438; omega) (by show (0 : Int) < _; omega) ?_).mono ?_
  · have hr : (DiskS.new 438 m).reach (0 : Nat) = 0 := reach_in (by omega) (by show (0 : Int) < 438; omega) rfl
    unfold DiskS.wr
    rw [if_pos hr, if_pos (encL_length _ _ _ _), hS1]
    rfl
  rintro e w4 ⟨rfl, hd4, hk4⟩
  have hk4' : Kept [a, m] w3 w4 := hk4
  have e1 := ne_of_type HP3.out HD3.out.here (by decide)
  have e2 : m ≠ pl := fun e => HD3.out.map.notCells (e ▸ HP3.out)
  have e3 := ne_of_type HJ3.out HD3.out.here (by decide)
  have e4 : m ≠ jb := fun e => HD3.out.map.notCells (e ▸ HJ3.out)
  have HD4 := Lib.hid hd4
  have HP4 := Lib.hid (hk4'.heap (by simp; exact ⟨fun e => e1 e.symm, fun e => e2 e.symm⟩) HP3.out)
  have HJ4 := Lib.hid (hk4'.heap (by simp; exact ⟨fun e => e3 e.symm, fun e => e4 e.symm⟩) HJ3.out)
  have HK4 := Lib.hid (HK3.out.into hk4' (by have := HA.out; simp; exact this))
  have hs1 : S1.size = 438 := by rw [hS1]
  have ho1 : S1.off = false := by rw [hS1]
  have hr1 : S1.blk (0 : Nat) = encL 0 0 0 false := by rw [hS1]; simp [updL]
  have HSS := Lib.hid hS1
  have HS1 := Lib.hid hs1
  have HO1 := Lib.hid ho1
  have HR1 := Lib.hid hr1
  clear hd4 hk4 hk4' c0 e1 e2 e3 e4 hs1 ho1 hr1 hS1
  have c0 : w4.cell? ⟨pl, 0, none⟩ = some (.int .i64 0) := cell_of_row w4 _ 0 _ _ _ HP4.out
  go_wp2_with fail
  refine (open_ready a S1 0 _ 0 _ HD4.out rfl (by rw [HS1.out]; omega) HO1.out HR1.out (by omega)).mono ?_
  rintro e w5 ⟨j0, rfl, hj5, hjl5, hk5⟩
  have HD5 := Lib.hid (HD4.out.kept hk5 (by simp) (by simp))
  have HP5 := Lib.hid (hk5.heap (by simp) HP4.out)
  have HJB5 := Lib.hid (hk5.heap (by simp) HJ4.out)
  have HJ05 := Lib.hid hj5
  have HK5 := Lib.hid (HK4.out.trans hk5)
  have HJL0 : Hid (w.heap.size ≤ j0) := Nat.le_trans HK4.out.size hjl5
  clear hj5 hjl5 hk5 c0
  have d0 : w5.cell? ⟨jb, 0, none⟩ = some (.pointer none) := cell_of_row w5 _ 0 _ _ _ HJB5.out
  have f0 : ∀ r, w5.frozen? ⟨jb, r, none⟩ = false := fun r => frozen_of_row w5 _ r _ _ HJB5.out
  have hne : pl ≠ jb := ne_of_type HJB5.out HP5.out (by decide)
  have c1 : w5.cell? ⟨pl, 1, none⟩ = some (.int .i64 199) := cell_of_row w5 _ 1 _ _ _ HP5.out
  go_wp2_with fail
  generalize hw6 : World.setCell w5 _ _ = w6
  have hk6 : Kept [jb] w5 w6 := by rw [← hw6]; exact Kept.setCell _ _ _ _ (by simp)
  have hjb6 : w6.heap[jb]? = some (.cells #[.pointer (some ⟨j0, 0, none⟩), .pointer none] 62) := by rw [← hw6, heap_setCell_same _ _ 0 _ _ _ HJB5.out]; rfl
  have HD6 := Lib.hid (HD5.out.kept hk6 (by have := ne_of_type HJB5.out HD5.out.here (by decide); simpa using this) (by
    have : S1.m ≠ jb := fun e => HD5.out.map.notCells (e ▸ HJB5.out)
    simpa using this))
  have HP6 := Lib.hid (hk6.heap (by simpa using hne) HP5.out)
  have HJB6 := Lib.hid hjb6
  have HJ06 := Lib.hid (HJ05.out.kept hk6 (by have := ne_of_type HJB5.out HJ05.out (by decide); simpa using this))
  have HK6 := Lib.hid (HK5.out.into hk6 (by have := HPJ.out; simp; omega))
  clear hw6 hk6 hjb6 d0 f0 c1
  rw [rounds_succ]
  have c1 : w6.cell? ⟨pl, 1, none⟩ = some (.int .i64 199) := cell_of_row w6 _ 1 _ _ _ HP6.out
  go_wp2_with fail
  obtain ⟨S2, hS2⟩ : ∃ S : DiskS, S = ⟨438, m, false, false, 0, 2, updL (updL (fun _ => zeroL) 0 (encL 0 0 0 false)) 199 (encL 199 0 0 false)⟩ := ⟨_, rfl⟩
  refine (format_yes a S1 S2 199 _ 0 _ HD6.out rfl (by rw [HS1.out]; omega) (by rw [HSS.out]; show (1 : Int) < _; omega) ?_).mono ?_
  · have hr : S1.reach (199 : Nat) = 0 := reach_in (by omega) (by rw [HS1.out]; omega) HO1.out
    unfold DiskS.wr
    rw [if_pos hr, if_pos (encL_length _ _ _ _), hS2, HSS.out]
    rfl
  rintro e w7 ⟨rfl, hd7, hk7⟩
  have hm1 : S1.m = m := by rw [HSS.out]
  rw [hm1] at hk7
  have e1 := ne_of_type HP6.out HD6.out.here (by decide)
  have e2 : m ≠ pl := fun e => HD6.out.map.notCells (hm1 ▸ e ▸ HP6.out)
  have e3 := ne_of_type HJB6.out HD6.out.here (by decide)
  have e4 : m ≠ jb := fun e => HD6.out.map.notCells (hm1 ▸ e ▸ HJB6.out)
  have e5 := HJ06.out.ne_disk HD6.out
  have e6 := HJ06.out.ne_map HD6.out
  rw [hm1] at e6
  have HD7 := Lib.hid hd7
  have HP7 := Lib.hid (hk7.heap (by simp; exact ⟨fun e => e1 e.symm, fun e => e2 e.symm⟩) HP6.out)
  have HJB7 := Lib.hid (hk7.heap (by simp; exact ⟨fun e => e3 e.symm, fun e => e4 e.symm⟩) HJB6.out)
  have HJ07 := Lib.hid (HJ06.out.kept hk7 (by simp; exact ⟨e5, e6⟩))
  have HK7 := Lib.hid (HK6.out.into hk7 (by have := HA.out; simp; exact this))
  have hs2 : S2.size = 438 := by rw [hS2]
  have ho2 : S2.off = false := by rw [hS2]
  have hf2 : S2.fused = false := by rw [hS2]
  have hr2 : S2.blk (199 : Nat) = encL 199 0 0 false := by rw [hS2]; simp [updL]
  have hr20 : S2.blk (0 : Nat) = encL 0 0 0 false := by rw [hS2]; simp [updL]
  have hm2 : S2.m = m := by rw [hS2]
  have hw2 : S2.writes = 2 := by rw [hS2]
  have HX2 := Lib.hid (And.intro hs2 (And.intro ho2 (And.intro hf2 (And.intro hr2 (And.intro hr20 (And.intro hm2 hw2))))))
  clear hd7 hk7 c1 e1 e2 e3 e4 e5 e6 hm1 hs2 ho2 hf2 hr2 hr20 hm2 hw2 hS2
  have c1 : w7.cell? ⟨pl, 1, none⟩ = some (.int .i64 199) := cell_of_row w7 _ 1 _ _ _ HP7.out
  go_wp2_with fail
  refine (open_ready a S2 199 _ 0 _ HD7.out rfl (by rw [HX2.out.1]; omega) HX2.out.2.1 HX2.out.2.2.2.1 (by omega)).mono ?_
  rintro e w8 ⟨j1, rfl, hj8, hjl8, hk8⟩
  have HD8 := Lib.hid (HD7.out.kept hk8 (by simp) (by simp))
  have HP8 := Lib.hid (hk8.heap (by simp) HP7.out)
  have HJB8 := Lib.hid (hk8.heap (by simp) HJB7.out)
  have HJ08 := Lib.hid (HJ07.out.kept hk8 (by simp))
  have HJ18 := Lib.hid hj8
  have HK8 := Lib.hid (HK7.out.trans hk8)
  have HJL1 : Hid (w.heap.size ≤ j1) := Nat.le_trans HK7.out.size hjl8
  clear hj8 hjl8 hk8 c1
  have d1 : w8.cell? ⟨jb, 1, none⟩ = some (.pointer none) := cell_of_row w8 _ 1 _ _ _ HJB8.out
  have f0 : ∀ r, w8.frozen? ⟨jb, r, none⟩ = false := fun r => frozen_of_row w8 _ r _ _ HJB8.out
  go_wp2_with fail
  generalize hw9 : World.setCell w8 _ _ = w9
  have hk9 : Kept [jb] w8 w9 := by rw [← hw9]; exact Kept.setCell _ _ _ _ (by simp)
  have hjb9 : w9.heap[jb]? = some (.cells #[.pointer (some ⟨j0, 0, none⟩), .pointer (some ⟨j1, 0, none⟩)] 62) := by rw [← hw9, heap_setCell_same _ _ 1 _ _ _ HJB8.out]; rfl
  have HD9 := Lib.hid (HD8.out.kept hk9 (by have := ne_of_type HJB8.out HD8.out.here (by decide); simpa using this) (by
    have : S2.m ≠ jb := fun e => HD8.out.map.notCells (e ▸ HJB8.out)
    simpa using this))
  have HP9 := Lib.hid (hk9.heap (by simpa using hne) HP8.out)
  have HJB9 := Lib.hid hjb9
  have HJ09 := Lib.hid (HJ08.out.kept hk9 (by have := ne_of_type HJB8.out HJ08.out (by decide); simpa using this))
  have HJ19 := Lib.hid (HJ18.out.kept hk9 (by have := ne_of_type HJB8.out HJ18.out (by decide); simpa using this))
  have HK9 := Lib.hid (HK8.out.into hk9 (by have := HPJ.out; simp; omega))
  clear hw9 hk9 hjb9 d1 f0
  rw [rounds_succ]
  have hzero := zero40
  have hsz0 : (bvA (zerosL 40)).size = 40 := rfl
  have hst0 := run_storeCells_new (P := Try.prog) (w9.alloc (.cells #[.int .i64 0, .int .i64 0] 61)) 63 (bvA (zerosL 40)) (bvA (zerosL 40)) (by rw [hsz0]; exact size40) rfl (bvA_one _)
  rw [size_alloc] at hst0
  go_wp2_with fail
  clear hzero hst0
  generalize hwa : World.alloc (World.alloc w9 _) _ = wa
  obtain ⟨nb, hnb⟩ : ∃ nb, nb = w9.heap.size := ⟨_, rfl⟩
  obtain ⟨h, hh⟩ : ∃ h, h = w9.heap.size + 1 := ⟨_, rfl⟩
  have hka : Kept [] w9 wa := by rw [← hwa]; exact (Kept.alloc _ _ _).trans (Kept.alloc _ _ _)
  have HNH : Hid (w.heap.size ≤ nb ∧ w.heap.size ≤ h) := by have := HK9.out.size; exact ⟨by omega, by omega⟩
  have HPN : Hid (pl ≠ nb) := by have := (Array.getElem?_eq_some_iff.1 HP9.out).1; show pl ≠ nb; omega
  have HS0 : Hid (ApSt w a m h pl jb nb 0 S2 j0 j1 0 0 (zerosL 40) wa) := by
    refine ⟨⟨⟨HD9.out.kept hka (by simp) (by simp), HX2.out.2.1, HX2.out.2.2.1⟩, HJ09.out.kept hka (by simp), HJ19.out.kept hka (by simp), hka.heap (by simp) HP9.out, hka.heap (by simp) HJB9.out, ?_⟩, HX2.out.2.2.2.2.2.1, HX2.out.1, by rw [HX2.out.2.2.2.2.2.2]; omega, HX2.out.2.2.2.2.1, HX2.out.2.2.2.1, ⟨by omega, by omega⟩, ⟨HJL0.out, HJL1.out⟩, ?_, zerosL_length 40, fun q hq h0 => absurd (zerosL_get 40 q) h0, HK9.out.trans hka⟩
    · rw [← hwa, hnb]; exact (Kept.alloc [] _ _).heap (by simp) (heap_alloc_last w9 _)
    · rw [← hwa, hh]; exact heap_alloc2 w9 _ _
  rw [← hh, ← hnb]
  clear hwa hka hnb hh
  obtain ⟨N, hN⟩ : ∃ N, N = min L.length 30 := ⟨_, rfl⟩
  have hNl : N ≤ L.length := by omega
  have hN30 : N ≤ 30 := by omega
  have hway : (True ∧ ¬ ((N : Int) < (L.length : Int))) ∨ ((N : Int) < (L.length : Int) ∧ ¬ ((N : Int) < 30)) := by
    by_cases h : L.length ≤ 30
    · exact .inl ⟨trivial, by omega⟩
    · exact .inr ⟨by omega, by omega⟩
  have HW := Lib.hid hway
  clear hN hway
  go_loopw [14] (fun i wr => ∃ (k : Nat) (S : DiskS) (j0 j1 g0 g1 : Nat) (H : List UInt8), k ≤ N ∧ i = .int .i64 k ∧ Hid (ApSt w a m h pl jb nb k S j0 j1 g0 g1 H wr)) (fun i _ => N - (intOf i).toNat)
  case atStart => exact ⟨0, _, _, _, _, _, _, by omega, rfl, HS0⟩
  case round =>
    clear HJ09 HJ19 HJ08 HJ18 HJ07 HJ06 HJ05 HJL0 HJL1 HS0 HJB9 HJB8 HJB7 HJB6 HJB5 HJ3 HJ4 HP3 HP4 HP5 HP6 HP7 HP8 HP9 HD2 HD3 HD4 HD5 HD6 HD7 HD8 HD9
    obtain ⟨k, S, j0, j1, g0, g1, H, hkN, rfl, HS⟩ := hrel
    by_cases hlt : k < N
    · have hkL : k < L.length := by omega
      have hkI : (k : Int) < (L.length : Int) := by omega
      have hk30 : (k : Int) < 30 := by omega
      obtain ⟨b, o, hao, hb, hrows⟩ := HARG.out.resolve_left (by omega)
      subst hao
      obtain ⟨cs, ⟨rao, rlen, rcap, rfl, hrow⟩, _, hcs⟩ := hrows k hkL
      have hrc : w.cell? ⟨b, o + k, none⟩ = some (.slice rao rlen rcap) := by have := hcs 0 _ rfl; simpa using this
      obtain ⟨row, hrw⟩ : ∃ row, L[k] = row := ⟨_, rfl⟩
      rw [hrw] at hrow
      obtain ⟨rfl, hrlen, hrarg⟩ := hrow
      have HRA := Lib.hid hrarg
      have HRC := Lib.hid hrc
      clear hrows hcs hrc hrw hrarg
      obtain ⟨c, hc⟩ : ∃ c : UInt8, c = UInt8.ofNat (k + 1) := ⟨_, rfl⟩
      have HCV : Hid ((k : Int) + 1 = (c.toNat : Int)) := by show _ = _; rw [hc]; simp; omega
      have HC := Lib.hid hc
      clear hc
      rcases Nat.mod_two_eq_zero_or_one k with hp2 | hp2
      · have hpar : (k : Int) % 2 = 0 := by omega
        obtain ⟨R0, hR0⟩ : ∃ R0, R0 = List.replicate 20 false := ⟨_, rfl⟩
        have hzb := zero20b
        have hszb : (boolA R0).size = 20 := by rw [boolA_size, hR0]; exact List.length_replicate
        rw [← hR0] at hzb
        have hstb2 := run_storeCells_new (P := Try.prog) (wr.alloc (.cells #[] 54)) 64 (boolA R0) (boolA R0) (by rw [hszb]; exact size20b) rfl (boolA_one _)
        rw [size_alloc] at hstb2
        have HR0 := Lib.hid hR0
        clear hR0
        go_wp2_with fail
        generalize hw5 : World.alloc (World.alloc wr _) _ = w5
        obtain ⟨sb, hsb⟩ : ∃ sb, sb = wr.heap.size + 1 := ⟨_, rfl⟩
        have hk5 : Kept [] wr w5 := by rw [← hw5]; exact (Kept.alloc _ _ _).trans (Kept.alloc _ _ _)
        clear hzb hstb2
        have hs5 : w5.heap[sb]? = some (.cells (boolA R0) 64) := by rw [← hw5, hsb]; exact heap_alloc2 wr _ _
        have ho5 : OwnPuts w5 wr.heap.size (.slice (some ⟨wr.heap.size, 0, none⟩) 0 0) [] [] := by rw [← hw5]; exact (OwnPuts.start wr).kept (Kept.alloc [] _ _) (by simp)
        have hwr : w.heap.size ≤ wr.heap.size := HS.out.kept.size
        obtain ⟨B, hB⟩ : ∃ B, B = wr.heap.size := ⟨_, rfl⟩
        rw [← hB] at ho5 hwr ⊢
        have HBB := Lib.hid hwr
        have HI0 : Hid (IoSt w 20 398 (fun _ => 3) c 63 64 h sb B H H 0 R0 [] 0 (Value.slice (some ⟨B, 0, none⟩) 0 0) [] w5 ∧ TwoSt a S j0 j1 g0 g1 pl jb nb w5) :=
          ⟨⟨hk5.heap (by simp) HS.out.has, rfl, hs5, by rw [← boolA_size]; exact hszb, ho5, fun q hq => by rw [HR0.out, rep_get]; simp, fun q _ => rfl, (fun p => ⟨fun hp => absurd hp (by simp), fun ⟨q, _, hz, _⟩ => absurd hz (by rw [HR0.out, rep_get]; simp)⟩), by simp, by simp, HS.out.kept.trans hk5⟩, HS.out.two.grow hk5⟩
        rw [show B + 1 = sb by omega]
        have HSB : Hid (w.heap.size ≤ sb) := by show _ ≤ _; omega
        clear hw5 hk5 hs5 ho5 hsb hB hwr
        obtain ⟨N2, hN2⟩ : ∃ N2, N2 = min row.length 20 := ⟨_, rfl⟩
        have hN2l : N2 ≤ row.length := by omega
        have hN240 : N2 ≤ 20 := by omega
        have hway2 : (True ∧ ¬ ((N2 : Int) < (row.length : Int))) ∨ ((N2 : Int) < (row.length : Int) ∧ ¬ ((N2 : Int) < 20)) := by
          by_cases h : row.length ≤ 20
          · exact .inl ⟨trivial, by omega⟩
          · exact .inr ⟨by omega, by omega⟩
        have HW2 := Lib.hid hway2
        clear hN2 hway2
        have HHL := Lib.hid HS.out.hlen
        go_loopw [16, 18] (fun v i wq => ∃ (kk : Nat) (Z : List Bool) (H' : List UInt8) (l : List PutL) (xs : List Value), kk ≤ N2 ∧ i = .int .i64 kk ∧ Hid (IoSt w 20 398 (fun _ => 3) c 63 64 h sb B H H' 0 Z l kk v xs wq ∧ TwoSt a S j0 j1 g0 g1 pl jb nb wq)) (fun _ i _ => N2 - (intOf i).toNat)
        case atStart => exact ⟨0, _, _, _, _, by omega, rfl, HI0⟩
        case round =>
          obtain ⟨kk, Z, H', l, xs, hkk, rfl, HI⟩ := hrel
          have hrow : wr.cell? ⟨b, o + k, none⟩ = some (.slice rao row.length rcap) := by
            rw [HI.out.1.kept.cell (p := ⟨b, o + k, none⟩) hb (by simp)]; exact HRC.out
          by_cases hlt2 : kk < N2
          · have hkr : kk < row.length := by omega
            have hkI2 : (kk : Int) < (row.length : Int) := by omega
            have hk40 : (kk : Int) < 20 := by omega
            obtain ⟨rb, ro, hra, hrb, hrr⟩ := HRA.out.resolve_left (by omega)
            subst hra
            obtain ⟨x, hx⟩ : ∃ x, row[kk] = x := ⟨_, rfl⟩
            have hxc : wr.cell? ⟨rb, ro + kk, none⟩ = some (.int .u8 (x.toNat : Int)) := by
              rw [HI.out.1.kept.cell (p := ⟨rb, ro + kk, none⟩) hrb (by simp)]
              exact hrr kk _ (by simp [bv, hkr, hx])
            have hxl : x.toNat < 256 := UInt8.toNat_lt x
            obtain ⟨q, hq⟩ : ∃ q : Nat, (x.toNat : Int) % 20 = q := ⟨x.toNat % 20, by omega⟩
            have hq60 : q < 20 := by omega
            have hqI : (q : Int) < 20 := by omega
            have hqI2 : (q : Int) < 40 := by omega
            have hqI3 : (20 : Int) + q < 40 := by omega
            have hzl := HI.out.1.zlen
            have hHl : H'.length = 40 := by rw [HI.out.1.hlen]; exact HHL.out
            have hz : wr.cell? ⟨sb, q, none⟩ = some (.bool (Z.getD q false)) := by
              rw [cell_of_row wr _ q _ _ _ HI.out.1.seen]
              have : q < Z.length := by omega
              simp [boolA, this]
            have HRR := Lib.hid hrr
            clear hx hrr
            cases hzz : Z.getD q false
            · rw [hzz] at hz
              have HZZ := Lib.hid hzz
              have fz : ∀ r, wr.frozen? ⟨sb, r, none⟩ = false := fun r => frozen_of_row wr _ r _ _ HI.out.1.seen
              have fh : ∀ r, wr.frozen? ⟨h, r, none⟩ = false := fun r => frozen_of_row wr _ r _ _ HI.out.1.has
              have hhc : wr.cell? ⟨h, q, none⟩ = some (.int .u8 ((H'[q]'(by omega)).toNat : Int)) := cell_bvA HI.out.1.has (q) (by omega)
              have hne : sb ≠ h := ne_of_type HI.out.1.has HI.out.1.seen (by decide)
              have hne' : h ≠ sb := fun e => hne e.symm
              clear hzz
              go_wp2_with fail
              generalize hw6 : World.setCell (World.setCell wr _ _) _ _ = w6
              have hk6a : Kept [sb] wr (wr.setCell ⟨sb, q, none⟩ (.bool true)) := Kept.setCell _ _ _ _ (by simp)
              have hk6b : Kept [h] (wr.setCell ⟨sb, q, none⟩ (.bool true)) w6 := by rw [← hw6]; exact Kept.setCell _ _ _ _ (by simp)
              have hs6a : (wr.setCell ⟨sb, q, none⟩ (.bool true)).heap[sb]? = some (.cells (boolA (Z.set q true)) 64) := by rw [heap_setCell_same _ _ q _ _ _ HI.out.1.seen, boolA_set]
              have hh6a : (wr.setCell ⟨sb, q, none⟩ (.bool true)).heap[h]? = some (.cells (bvA H') 63) := hk6a.heap (by simpa using hne') HI.out.1.has
              have hs6 : w6.heap[sb]? = some (.cells (boolA (Z.set q true)) 64) := hk6b.heap (by simpa using hne) hs6a
              have hh6 : w6.heap[h]? = some (.cells (bvA (H'.set (0 + q) c)) 63) := by rw [← hw6, HCV.out, heap_setCell_same _ _ (q) _ _ _ hh6a, bvA_set, Nat.zero_add]
              have ho6 : OwnPuts w6 B u16 l xs := (HI.out.1.own.keptSet HI.out.1.seen (by decide) (by decide) hk6a).keptSet hh6a (by decide) (by decide) hk6b
              have hj6 := (HI.out.2.set HI.out.1.seen (by decide) (by decide) (by decide) (by decide) hk6a).set hh6a (by decide) (by decide) (by decide) (by decide) hk6b
              have hk6 : Kept [] w w6 := (HI.out.1.kept.into hk6a (by simpa using HSB.out)).into hk6b (by simpa using HNH.out.2)
              refine (full2_eq c 3 w6 _ _ HCV.out rfl).mono ?_
              rintro e w7 ⟨rfl, hw7⟩
              obtain ⟨w8, hw8⟩ : ∃ w8, w8 = w7.alloc (.cells #[.int .i64 (398 + (q : Int)), .slice (some ⟨w6.heap.size, 0, none⟩) 64 64] 54) := ⟨_, rfl⟩
              have hk8 : Kept [] w6 w8 := by rw [hw8, hw7]; exact (Kept.alloc _ _ _).trans (Kept.alloc _ _ _)
              have ho8 := ho6.kept hk8 (by simp)
              obtain ⟨v', w9, xs', hrun, ho9, hk9⟩ := ho8.append (398 + (q : Int)) (fullE c 3) w6.heap.size w7.heap.size (by rw [hw8, hw7]; exact (Kept.alloc [] _ _).heap (by simp) (heap_alloc_last w6 _)) (fullE_length _ _) (by rw [hw8]; exact heap_alloc_last _ _) (by
                have s1 := hk8.size
                obtain ⟨g, cap', cur, _, hb', hg, _⟩ := ho6.shape
                have := (Array.getElem?_eq_some_iff.1 hg).1
                omega) (by have := HI.out.1.len; omega) (by omega) (by omega)
              have HN : Hid (IoSt w 20 398 (fun _ => 3) c 63 64 h sb B H (H'.set (0 + q) c) 0 (Z.set q true) (l ++ [putO 398 c (fun _ => 3) q]) (kk + 1) v' xs' w9 ∧ TwoSt a S j0 j1 g0 g1 pl jb nb w9) := by
                refine ⟨HI.out.1.add q hq60 HZZ.out (by rw [HHL.out]; omega) (ho8.heapKept hk9 (hk8.heap (by simp) hh6) (by decide)) (ho8.heapKept hk9 (hk8.heap (by simp) hs6) (by decide)) ho9 ?_, (hj6.grow hk8).ownKept ho8 hk9⟩
                exact (hk6.trans hk8).into hk9 (fun r hr => Nat.le_trans HBB.out (ho8.lt r hr))
              have HRUN := Lib.hid hrun
              have HW8 := Lib.hid hw8
              clear hrun ho9 hk9 ho8 hk8 hw8 hw7 hw6 hk6a hk6b hs6a hh6a hs6 hh6 ho6 hj6 hk6 hz fz fh hhc hxc
              rw [HW8.out] at HRUN
              go_wp2_with (refine wpList_append_run rfl _ _ 32 rfl _ _ _ rfl rfl HRUN.out ?_)
              go_roundw
              case rel => exact ⟨kk + 1, _, _, _, xs', by omega, by go_num, HN⟩
              case measure => simp [intOf]; omega
            · rw [hzz] at hz
              have HN : Hid (IoSt w 20 398 (fun _ => 3) c 63 64 h sb B H H' 0 Z l (kk + 1) u16 xs wr ∧ TwoSt a S j0 j1 g0 g1 pl jb nb wr) := by
                have R := HI.out.1
                exact ⟨⟨R.has, R.hlen, R.seen, R.zlen, R.own, R.rel, R.rest, R.mem, R.nodup, by have := R.len; omega, R.kept⟩, HI.out.2⟩
              go_wp2_with fail
              go_roundw
              case rel => exact ⟨kk + 1, Z, H', l, xs, by omega, by go_num, HN⟩
              case measure => simp [intOf]; omega
          · obtain rfl : kk = N2 := by omega
            have hll := HI.out.1.len
            obtain ⟨gao, gcap, hv, hputs⟩ := HI.out.1.own.puts (by omega)
            subst hv
            have HP := Lib.hid hputs
            have hgrp : Grp 0 S.size l := HI.out.1.grp 0 _ (by omega) (by rw [HS.out.size]; omega) (by omega)
            have HG := Lib.hid hgrp
            have HLV : Hid (JLive wr a j0 0 g0 S) := ⟨HI.out.2.live, HI.out.2.jr0, HS.out.rd0, by rw [HS.out.size]; omega⟩
            have cj : wr.cell? ⟨jb, 0, none⟩ = some (.pointer (some ⟨j0, 0, none⟩)) := cell_of_row wr _ 0 _ _ _ HI.out.2.jsc
            have hq := HW2.out
            have HGK := Lib.hid HS.out.gk
            clear hputs hgrp hlt2 hkk
            rcases hq with ⟨hq1, hq2⟩ | ⟨hq1, hq2⟩
            all_goals
              go_wp2_with fail
              clear hq1 hq2
              refine (commit_j wr a j0 0 g0 S HLV.out gao _ gcap l HP.out HG.out (by have := HGK.out; omega) (by have := HS.out.writes; omega)).mono ?_
              rintro e w6 ⟨rfl, S6, h6, hs6, hm6, hw6, hb6, hk6⟩
              have hsp : spanN l.length ≤ 42 := by unfold spanN tabN; omega
              have n1 := HLV.out.apart HI.out.2.plc (by decide) (by decide)
              have n2 := HLV.out.apart HI.out.2.jsc (by decide) (by decide)
              have n3 := HLV.out.apart HI.out.2.nc (by decide) (by decide)
              have n4 := HLV.out.apart HI.out.1.has (by decide) (by decide)
              have n5 : j1 ≠ a ∧ j1 ≠ S.m ∧ j1 ≠ j0 := ⟨HI.out.2.jr1.ne_disk HI.out.2.live.disk, HI.out.2.jr1.ne_map HI.out.2.live.disk, fun e => by
                have h1 := HI.out.2.jr1
                rw [e] at h1
                have h2 := h1.symm.trans HI.out.2.jr0
                simp [JourS.cells] at h2⟩
              have HPL6 := Lib.hid (hk6.heap (by simp; exact ⟨fun e => n1.1 e.symm, fun e => n1.2.1 e.symm, fun e => n1.2.2 e.symm⟩) HI.out.2.plc)
              have HJB6 := Lib.hid (hk6.heap (by simp; exact ⟨fun e => n2.1 e.symm, fun e => n2.2.1 e.symm, fun e => n2.2.2 e.symm⟩) HI.out.2.jsc)
              have HNB6 := Lib.hid (hk6.heap (by simp; exact ⟨fun e => n3.1 e.symm, fun e => n3.2.1 e.symm, fun e => n3.2.2 e.symm⟩) HI.out.2.nc)
              have HH6 := Lib.hid (hk6.heap (by simp; exact ⟨fun e => n4.1 e.symm, fun e => n4.2.1 e.symm, fun e => n4.2.2 e.symm⟩) HI.out.1.has)
              have HJO6 := Lib.hid (HI.out.2.jr1.kept hk6 (by simp; exact n5))
              have HK6 := Lib.hid (HI.out.1.kept.into hk6 (by rw [HS.out.m]; have h1 := HA.out; have h2 := HS.out.new; simp; omega))
              have HSZ6 : Hid (S6.size = 438) := hs6.trans HS.out.size
              have HM6 : Hid (S6.m = m) := hm6.trans HS.out.m
              have HW6 : Hid (S6.writes ≤ 2 + 100 * (k + 1 : Nat)) := by show _ ≤ _; rw [hw6]; have := HS.out.writes; push_cast; omega
              have HRO6 : Hid (Ready S6 199 g1) := by
                show S6.blk _ = _
                rw [hb6 _ (by unfold Out; omega), applyL_other]
                · exact HS.out.rd1
                · intro p hp e
                  obtain ⟨r, _, _, rfl⟩ := (HI.out.1.mem p).1 hp
                  simp only [putO] at e
                  omega
              have HB6 := Lib.hid hb6
              have H6 := Lib.hid h6
              clear h6 hs6 hm6 hw6 hb6 hk6 n1 n2 n3 n4 n5 cj
              have c0 : w6.cell? ⟨nb, 0, none⟩ = some (.int .i64 g0) := cell_of_row w6 _ 0 _ _ _ HNB6.out
              have f0 : ∀ r, w6.frozen? ⟨nb, r, none⟩ = false := fun r => frozen_of_row w6 _ r _ _ HNB6.out
              have c1 : w6.cell? ⟨pl, 1, none⟩ = some (.int .i64 199) := cell_of_row w6 _ 1 _ _ _ HPL6.out
              have hpn := HPN.out
              have hgb : g0 ≤ 30 := by have := HGK.out; omega
              go_wp2_with fail
              generalize hw7 : World.setCell w6 _ _ = w7
              have hk7 : Kept [nb] w6 w7 := by rw [← hw7]; exact Kept.setCell _ _ _ _ (by simp)
              have hnb7 : w7.heap[nb]? = some (.cells #[.int .i64 ((g0 + 1 : Nat) : Int), .int .i64 g1] 61) := by rw [← hw7, heap_setCell_same _ _ 0 _ _ _ HNB6.out]; rfl
              have HPL7 := Lib.hid (hk7.heap (by simpa using hpn) HPL6.out)
              have HJB7 := Lib.hid (hk7.heap (by have := ne_of_type HNB6.out HJB6.out (by decide); simpa using this) HJB6.out)
              have HH7 := Lib.hid (hk7.heap (by have := ne_of_type HNB6.out HH6.out (by decide); simpa using this) HH6.out)
              have H7 := Lib.hid (H6.out.set HNB6.out (by decide) (by decide) hk7)
              have HK7 := Lib.hid (HK6.out.into hk7 (by have := HNH.out; simp; omega))
              have HNB7 := Lib.hid hnb7
              clear hw7 hk7 hnb7 c0 f0 c1
              refine (open_ready a S6 199 _ g1 w7 H7.out.live.disk rfl (by rw [HSZ6.out]; omega) H7.out.live.off HRO6.out (by have := HGK.out; omega)).mono ?_
              rintro e w8 ⟨j9, rfl, hj9, hjl9, hk8⟩
              have hk8d : Kept [] w7 w8.drew := hk8.trans (Kept.drew _ _)
              have HJ9 := Lib.hid (hj9.kept (Kept.drew [] _) (by simp))
              have H8 := Lib.hid (H7.out.kept hk8d (by simp) (by simp) (by simp))
              have HPL8 := Lib.hid (hk8d.heap (by simp) HPL7.out)
              have HJB8 := Lib.hid (hk8d.heap (by simp) HJB7.out)
              have HNB8 := Lib.hid (hk8d.heap (by simp) HNB7.out)
              have HH8 := Lib.hid (hk8d.heap (by simp) HH7.out)
              have HK8 := Lib.hid (HK7.out.trans hk8d)
              have HJL9 : Hid (w.heap.size ≤ j9) := Nat.le_trans HK7.out.size hjl9
              have CN0 : ∀ w', Kept [] w8.drew w' → w'.cell? ⟨nb, 1, none⟩ = some (.int .i64 g1) := fun w' hk => cell_of_row w' _ 1 _ _ _ (hk.heap (by simp) HNB8.out)
              have CN1 : ∀ w', Kept [] w8.drew w' → w'.cell? ⟨nb, 0, none⟩ = some (.int .i64 ((g0 : Int) + 1)) := fun w' hk => cell_of_row w' _ 0 _ _ _ (hk.heap (by simp) HNB8.out)
              have CJ : ∀ w', Kept [] w8.drew w' → w'.cell? ⟨jb, 0, none⟩ = some (.pointer (some ⟨j0, 0, none⟩)) := fun w' hk => cell_of_row w' _ 0 _ _ _ (hk.heap (by simp) HJB8.out)
              clear hj9 hjl9 hk8 hk8d
              have wr1 : IntKind.i64.wrap 1 = 1 := by decide
              have wr0 : IntKind.i64.wrap 0 = 0 := by decide
              go_wp2_with fail
              refine wp_region_ord [(true, 0), (true, 1), (true, 2), (true, 3), (true, 4), (true, 5), (true, 6), (true, 7), (true, 8), (true, 9), (true, 10), (true, 11), (true, 13), (true, 14), (true, 15), (true, 16), (false, 12), (true, 17), (true, 18), (true, 19), (true, 20), (true, 21), (true, 22), (true, 24), (true, 25), (true, 26), (false, 23), (true, 27), (true, 28)] [] (by kernel_rfl) (fun _ _ d _ _ h => by cases d <;> exact h) (by kernel_rfl) rfl (by kernel_rfl) (by kernel_rfl) ?_
              simp only [named, List.getD_cons_zero, List.getD_cons_succ]
              repeat (first | (apply wpGrow_take; (case hw => rfl); (case hv => intro w' hk; go_simp; with_reducible rfl); simp only [Act.put, List.setIfInBounds_toArray, List.set_cons_zero, List.set_cons_succ]) | (refine wpGrow_pass (by rfl) ?_; simp only [Act.put, List.setIfInBounds_toArray, List.set_cons_zero, List.set_cons_succ]))
              refine wpGrow_force (by rfl) (fun K hK => ?_)
              go_simp
              refine (groups_any j9 _ _ HJ9.out).mono ?_
              rintro e w9 ⟨rfl, rfl⟩
              refine hK _ _ (Kept.refl _ _) ?_
              clear hK K
              repeat (first | (apply wpGrow_take; (case hw => rfl); (case hv => intro w' hk; go_simp; with_reducible rfl); simp only [Act.put, List.setIfInBounds_toArray, List.set_cons_zero, List.set_cons_succ]) | (refine wpGrow_pass (by rfl) ?_; simp only [Act.put, List.setIfInBounds_toArray, List.set_cons_zero, List.set_cons_succ]))
              refine wpGrow_force (by rfl) (fun K hK => ?_)
              go_simp
              refine (groups_any j0 _ _ H8.out.jour).mono ?_
              rintro e w9 ⟨rfl, rfl⟩
              refine hK _ _ (Kept.refl _ _) ?_
              clear hK K
              repeat (first | (apply wpGrow_take; (case hw => rfl); (case hv => intro w' hk; go_simp; with_reducible rfl); simp only [Act.put, List.setIfInBounds_toArray, List.set_cons_zero, List.set_cons_succ]) | (refine wpGrow_pass (by rfl) ?_; simp only [Act.put, List.setIfInBounds_toArray, List.set_cons_zero, List.set_cons_succ]))
              refine wpGrow_nil ?_
              clear CN0 CN1 CJ
              have d0 : w8.cell? ⟨jb, 1, none⟩ = some (.pointer (some ⟨j1, 0, none⟩)) := cell_of_row w8.drew _ 1 _ _ _ HJB8.out
              have f0 : ∀ r, w8.frozen? ⟨jb, r, none⟩ = false := fun r => frozen_of_row w8.drew _ r _ _ HJB8.out
              obtain ⟨wA, hwA⟩ : ∃ wA, wA = (World.setCell w8 ⟨jb, 1, none⟩ (Value.pointer (some ⟨j9, 0, none⟩))).drew := ⟨_, rfl⟩
              have hkA : Kept [jb] w8.drew wA := by
                have h0 : Kept [jb] w8 (World.setCell w8 ⟨jb, 1, none⟩ (Value.pointer (some ⟨j9, 0, none⟩))) := Kept.setCell _ _ _ _ (by simp)
                rw [hwA]
                exact ⟨h0.os, h0.tape, h0.output, h0.size, h0.block⟩
              have hjbA : wA.heap[jb]? = some (.cells #[.pointer (some ⟨j0, 0, none⟩), .pointer (some ⟨j9, 0, none⟩)] 62) := by
                rw [hwA]
                show (World.setCell w8 _ _).heap[jb]? = _
                rw [heap_setCell_same w8 _ 1 _ _ _ HJB8.out]; rfl
              have HN : Hid (ApSt w a m h pl jb nb (k + 1) S6 j0 j9 (g0 + 1) g1 H' wA) := by
                have hLA := H8.out.set HJB8.out (by decide) (by decide) hkA
                have hd9 := HJ9.out.kept hkA (by have := ne_of_type HJB8.out HJ9.out (by decide); simpa using this)
                have hplA := hkA.heap (by have := ne_of_type HJB8.out HPL8.out (by decide); simpa using this) HPL8.out
                have hnbA := hkA.heap (by have := ne_of_type HJB8.out HNB8.out (by decide); simpa using this) HNB8.out
                have hhA := hkA.heap (by have := ne_of_type HJB8.out HH8.out (by decide); simpa using this) HH8.out
                have hgk := HGK.out
                refine ⟨⟨hLA.live, hLA.jour, hd9, hplA, hjbA, hnbA⟩, HM6.out, HSZ6.out, HW6.out, hLA.ready, HRO6.out, ⟨by omega, by omega⟩, ⟨HS.out.new.1, HJL9.out⟩, hhA, by rw [HI.out.1.hlen]; exact HHL.out, io_blk HI.out.1 rfl S.blk S6.blk (fun q hq => HB6.out _ (by unfold Out; omega)) HS.out.blk, HK8.out.into hkA (by have := HPJ.out; simp; omega)⟩
              rw [hwA] at HN
              clear hwA hkA hjbA
              go_wp2_with fail
              go_roundw
              case rel => exact ⟨k + 1, _, _, _, _, _, _, by omega, by go_num, HN⟩
              case measure => simp [intOf]; omega
      · have hpar : (k : Int) % 2 = 1 := by omega
        obtain ⟨R0, hR0⟩ : ∃ R0, R0 = List.replicate 20 false := ⟨_, rfl⟩
        have hzb := zero20b
        have hszb : (boolA R0).size = 20 := by rw [boolA_size, hR0]; exact List.length_replicate
        rw [← hR0] at hzb
        have hstb2 := run_storeCells_new (P := Try.prog) (wr.alloc (.cells #[] 54)) 64 (boolA R0) (boolA R0) (by rw [hszb]; exact size20b) rfl (boolA_one _)
        rw [size_alloc] at hstb2
        have HR0 := Lib.hid hR0
        clear hR0
        go_wp2_with fail
        generalize hw5 : World.alloc (World.alloc wr _) _ = w5
        obtain ⟨sb, hsb⟩ : ∃ sb, sb = wr.heap.size + 1 := ⟨_, rfl⟩
        have hk5 : Kept [] wr w5 := by rw [← hw5]; exact (Kept.alloc _ _ _).trans (Kept.alloc _ _ _)
        clear hzb hstb2
        have hs5 : w5.heap[sb]? = some (.cells (boolA R0) 64) := by rw [← hw5, hsb]; exact heap_alloc2 wr _ _
        have ho5 : OwnPuts w5 wr.heap.size (.slice (some ⟨wr.heap.size, 0, none⟩) 0 0) [] [] := by rw [← hw5]; exact (OwnPuts.start wr).kept (Kept.alloc [] _ _) (by simp)
        have hwr : w.heap.size ≤ wr.heap.size := HS.out.kept.size
        obtain ⟨B, hB⟩ : ∃ B, B = wr.heap.size := ⟨_, rfl⟩
        rw [← hB] at ho5 hwr ⊢
        have HBB := Lib.hid hwr
        have HI0 : Hid (IoSt w 20 418 (fun _ => 3) c 63 64 h sb B H H 20 R0 [] 0 (Value.slice (some ⟨B, 0, none⟩) 0 0) [] w5 ∧ TwoSt a S j0 j1 g0 g1 pl jb nb w5) :=
          ⟨⟨hk5.heap (by simp) HS.out.has, rfl, hs5, by rw [← boolA_size]; exact hszb, ho5, fun q hq => by rw [HR0.out, rep_get]; simp, fun q _ => rfl, (fun p => ⟨fun hp => absurd hp (by simp), fun ⟨q, _, hz, _⟩ => absurd hz (by rw [HR0.out, rep_get]; simp)⟩), by simp, by simp, HS.out.kept.trans hk5⟩, HS.out.two.grow hk5⟩
        rw [show B + 1 = sb by omega]
        have HSB : Hid (w.heap.size ≤ sb) := by show _ ≤ _; omega
        clear hw5 hk5 hs5 ho5 hsb hB hwr
        obtain ⟨N2, hN2⟩ : ∃ N2, N2 = min row.length 20 := ⟨_, rfl⟩
        have hN2l : N2 ≤ row.length := by omega
        have hN240 : N2 ≤ 20 := by omega
        have hway2 : (True ∧ ¬ ((N2 : Int) < (row.length : Int))) ∨ ((N2 : Int) < (row.length : Int) ∧ ¬ ((N2 : Int) < 20)) := by
          by_cases h : row.length ≤ 20
          · exact .inl ⟨trivial, by omega⟩
          · exact .inr ⟨by omega, by omega⟩
        have HW2 := Lib.hid hway2
        clear hN2 hway2
        have HHL := Lib.hid HS.out.hlen
        go_loopw [16, 18] (fun v i wq => ∃ (kk : Nat) (Z : List Bool) (H' : List UInt8) (l : List PutL) (xs : List Value), kk ≤ N2 ∧ i = .int .i64 kk ∧ Hid (IoSt w 20 418 (fun _ => 3) c 63 64 h sb B H H' 20 Z l kk v xs wq ∧ TwoSt a S j0 j1 g0 g1 pl jb nb wq)) (fun _ i _ => N2 - (intOf i).toNat)
        case atStart => exact ⟨0, _, _, _, _, by omega, rfl, HI0⟩
        case round =>
          obtain ⟨kk, Z, H', l, xs, hkk, rfl, HI⟩ := hrel
          have hrow : wr.cell? ⟨b, o + k, none⟩ = some (.slice rao row.length rcap) := by
            rw [HI.out.1.kept.cell (p := ⟨b, o + k, none⟩) hb (by simp)]; exact HRC.out
          by_cases hlt2 : kk < N2
          · have hkr : kk < row.length := by omega
            have hkI2 : (kk : Int) < (row.length : Int) := by omega
            have hk40 : (kk : Int) < 20 := by omega
            obtain ⟨rb, ro, hra, hrb, hrr⟩ := HRA.out.resolve_left (by omega)
            subst hra
            obtain ⟨x, hx⟩ : ∃ x, row[kk] = x := ⟨_, rfl⟩
            have hxc : wr.cell? ⟨rb, ro + kk, none⟩ = some (.int .u8 (x.toNat : Int)) := by
              rw [HI.out.1.kept.cell (p := ⟨rb, ro + kk, none⟩) hrb (by simp)]
              exact hrr kk _ (by simp [bv, hkr, hx])
            have hxl : x.toNat < 256 := UInt8.toNat_lt x
            obtain ⟨q, hq⟩ : ∃ q : Nat, (x.toNat : Int) % 20 = q := ⟨x.toNat % 20, by omega⟩
            have hq60 : q < 20 := by omega
            have hqI : (q : Int) < 20 := by omega
            have hqI2 : (q : Int) < 40 := by omega
            have hqI3 : (20 : Int) + q < 40 := by omega
            have hzl := HI.out.1.zlen
            have hHl : H'.length = 40 := by rw [HI.out.1.hlen]; exact HHL.out
            have hz : wr.cell? ⟨sb, q, none⟩ = some (.bool (Z.getD q false)) := by
              rw [cell_of_row wr _ q _ _ _ HI.out.1.seen]
              have : q < Z.length := by omega
              simp [boolA, this]
            have HRR := Lib.hid hrr
            clear hx hrr
            cases hzz : Z.getD q false
            · rw [hzz] at hz
              have HZZ := Lib.hid hzz
              have fz : ∀ r, wr.frozen? ⟨sb, r, none⟩ = false := fun r => frozen_of_row wr _ r _ _ HI.out.1.seen
              have fh : ∀ r, wr.frozen? ⟨h, r, none⟩ = false := fun r => frozen_of_row wr _ r _ _ HI.out.1.has
              have hhc : wr.cell? ⟨h, 20 + q, none⟩ = some (.int .u8 ((H'[20 + q]'(by omega)).toNat : Int)) := cell_bvA HI.out.1.has (20 + q) (by omega)
              have hne : sb ≠ h := ne_of_type HI.out.1.has HI.out.1.seen (by decide)
              have hne' : h ≠ sb := fun e => hne e.symm
              clear hzz
              go_wp2_with fail
              generalize hw6 : World.setCell (World.setCell wr _ _) _ _ = w6
              have hk6a : Kept [sb] wr (wr.setCell ⟨sb, q, none⟩ (.bool true)) := Kept.setCell _ _ _ _ (by simp)
              have hk6b : Kept [h] (wr.setCell ⟨sb, q, none⟩ (.bool true)) w6 := by rw [← hw6]; exact Kept.setCell _ _ _ _ (by simp)
              have hs6a : (wr.setCell ⟨sb, q, none⟩ (.bool true)).heap[sb]? = some (.cells (boolA (Z.set q true)) 64) := by rw [heap_setCell_same _ _ q _ _ _ HI.out.1.seen, boolA_set]
              have hh6a : (wr.setCell ⟨sb, q, none⟩ (.bool true)).heap[h]? = some (.cells (bvA H') 63) := hk6a.heap (by simpa using hne') HI.out.1.has
              have hs6 : w6.heap[sb]? = some (.cells (boolA (Z.set q true)) 64) := hk6b.heap (by simpa using hne) hs6a
              have hh6 : w6.heap[h]? = some (.cells (bvA (H'.set (20 + q) c)) 63) := by rw [← hw6, HCV.out, heap_setCell_same _ _ (20 + q) _ _ _ hh6a, bvA_set]
              have ho6 : OwnPuts w6 B u16 l xs := (HI.out.1.own.keptSet HI.out.1.seen (by decide) (by decide) hk6a).keptSet hh6a (by decide) (by decide) hk6b
              have hj6 := (HI.out.2.set HI.out.1.seen (by decide) (by decide) (by decide) (by decide) hk6a).set hh6a (by decide) (by decide) (by decide) (by decide) hk6b
              have hk6 : Kept [] w w6 := (HI.out.1.kept.into hk6a (by simpa using HSB.out)).into hk6b (by simpa using HNH.out.2)
              refine (full2_eq c 3 w6 _ _ HCV.out rfl).mono ?_
              rintro e w7 ⟨rfl, hw7⟩
              obtain ⟨w8, hw8⟩ : ∃ w8, w8 = w7.alloc (.cells #[.int .i64 (418 + (q : Int)), .slice (some ⟨w6.heap.size, 0, none⟩) 64 64] 54) := ⟨_, rfl⟩
              have hk8 : Kept [] w6 w8 := by rw [hw8, hw7]; exact (Kept.alloc _ _ _).trans (Kept.alloc _ _ _)
              have ho8 := ho6.kept hk8 (by simp)
              obtain ⟨v', w9, xs', hrun, ho9, hk9⟩ := ho8.append (418 + (q : Int)) (fullE c 3) w6.heap.size w7.heap.size (by rw [hw8, hw7]; exact (Kept.alloc [] _ _).heap (by simp) (heap_alloc_last w6 _)) (fullE_length _ _) (by rw [hw8]; exact heap_alloc_last _ _) (by
                have s1 := hk8.size
                obtain ⟨g, cap', cur, _, hb', hg, _⟩ := ho6.shape
                have := (Array.getElem?_eq_some_iff.1 hg).1
                omega) (by have := HI.out.1.len; omega) (by omega) (by omega)
              have HN : Hid (IoSt w 20 418 (fun _ => 3) c 63 64 h sb B H (H'.set (20 + q) c) 20 (Z.set q true) (l ++ [putO 418 c (fun _ => 3) q]) (kk + 1) v' xs' w9 ∧ TwoSt a S j0 j1 g0 g1 pl jb nb w9) := by
                refine ⟨HI.out.1.add q hq60 HZZ.out (by rw [HHL.out]; omega) (ho8.heapKept hk9 (hk8.heap (by simp) hh6) (by decide)) (ho8.heapKept hk9 (hk8.heap (by simp) hs6) (by decide)) ho9 ?_, (hj6.grow hk8).ownKept ho8 hk9⟩
                exact (hk6.trans hk8).into hk9 (fun r hr => Nat.le_trans HBB.out (ho8.lt r hr))
              have HRUN := Lib.hid hrun
              have HW8 := Lib.hid hw8
              clear hrun ho9 hk9 ho8 hk8 hw8 hw7 hw6 hk6a hk6b hs6a hh6a hs6 hh6 ho6 hj6 hk6 hz fz fh hhc hxc
              rw [HW8.out] at HRUN
              go_wp2_with (refine wpList_append_run rfl _ _ 32 rfl _ _ _ rfl rfl HRUN.out ?_)
              go_roundw
              case rel => exact ⟨kk + 1, _, _, _, xs', by omega, by go_num, HN⟩
              case measure => simp [intOf]; omega
            · rw [hzz] at hz
              have HN : Hid (IoSt w 20 418 (fun _ => 3) c 63 64 h sb B H H' 20 Z l (kk + 1) u16 xs wr ∧ TwoSt a S j0 j1 g0 g1 pl jb nb wr) := by
                have R := HI.out.1
                exact ⟨⟨R.has, R.hlen, R.seen, R.zlen, R.own, R.rel, R.rest, R.mem, R.nodup, by have := R.len; omega, R.kept⟩, HI.out.2⟩
              go_wp2_with fail
              go_roundw
              case rel => exact ⟨kk + 1, Z, H', l, xs, by omega, by go_num, HN⟩
              case measure => simp [intOf]; omega
          · obtain rfl : kk = N2 := by omega
            have hll := HI.out.1.len
            obtain ⟨gao, gcap, hv, hputs⟩ := HI.out.1.own.puts (by omega)
            subst hv
            have HP := Lib.hid hputs
            have hgrp : Grp 199 S.size l := HI.out.1.grp 199 _ (by omega) (by rw [HS.out.size]; omega) (by omega)
            have HG := Lib.hid hgrp
            have HLV : Hid (JLive wr a j1 199 g1 S) := ⟨HI.out.2.live, HI.out.2.jr1, HS.out.rd1, by rw [HS.out.size]; omega⟩
            have cj : wr.cell? ⟨jb, 1, none⟩ = some (.pointer (some ⟨j1, 0, none⟩)) := cell_of_row wr _ 1 _ _ _ HI.out.2.jsc
            have hq := HW2.out
            have HGK := Lib.hid HS.out.gk
            clear hputs hgrp hlt2 hkk
            rcases hq with ⟨hq1, hq2⟩ | ⟨hq1, hq2⟩
            all_goals
              go_wp2_with fail
              clear hq1 hq2
              refine (commit_j wr a j1 199 g1 S HLV.out gao _ gcap l HP.out HG.out (by have := HGK.out; omega) (by have := HS.out.writes; omega)).mono ?_
              rintro e w6 ⟨rfl, S6, h6, hs6, hm6, hw6, hb6, hk6⟩
              have hsp : spanN l.length ≤ 42 := by unfold spanN tabN; omega
              have n1 := HLV.out.apart HI.out.2.plc (by decide) (by decide)
              have n2 := HLV.out.apart HI.out.2.jsc (by decide) (by decide)
              have n3 := HLV.out.apart HI.out.2.nc (by decide) (by decide)
              have n4 := HLV.out.apart HI.out.1.has (by decide) (by decide)
              have n5 : j0 ≠ a ∧ j0 ≠ S.m ∧ j0 ≠ j1 := ⟨HI.out.2.jr0.ne_disk HI.out.2.live.disk, HI.out.2.jr0.ne_map HI.out.2.live.disk, fun e => by
                have h1 := HI.out.2.jr0
                rw [e] at h1
                have h2 := h1.symm.trans HI.out.2.jr1
                simp [JourS.cells] at h2⟩
              have HPL6 := Lib.hid (hk6.heap (by simp; exact ⟨fun e => n1.1 e.symm, fun e => n1.2.1 e.symm, fun e => n1.2.2 e.symm⟩) HI.out.2.plc)
              have HJB6 := Lib.hid (hk6.heap (by simp; exact ⟨fun e => n2.1 e.symm, fun e => n2.2.1 e.symm, fun e => n2.2.2 e.symm⟩) HI.out.2.jsc)
              have HNB6 := Lib.hid (hk6.heap (by simp; exact ⟨fun e => n3.1 e.symm, fun e => n3.2.1 e.symm, fun e => n3.2.2 e.symm⟩) HI.out.2.nc)
              have HH6 := Lib.hid (hk6.heap (by simp; exact ⟨fun e => n4.1 e.symm, fun e => n4.2.1 e.symm, fun e => n4.2.2 e.symm⟩) HI.out.1.has)
              have HJO6 := Lib.hid (HI.out.2.jr0.kept hk6 (by simp; exact n5))
              have HK6 := Lib.hid (HI.out.1.kept.into hk6 (by rw [HS.out.m]; have h1 := HA.out; have h2 := HS.out.new; simp; omega))
              have HSZ6 : Hid (S6.size = 438) := hs6.trans HS.out.size
              have HM6 : Hid (S6.m = m) := hm6.trans HS.out.m
              have HW6 : Hid (S6.writes ≤ 2 + 100 * (k + 1 : Nat)) := by show _ ≤ _; rw [hw6]; have := HS.out.writes; push_cast; omega
              have HRO6 : Hid (Ready S6 0 g0) := by
                show S6.blk _ = _
                rw [hb6 _ (by unfold Out; omega), applyL_other]
                · exact HS.out.rd0
                · intro p hp e
                  obtain ⟨r, _, _, rfl⟩ := (HI.out.1.mem p).1 hp
                  simp only [putO] at e
                  omega
              have HB6 := Lib.hid hb6
              have H6 := Lib.hid h6
              clear h6 hs6 hm6 hw6 hb6 hk6 n1 n2 n3 n4 n5 cj
              have c0 : w6.cell? ⟨nb, 1, none⟩ = some (.int .i64 g1) := cell_of_row w6 _ 1 _ _ _ HNB6.out
              have f0 : ∀ r, w6.frozen? ⟨nb, r, none⟩ = false := fun r => frozen_of_row w6 _ r _ _ HNB6.out
              have c1 : w6.cell? ⟨pl, 0, none⟩ = some (.int .i64 0) := cell_of_row w6 _ 0 _ _ _ HPL6.out
              have hpn := HPN.out
              have hgb : g1 ≤ 30 := by have := HGK.out; omega
              go_wp2_with fail
              generalize hw7 : World.setCell w6 _ _ = w7
              have hk7 : Kept [nb] w6 w7 := by rw [← hw7]; exact Kept.setCell _ _ _ _ (by simp)
              have hnb7 : w7.heap[nb]? = some (.cells #[.int .i64 g0, .int .i64 ((g1 + 1 : Nat) : Int)] 61) := by rw [← hw7, heap_setCell_same _ _ 1 _ _ _ HNB6.out]; rfl
              have HPL7 := Lib.hid (hk7.heap (by simpa using hpn) HPL6.out)
              have HJB7 := Lib.hid (hk7.heap (by have := ne_of_type HNB6.out HJB6.out (by decide); simpa using this) HJB6.out)
              have HH7 := Lib.hid (hk7.heap (by have := ne_of_type HNB6.out HH6.out (by decide); simpa using this) HH6.out)
              have H7 := Lib.hid (H6.out.set HNB6.out (by decide) (by decide) hk7)
              have HK7 := Lib.hid (HK6.out.into hk7 (by have := HNH.out; simp; omega))
              have HNB7 := Lib.hid hnb7
              clear hw7 hk7 hnb7 c0 f0 c1
              refine (open_ready a S6 0 _ g0 w7 H7.out.live.disk rfl (by rw [HSZ6.out]; omega) H7.out.live.off HRO6.out (by have := HGK.out; omega)).mono ?_
              rintro e w8 ⟨j9, rfl, hj9, hjl9, hk8⟩
              have hk8d : Kept [] w7 w8.drew := hk8.trans (Kept.drew _ _)
              have HJ9 := Lib.hid (hj9.kept (Kept.drew [] _) (by simp))
              have H8 := Lib.hid (H7.out.kept hk8d (by simp) (by simp) (by simp))
              have HPL8 := Lib.hid (hk8d.heap (by simp) HPL7.out)
              have HJB8 := Lib.hid (hk8d.heap (by simp) HJB7.out)
              have HNB8 := Lib.hid (hk8d.heap (by simp) HNB7.out)
              have HH8 := Lib.hid (hk8d.heap (by simp) HH7.out)
              have HK8 := Lib.hid (HK7.out.trans hk8d)
              have HJL9 : Hid (w.heap.size ≤ j9) := Nat.le_trans HK7.out.size hjl9
              have CN0 : ∀ w', Kept [] w8.drew w' → w'.cell? ⟨nb, 0, none⟩ = some (.int .i64 g0) := fun w' hk => cell_of_row w' _ 0 _ _ _ (hk.heap (by simp) HNB8.out)
              have CN1 : ∀ w', Kept [] w8.drew w' → w'.cell? ⟨nb, 1, none⟩ = some (.int .i64 ((g1 : Int) + 1)) := fun w' hk => cell_of_row w' _ 1 _ _ _ (hk.heap (by simp) HNB8.out)
              have CJ : ∀ w', Kept [] w8.drew w' → w'.cell? ⟨jb, 1, none⟩ = some (.pointer (some ⟨j1, 0, none⟩)) := fun w' hk => cell_of_row w' _ 1 _ _ _ (hk.heap (by simp) HJB8.out)
              clear hj9 hjl9 hk8 hk8d
              have wr1 : IntKind.i64.wrap 1 = 1 := by decide
              have wr0 : IntKind.i64.wrap 0 = 0 := by decide
              go_wp2_with fail
              refine wp_region_ord [(true, 0), (true, 1), (true, 2), (true, 3), (true, 4), (true, 5), (true, 6), (true, 7), (true, 8), (true, 9), (true, 10), (true, 11), (true, 13), (true, 14), (true, 15), (true, 16), (false, 12), (true, 17), (true, 18), (true, 19), (true, 20), (true, 21), (true, 22), (true, 24), (true, 25), (true, 26), (false, 23), (true, 27), (true, 28)] [] (by kernel_rfl) (fun _ _ d _ _ h => by cases d <;> exact h) (by kernel_rfl) rfl (by kernel_rfl) (by kernel_rfl) ?_
              simp only [named, List.getD_cons_zero, List.getD_cons_succ]
              repeat (first | (apply wpGrow_take; (case hw => rfl); (case hv => intro w' hk; go_simp; with_reducible rfl); simp only [Act.put, List.setIfInBounds_toArray, List.set_cons_zero, List.set_cons_succ]) | (refine wpGrow_pass (by rfl) ?_; simp only [Act.put, List.setIfInBounds_toArray, List.set_cons_zero, List.set_cons_succ]))
              refine wpGrow_force (by rfl) (fun K hK => ?_)
              go_simp
              refine (groups_any j9 _ _ HJ9.out).mono ?_
              rintro e w9 ⟨rfl, rfl⟩
              refine hK _ _ (Kept.refl _ _) ?_
              clear hK K
              repeat (first | (apply wpGrow_take; (case hw => rfl); (case hv => intro w' hk; go_simp; with_reducible rfl); simp only [Act.put, List.setIfInBounds_toArray, List.set_cons_zero, List.set_cons_succ]) | (refine wpGrow_pass (by rfl) ?_; simp only [Act.put, List.setIfInBounds_toArray, List.set_cons_zero, List.set_cons_succ]))
              refine wpGrow_force (by rfl) (fun K hK => ?_)
              go_simp
              refine (groups_any j1 _ _ H8.out.jour).mono ?_
              rintro e w9 ⟨rfl, rfl⟩
              refine hK _ _ (Kept.refl _ _) ?_
              clear hK K
              repeat (first | (apply wpGrow_take; (case hw => rfl); (case hv => intro w' hk; go_simp; with_reducible rfl); simp only [Act.put, List.setIfInBounds_toArray, List.set_cons_zero, List.set_cons_succ]) | (refine wpGrow_pass (by rfl) ?_; simp only [Act.put, List.setIfInBounds_toArray, List.set_cons_zero, List.set_cons_succ]))
              refine wpGrow_nil ?_
              clear CN0 CN1 CJ
              have d0 : w8.cell? ⟨jb, 0, none⟩ = some (.pointer (some ⟨j0, 0, none⟩)) := cell_of_row w8.drew _ 0 _ _ _ HJB8.out
              have f0 : ∀ r, w8.frozen? ⟨jb, r, none⟩ = false := fun r => frozen_of_row w8.drew _ r _ _ HJB8.out
              obtain ⟨wA, hwA⟩ : ∃ wA, wA = (World.setCell w8 ⟨jb, 0, none⟩ (Value.pointer (some ⟨j9, 0, none⟩))).drew := ⟨_, rfl⟩
              have hkA : Kept [jb] w8.drew wA := by
                have h0 : Kept [jb] w8 (World.setCell w8 ⟨jb, 0, none⟩ (Value.pointer (some ⟨j9, 0, none⟩))) := Kept.setCell _ _ _ _ (by simp)
                rw [hwA]
                exact ⟨h0.os, h0.tape, h0.output, h0.size, h0.block⟩
              have hjbA : wA.heap[jb]? = some (.cells #[.pointer (some ⟨j9, 0, none⟩), .pointer (some ⟨j1, 0, none⟩)] 62) := by
                rw [hwA]
                show (World.setCell w8 _ _).heap[jb]? = _
                rw [heap_setCell_same w8 _ 0 _ _ _ HJB8.out]; rfl
              have HN : Hid (ApSt w a m h pl jb nb (k + 1) S6 j9 j1 g0 (g1 + 1) H' wA) := by
                have hLA := H8.out.set HJB8.out (by decide) (by decide) hkA
                have hd9 := HJ9.out.kept hkA (by have := ne_of_type HJB8.out HJ9.out (by decide); simpa using this)
                have hplA := hkA.heap (by have := ne_of_type HJB8.out HPL8.out (by decide); simpa using this) HPL8.out
                have hnbA := hkA.heap (by have := ne_of_type HJB8.out HNB8.out (by decide); simpa using this) HNB8.out
                have hhA := hkA.heap (by have := ne_of_type HJB8.out HH8.out (by decide); simpa using this) HH8.out
                have hgk := HGK.out
                refine ⟨⟨hLA.live, hd9, hLA.jour, hplA, hjbA, hnbA⟩, HM6.out, HSZ6.out, HW6.out, HRO6.out, hLA.ready, ⟨by omega, by omega⟩, ⟨HJL9.out, HS.out.new.2⟩, hhA, by rw [HI.out.1.hlen]; exact HHL.out, io_blk HI.out.1 rfl S.blk S6.blk (fun q hq => HB6.out _ (by unfold Out; omega)) HS.out.blk, HK8.out.into hkA (by have := HPJ.out; simp; omega)⟩
              rw [hwA] at HN
              clear hwA hkA hjbA
              go_wp2_with fail
              go_roundw
              case rel => exact ⟨k + 1, _, _, _, _, _, _, by omega, by go_num, HN⟩
              case measure => simp [intOf]; omega
    · obtain rfl : k = N := by omega
      have hq := HW.out
      have HSS := Lib.hid HS
      clear hlt hkN
      rcases hq with ⟨hq1, hq2⟩ | ⟨hq1, hq2⟩
      all_goals
        go_wp2_with fail
        clear hq1 hq2
        go_loopw [23] (fun i wr => ∃ (q : Nat), q ≤ 40 ∧ i = .int .i64 q ∧ Hid (ApSt w a m h pl jb nb k S j0 j1 g0 g1 H wr)) (fun i _ => 40 - (intOf i).toNat)
        case atStart => exact ⟨0, by omega, rfl, HS⟩
        case round =>
          obtain ⟨q, hq60, rfl, HQ⟩ := hrel
          by_cases hlt3 : q < 40
          · have hqI : (q : Int) < 40 := by omega
            go_wp2_with fail
            refine (read_ok a S _ _ HQ.out.two.live.disk (reach_in (by omega) (by rw [HQ.out.size]; omega) HQ.out.two.live.off)).mono ?_
            rintro e w7 ⟨rfl, hw7⟩
            have hk7 : Kept [] wr w7.drew := by rw [hw7]; exact (Kept.alloc _ _ _).trans (Kept.drew _ _)
            have hr7 : w7.drew.rangeAt wr.heap.size 0 (bv (S.blk (398 + (q : Int)))) := by rw [hw7]; exact range_row (heap_alloc_last _ _)
            have hl7 : wr.heap.size < w7.drew.heap.size := by rw [hw7]; show _ < (World.alloc wr _).heap.size; simp
            have hHl := HQ.out.hlen
            obtain ⟨c, hc⟩ : ∃ c, H[q]'(by omega) = c := ⟨_, rfl⟩
            have hcd : H.getD q 0 = c := by rw [← hc]; simp [List.getD_eq_getElem?_getD, show q < H.length by omega]
            have hbl := HQ.out.blk q hlt3
            rw [hcd] at hbl
            have hh7 := hk7.heap (by simp) HQ.out.has
            have CH : ∀ w', Kept [] w7.drew w' → w'.cell? ⟨h, q, none⟩ = some (.int .u8 (c.toNat : Int)) := fun w' hk => by rw [← hc]; exact cell_bvA (hk.heap (by simp) hh7) q (by omega)
            have hb64 := HQ.out.two.live.disk.blk64 (398 + (q : Int))
            have HN : Hid (ApSt w a m h pl jb nb k S j0 j1 g0 g1 H w7.drew) := HQ.out.grow hk7
            have HR7 := Lib.hid hr7
            have HL7 := Lib.hid hl7
            have HBL := Lib.hid hbl
            by_cases hc0 : c = 0
            · have CH0 : ∀ w', Kept [] w7.drew w' → w'.cell? ⟨h, q, none⟩ = some (.int .u8 0) := fun w' hk => by rw [CH w' hk, hc0]; rfl
              clear hw7 hk7 hr7 hl7 hc hcd hbl hh7 hb64 hc0 CH
              go_wp2_with fail
              refine wp_region_ord [(true, 0), (true, 1), (true, 2), (true, 3), (true, 4), (true, 5), (true, 6), (true, 7), (true, 8), (true, 9), (true, 10), (true, 11), (true, 12), (false, 13), (true, 14), (true, 15), (true, 16), (true, 17)] [] (by kernel_rfl) (fun _ _ d _ _ h => by cases d <;> exact h) (by kernel_rfl) rfl (by kernel_rfl) (by kernel_rfl) ?_
              simp only [named, List.getD_cons_zero, List.getD_cons_succ]
              repeat (first | (apply wpGrow_take; (case hw => rfl); (case hv => intro w' hk; go_simp; with_reducible rfl); simp only [Act.put, List.setIfInBounds_toArray, List.set_cons_zero, List.set_cons_succ]) | (refine wpGrow_pass (by rfl) ?_; simp only [Act.put, List.setIfInBounds_toArray, List.set_cons_zero, List.set_cons_succ]))
              refine wpGrow_nil ?_
              clear CH0
              go_wp2_with fail
              go_roundw
              case rel => exact ⟨q + 1, by omega, by go_num, HN⟩
              case measure => simp [intOf]; omega
            · have HCI : Hid (decide (0 < c.toNat) = true) := by
                have : c.toNat ≠ 0 := fun e => hc0 (UInt8.toNat_inj.1 (by simpa using e))
                exact decide_eq_true (by omega)
              have CV : ∀ w', Kept [] w7.drew w' → (convert 48 9 (.slice (some ⟨wr.heap.size, 0, none⟩) 64 64)).run Try.prog w' = .ok (.string (strL (fullE c 3))) w' := fun w' hk => by
                refine conv_range _ wr.heap.size 0 64 _ 64 (fullE_length _ _) (hk.range HL7.out (by simp) ?_)
                have := HR7.out
                rw [show (398 : Int) + q = ((398 : Nat) : Int) + q from rfl, HBL.out hc0] at this
                exact this
              clear hw7 hk7 hr7 hl7 hc hcd hbl hh7 hb64 hc0
              go_wp2_with fail
              refine wp_region_ord [(true, 0), (true, 1), (true, 2), (true, 3), (true, 4), (true, 5), (true, 6), (true, 7), (true, 8), (true, 9), (true, 10), (true, 11), (true, 12), (false, 13), (true, 14), (true, 15), (true, 16), (true, 17)] [] (by kernel_rfl) (fun _ _ d _ _ h => by cases d <;> exact h) (by kernel_rfl) rfl (by kernel_rfl) (by kernel_rfl) ?_
              simp only [named, List.getD_cons_zero, List.getD_cons_succ]
              have hcI := HCI.out
              repeat (first | (apply wpGrow_take; (case hw => rfl); (case hv => intro w' hk; go_simp; with_reducible rfl); simp only [Act.put, List.setIfInBounds_toArray, List.set_cons_zero, List.set_cons_succ]) | (refine wpGrow_pass (by rfl) ?_; simp only [Act.put, List.setIfInBounds_toArray, List.set_cons_zero, List.set_cons_succ]))
              refine wpGrow_force (by rfl) (fun K hK => ?_)
              go_simp
              refine (full2_eq c 3 _ _ _ rfl rfl).mono ?_
              rintro e w9 ⟨rfl, hw9⟩
              have hk9 : Kept [] w7.drew w9 := by rw [hw9]; exact Kept.alloc _ _ _
              have CW : ∀ w', Kept [] w9 w' → (convert 48 9 (.slice (some ⟨w7.heap.size, 0, none⟩) 64 64)).run Try.prog w' = .ok (.string (strL (fullE c 3))) w' := fun w' hk =>
                conv_range _ _ 0 64 _ 64 (fullE_length _ _) (hk.range (b := w7.drew.heap.size) (by rw [hw9]; simp) (by simp) (by rw [hw9]; exact range_row (heap_alloc_last _ _)))
              have HN9 : Hid (ApSt w a m h pl jb nb k S j0 j1 g0 g1 H w9) := HN.out.grow hk9
              refine hK _ _ hk9 ?_
              clear hK K hw9 hk9 CH CV
              repeat (first | (apply wpGrow_take; (case hw => rfl); (case hv => intro w' hk; go_simp; with_reducible rfl); simp only [Act.put, List.setIfInBounds_toArray, List.set_cons_zero, List.set_cons_succ]) | (refine wpGrow_pass (by rfl) ?_; simp only [Act.put, List.setIfInBounds_toArray, List.set_cons_zero, List.set_cons_succ]))
              refine wpGrow_nil ?_
              clear CW
              go_wp2_with fail
              go_roundw
              case rel => exact ⟨q + 1, by omega, by go_num, HN9⟩
              case measure => simp [intOf]; omega
          · obtain rfl : q = 40 := by omega
            go_wp2_with fail
            go_ret
            exact ⟨rfl, HQ.out.kept⟩
end Go.Proofs.Ytmckapfncnoddaa

/-
  The walk of the statement that a disk and its clone go their own ways, whatever is written to either.
  Conditions: none.
-/
import Derived.Test.YthhcopipamjelaaShown
import Derived.Test.YthhcopipamjelaaBytesArg
import Derived.Test.YthhcopipamjelaaClone
import Derived.Deep.LoopGhost
namespace Go.Proofs.Ythhcopipamjelaa
open Go.RowKit Go.Maps

/-- A disk of 8 blocks, without a fuse, each block full of its byte. -/
structure OneD (wr : World) (a m K : Nat) (wa : List UInt8) (S : DiskS) : Prop where
  disk : IsDisk wr a S
  off : S.off = false
  fused : S.fused = false
  size : S.size = 8
  map : S.m = m
  writes : S.writes ≤ K
  len : wa.length = 8
  holds : ∀ j (hj : j < wa.length), S.blk j = fullL wa[j]

theorem OneD.kept {wr wq : World} {a m K : Nat} {wa : List UInt8} {S : DiskS} (R : OneD wr a m K wa S) {ex : List Nat} (hk : Kept ex wr wq) (ha : a ∉ ex) (hm : m ∉ ex) : OneD wq a m K wa S :=
  ⟨R.disk.kept hk ha (by rw [R.map]; exact hm), R.off, R.fused, R.size, R.map, R.writes, R.len, R.holds⟩
theorem OneD.le {wr : World} {a m K K' : Nat} {wa : List UInt8} {S : DiskS} (R : OneD wr a m K wa S) (h : K ≤ K') : OneD wr a m K' wa S :=
  ⟨R.disk, R.off, R.fused, R.size, R.map, by have := R.writes; omega, R.len, R.holds⟩

theorem OneD.wr {wr : World} {a m K : Nat} {wa : List UInt8} {S : DiskS} (R : OneD wr a m K wa S) (p : Nat) (hp : p < 8) (c : UInt8) :
    (S.wr p (fullL c)).1 = 0 ∧ (S.wr p (fullL c)).2 = { S with blk := updL S.blk p (fullL c), writes := S.writes + 1 } := by
  have hr : S.reach p = 0 := by
    unfold DiskS.reach
    rw [R.off, R.size]
    simp; omega
  have hb : S.burn = (true, S) := by unfold DiskS.burn; rw [R.fused]; simp
  unfold DiskS.wr
  rw [if_pos hr, if_pos (fullL_length c), hb]
  exact ⟨rfl, rfl⟩

theorem OneD.next {wr w3 : World} {a m K : Nat} {wa : List UInt8} {S : DiskS} (R : OneD wr a m K wa S) (p : Nat) (hp : p < 8) (c : UInt8) (hd : IsDisk w3 a (S.wr p (fullL c)).2) :
    OneD w3 a m (K + 1) (wa.set p c) (S.wr p (fullL c)).2 := by
  have e := (R.wr p hp c).2
  rw [e] at hd ⊢
  refine ⟨hd, R.off, R.fused, R.size, R.map, ?_, by simpa using R.len, fun j hj => ?_⟩
  · have := R.writes
    show S.writes + 1 ≤ _
    omega
  · show updL S.blk p (fullL c) j = _
    unfold updL
    by_cases e2 : j = p
    · subst e2
      simp
    · have : ¬ ((j : Int) = (p : Int)) := by omega
      rw [if_neg this, R.holds j (by simpa using hj)]
      rw [List.getElem_set_ne (fun e => e2 e.symm)]

theorem OneD.reach {wr : World} {a m K : Nat} {wa : List UInt8} {S : DiskS} (R : OneD wr a m K wa S) (q : Nat) (hq : q < 8) : S.reach q = 0 := by
  unfold DiskS.reach
  rw [R.off, R.size]
  simp; omega

/-- What the first k writes leave. -/
def aheadL (l : List UInt8) : Nat → List UInt8
  | 0 => zerosL 8
  | k + 1 => (aheadL l k).set (k % 8) (l.getD k 0)
theorem aheadL_length (l : List UInt8) : ∀ k, (aheadL l k).length = 8
  | 0 => zerosL_length _
  | k + 1 => by rw [aheadL, List.length_set]; exact aheadL_length l k

theorem OneD.new {w2 : World} {a m : Nat} (hd : IsDisk w2 a (DiskS.new 8 m)) (l : List UInt8) : OneD w2 a m 0 (aheadL l 0) (DiskS.new 8 m) := by
  refine ⟨hd, rfl, rfl, rfl, rfl, by simp [DiskS.new], aheadL_length l 0, fun j hj => ?_⟩
  have e : ∀ (n i : Nat) (hi : i < (zerosL n).length), (zerosL n)[i] = 0 := fun n i hi => by simp [zerosL]
  exact (congrArg fullL (e 8 j hj)).symm

/-- Two disks, and the bytes that are to be on each. -/
structure ApRel (w : World) (a m a2 m2 bw K : Nat) (wa wb : List UInt8) (S1 S2 : DiskS) (wr : World) : Prop where
  d1 : OneD wr a m K wa S1
  d2 : OneD wr a2 m2 K wb S2
  here : wr.heap[bw]? = some (.cells (bvA (wa ++ wb)) 48)
  kept : Kept [] w wr
  ga : w.heap.size ≤ a
  gm : w.heap.size ≤ m
  ga2 : w.heap.size ≤ a2
  gm2 : w.heap.size ≤ m2
  gb : w.heap.size ≤ bw
  na : a ≠ a2
  nm : m ≠ m2
  nb : bw ≠ a ∧ bw ≠ a2

theorem ApRel.apart {w : World} {a m a2 m2 bw K : Nat} {wa wb : List UInt8} {S1 S2 : DiskS} {wr : World} (R : ApRel w a m a2 m2 bw K wa wb S1 S2 wr) : a ≠ m ∧ a ≠ m2 ∧ a2 ≠ m ∧ a2 ≠ m2 ∧ bw ≠ m ∧ bw ≠ m2 := by
  have h1 := R.d1.disk.map
  have h2 := R.d2.disk.map
  rw [R.d1.map] at h1
  rw [R.d2.map] at h2
  exact ⟨fun e => h1.notCells (e ▸ R.d1.disk.here), fun e => h2.notCells (e ▸ R.d1.disk.here), fun e => h1.notCells (e ▸ R.d2.disk.here), fun e => h2.notCells (e ▸ R.d2.disk.here),
    fun e => h1.notCells (e ▸ R.here), fun e => h2.notCells (e ▸ R.here)⟩

theorem ApRel.grow {w : World} {a m a2 m2 bw K : Nat} {wa wb : List UInt8} {S1 S2 : DiskS} {wr wq : World} (R : ApRel w a m a2 m2 bw K wa wb S1 S2 wr) (hk : Kept [] wr wq) : ApRel w a m a2 m2 bw K wa wb S1 S2 wq :=
  ⟨R.d1.kept hk (by simp) (by simp), R.d2.kept hk (by simp) (by simp), hk.heap (by simp) R.here, R.kept.trans hk, R.ga, R.gm, R.ga2, R.gm2, R.gb, R.na, R.nm, R.nb⟩
theorem ApRel.le {w : World} {a m a2 m2 bw K K' : Nat} {wa wb : List UInt8} {S1 S2 : DiskS} {wr : World} (R : ApRel w a m a2 m2 bw K wa wb S1 S2 wr) (h : K ≤ K') : ApRel w a m a2 m2 bw K' wa wb S1 S2 wr :=
  ⟨R.d1.le h, R.d2.le h, R.here, R.kept, R.ga, R.gm, R.ga2, R.gm2, R.gb, R.na, R.nm, R.nb⟩

theorem set_front {wa wb : List UInt8} {p : Nat} (h : p < wa.length) (c : UInt8) : (wa ++ wb).set p c = wa.set p c ++ wb := by rw [List.set_append, if_pos h]
theorem set_back {wa wb : List UInt8} {p n : Nat} (h : wa.length = n) (c : UInt8) : (wa ++ wb).set (n + p) c = wa ++ wb.set p c := by subst h; simp

theorem ApRel.write1 {w : World} {a m a2 m2 bw K : Nat} {wa wb : List UInt8} {S1 S2 : DiskS} {wr w3 : World} (R : ApRel w a m a2 m2 bw K wa wb S1 S2 wr) (p : Nat) (hp : p < 8) (c : UInt8)
    (hd : IsDisk w3 a (S1.wr p (fullL c)).2) (hk : Kept [a, S1.m] wr w3) :
    w3.heap[bw]? = some (.cells (bvA (wa ++ wb)) 48) ∧ ApRel w a m a2 m2 bw (K + 1) (wa.set p c) wb (S1.wr p (fullL c)).2 S2 (w3.setCell ⟨bw, p, none⟩ (.int .u8 (c.toNat : Int))) := by
  rw [R.d1.map] at hk
  obtain ⟨x1, x2, x3, x4, x5, x6⟩ := R.apart
  have hh := hk.heap (b := bw) (by simp; exact ⟨R.nb.1, x5⟩) R.here
  have ks : Kept [bw] w3 (w3.setCell ⟨bw, p, none⟩ (.int .u8 (c.toNat : Int))) := Kept.setCell _ _ _ _ (by simp)
  refine ⟨hh, (R.d1.next p hp c hd).kept ks (by simpa using fun e => R.nb.1 e.symm) (by simpa using fun e => x5 e.symm), ((R.d2.le (by omega)).kept hk (by simp; exact ⟨fun e => R.na e.symm, x3⟩) (by simp; exact ⟨fun e => x2 e.symm, fun e => R.nm e.symm⟩)).kept ks (by simpa using fun e => R.nb.2 e.symm) (by simpa using fun e => x6 e.symm), ?_, ?_, R.ga, R.gm, R.ga2, R.gm2, R.gb, R.na, R.nm, R.nb⟩
  · rw [heap_setCell_same w3 bw p _ _ _ hh, bvA_set, set_front (by rw [R.d1.len]; exact hp)]
  · exact (R.kept.into hk (by simp; exact ⟨R.ga, R.gm⟩)).into ks (by simpa using R.gb)

theorem ApRel.write2 {w : World} {a m a2 m2 bw K : Nat} {wa wb : List UInt8} {S1 S2 : DiskS} {wr w3 : World} (R : ApRel w a m a2 m2 bw K wa wb S1 S2 wr) (p : Nat) (hp : p < 8) (c : UInt8)
    (hd : IsDisk w3 a2 (S2.wr p (fullL c)).2) (hk : Kept [a2, S2.m] wr w3) :
    w3.heap[bw]? = some (.cells (bvA (wa ++ wb)) 48) ∧ ApRel w a m a2 m2 bw (K + 1) wa (wb.set p c) S1 (S2.wr p (fullL c)).2 (w3.setCell ⟨bw, 8 + p, none⟩ (.int .u8 (c.toNat : Int))) := by
  rw [R.d2.map] at hk
  obtain ⟨x1, x2, x3, x4, x5, x6⟩ := R.apart
  have hh := hk.heap (b := bw) (by simp; exact ⟨R.nb.2, x6⟩) R.here
  have ks : Kept [bw] w3 (w3.setCell ⟨bw, 8 + p, none⟩ (.int .u8 (c.toNat : Int))) := Kept.setCell _ _ _ _ (by simp)
  refine ⟨hh, ((R.d1.le (by omega)).kept hk (by simp; exact ⟨R.na, x2⟩) (by simp; exact ⟨fun e => x3 e.symm, R.nm⟩)).kept ks (by simpa using fun e => R.nb.1 e.symm) (by simpa using fun e => x5 e.symm), (R.d2.next p hp c hd).kept ks (by simpa using fun e => R.nb.2 e.symm) (by simpa using fun e => x6 e.symm), ?_, ?_, R.ga, R.gm, R.ga2, R.gm2, R.gb, R.na, R.nm, R.nb⟩
  · rw [heap_setCell_same w3 bw (8 + p) _ _ _ hh, bvA_set, set_back R.d1.len]
  · exact (R.kept.into hk (by simp; exact ⟨R.ga2, R.gm2⟩)).into ks (by simpa using R.gb)

/-- While the bytes that are to be on both are noted. -/
structure MidRel (w : World) (a m d N q bw : Nat) (l : List UInt8) (S : DiskS) (wr : World) : Prop where
  d1 : OneD wr a m N (aheadL l N) S
  d2 : OneD wr d (d + 1) N (aheadL l N) (S.at (d + 1))
  here : wr.heap[bw]? = some (.cells (bvA (aheadL l q ++ aheadL l q)) 48)
  kept : Kept [] w wr

theorem cell_bvA' {w : World} {h : Nat} {l : List UInt8} {t : TypeId} (hh : w.heap[h]? = some (.cells (bvA l) t)) (k : Nat) (hk : k < l.length) : w.cell? ⟨h, k, none⟩ = some (.int .u8 (l[k].toNat : Int)) := by
  rw [cell_of_row w h k _ _ _ hh]
  simp [bvA, bv, hk]

theorem MidRel.next {w : World} {a m d N q bw : Nat} {l : List UInt8} {S : DiskS} {wr : World} (R : MidRel w a m d N q bw l S wr) (p : Nat) (hp : p = q % 8) (c : UInt8) (hc : c = l.getD q 0)
    (n1 : a ≠ bw) (n2 : m ≠ bw) (n3 : d ≠ bw) (n4 : d + 1 ≠ bw) (gb : w.heap.size ≤ bw) :
    (wr.setCell ⟨bw, p, none⟩ (.int .u8 (c.toNat : Int))).heap[bw]? = some (.cells (bvA ((aheadL l q).set p c ++ aheadL l q)) 48) ∧
    MidRel w a m d N (q + 1) bw l S ((wr.setCell ⟨bw, p, none⟩ (.int .u8 (c.toNat : Int))).setCell ⟨bw, 8 + p, none⟩ (.int .u8 (c.toNat : Int))) := by
  have hp8 : p < 8 := by omega
  have h1 : (wr.setCell ⟨bw, p, none⟩ (.int .u8 (c.toNat : Int))).heap[bw]? = some (.cells (bvA ((aheadL l q).set p c ++ aheadL l q)) 48) := by
    rw [heap_setCell_same wr bw p _ _ _ R.here, bvA_set, set_front (by rw [aheadL_length]; exact hp8)]
  have k1 : Kept [bw] wr (wr.setCell ⟨bw, p, none⟩ (.int .u8 (c.toNat : Int))) := Kept.setCell _ _ _ _ (by simp)
  have k2 : Kept [bw] (wr.setCell ⟨bw, p, none⟩ (.int .u8 (c.toNat : Int))) ((wr.setCell ⟨bw, p, none⟩ (.int .u8 (c.toNat : Int))).setCell ⟨bw, 8 + p, none⟩ (.int .u8 (c.toNat : Int))) := Kept.setCell _ _ _ _ (by simp)
  refine ⟨h1, R.d1.kept (k1.trans k2) (by simpa using n1) (by simpa using n2), R.d2.kept (k1.trans k2) (by simpa using n3) (by simpa using n4), ?_, R.kept.into (k1.trans k2) (by simpa using gb)⟩
  rw [heap_setCell_same _ bw (8 + p) _ _ _ h1, bvA_set, set_back (by rw [List.length_set, aheadL_length])]
  rw [aheadL, ← hp, ← hc]

theorem MidRel.ap {w : World} {a m d N bw : Nat} {l : List UInt8} {S : DiskS} {wr : World} (R : MidRel w a m d N N bw l S wr) (ga : w.heap.size ≤ a) (gm : w.heap.size ≤ m) (gd : w.heap.size ≤ d) (gb : w.heap.size ≤ bw)
    (had : a < d) (hmd : m < d) (hdb : d < bw) : ApRel w a m d (d + 1) bw N (aheadL l N) (aheadL l N) S (S.at (d + 1)) wr :=
  ⟨R.d1, R.d2, R.here, R.kept, ga, gm, gd, by omega, gb, by omega, by omega, by omega, by omega⟩

/-- The first disk, its power off or on again; the second as it was. -/
structure EndRel (w : World) (a m d m2 bw : Nat) (wa wb : List UInt8) (S1 S2 : DiskS) (wr : World) : Prop where
  d1 : IsDisk wr a S1
  size : S1.size = 8
  map : S1.m = m
  len : wa.length = 8
  holds : ∀ j (hj : j < wa.length), S1.blk j = fullL wa[j]
  d2 : OneD wr d m2 1000 wb S2
  here : wr.heap[bw]? = some (.cells (bvA (wa ++ wb)) 48)
  kept : Kept [] w wr
  ga : w.heap.size ≤ a
  na : a ≠ d
  nb : bw ≠ a

theorem EndRel.grow {w : World} {a m d m2 bw : Nat} {wa wb : List UInt8} {S1 S2 : DiskS} {wr wq : World} (R : EndRel w a m d m2 bw wa wb S1 S2 wr) (hk : Kept [] wr wq) : EndRel w a m d m2 bw wa wb S1 S2 wq :=
  ⟨R.d1.kept hk (by simp) (by simp), R.size, R.map, R.len, R.holds, R.d2.kept hk (by simp) (by simp), hk.heap (by simp) R.here, R.kept.trans hk, R.ga, R.na, R.nb⟩

theorem OneD.burnt {wr : World} {a m K : Nat} {wa : List UInt8} {S : DiskS} (R : OneD wr a m K wa S) (l : List UInt8) (hl : l.length = 64) :
    ((S.fuse 0).wr 0 l).2 = { S with off := true, fused := false, left := 0 } := by
  have hf : S.fuse 0 = { S with fused := true, left := 0 } := by unfold DiskS.fuse; rw [R.off]; simp
  have hr : (S.fuse 0).reach 0 = 0 := by rw [hf]; unfold DiskS.reach; simp only [R.off, R.size]; rfl
  have hb : (S.fuse 0).burn = (false, { S with off := true, fused := false, left := 0 }) := by rw [hf]; rfl
  unfold DiskS.wr
  rw [if_pos hr, if_pos hl, hb]
  rfl

theorem ApRel.ends {w : World} {a m d m2 bw K : Nat} {wa wb : List UInt8} {S1 S2 : DiskS} {wr wf wg : World} (R : ApRel w a m d m2 bw K wa wb S1 S2 wr) (hK : K ≤ 1000) (l : List UInt8) (hl : l.length = 64)
    (hk1 : Kept [a] wr wf) (hd : IsDisk wg a ((S1.fuse 0).wr 0 l).2) (hk2 : Kept [a, (S1.fuse 0).m] wf wg) : EndRel w a m d m2 bw wa wb ((S1.fuse 0).wr 0 l).2 S2 wg := by
  have hmm : (S1.fuse 0).m = m := by rw [← R.d1.map]; unfold DiskS.fuse; split <;> (try split) <;> rfl
  rw [hmm] at hk2
  obtain ⟨x1, x2, x3, x4, x5, x6⟩ := R.apart
  have hk : Kept [a, m] wr wg := (hk1.mono (by simp)).trans hk2
  rw [R.d1.burnt l hl] at hd ⊢
  exact ⟨hd, R.d1.size, R.d1.map, R.d1.len, R.d1.holds, (R.d2.le hK).kept hk (by simp; exact ⟨fun e => R.na e.symm, x3⟩) (by simp; exact ⟨fun e => x2 e.symm, fun e => R.nm e.symm⟩),
    hk.heap (by simp; exact ⟨R.nb.1, x5⟩) R.here, R.kept.into hk (by simp; exact ⟨R.ga, R.gm⟩), R.ga, R.na, R.nb.1⟩

theorem EndRel.boot {w : World} {a m d m2 bw : Nat} {wa wb : List UInt8} {S1 S2 : DiskS} {wr wq : World} (R : EndRel w a m d m2 bw wa wb S1 S2 wr) (hd : IsDisk wq a S1.boot) (hk : Kept [a] wr wq) :
    EndRel w a m d m2 bw wa wb S1.boot S2 wq ∧ S1.boot.off = false := by
  have hm2 : m2 ≠ a := fun e => by
    have := R.d2.disk.map
    rw [R.d2.map, e] at this
    exact this.notCells R.d1.here
  exact ⟨⟨hd, R.size, R.map, R.len, R.holds, R.d2.kept hk (by simpa using fun e => R.na e.symm) (by simpa using hm2), hk.heap (by simpa using R.nb) R.here, R.kept.into hk (by simpa using R.ga), R.ga, R.na, R.nb⟩, rfl⟩

theorem EndRel.reach1 {w : World} {a m d m2 bw : Nat} {wa wb : List UInt8} {S1 S2 : DiskS} {wr : World} (R : EndRel w a m d m2 bw wa wb S1 S2 wr) (ho : S1.off = false) (q : Nat) (hq : q < 8) : S1.reach q = 0 := by
  unfold DiskS.reach
  rw [ho, R.size]
  simp; omega

theorem EndRel.cell1 {w : World} {a m d m2 bw : Nat} {wa wb : List UInt8} {S1 S2 : DiskS} {wr : World} (R : EndRel w a m d m2 bw wa wb S1 S2 wr) (q : Nat) (hq : q < wa.length) : wr.cell? ⟨bw, q, none⟩ = some (.int .u8 (wa[q].toNat : Int)) := by
  rw [cell_bvA' R.here q (by rw [List.length_append]; omega)]
  simp [hq]
theorem EndRel.cell2 {w : World} {a m d m2 bw : Nat} {wa wb : List UInt8} {S1 S2 : DiskS} {wr : World} (R : EndRel w a m d m2 bw wa wb S1 S2 wr) (q : Nat) (hq : q < wb.length) : wr.cell? ⟨bw, 8 + q, none⟩ = some (.int .u8 (wb[q].toNat : Int)) := by
  rw [cell_bvA' R.here (8 + q) (by rw [List.length_append, R.len]; omega)]
  have : (wa ++ wb)[8 + q]? = wb[q]? := by rw [List.getElem?_append_right (by rw [R.len]; omega), R.len]; congr 1; omega
  have h2 : (wa ++ wb)[8 + q]'(by rw [List.length_append, R.len]; omega) = wb[q] := by
    rw [List.getElem?_eq_getElem (by rw [List.length_append, R.len]; omega), List.getElem?_eq_getElem hq] at this
    exact Option.some.inj this
  rw [h2]

end Go.Proofs.Ythhcopipamjelaa

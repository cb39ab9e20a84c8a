/-
  What Clone of package disk does: a second disk of the same description, in new memory.
  Conditions: none.
-/
import Derived.Test.YthojnkdhaoankaaDisk
import Derived.Laws.Externs
import Derived.MapKept
namespace Go.Proofs.Ythojnkdhaoankaa
open Go.RowKit Go.Maps

/-- A map that is there is not nil. -/
theorem run_mapNil_in {P : Program} (w : World) {t k e : TypeId} (h : P.underlying t = some (.map k e)) (r d : Nat) : (Op.equalIn (d + 1) t (.map (some r)) (.map none)).run P w = .ok false w := by
  simp [Op.equalIn, run_underlying h]
theorem run_mapNil {P : Program} (w : World) {t k e : TypeId} (h : P.underlying t = some (.map k e)) (r : Nat) : (binOp .eql t (.map (some r)) (.map none)).run P w = .ok (.bool false) w := by
  have e1 : Op.equal t (.map (some r)) (.map none) = Op.equalIn (9999 + 1) t (.map (some r)) (.map none) := rfl
  simp only [binOp, e1, Sem.run_bind, run_mapNil_in w h r 9999, Result.andThen, Sem.run_pure]

/-- What an interface value of a map's type holds. -/
theorem run_heldMap {P : Program} (w : World) {t k e : TypeId} (h : P.underlying t = some (.map k e)) (xT : TypeId) (v : Value) : (Instr.typeAssert (.iface t v) xT t false).run P w = .ok v w := by
  simp [Instr.typeAssert, run_underlying h, go_sem, Result.andThen]

/-- The runtime's copy of a map. -/
theorem run_mapCopy {P : Program} (w : World) (t : TypeId) {r : Nat} {es : Array MapEntry} {clock : Nat} (hb : w.heap[r]? = some (.map es clock)) :
    (Extern.MapsClone.clone #[.iface t (.map (some r))]).run P w = .ok (.iface t (.map (some w.heap.size))) (w.alloc (.map es clock)) := by
  obtain ⟨msg, e⟩ : ∃ msg, Extern.MapsClone.clone #[.iface t (.map (some r))] = (getObj r >>= fun o => match o with
      | .map entries clock => (newObj (.map entries clock) >>= fun n => pure (Value.iface t (.map (some n))))
      | _ => stuck msg) := ⟨_, rfl⟩
  rw [e]
  simp [MapKept.run_getObj_map hb, Result.andThen, go_sem]

set_option maxHeartbeats 1000000 in
theorem mapsClone_any (m : Nat) (es : Array MapEntry) (clock : Nat) (w : World) (hb : w.heap[m]? = some (.map es clock)) :
    Calls Try.prog 38 #[.map (some m)] w fun e w' => e = .returned (.map (some w.heap.size)) ∧ w' = w.alloc (.map es clock) := by
  have hq := fun w => run_mapNil (P := Try.prog) w Try.underlying65 m
  have hcl : (callFunc 46 #[Value.iface 65 (.map (some m))]).run Try.prog w = .ok (.value (.iface 65 (.map (some w.heap.size)))) (w.alloc (.map es clock)) := by
    rw [run_callFunc_extern Try.func46 (by kernel_rfl) (by kernel_rfl) (by kernel_rfl) (e := Extern.MapsClone.clone) (by kernel_rfl), run_mapCopy w 65 hb]
    rfl
  have hta := fun w v => run_heldMap (P := Try.prog) w Try.underlying65 20 v
  clear hb
  go_enter Try.func38, Try.ntmps38
  go_wp2
  go_ret
  exact ⟨rfl, rfl⟩

/-- The clone's own map. -/
def DiskS.at (S : DiskS) (m : Nat) : DiskS := { S with m := m }

set_option maxHeartbeats 1000000 in
theorem clone_any (a : Nat) (S : DiskS) (w : World) (h : IsDisk w a S) :
    Calls Try.prog 27 #[.pointer (some ⟨a, 0, none⟩)] w fun e w' => e = .returned (.pointer (some ⟨w.heap.size, 0, none⟩)) ∧ IsDisk w' w.heap.size (S.at (w.heap.size + 1)) ∧ Kept [] w w' := by
  have c0 : w.cell? ⟨a, 0, none⟩ = some (.int .i64 S.size) := h.cell 0
  have c1 : w.cell? ⟨a, 1, none⟩ = some (.map (some S.m)) := h.cell 1
  have c2 : w.cell? ⟨a, 2, none⟩ = some (.bool S.off) := h.cell 2
  have c3 : w.cell? ⟨a, 3, none⟩ = some (.bool S.fused) := h.cell 3
  have c4 : w.cell? ⟨a, 4, none⟩ = some (.int .i64 S.left) := h.cell 4
  have c5 : w.cell? ⟨a, 5, none⟩ = some (.int .i64 S.writes) := h.cell 5
  have HF := Lib.hid h
  have hlt := h.lt
  obtain ⟨D, ⟨es, clock, hb, hfit, hsz, hD⟩, hmap, hat⟩ := h.map
  have HB : Hid ((w.alloc (.cells S.cells 67)).heap[S.m]? = some (.map es clock)) := (Kept.alloc [] w _).heap (by simp) hb
  have c1' : (w.alloc (.cells S.cells 67)).cell? ⟨a, 1, none⟩ = some (.map (some S.m)) := by
    rw [(Kept.alloc [] w _).cell (p := ⟨a, 1, none⟩) hlt (by simp)]; exact c1
  have HX : Hid (w.ownsMap Try.prog 3 blkR S.m S.writes.toNat D ∧ IsMap D ∧ ∀ i, (Lit.int .i64 i).wf = true → D.atKey (.int .i64 i) (.lit (.string zeroL)) = .lit (.string (S.blk i))) := ⟨⟨es, clock, hb, hfit, hsz, hD⟩, hmap, hat⟩
  clear h hb hfit hsz hD hmap hat
  go_enter Try.func27, Try.ntmps27
  go_wp2_with fail
  show Calls _ _ _ (w.alloc (.cells S.cells 67)) _
  refine (mapsClone_any S.m es clock _ HB.out).mono ?_
  rintro e w2 ⟨rfl, hw2⟩
  obtain ⟨n, hn⟩ : ∃ n, n = w.heap.size := ⟨_, rfl⟩
  have hs : (w.alloc (.cells S.cells 67)).heap.size = n + 1 := by rw [hn]; simp
  rw [← hn, hs]
  have hh : w2.heap[n]? = some (.cells S.cells 67) := by
    rw [hw2, hn]
    exact (Kept.alloc [] _ _).heap (by simp) (heap_alloc_last _ _)
  have hm2 : w2.heap[n + 1]? = some (.map es clock) := by
    rw [hw2, ← hs]; exact heap_alloc_last _ _
  have hk2 : Kept [] w w2 := by rw [hw2]; exact (Kept.alloc [] _ _).trans (Kept.alloc [] _ _)
  have d1 : w2.cell? ⟨n, 1, none⟩ = some (.map (some S.m)) := cell_of_row w2 n 1 _ _ _ hh
  have d2 : w2.frozen? ⟨n, 1, none⟩ = false := frozen_of_row w2 n 1 _ _ hh
  have HH := Lib.hid hh
  have HM2 := Lib.hid hm2
  have HK2 := Lib.hid hk2
  have HN := Lib.hid hn
  clear c0 c1 c2 c3 c4 c5 c1' hw2 hs hh hm2 hk2 hn
  go_wp2_with fail
  go_ret
  refine ⟨by rw [HN.out]; rfl, ?_, HK2.out.into (Kept.setCell [n] _ _ _ (by simp)) (by rw [HN.out]; simp)⟩
  rw [← HN.out]
  have hf := HF.out
  refine ⟨?_, ?_, hf.s0, hf.s1, hf.l0, hf.l1, hf.w0, hf.blk64⟩
  · rw [heap_setCell_same w2 n 1 _ _ _ HH.out]; rfl
  · have hks : Kept [n] w2 (w2.setCell ⟨n, 1, none⟩ (.map (some (n + 1)))) := Kept.setCell _ _ _ _ (by simp)
    obtain ⟨⟨es', clock', hb', hfit, hsz, hD⟩, hmap, hat⟩ := HX.out
    obtain ⟨rfl, rfl⟩ : es' = es ∧ clock' = clock := by
      have h1 := HB.out
      rw [(Kept.alloc [] w _).heap (by simp) hb'] at h1
      simpa using h1
    exact ⟨D, ⟨es', clock', hks.heap (by simp [DiskS.at]) HM2.out, hfit, hsz, hD⟩, hmap, hat⟩
end Go.Proofs.Ythojnkdhaoankaa

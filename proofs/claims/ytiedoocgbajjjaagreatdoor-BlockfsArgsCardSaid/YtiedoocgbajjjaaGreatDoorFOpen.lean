/-
  Layer 4: Open of a disk that was formatted, of one that was not, and of one that may have no tree; Format of that.
  Conditions: those that each theorem states.
-/
import Derived.Test.YtiedoocgbajjjaaGreatDoorFFind
import Derived.Test.YtiedoocgbajjjaaGreatDoorFAsk
import Derived.Recover
import Derived.Defers
namespace Go.Proofs.YtiedoocgbajjjaaGreatDoor
open Go.RowKit Go.Maps
set_option maxRecDepth 100000

set_option maxRecDepth 100000 in
set_option maxHeartbeats 2000000 in
theorem bcaught_imp (w : World) : Calls Tryz.prog 33 #[.iface 109 (.agg #[])] w fun e w' => e = .returned (.int .i64 4) ∧ Kept [] w w' := by
  have ht1 : ∀ w, (Instr.typeAssert (.iface 109 (.agg #[])) 20 107 true).run Tryz.prog w = .ok (.tuple #[.agg #[.int .i64 0], .bool false]) w := fun _ => by kernel_rfl
  have ht2 : ∀ w, (Instr.typeAssert (.iface 109 (.agg #[])) 20 109 true).run Tryz.prog w = .ok (.tuple #[.agg #[], .bool true]) w := fun _ => by kernel_rfl
  go_enter Tryz.func33, Tryz.ntmps33
  go_wp2_with fail
  go_ret
  exact ⟨rfl, Kept.alloc _ _ _⟩

theorem TwoV.loadP {gc : Nat} {v : Value} {x : Value} {w : World} (h : TwoV gc #[v] 29 x w) : (loadVar 29 ⟨gc, 0, none⟩).run Tryz.prog w = .ok v w := by
  have e0 : w.cell? ⟨gc, 0, none⟩ = some v := cell_of_row _ _ 0 _ _ _ h.c
  simp [loadVar, go_sem, e0]
set_option maxRecDepth 100000 in
set_option maxHeartbeats 2000000 in
theorem open_idle (p q : Addr) (w : World) :
    CallsD Tryz.prog 32 #[.pointer (some p), .pointer (some q)] .returning w fun e u' w' => e = .returned (.tuple #[]) ∧ u' = .returning ∧ w' = w := by
  refine callsD_of_wpS Tryz.func32 rfl fun c₀ stk hu => ?_
  apply wpS_seq
  apply wpS_region
  simp [wpOpsS, go_sem, recoverD, hu, Tryz.ntmps32, Exit.thenS]
  apply wpS_of_wp
  change Code.wp _ _ _ { tmps := #[Value.pointer (some p), Value.pointer (some q), .nilIface, .nilIface, undef, undef, undef, undef], defers := [] } w
  go_wp2_with fail
  cases c₀
  simp_all [bodyPostS, results, Tryz.results32]
set_option maxRecDepth 100000 in
set_option maxHeartbeats 2000000 in
theorem open_panic (gc : Nat) (x : Value) (older : List PanicEntry) (w : World) (h : TwoV gc #[.pointer none] 29 x w) :
    CallsD Tryz.prog 32 #[.pointer (some ⟨gc, 0, none⟩), .pointer (some ⟨gc + 1, 0, none⟩)] (.panicking ({ v := .iface 109 (.agg #[]), recovered := false } :: older)) w fun e u' w' =>
      e = .returned (.tuple #[]) ∧ u' = .panicking ({ v := .iface 109 (.agg #[]), recovered := true } :: older) ∧ TwoV gc #[.pointer none] 29 (.int .i64 4) w' ∧ ∃ ww, Kept [] w ww ∧ Kept [gc, gc + 1] ww w' := by
  refine callsD_of_wpS Tryz.func32 rfl fun c₀ stk hu => ?_
  apply wpS_seq
  apply wpS_region
  simp [wpOpsS, go_sem, recoverD, hu, Tryz.ntmps32, Exit.thenS]
  apply wpS_of_wp
  change Code.wp _ _ _ { tmps := #[Value.pointer (some ⟨gc, 0, none⟩), Value.pointer (some ⟨gc + 1, 0, none⟩), .iface 109 (.agg #[]), .iface 109 (.agg #[]), undef, undef, undef, undef], defers := [] } w
  have H := Lib.hid h
  clear h hu
  go_wp2_with fail
  refine (bcaught_imp _).mono ?_
  rintro e w' ⟨rfl, hk⟩
  have h2 := H.out.go hk
  have HK := Lib.hid hk
  have H2 := Lib.hid h2
  have c0 : w'.cell? ⟨gc, 0, none⟩ = some (.pointer none) := cell_of_row _ _ 0 _ _ _ h2.c
  have e0 : w'.cell? ⟨gc + 1, 0, none⟩ = some x := cell_of_row _ _ 0 _ _ _ h2.e
  have fz : ∀ q, w'.frozen? ⟨gc, q, none⟩ = false := fun q => frozen_of_row _ _ q _ _ h2.c
  have fe : ∀ q, w'.frozen? ⟨gc + 1, q, none⟩ = false := fun q => frozen_of_row _ _ q _ _ h2.e
  clear h2 hk
  go_wp2_with fail
  have h3 := (H2.out.setC 0 (.pointer none))
  have h4 := h3.1.setE (.int .i64 4)
  simp [bodyPostS, results, Tryz.results32]
  exact ⟨h4.1, w', HK.out, h3.2.trans h4.2⟩
theorem open_door (gc : Nat) (v : Value) (n : Int) (T : Array Value) (w : World) (R : Ending → World → Prop) (h : TwoV gc #[v] 29 (.int .i64 n) w) (h2 : T.getD 2 undef = .pointer (some ⟨gc, 0, none⟩)) (h3 : T.getD 3 undef = .pointer (some ⟨gc + 1, 0, none⟩))
    (hR : R (.returned (.tuple #[v, .int .i64 n])) w) : bodyPostD Tryz.prog Tryz.f12 R Exit.ret { tmps := T, defers := doors2 32 gc } w := by
  refine leaves_cons (f := 32) (args := #[.pointer (some ⟨gc, 0, none⟩), .pointer (some ⟨gc + 1, 0, none⟩)]) (by simp) (by simp [go_sem]) ?_
  refine (open_idle ⟨gc, 0, none⟩ ⟨gc + 1, 0, none⟩ _).mono ?_
  rintro e u' w'' ⟨rfl, rfl, rfl⟩
  exact ⟨_, results_twoV rfl T _ gc (gc + 1) _ _ h2 h3 h.loadP h.loadE, hR⟩
theorem open_doorP (gc : Nat) (x : Value) (T : Array Value) (w : World) (R : Ending → World → Prop) (h : TwoV gc #[.pointer none] 29 x w) (h2 : T.getD 2 undef = .pointer (some ⟨gc, 0, none⟩)) (h3 : T.getD 3 undef = .pointer (some ⟨gc + 1, 0, none⟩))
    (hR : ∀ ww w', Kept [] w ww → Kept [gc, gc + 1] ww w' → R (.returned (.tuple #[.pointer none, .int .i64 4])) w') : bodyPostD Tryz.prog Tryz.f12 R (Exit.panic impP) { tmps := T, defers := doors2 32 gc } w := by
  refine leaves_cons (f := 32) (args := #[.pointer (some ⟨gc, 0, none⟩), .pointer (some ⟨gc + 1, 0, none⟩)]) (by simp) (by simp [go_sem]) ?_
  refine (open_panic gc x [] w h).mono ?_
  rintro e u' w'' ⟨rfl, rfl, h4, ww, k1, k2⟩
  exact ⟨_, results_twoV rfl T _ gc (gc + 1) _ _ h2 h3 h4.loadP h4.loadE, hR ww w'' k1 k2⟩
/-- What Open answers. -/
def OpenOut (d N q : Nat) (S : DiskS) (w : World) (e : Ending) (w' : World) : Prop := Kept [] w w' ∧ ((S.blk 0 ≠ superL N ∧ e = .returned (.tuple #[.pointer none, .int .i64 4])) ∨
  ∃ f j a ao cap, e = .returned (.tuple #[.pointer (some ⟨f, 0, none⟩), .int .i64 0]) ∧ Hid (∃ base, FsIs w' f d j N q 0 base S (rootT a ao cap) ∧ w.heap.size ≤ base ∧ w.heap.size ≤ f ∧ w.heap.size ≤ j))

set_option maxRecDepth 100000 in
set_option maxHeartbeats 4000000 in
theorem bOpen_any (d N q : Nat) (S : DiskS) (w : World) (h : Live w d S) (hs : S.size = N) (hok : SizeOk N q) (hq : q = (N + 511) / 512) (hw : S.writes ≤ 1000000) (hF : S.blk 0 ≠ superL N ∨ Formatted N q S) :
    Calls Tryz.prog 12 #[.pointer (some ⟨d, 0, none⟩)] w (OpenOut d N q S w) := by
  have hmf : ∀ (fn : Fn) (first cap : Array Value) (w : World), (Instr.makeFunc fn first cap).run Tryz.prog w = .ok (.func fn first cap) w := fun _ _ _ _ => rfl
  obtain ⟨w1, hw1⟩ : ∃ w1, (w.alloc (.cells #[.pointer none] 29)).alloc (.cells #[.int .i64 0] 25) = w1 := ⟨_, rfl⟩
  have HK1 : Hid (Kept [] w w1) := by show Kept _ _ _; rw [← hw1]; exact (Kept.alloc [] _ _).trans (Kept.alloc [] _ _)
  have HV1 : Hid (TwoV w.heap.size #[.pointer none] 29 (.int .i64 0) w1) := by
    rw [← hw1]
    exact ⟨(Kept.alloc [] _ _).heap (by simp) (heap_alloc_last _ _), by rw [← size_alloc]; exact heap_alloc_last _ _⟩
  have HL0 := Lib.hid h
  have HL1 := Lib.hid (h.kept HK1.out (by simp) (by simp))
  have HLN := Lib.hid (len_any d S w1 HL1.out.disk)
  have HOF := Lib.hid (of_yes N w1 (by have := hok.lo; omega) (by have := hok.hi; omega))
  rw [layV_q hq] at HOF
  rw [hs] at HLN
  have HFD := Lib.hid (fun w' (hk : Kept [] w w') => find_any d N q S w' (h.kept hk (by simp) (by simp)) hs hok hw hF)
  unfold layW at HOF HFD
  obtain ⟨D, hD⟩ : ∃ D : Int, ((233 + q : Nat) : Int) = D := ⟨_, rfl⟩
  obtain ⟨E, hE⟩ : ∃ E : Int, ((201 + q : Nat) : Int) = E := ⟨_, rfl⟩
  rw [hD, hE] at HOF HFD
  obtain ⟨gc, hgc⟩ : ∃ gc, w.heap.size = gc := ⟨_, rfl⟩
  have HGC := Lib.hid hgc
  have HW1 := Lib.hid hw1
  rw [hgc] at HV1
  clear h hs hok hq hw hF hgc hw1 hD hE
  go_enter_defers Tryz.func12, Tryz.ntmps12
  go_wp2_with fail
  rw [HW1.out, HGC.out]
  refine HLN.out.mono ?_
  rintro e w2 ⟨rfl, rfl⟩
  go_wp2_with fail
  refine HOF.out.mono ?_
  rintro e w2 ⟨rfl, hk2⟩
  have hva := (HV1.out.go hk2).go (Kept.alloc [] w2 (.cells #[.int .i64 N, .int .i64 0, .int .i64 1, .int .i64 2, .int .i64 201, .int .i64 E, .int .i64 D, .int .i64 64] 60))
  have e0 := cell_of_row _ (gc + 1) 0 _ _ _ hva.e
  have fe := fun q => frozen_of_row _ (gc + 1) q _ _ hva.e
  obtain ⟨P, hP⟩ : ∃ P, w2.heap.size = P := ⟨_, rfl⟩
  obtain ⟨w3, hw3⟩ : ∃ w3, (w2.alloc (.cells #[.int .i64 N, .int .i64 0, .int .i64 1, .int .i64 2, .int .i64 201, .int .i64 E, .int .i64 D, .int .i64 64] 60)).setCell ⟨gc + 1, 0, none⟩ (.int .i64 0) = w3 := ⟨_, rfl⟩
  have hv3 := hva.setE (.int .i64 0)
  rw [hw3] at hv3
  have hgP : gc + 1 < P := by rw [← hP]; have h1 := hk2.size; have h2 := (Array.getElem?_eq_some_iff.1 HV1.out.e).1; omega
  have hP3 : w3.heap[P]? = some (.cells #[.int .i64 N, .int .i64 0, .int .i64 1, .int .i64 2, .int .i64 201, .int .i64 E, .int .i64 D, .int .i64 64] 60) := hv3.2.heap (by simp; omega) (by rw [← hP]; exact heap_alloc_last _ _)
  have HK3 : Hid (Kept [] w w3) := ((HK1.out.trans hk2).trans (Kept.alloc [] _ _)).into hv3.2 (by have := HGC.out; simp; omega)
  have HV3 : Hid (TwoV gc #[.pointer none] 29 (.int .i64 0) w3) := hv3.1
  have HW3 := Lib.hid hw3
  have HPS := Lib.hid hP
  have HSZ : Hid (gc + 1 < w3.heap.size) := (Array.getElem?_eq_some_iff.1 hv3.1.e).1
  have f0 : ((w2.alloc (.cells #[.int .i64 N, .int .i64 0, .int .i64 1, .int .i64 2, .int .i64 201, .int .i64 E, .int .i64 D, .int .i64 64] 60)).setCell ⟨gc + 1, 0, none⟩ (.int .i64 0)).cell? ⟨gc + 1, 0, none⟩ = some (.int .i64 0) := by rw [hw3]; exact cell_of_row _ _ 0 _ _ _ hv3.1.e
  have c0 : ((w2.alloc (.cells #[.int .i64 N, .int .i64 0, .int .i64 1, .int .i64 2, .int .i64 201, .int .i64 E, .int .i64 D, .int .i64 64] 60)).setCell ⟨gc + 1, 0, none⟩ (.int .i64 0)).cell? ⟨w2.heap.size, 0, none⟩ = some (.int .i64 N) := by rw [hw3, hP]; exact cell_of_row _ _ 0 _ _ _ hP3
  have c1 : ((w2.alloc (.cells #[.int .i64 N, .int .i64 0, .int .i64 1, .int .i64 2, .int .i64 201, .int .i64 E, .int .i64 D, .int .i64 64] 60)).setCell ⟨gc + 1, 0, none⟩ (.int .i64 0)).cell? ⟨w2.heap.size, 1, none⟩ = some (.int .i64 0) := by rw [hw3, hP]; exact cell_of_row _ _ 1 _ _ _ hP3
  have c2 : ((w2.alloc (.cells #[.int .i64 N, .int .i64 0, .int .i64 1, .int .i64 2, .int .i64 201, .int .i64 E, .int .i64 D, .int .i64 64] 60)).setCell ⟨gc + 1, 0, none⟩ (.int .i64 0)).cell? ⟨w2.heap.size, 2, none⟩ = some (.int .i64 1) := by rw [hw3, hP]; exact cell_of_row _ _ 2 _ _ _ hP3
  have c3 : ((w2.alloc (.cells #[.int .i64 N, .int .i64 0, .int .i64 1, .int .i64 2, .int .i64 201, .int .i64 E, .int .i64 D, .int .i64 64] 60)).setCell ⟨gc + 1, 0, none⟩ (.int .i64 0)).cell? ⟨w2.heap.size, 3, none⟩ = some (.int .i64 2) := by rw [hw3, hP]; exact cell_of_row _ _ 3 _ _ _ hP3
  have c4 : ((w2.alloc (.cells #[.int .i64 N, .int .i64 0, .int .i64 1, .int .i64 2, .int .i64 201, .int .i64 E, .int .i64 D, .int .i64 64] 60)).setCell ⟨gc + 1, 0, none⟩ (.int .i64 0)).cell? ⟨w2.heap.size, 4, none⟩ = some (.int .i64 201) := by rw [hw3, hP]; exact cell_of_row _ _ 4 _ _ _ hP3
  have c5 : ((w2.alloc (.cells #[.int .i64 N, .int .i64 0, .int .i64 1, .int .i64 2, .int .i64 201, .int .i64 E, .int .i64 D, .int .i64 64] 60)).setCell ⟨gc + 1, 0, none⟩ (.int .i64 0)).cell? ⟨w2.heap.size, 5, none⟩ = some (.int .i64 E) := by rw [hw3, hP]; exact cell_of_row _ _ 5 _ _ _ hP3
  have c6 : ((w2.alloc (.cells #[.int .i64 N, .int .i64 0, .int .i64 1, .int .i64 2, .int .i64 201, .int .i64 E, .int .i64 D, .int .i64 64] 60)).setCell ⟨gc + 1, 0, none⟩ (.int .i64 0)).cell? ⟨w2.heap.size, 6, none⟩ = some (.int .i64 D) := by rw [hw3, hP]; exact cell_of_row _ _ 6 _ _ _ hP3
  have c7 : ((w2.alloc (.cells #[.int .i64 N, .int .i64 0, .int .i64 1, .int .i64 2, .int .i64 201, .int .i64 E, .int .i64 D, .int .i64 64] 60)).setCell ⟨gc + 1, 0, none⟩ (.int .i64 0)).cell? ⟨w2.heap.size, 7, none⟩ = some (.int .i64 64) := by rw [hw3, hP]; exact cell_of_row _ _ 7 _ _ _ hP3
  clear hva hw3 hv3 hgP hP3 hP hk2
  go_wp2_with fail
  rw [HW3.out, HPS.out]
  refine (HFD.out w3 HK3.out).mono ?_
  rintro e w4 ⟨hk4, ⟨hne, rfl⟩ | ⟨f, j, a, ao, cap, rfl, H4⟩⟩
  · refine open_doorP gc _ _ _ _ (HV3.out.go hk4) rfl rfl (fun ww w' k1 k2 => ⟨?_, .inl ⟨hne, rfl⟩⟩)
    exact ((HK3.out.trans hk4).trans k1).into k2 (by have := HGC.out; simp; omega)
  · have hv4 := HV3.out.go hk4
    have HK4 := Lib.hid hk4
    have HV4 := Lib.hid hv4
    have x0 : w4.cell? ⟨gc, 0, none⟩ = some (.pointer none) := cell_of_row _ _ 0 _ _ _ hv4.c
    have x1 : w4.cell? ⟨gc + 1, 0, none⟩ = some (.int .i64 0) := cell_of_row _ _ 0 _ _ _ hv4.e
    have g0 : ∀ q, w4.frozen? ⟨gc, q, none⟩ = false := fun q => frozen_of_row _ _ q _ _ hv4.c
    have g1 : ∀ q, w4.frozen? ⟨gc + 1, q, none⟩ = false := fun q => frozen_of_row _ _ q _ _ hv4.e
    clear hk4 hv4 f0 c0 c1 c2 c3 c4 c5 c6 c7
    go_wp2_with fail
    have h5 := HV4.out.setC 0 (.pointer (some ⟨f, 0, none⟩))
    have h6 := h5.1.setE (.int .i64 0)
    refine open_door gc _ 0 _ _ _ h6.1 rfl rfl ⟨((HK3.out.trans HK4.out).into (h5.2.trans h6.2) (by have := HGC.out; simp; omega)), .inr ⟨f, j, a, ao, cap, rfl, _, H4.out.1.keptX (h5.2.trans h6.2) (fun b hb => ?_), ?_, ?_, ?_⟩⟩
    · have hlt := HSZ.out
      have hdl := HL0.out.disk.lt
      have hml := HL0.out.disk.map.lt
      have hg := HGC.out
      have hfj := H4.out.2
      refine ⟨fun cs fr hh => ?_, fun hh => ?_, ?_⟩
      · simp at hb
        rcases hb with rfl | rfl
        · rw [HV4.out.c] at hh; injection hh with hh; injection hh with _ hh; cases hh
        · rw [HV4.out.e] at hh; injection hh with hh; injection hh with _ hh; cases hh
      · have := (foot_mem H4.out.1.tree.ok H4.out.1.tree.own b hh).1
        simp at hb
        omega
      · simp at hb ⊢
        omega
    · exact HK3.out.size
    · have := HK3.out.size; have := H4.out.2.1; omega
    · have := HK3.out.size; have := H4.out.2.2; omega
end Go.Proofs.YtiedoocgbajjjaaGreatDoor

/-
  Layer 12: the program's Parse: what it panics with is caught by a deferred closure; ParC.
  Conditions: those that each theorem states.
-/
import Derived.Test.YtfpdgdacifiejaaGreatVDep
import Derived.Recover
import Derived.Defers
namespace Go.Proofs.YtfpdgdacifiejaaGreat
open Go.RowKit Go.Maps Go.Shelf

set_option maxRecDepth 100000 in
set_option maxHeartbeats 2000000 in
theorem ycaught_any (n : Nat) (w : World) : Calls Tryz.prog 18 #[.iface 66 (.agg #[.int .i64 (n : Int)])] w fun e w' => e = .returned (.tuple #[.int .i64 (n : Int), .int .i64 120]) ∧ Kept [] w w' := by
  have hta : ∀ w, (Instr.typeAssert (.iface 66 (.agg #[.int .i64 (n : Int)])) 20 66 true).run Tryz.prog w = .ok (.tuple #[.agg #[.int .i64 (n : Int)], .bool true]) w := fun _ => by kernel_rfl
  obtain ⟨w1, hw1⟩ : ∃ w1, w.alloc (.cells #[.int .i64 (n : Int)] 66) = w1 := ⟨_, rfl⟩
  have HA : Hid (Kept [] w w1) := by show Kept _ _ _; rw [← hw1]; exact Kept.alloc _ _ _
  have v0 : w1.cell? ⟨w.heap.size, 0, none⟩ = some (.int .i64 (n : Int)) := by rw [← hw1]; exact cell_of_row _ _ 0 _ _ _ (heap_alloc_last _ _)
  go_enter Tryz.func18, Tryz.ntmps18
  go_wp2_with fail
  go_ret2
  exact ⟨rfl, HA.out⟩

/-- The result's three variables. -/
structure ResY (g : Nat) (a b x : Value) (w : World) : Prop where
  a : w.heap[g]? = some (.cells #[a] 29)
  n : w.heap[g + 1]? = some (.cells #[b] 3)
  e : w.heap[g + 2]? = some (.cells #[x] 24)
theorem ResY.go {g : Nat} {a b x : Value} {w w' : World} {ex : List Nat} (h : ResY g a b x w) (hk : Kept ex w w') (h0 : g ∉ ex) (h1 : g + 1 ∉ ex) (h2 : g + 2 ∉ ex) : ResY g a b x w' := ⟨hk.heap h0 h.a, hk.heap h1 h.n, hk.heap h2 h.e⟩
/-- All three are set. -/
def setY (g : Nat) (a b x : Value) (w : World) : World := ((w.setCell ⟨g, 0, none⟩ a).setCell ⟨g + 1, 0, none⟩ b).setCell ⟨g + 2, 0, none⟩ x
theorem ResY.set {g : Nat} {a b x : Value} {w : World} (h : ResY g a b x w) (a' b' x' : Value) : ResY g a' b' x' (setY g a' b' x' w) ∧ Kept [g, g + 1, g + 2] w (setY g a' b' x' w) := by
  have k1 : Kept [g] w (w.setCell ⟨g, 0, none⟩ a') := Kept.setCell _ _ _ _ (by simp)
  have k2 : Kept [g + 1] (w.setCell ⟨g, 0, none⟩ a') ((w.setCell ⟨g, 0, none⟩ a').setCell ⟨g + 1, 0, none⟩ b') := Kept.setCell _ _ _ _ (by simp)
  have k3 : Kept [g + 2] ((w.setCell ⟨g, 0, none⟩ a').setCell ⟨g + 1, 0, none⟩ b') (setY g a' b' x' w) := Kept.setCell _ _ _ _ (by simp)
  refine ⟨⟨k3.heap (by simp) (k2.heap (by simp) (row_setJ h.a 0 a')), k3.heap (by simp) (row_setJ (k1.heap (by simp) h.n) 0 b'), row_setJ (k2.heap (by simp) (k1.heap (by simp) h.e)) 0 x'⟩, ((k1.mono (by simp)).trans (k2.mono (by simp))).trans (k3.mono (by simp))⟩
theorem ResY.set2 {g : Nat} {a b x : Value} {w : World} (h : ResY g a b x w) (b' x' : Value) : ResY g a b' x' ((w.setCell ⟨g + 1, 0, none⟩ b').setCell ⟨g + 2, 0, none⟩ x') ∧ Kept [g, g + 1, g + 2] w ((w.setCell ⟨g + 1, 0, none⟩ b').setCell ⟨g + 2, 0, none⟩ x') := by
  have k2 : Kept [g + 1] w (w.setCell ⟨g + 1, 0, none⟩ b') := Kept.setCell _ _ _ _ (by simp)
  have k3 : Kept [g + 2] (w.setCell ⟨g + 1, 0, none⟩ b') ((w.setCell ⟨g + 1, 0, none⟩ b').setCell ⟨g + 2, 0, none⟩ x') := Kept.setCell _ _ _ _ (by simp)
  refine ⟨⟨k3.heap (by simp) (k2.heap (by simp) h.a), k3.heap (by simp) (row_setJ h.n 0 b'), row_setJ (k2.heap (by simp) h.e) 0 x'⟩, (k2.mono (by simp)).trans (k3.mono (by simp))⟩

set_option maxRecDepth 100000 in
set_option maxHeartbeats 2000000 in
theorem yclo_panic (g n : Nat) (a b x : Value) (older : List PanicEntry) (w : World) (h : ResY g a b x w) :
    CallsD Tryz.prog 17 #[.pointer (some ⟨g + 1, 0, none⟩), .pointer (some ⟨g + 2, 0, none⟩)] (.panicking ({ v := .iface 66 (.agg #[.int .i64 (n : Int)]), recovered := false } :: older)) w fun e u' w' =>
      e = .returned (.tuple #[]) ∧ u' = .panicking ({ v := .iface 66 (.agg #[.int .i64 (n : Int)]), recovered := true } :: older) ∧ ResY g a (.int .i64 (n : Int)) (.int .i64 120) w' ∧ Kept [g, g + 1, g + 2] w w' := by
  have HH := Lib.hid h
  refine callsD_of_wpS Tryz.func17 rfl fun c₀ stk hu => ?_
  apply wpS_seq
  apply wpS_region
  simp [wpOpsS, go_sem, recoverD, hu, Tryz.ntmps17, Exit.thenS]
  apply wpS_of_wp
  change Code.wp _ _ _ { tmps := #[Value.pointer (some ⟨g + 1, 0, none⟩), Value.pointer (some ⟨g + 2, 0, none⟩), .iface 66 (.agg #[.int .i64 (n : Int)]), .iface 66 (.agg #[.int .i64 (n : Int)]), undef, undef, undef, undef, undef, undef, undef], defers := [] } w
  clear h hu
  go_wp2_with fail
  refine (ycaught_any n w).mono ?_
  rintro e w1 ⟨rfl, hk1⟩
  have h1 := HH.out.go hk1 (by simp) (by simp) (by simp)
  have HS := Lib.hid (h1.set2 (.int .i64 (n : Int)) (.int .i64 120))
  have HK := Lib.hid hk1
  have c1 : w1.cell? ⟨g + 1, 0, none⟩ = some b := cell_of_row _ _ 0 _ _ _ h1.n
  have c2 : w1.cell? ⟨g + 2, 0, none⟩ = some x := cell_of_row _ _ 0 _ _ _ h1.e
  have f1 : ∀ q, w1.frozen? ⟨g + 1, q, none⟩ = false := fun q => frozen_of_row _ _ q _ _ h1.n
  have f2 : ∀ q, w1.frozen? ⟨g + 2, q, none⟩ = false := fun q => frozen_of_row _ _ q _ _ h1.e
  clear h1 hk1
  go_wp2_with fail
  have hz := HS.out
  have hk := HK.out
  have hks := (hk.mono (ex' := [g, g + 1, g + 2]) (by simp)).trans hz.2
  simp [bodyPostS, results, Tryz.results17]
  exact ⟨hz.1, hks⟩
theorem yclo_idle (p q : Addr) (w : World) :
    CallsD Tryz.prog 17 #[.pointer (some p), .pointer (some q)] .returning w fun e u' w' => e = .returned (.tuple #[]) ∧ u' = .returning ∧ w' = w := by
  refine callsD_of_wpS Tryz.func17 rfl fun c₀ stk hu => ?_
  apply wpS_seq
  apply wpS_region
  simp [wpOpsS, go_sem, recoverD, hu, Tryz.ntmps17, Exit.thenS]
  apply wpS_of_wp
  change Code.wp _ _ _ { tmps := #[Value.pointer (some p), Value.pointer (some q), .nilIface, .nilIface, undef, undef, undef, undef, undef, undef, undef], defers := [] } w
  go_wp2_with fail
  cases c₀
  simp_all [bodyPostS, results, Tryz.results17]
theorem results_par {P : Program} {fn : Func} {p q r : Tmp} {t1 t2 t3 : TypeId} (h : fn.results = #[.cell p t1, .cell q t2, .cell r t3]) (tmps : Array Value) (w : World) (g k j : Nat) (t : TypeId) (cs : Array Value) (x y : Value) (d : TypeDesc)
    (hp : tmps.getD p undef = .pointer (some ⟨g, 0, none⟩)) (hq : tmps.getD q undef = .pointer (some ⟨k, 0, none⟩)) (hr : tmps.getD r undef = .pointer (some ⟨j, 0, none⟩)) (hg : w.heap[g]? = some (.cells cs t))
    (hu : P.underlying t1 = some d) (hd : d.isRow = true) (hi : (P.info? t1).map (·.size) = some cs.size) (hx : (loadVar t2 ⟨k, 0, none⟩).run P w = .ok x w) (hy : (loadVar t3 ⟨j, 0, none⟩).run P w = .ok y w) :
    (results fn tmps).run P w = .ok (.tuple #[.agg cs, x, y]) w := by
  have hl := run_loadVar_mid (P := P) w g 0 t1 cs.toList d (fun j v hv => by rw [Nat.zero_add, cell_of_row w g j _ _ _ hg]; simpa using hv) hu hd (by simpa using hi)
  have hp' : tmps[p]?.getD undef = .pointer (some ⟨g, 0, none⟩) := by simpa using hp
  have hq' : tmps[q]?.getD undef = .pointer (some ⟨k, 0, none⟩) := by simpa using hq
  have hr' : tmps[r]?.getD undef = .pointer (some ⟨j, 0, none⟩) := by simpa using hr
  simp [results, h, hp', hq', hr', asAddr, hl, hx, hy, Sem.run_bind, Result.andThen]
def ydoors (g : Nat) : List Deferred := [{ target := Target.fn (Fn.func 17) #[.pointer (some ⟨g + 1, 0, none⟩), .pointer (some ⟨g + 2, 0, none⟩)], args := #[] }]
theorem ResY.load {g : Nat} {a : Value} {m n : Int} {w : World} (h : ResY g a (.int .i64 m) (.int .i64 n) w) : (loadVar 3 ⟨g + 1, 0, none⟩).run Tryz.prog w = .ok (.int .i64 m) w ∧ (loadVar 24 ⟨g + 2, 0, none⟩).run Tryz.prog w = .ok (.int .i64 n) w := by
  have e1 : w.cell? ⟨g + 1, 0, none⟩ = some (.int .i64 m) := cell_of_row _ _ 0 _ _ _ h.n
  have e2 : w.cell? ⟨g + 2, 0, none⟩ = some (.int .i64 n) := cell_of_row _ _ 0 _ _ _ h.e
  exact ⟨by simp [loadVar, go_sem, e1], by simp [loadVar, go_sem, e2]⟩
theorem ydoor_ret (g : Nat) (a : Value) (m n : Int) (T : Array Value) (w : World) (R : Ending → World → Prop) (h : ResY g a (.int .i64 m) (.int .i64 n) w) (h2 : T.getD 2 undef = .pointer (some ⟨g, 0, none⟩)) (h3 : T.getD 3 undef = .pointer (some ⟨g + 1, 0, none⟩)) (h4 : T.getD 4 undef = .pointer (some ⟨g + 2, 0, none⟩))
    (hR : R (.returned (.tuple #[.agg #[a], .int .i64 m, .int .i64 n])) w) : bodyPostD Tryz.prog Tryz.f8 R Exit.ret { tmps := T, defers := ydoors g } w := by
  refine leaves_cons (f := 17) (args := #[.pointer (some ⟨g + 1, 0, none⟩), .pointer (some ⟨g + 2, 0, none⟩)]) (by simp) (by simp [go_sem]) ?_
  refine (yclo_idle ⟨g + 1, 0, none⟩ ⟨g + 2, 0, none⟩ _).mono ?_
  rintro e u' w'' ⟨rfl, rfl, rfl⟩
  exact ⟨_, results_par rfl T _ g (g + 1) (g + 2) 29 _ _ _ _ h2 h3 h4 h.a Tryz.underlying29 rfl (by kernel_rfl) h.load.1 h.load.2, hR⟩
theorem ydoor_panic (g k : Nat) (a b x : Value) (T : Array Value) (w : World) (R : Ending → World → Prop) (h : ResY g a b x w) (h2 : T.getD 2 undef = .pointer (some ⟨g, 0, none⟩)) (h3 : T.getD 3 undef = .pointer (some ⟨g + 1, 0, none⟩)) (h4 : T.getD 4 undef = .pointer (some ⟨g + 2, 0, none⟩))
    (hR : ∀ w', Kept [g, g + 1, g + 2] w w' → R (.returned (.tuple #[.agg #[a], .int .i64 (k : Int), .int .i64 120])) w') :
    bodyPostD Tryz.prog Tryz.f8 R (Exit.panic (refP k)) { tmps := T, defers := ydoors g } w := by
  refine leaves_cons (f := 17) (args := #[.pointer (some ⟨g + 1, 0, none⟩), .pointer (some ⟨g + 2, 0, none⟩)]) (by simp) (by simp [go_sem]) ?_
  refine (yclo_panic g k a b x [] w h).mono ?_
  rintro e u' w'' ⟨rfl, rfl, hs, hk⟩
  exact ⟨_, results_par rfl T _ g (g + 1) (g + 2) 29 _ _ _ _ h2 h3 h4 hs.a Tryz.underlying29 rfl (by kernel_rfl) hs.load.1 hs.load.2, hR _ hk⟩
end Go.Proofs.YtfpdgdacifiejaaGreat

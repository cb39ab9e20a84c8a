/-
  A statement whose order Go leaves open, walked by a plan: an operation that only reads is taken first; where one alone can come up it comes; where two can, both ways are walked.
  Conditions: those that the kernel reckons of the region's own list ('planMix'); the relation is reflexive and transitive.
  Layer 4: Stat, Read, List of a tree on a disk.
  Conditions: those that each theorem states.
-/
import Derived.Test.YtiedoocgbajjjaaGreatDoorTKit
import Derived.Test.YtiedoocgbajjjaaGreatDoorFAt
namespace Go.Proofs.YtiedoocgbajjjaaGreatDoor
open Go.RowKit Go.Maps
set_option maxRecDepth 100000

inductive Plan where
  | fin
  | take (k : Nat) (p : Plan)
  | one (k : Nat) (p : Plan)
  | two (k : Nat) (p : Plan) (j : Nat) (q : Plan)
def Plan.len : Plan → Nat
  | .fin => 0
  | .take _ p => p.len + 1
  | .one _ p => p.len + 1
  | .two _ p _ _ => p.len + 1

section
variable {P : Program} {ops : Array Oper} {Q : Exit → Act → World → Prop} {R : World → World → Prop} {md : Region.Mode}

def planMix (md : Region.Mode) (ops : Array Oper) : Plan → Array Bool → Bool
  | .fin, listed => (Region.ready md ops listed).isEmpty
  | .take k p, listed => decide (k < ops.size) && ((Region.ready md ops listed).contains k && Region.free md ops listed k && planMix md ops p (listed.setIfInBounds k true))
  | .one k p, listed => decide (k < ops.size) && (decide (Region.ready md ops listed = [k]) && planMix md ops p (listed.setIfInBounds k true))
  | .two k p j q, listed => decide (k < ops.size) && (decide (j < ops.size) && (decide (Region.ready md ops listed = [k, j]) && (decide (p.len = q.len) && (planMix md ops p (listed.setIfInBounds k true) && planMix md ops q (listed.setIfInBounds j true)))))

def wpP (P : Program) (ops : Array Oper) (Q : Exit → Act → World → Prop) (R : World → World → Prop) (l : List Oper) : Plan → Act → World → Prop
  | .fin, a, w => Q .normal a w
  | .take k p, a, w => ∃ v, YieldsIf P ops (R w) (l.getD k default) v a ∧ wpP P ops Q R l p (a.put (l.getD k default).dst v) w
  | .one k p, a, w => (if Region.wanted (l.getD k default) (yielded ops a.tmps) then (l.getD k default).wp P a w (fun a' w' => R w w' ∧ wpP P ops Q R l p a' w') Q else wpP P ops Q R l p (a.put (l.getD k default).dst undef) w)
  | .two k p j q, a, w => (if Region.wanted (l.getD k default) (yielded ops a.tmps) then (l.getD k default).wp P a w (fun a' w' => R w w' ∧ wpP P ops Q R l p a' w') Q else wpP P ops Q R l p (a.put (l.getD k default).dst undef) w) ∧
      (if Region.wanted (l.getD j default) (yielded ops a.tmps) then (l.getD j default).wp P a w (fun a' w' => R w w' ∧ wpP P ops Q R l q a' w') Q else wpP P ops Q R l q (a.put (l.getD j default).dst undef) w)

theorem wpP_fin {l : List Oper} {a : Act} {w : World} (h : Q .normal a w) : wpP P ops Q R l .fin a w := h
theorem wpP_take {l : List Oper} {k : Nat} {p : Plan} {a : Act} {w : World} (v : Value) (hw : Region.wanted (l.getD k default) (yielded ops a.tmps) = true)
    (hv : ∀ w', R w w' → (execOp a.eval (l.getD k default)).run P w' = .ok (.value v) w') (h : wpP P ops Q R l p (a.put (l.getD k default).dst v) w) : wpP P ops Q R l (.take k p) a w :=
  ⟨v, Or.inl ⟨hw, hv⟩, h⟩
theorem wpP_pass {l : List Oper} {k : Nat} {p : Plan} {a : Act} {w : World} (hw : Region.wanted (l.getD k default) (yielded ops a.tmps) = false)
    (h : wpP P ops Q R l p (a.put (l.getD k default).dst undef) w) : wpP P ops Q R l (.take k p) a w :=
  ⟨undef, Or.inr ⟨hw, rfl⟩, h⟩
theorem wpP_one {l : List Oper} {k : Nat} {p : Plan} {a : Act} {w : World} (hw : Region.wanted (l.getD k default) (yielded ops a.tmps) = true)
    (h : ∀ K : Act → World → Prop, (∀ a' w', R w w' → wpP P ops Q R l p a' w' → K a' w') → (l.getD k default).wp P a w K Q) : wpP P ops Q R l (.one k p) a w := by
  unfold wpP
  rw [if_pos hw]
  exact h _ fun a' w' h1 h2 => ⟨h1, h2⟩
theorem wpP_skip {l : List Oper} {k : Nat} {p : Plan} {a : Act} {w : World} (hw : Region.wanted (l.getD k default) (yielded ops a.tmps) = false)
    (h : wpP P ops Q R l p (a.put (l.getD k default).dst undef) w) : wpP P ops Q R l (.one k p) a w := by
  unfold wpP
  rw [if_neg (by rw [hw]; exact Bool.false_ne_true)]
  exact h
theorem wpP_two {l : List Oper} {k j : Nat} {p q : Plan} {a : Act} {w : World} (h1 : wpP P ops Q R l (.one k p) a w) (h2 : wpP P ops Q R l (.one j q) a w) : wpP P ops Q R l (.two k p j q) a w := by
  unfold wpP at h1 h2 ⊢
  exact ⟨h1, h2⟩

theorem wpAnyH_of_plan (hrf : ∀ w, R w w) (htr : ∀ a b c, R a b → R b c → R a c) (hs : Region.noSelect ops = true) (hQ : ∀ c a d v w, Q (.panic c) (Act.put a d v) w → Q (.panic c) a w) :
    ∀ (p : Plan) (listed : Array Bool) (a : Act) (w : World), planMix md ops p listed = true → wpP P ops Q R ops.toList p a w → wpAnyH P md ops Q (R w) p.len listed a w
  | .fin, listed, a, w, hB, h => by
    have hr : Region.ready md ops listed = [] := by simpa [planMix] using hB
    exact wpAnyH_done hr h _
  | .take k p, listed, a, w, hB, h => by
    simp only [planMix, Bool.and_eq_true, decide_eq_true_eq] at hB
    obtain ⟨hk, ⟨hr, hf⟩, hB'⟩ := hB
    have h0 : ops[k]? = some (ops.toList.getD k default) := by simp [hk]
    obtain ⟨v, hy, hK⟩ := h
    exact wpAnyH_take h0 hs hf hr (fun c a w hh => hQ c a _ _ w hh) hy (hrf _) (wpAnyH_of_plan hrf htr hs hQ p _ _ w hB' hK)
  | .one k p, listed, a, w, hB, h => by
    simp only [planMix, Bool.and_eq_true, decide_eq_true_eq] at hB
    obtain ⟨hk, hr, hB'⟩ := hB
    have h0 : ops[k]? = some (ops.toList.getD k default) := by simp [hk]
    refine wpAnyH_all hr (by simp) fun i hi => ?_
    obtain rfl : i = k := by simpa using hi
    unfold wpP at h
    unfold wpOp
    simp only [h0]
    by_cases hw : Region.wanted (ops.toList.getD i default) (yielded ops a.tmps) = true
    · rw [if_pos hw] at h ⊢
      refine .inl (Oper.wp_mono (fun a' w' hh => ⟨hh.1, ?_⟩) h)
      exact wpAnyH_mono (fun w'' h2 => htr _ _ _ hh.1 h2) _ _ _ _ (wpAnyH_of_plan hrf htr hs hQ p _ a' w' hB' hh.2)
    · rw [if_neg hw] at h ⊢
      exact ⟨hrf _, wpAnyH_of_plan hrf htr hs hQ p _ _ w hB' h⟩
  | .two k p j q, listed, a, w, hB, h => by
    simp only [planMix, Bool.and_eq_true, decide_eq_true_eq] at hB
    obtain ⟨hk, hj, hr, hl, hB1, hB2⟩ := hB
    have h0 : ops[k]? = some (ops.toList.getD k default) := by simp [hk]
    have h1 : ops[j]? = some (ops.toList.getD j default) := by simp [hj]
    refine wpAnyH_all hr (by simp) fun i hi => ?_
    unfold wpP at h
    have hi' : i = k ∨ i = j := by simpa using hi
    rcases hi' with rfl | rfl
    · have h := h.1
      unfold wpOp
      simp only [h0]
      by_cases hw : Region.wanted (ops.toList.getD i default) (yielded ops a.tmps) = true
      · rw [if_pos hw] at h ⊢
        refine .inl (Oper.wp_mono (fun a' w' hh => ⟨hh.1, ?_⟩) h)
        exact wpAnyH_mono (fun w'' h2 => htr _ _ _ hh.1 h2) _ _ _ _ (wpAnyH_of_plan hrf htr hs hQ p _ a' w' hB1 hh.2)
      · rw [if_neg hw] at h ⊢
        exact ⟨hrf _, wpAnyH_of_plan hrf htr hs hQ p _ _ w hB1 h⟩
    · have h := h.2
      unfold wpOp
      simp only [h1]
      rw [hl]
      by_cases hw : Region.wanted (ops.toList.getD i default) (yielded ops a.tmps) = true
      · rw [if_pos hw] at h ⊢
        refine .inl (Oper.wp_mono (fun a' w' hh => ⟨hh.1, ?_⟩) h)
        exact wpAnyH_mono (fun w'' h2 => htr _ _ _ hh.1 h2) _ _ _ _ (wpAnyH_of_plan hrf htr hs hQ q _ a' w' hB2 hh.2)
      · rw [if_neg hw] at h ⊢
        exact ⟨hrf _, wpAnyH_of_plan hrf htr hs hQ q _ _ w hB2 h⟩

/-- THE BEGINNING. -/
theorem wp_region_plan {id : Nat} {a : Act} {w : World} {l : List Oper} (p : Plan) (hrf : ∀ w, R w w) (htr : ∀ a b c, R a b → R b c → R a c) (hm : P.follows .mixedOrders = true) (hQ : ∀ c a d v w, Q (.panic c) (Act.put a d v) w → Q (.panic c) a w)
    (hn : Region.noSelect l.toArray = true) (hk : p.len = l.length) (hB : planMix .any l.toArray p (Array.replicate l.toArray.size false) = true)
    (h : wpP P l.toArray Q R l p a w.drew) : (Code.region id l.toArray true).wp P Q a w := by
  have := wpAnyH_of_plan hrf htr (md := .any) hn hQ p _ a w.drew hB h
  rw [hk] at this
  refine wp_region_held (S := R w.drew) hm ?_
  exact this
end
end Go.Proofs.YtiedoocgbajjjaaGreatDoor

namespace Go.Proofs.YtiedoocgbajjjaaGreatDoor
open Go.RowKit Go.Maps
set_option maxRecDepth 100000

def doors2 (f gc : Nat) : List Deferred := [{ target := Target.fn (Fn.func f) #[.pointer (some ⟨gc, 0, none⟩), .pointer (some ⟨gc + 1, 0, none⟩)], args := #[] }]
set_option maxRecDepth 100000 in
set_option maxHeartbeats 2000000 in
theorem stat_idle (p q : Addr) (w : World) :
    CallsD Tryz.prog 55 #[.pointer (some p), .pointer (some q)] .returning w fun e u' w' => e = .returned (.tuple #[]) ∧ u' = .returning ∧ w' = w := by
  refine callsD_of_wpS Tryz.func55 rfl fun c₀ stk hu => ?_
  apply wpS_seq
  apply wpS_region
  simp [wpOpsS, go_sem, recoverD, hu, Tryz.ntmps55, Exit.thenS]
  apply wpS_of_wp
  change Code.wp _ _ _ { tmps := #[Value.pointer (some p), Value.pointer (some q), .nilIface, .nilIface, undef, undef, undef, undef, undef], defers := [] } w
  go_wp2_with fail
  cases c₀
  simp_all [bodyPostS, results, Tryz.results55]
set_option maxRecDepth 100000 in
set_option maxHeartbeats 2000000 in
theorem read_idle (p q : Addr) (w : World) :
    CallsD Tryz.prog 57 #[.pointer (some p), .pointer (some q)] .returning w fun e u' w' => e = .returned (.tuple #[]) ∧ u' = .returning ∧ w' = w := by
  refine callsD_of_wpS Tryz.func57 rfl fun c₀ stk hu => ?_
  apply wpS_seq
  apply wpS_region
  simp [wpOpsS, go_sem, recoverD, hu, Tryz.ntmps57, Exit.thenS]
  apply wpS_of_wp
  change Code.wp _ _ _ { tmps := #[Value.pointer (some p), Value.pointer (some q), .nilIface, .nilIface, undef, undef, undef, undef], defers := [] } w
  go_wp2_with fail
  cases c₀
  simp_all [bodyPostS, results, Tryz.results57]
set_option maxRecDepth 100000 in
set_option maxHeartbeats 2000000 in
theorem list_idle (p q : Addr) (w : World) :
    CallsD Tryz.prog 52 #[.pointer (some p), .pointer (some q)] .returning w fun e u' w' => e = .returned (.tuple #[]) ∧ u' = .returning ∧ w' = w := by
  refine callsD_of_wpS Tryz.func52 rfl fun c₀ stk hu => ?_
  apply wpS_seq
  apply wpS_region
  simp [wpOpsS, go_sem, recoverD, hu, Tryz.ntmps52, Exit.thenS]
  apply wpS_of_wp
  change Code.wp _ _ _ { tmps := #[Value.pointer (some p), Value.pointer (some q), .nilIface, .nilIface, undef, undef, undef, undef], defers := [] } w
  go_wp2_with fail
  cases c₀
  simp_all [bodyPostS, results, Tryz.results52]
theorem stat_door (gc : Nat) (a b c : Value) (n : Int) (T : Array Value) (w : World) (R : Ending → World → Prop) (h : TwoV gc #[a, b, c] 48 (.int .i64 n) w) (h2 : T.getD 4 undef = .pointer (some ⟨gc, 0, none⟩)) (h3 : T.getD 5 undef = .pointer (some ⟨gc + 1, 0, none⟩))
    (hR : R (.returned (.tuple #[.agg #[a, b, c], .int .i64 n])) w) : bodyPostD Tryz.prog Tryz.f20 R Exit.ret { tmps := T, defers := doors2 55 gc } w := by
  refine leaves_cons (f := 55) (args := #[.pointer (some ⟨gc, 0, none⟩), .pointer (some ⟨gc + 1, 0, none⟩)]) (by simp) (by simp [go_sem]) ?_
  refine (stat_idle ⟨gc, 0, none⟩ ⟨gc + 1, 0, none⟩ _).mono ?_
  rintro e u' w'' ⟨rfl, rfl, rfl⟩
  exact ⟨_, results_twoV rfl T _ gc (gc + 1) _ _ h2 h3 h.loadN h.loadE, hR⟩
theorem read_door (gc : Nat) (v : Value) (n : Int) (T : Array Value) (w : World) (R : Ending → World → Prop) (h : TwoV gc #[v] 22 (.int .i64 n) w) (h2 : T.getD 4 undef = .pointer (some ⟨gc, 0, none⟩)) (h3 : T.getD 5 undef = .pointer (some ⟨gc + 1, 0, none⟩))
    (hR : R (.returned (.tuple #[v, .int .i64 n])) w) : bodyPostD Tryz.prog Tryz.f22 R Exit.ret { tmps := T, defers := doors2 57 gc } w := by
  refine leaves_cons (f := 57) (args := #[.pointer (some ⟨gc, 0, none⟩), .pointer (some ⟨gc + 1, 0, none⟩)]) (by simp) (by simp [go_sem]) ?_
  refine (read_idle ⟨gc, 0, none⟩ ⟨gc + 1, 0, none⟩ _).mono ?_
  rintro e u' w'' ⟨rfl, rfl, rfl⟩
  exact ⟨_, results_twoV rfl T _ gc (gc + 1) _ _ h2 h3 h.loadB h.loadE, hR⟩
theorem list_door (gc : Nat) (v : Value) (n : Int) (T : Array Value) (w : World) (R : Ending → World → Prop) (h : TwoV gc #[v] 44 (.int .i64 n) w) (h2 : T.getD 4 undef = .pointer (some ⟨gc, 0, none⟩)) (h3 : T.getD 5 undef = .pointer (some ⟨gc + 1, 0, none⟩))
    (hR : R (.returned (.tuple #[v, .int .i64 n])) w) : bodyPostD Tryz.prog Tryz.f19 R Exit.ret { tmps := T, defers := doors2 52 gc } w := by
  refine leaves_cons (f := 52) (args := #[.pointer (some ⟨gc, 0, none⟩), .pointer (some ⟨gc + 1, 0, none⟩)]) (by simp) (by simp [go_sem]) ?_
  refine (list_idle ⟨gc, 0, none⟩ ⟨gc + 1, 0, none⟩ _).mono ?_
  rintro e u' w'' ⟨rfl, rfl, rfl⟩
  exact ⟨_, results_twoV rfl T _ gc (gc + 1) _ _ h2 h3 h.loadS h.loadE, hR⟩

/-- What Stat answers. -/
def PTr.sizeP : PTr → Nat
  | .node r ks => if r.kind = 2 then ks.len else r.bytes.length
def statV (o : Option PTr) : Value := match o with
  | none => .agg #[.int .i64 0, .int .i64 0, .int .i64 0]
  | some u => .agg #[.int .i64 u.rc.kind, .int .i64 u.rc.mode, .int .i64 (u.sizeP : Int)]

theorem fol_fine : ∀ (ns : List (List UInt8)) {t u : PTr}, t.fine → (folP t ns).2 = some u → u.fine
  | [], t, u, h, hf => by
    simp only [folP, Option.some.injEq] at hf
    rw [← hf]; exact h
  | s :: l, .node r ks, u, h, hf => by
    simp only [folP] at hf
    split at hf
    · split at hf
      · rename_i x hg
        exact fol_fine l (fine_get h.2.2.2 hg) hf
      · cases hf
    · cases hf
theorem size_er (t : ATr) : t.er.sizeP = t.size := by
  obtain ⟨a, m, va, vb, r, ks⟩ := t
  simp only [ATr.er, PTr.sizeP, ATr.size, er_len]
/-- Where a path leads. -/
inductive AtOut (base : Nat) (w : World) (t : ATr) (path : List UInt8) : Prop where
  | no (c : Int) (h : atA t path = (c, none)) (hc : c ≠ 0) (hp : atP t.er path = (c, none))
  | yes (u : ATr) (h : atA t path = (0, some u)) (hu : MTr base w u) (hf : u.er.fine) (hp : atP t.er path = (0, some u.er))
theorem at_out {base : Nat} {w : World} {t : ATr} (path : List UInt8) (h : MTr base w t) (hf : t.er.fine) : AtOut base w t path := by
  have he := at_er t path
  cases hp : pathO path with
  | none =>
    have hA : atA t path = (40, none) := by unfold atA; rw [hp]
    exact .no 40 hA (by decide) (by rw [he, hA]; rfl)
  | some ns =>
    have hA : atA t path = fol t ns := by unfold atA; rw [hp]
    rcases fol_code ns t with ⟨h0, u, hu⟩ | ⟨h0, hn⟩
    · have hx : atA t path = (0, some u) := by rw [hA]; exact Prod.ext h0 hu
      have h2 : atP t.er path = (0, some u.er) := by rw [he, hx]; rfl
      refine .yes u hx (fol_mtr ns h hu) (fol_fine ns hf ?_) h2
      have h3 : atP t.er path = folP t.er ns := by unfold atP; rw [hp]
      rw [← h3, h2]
    · have hx : atA t path = ((fol t ns).1, none) := by rw [hA]; exact Prod.ext rfl hn
      exact .no _ hx h0 (by rw [he, hx]; rfl)

theorem TwoV.drew {gc : Nat} {V : Array Value} {ty : TypeId} {x : Value} {w : World} (h : TwoV gc V ty x w) : TwoV gc V ty x w.drew := h.go (Kept.drew [] _)
/-- Three cells are set. -/
def set3 (gc : Nat) (a b c : Value) (w : World) : World := ((w.setCell ⟨gc, 0, none⟩ a).setCell ⟨gc, 1, none⟩ b).setCell ⟨gc, 2, none⟩ c
theorem TwoV.set3 {gc : Nat} {a b c x : Value} {ty : TypeId} {w : World} (h : TwoV gc #[a, b, c] ty x w) (a' b' c' : Value) : TwoV gc #[a', b', c'] ty x (set3 gc a' b' c' w) ∧ Kept [gc] w (set3 gc a' b' c' w) := by
  have h1 := (((h.setC 0 a').1.setC 1 b').1.setC 2 c').1
  refine ⟨h1, ?_⟩
  have hk1 : ∀ (w : World) (q : Nat) (v : Value), Kept [gc] w (w.setCell ⟨gc, q, none⟩ v) := fun w q v => Kept.setCell _ _ _ _ (by simp)
  exact ((hk1 w 0 a').trans (hk1 _ 1 b')).trans (hk1 _ 2 c')
set_option maxRecDepth 100000 in
set_option maxHeartbeats 4000000 in
theorem fStat_any (f d j N q g base : Nat) (S : DiskS) (t : ATr) (w : World) (h : FsIs w f d j N q g base S t) (path : List UInt8) (hp : path.length ≤ 9223372036854775807) :
    Calls Tryz.prog 20 #[.pointer (some ⟨f, 0, none⟩), .string (strL path)] w fun e w' => e = .returned (.tuple #[statV (atP t.er path).2, .int .i64 (atP t.er path).1]) ∧ Kept [] w w' := by
  have hmf : ∀ (fn : Fn) (first cap : Array Value) (w : World), (Instr.makeFunc fn first cap).run Tryz.prog w = .ok (.func fn first cap) w := fun _ _ _ _ => rfl
  obtain ⟨w1, hw1⟩ : ∃ w1, (w.alloc (.cells #[.int .i64 0, .int .i64 0, .int .i64 0] 48)).alloc (.cells #[.int .i64 0] 25) = w1 := ⟨_, rfl⟩
  have HK1 : Hid (Kept [] w w1) := by show Kept _ _ _; rw [← hw1]; exact (Kept.alloc [] _ _).trans (Kept.alloc [] _ _)
  have HV1 : Hid (TwoV w.heap.size #[.int .i64 0, .int .i64 0, .int .i64 0] 48 (.int .i64 0) w1) := by
    rw [← hw1]
    exact ⟨(Kept.alloc [] _ _).heap (by simp) (heap_alloc_last _ _), by rw [← size_alloc]; exact heap_alloc_last _ _⟩
  have hf1 := h.kept HK1.out
  have HB := Lib.hid (bat_any base t path w1 hf1.tree hp)
  have HA := Lib.hid (at_out path h.tree h.st.fine)
  have HTR := Lib.hid (And.intro hf1.tree (hf1.row))
  have HW1 := Lib.hid hw1
  obtain ⟨gc, hgc⟩ : ∃ gc, w.heap.size = gc := ⟨_, rfl⟩
  have HGC := Lib.hid hgc
  rw [hgc] at HV1
  have HOUT : Hid (∀ (wz : World) (a b c : Value) (n : Int), TwoV gc #[a, b, c] 48 (.int .i64 n) wz → (∃ ww, Kept [] w ww ∧ Kept [gc, gc + 1] ww wz) → statV (atP t.er path).2 = .agg #[a, b, c] → (atP t.er path).1 = n → ∀ T : Array Value, T.getD 4 undef = .pointer (some ⟨gc, 0, none⟩) → T.getD 5 undef = .pointer (some ⟨gc + 1, 0, none⟩) →
      bodyPostD Tryz.prog Tryz.f20 (fun e w' => e = .returned (.tuple #[statV (atP t.er path).2, .int .i64 (atP t.er path).1]) ∧ Kept [] w w') Exit.ret { tmps := T, defers := doors2 55 gc } wz) := by
    rintro wz a b c n h1 ⟨ww, h2, h3⟩ h4 h5 T h6 h7
    refine stat_door gc a b c n T wz _ h1 h6 h7 ⟨by rw [h4, h5], h2.into h3 (fun q hq => by simp at hq; omega)⟩
  clear h hw1 hgc hf1 hp
  go_enter_defers Tryz.func20, Tryz.ntmps20
  go_wp2_with fail
  rw [HW1.out, HGC.out]
  refine (ftree_any f d j N q t w1 HTR.out.2).mono ?_
  rintro e w2 ⟨rfl, rfl⟩
  go_wp2_with fail
  refine HB.out.mono ?_
  rintro e w2 ⟨rfl, hk2⟩
  have hv2 := HV1.out.go hk2
  have e0 : w2.cell? ⟨gc + 1, 0, none⟩ = some (.int .i64 0) := cell_of_row _ _ 0 _ _ _ hv2.e
  have fe2 : ∀ q, w2.frozen? ⟨gc + 1, q, none⟩ = false := fun q => frozen_of_row _ _ q _ _ hv2.e
  cases HA.out with
  | no c hat hc hap =>
    have hcb : (c != 0) = true := by simpa using hc
    rw [hat]
    obtain ⟨w3, hw3⟩ : ∃ w3, w2.setCell ⟨gc + 1, 0, none⟩ (.int .i64 c) = w3 := ⟨_, rfl⟩
    have hv3 := hv2.setE (.int .i64 c)
    rw [hw3] at hv3
    have HV3 := Lib.hid (And.intro hv3 (And.intro (HK1.out.trans hk2) hap))
    have HW3 := Lib.hid hw3
    have f0 : w3.cell? ⟨gc + 1, 0, none⟩ = some (.int .i64 c) := cell_of_row _ _ 0 _ _ _ hv3.1.e
    have ff : ∀ q, w3.frozen? ⟨gc + 1, q, none⟩ = false := fun q => frozen_of_row _ _ q _ _ hv3.1.e
    have f1 : w3.cell? ⟨gc, 0, none⟩ = some (.int .i64 0) := cell_of_row _ _ 0 _ _ _ hv3.1.c
    have f2 : w3.cell? ⟨gc, 1, none⟩ = some (.int .i64 0) := cell_of_row _ _ 1 _ _ _ hv3.1.c
    have f3 : w3.cell? ⟨gc, 2, none⟩ = some (.int .i64 0) := cell_of_row _ _ 2 _ _ _ hv3.1.c
    have fg : ∀ q, w3.frozen? ⟨gc, q, none⟩ = false := fun q => frozen_of_row _ _ q _ _ hv3.1.c
    clear hk2 hv2 hw3 hv3 hap hat hc
    go_wp2_with fail
    rw [HW3.out]
    go_wp2_with fail
    go_region
    obtain ⟨w4, hw4⟩ : ∃ w4, set3 gc (.int .i64 0) (.int .i64 0) (.int .i64 0) w3 = w4 := ⟨_, rfl⟩
    have HW4 := Lib.hid hw4
    unfold set3 at hw4
    rw [hw4]
    clear hw4
    go_wp2_with fail
    have h4 := HV3.out.1.1.set3 (.int .i64 0) (.int .i64 0) (.int .i64 0)
    rw [HW4.out] at h4
    refine HOUT.out _ _ _ _ c (h4.1.setE (.int .i64 c)).1.drew ⟨w2, HV3.out.2.1, ?_⟩ (by rw [HV3.out.2.2]; rfl) (by rw [HV3.out.2.2]) _ rfl rfl
    exact ((HV3.out.1.2.trans (h4.2.mono (by simp))).trans (h4.1.setE _).2).trans (Kept.drew _ _)
  | yes u hat hu hfu hap =>
    rw [hat]
    have hpt : ptrO (((0 : Int), some u) : Int × Option ATr).2 = .pointer (some ⟨u.addr, 0, none⟩) := rfl
    rw [hpt]
    clear hpt
    obtain ⟨w3, hw3⟩ : ∃ w3, w2.setCell ⟨gc + 1, 0, none⟩ (.int .i64 0) = w3 := ⟨_, rfl⟩
    have hv3 := hv2.setE (.int .i64 0)
    rw [hw3] at hv3
    have HV3 := Lib.hid (And.intro hv3 (And.intro (HK1.out.trans hk2) hap))
    have HW3 := Lib.hid hw3
    have f0 : w3.cell? ⟨gc + 1, 0, none⟩ = some (.int .i64 0) := cell_of_row _ _ 0 _ _ _ hv3.1.e
    obtain ⟨m, va, vb, hrow, _, _, _, _⟩ := hu.ok.row
    have hnb : NoBytes w2 gc ∧ NoBytes w2 (gc + 1) := ⟨fun cs fr hh => (by rw [hv2.c] at hh; injection hh with hh; injection hh with _ hh; cases hh), fun cs fr hh => (by rw [hv2.e] at hh; injection hh with hh; injection hh with _ hh; cases hh)⟩
    have hM3 : MTr base w3 u := (hu.frame (HK1.out.trans hk2) (by simp)).frame hv3.2 (fun b hb => by
      have hbn : b ∉ u.foot := fun hh => by
        have h1 := (foot_mem hu.ok hu.own b hh).2.1
        have h4 := HGC.out
        simp at hb
        omega
      simp at hb
      rcases hb with rfl | rfl
      · exact ⟨hnb.1, hbn⟩
      · exact ⟨hnb.2, hbn⟩)
    obtain ⟨m, va, vb, hrow, _, _, _, _⟩ := hM3.ok.row
    have k0 : w3.cell? ⟨u.addr, 0, none⟩ = some (.int .i64 u.rc.kind) := cell_of_row _ _ 0 _ _ _ hrow
    have k1 : w3.cell? ⟨u.addr, 1, none⟩ = some (.int .i64 u.rc.mode) := cell_of_row _ _ 1 _ _ _ hrow
    have HSZ : Hid (∀ w', Kept [] w3 w' → Calls Tryz.prog 56 #[.pointer (some ⟨u.addr, 0, none⟩)] w' fun e w2 => e = .returned (.int .i64 (u.size : Int)) ∧ w' = w2) := fun w' hk => nsize_any u w' (hM3.ok.kept hk) (by have := (fine_small hfu); have := (ATr.small_ks this).1; omega)
    have f1 : w3.cell? ⟨gc, 0, none⟩ = some (.int .i64 0) := cell_of_row _ _ 0 _ _ _ hv3.1.c
    have f2 : w3.cell? ⟨gc, 1, none⟩ = some (.int .i64 0) := cell_of_row _ _ 1 _ _ _ hv3.1.c
    have f3 : w3.cell? ⟨gc, 2, none⟩ = some (.int .i64 0) := cell_of_row _ _ 2 _ _ _ hv3.1.c
    have fg : ∀ q, w3.frozen? ⟨gc, q, none⟩ = false := fun q => frozen_of_row _ _ q _ _ hv3.1.c
    have ff : ∀ q, w3.frozen? ⟨gc + 1, q, none⟩ = false := fun q => frozen_of_row _ _ q _ _ hv3.1.e
    obtain ⟨x0, hx0⟩ : ∃ x, u.rc.kind = x := ⟨_, rfl⟩
    obtain ⟨x1, hx1⟩ : ∃ x, u.rc.mode = x := ⟨_, rfl⟩
    obtain ⟨x2, hx2⟩ : ∃ x, (u.size : Int) = x := ⟨_, rfl⟩
    rw [hx0] at k0
    rw [hx1] at k1
    rw [hx2] at HSZ
    have HX := Lib.hid (And.intro hx0 (And.intro hx1 hx2))
    clear hk2 hv2 hw3 hv3 hap hat hM3 hrow hx0 hx1 hx2 hu hfu hnb
    go_wp2_with fail
    rw [HW3.out]
    go_wp2_with fail
    refine wp_region_still_tail 11 (by kernel_rfl) (by kernel_rfl) ?_
    simp only [List.take_succ_cons, List.take_zero, List.drop_succ_cons, List.drop_zero]
    still_step
    still_step
    still_step
    still_step
    still_step
    still_step
    still_step
    still_step
    still_step
    still_call ((HSZ.out _ (Kept.drew _ _)).mono (fun e w9 hh => ⟨hh.1, hh.2.symm⟩))
    still_step
    refine wpStill_nil ?_
    change wpList _ _ _ _ _ w3.drew
    clear k0 k1 f0 f1 f2 f3 fg ff
    obtain ⟨wd, hwd⟩ : ∃ wd, w3.drew = wd := ⟨_, rfl⟩
    have hvd := HV3.out.1.1.drew
    rw [hwd] at hvd
    rw [hwd]
    have f1 : wd.cell? ⟨gc, 0, none⟩ = some (.int .i64 0) := cell_of_row _ _ 0 _ _ _ hvd.c
    have f2 : wd.cell? ⟨gc, 1, none⟩ = some (.int .i64 0) := cell_of_row _ _ 1 _ _ _ hvd.c
    have f3 : wd.cell? ⟨gc, 2, none⟩ = some (.int .i64 0) := cell_of_row _ _ 2 _ _ _ hvd.c
    have fg : ∀ q, wd.frozen? ⟨gc, q, none⟩ = false := fun q => frozen_of_row _ _ q _ _ hvd.c
    have h4 := hvd.set3 (.int .i64 x0) (.int .i64 x1) (.int .i64 x2)
    unfold set3 at h4
    have e4 : (((wd.setCell ⟨gc, 0, none⟩ (.int .i64 x0)).setCell ⟨gc, 1, none⟩ (.int .i64 x1)).setCell ⟨gc, 2, none⟩ (.int .i64 x2)).cell? ⟨gc + 1, 0, none⟩ = some (.int .i64 0) := cell_of_row _ _ 0 _ _ _ h4.1.e
    have g4 : ∀ q, (((wd.setCell ⟨gc, 0, none⟩ (.int .i64 x0)).setCell ⟨gc, 1, none⟩ (.int .i64 x1)).setCell ⟨gc, 2, none⟩ (.int .i64 x2)).frozen? ⟨gc + 1, q, none⟩ = false := fun q => frozen_of_row _ _ q _ _ h4.1.e
    have H4 := Lib.hid h4
    have HWD := Lib.hid hwd
    clear h4 hvd hwd
    go_wp2_with fail
    refine HOUT.out _ _ _ _ 0 (H4.out.1.setE (.int .i64 0)).1 ⟨w2, HV3.out.2.1, ?_⟩ (by rw [HV3.out.2.2]; simp only [statV, size_er, HX.out.2.2, ← HX.out.1, ← HX.out.2.1, er_rc]) (by rw [HV3.out.2.2]) _ rfl rfl
    exact ((HV3.out.1.2.trans (show Kept _ w3 wd from HWD.out ▸ Kept.drew _ _)).trans (H4.out.2.mono (by simp))).trans (H4.out.1.setE _).2
end Go.Proofs.YtiedoocgbajjjaaGreatDoor

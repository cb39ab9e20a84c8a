/-
  Layer 8: the program's Order.
  Conditions: those that each theorem states.
-/
import Derived.Test.YtpdngekolhcndaaGRound
namespace Go.Proofs.Ytpdngekolhcndaa
open Go.RowKit Go.Maps

/-- What Order answers: the order, and what is wrong. -/
def ordL (n : Int) (L : List Edg) : List Nat := if GOk n L then (ordO n.toNat (adjL L)).getD [] else []
def ordE (n : Int) (L : List Edg) : Int := if GOk n L then (if (ordO n.toNat (adjL L)).isSome then 0 else 80) else 1
def OrderOut (n : Int) (L : List Edg) (w : World) (e : Ending) (w' : World) : Prop :=
  ∃ vo vc c, e = .returned (.tuple #[vo, vc, .int .i64 (ordE n L)]) ∧ Hid (NsIs w' vo (ordL n L) ∧ NsIs w' vc c ∧ (ordE n L ≠ 80 → c = []) ∧ (ordE n L = 80 → Cyc (adjL L) c ∧ ∀ i ∈ c, i < n.toNat) ∧ Kept [] w w')
theorem OrderOut.bad {n : Int} {L : List Edg} {w w' : World} (h : ¬ GOk n L) (hk : Kept [] w w') : OrderOut n L w (.returned (.tuple #[.slice none 0 0, .slice none 0 0, .int .i64 1])) w' := by
  have e1 : ordE n L = 1 := by unfold ordE; rw [if_neg h]
  have e2 : ordL n L = [] := by unfold ordL; rw [if_neg h]
  refine ⟨_, _, [], by rw [e1], by rw [e2]; exact NsIs.nil _, NsIs.nil _, fun _ => rfl, fun g => ?_, hk⟩
  rw [e1] at g; cases g
theorem OrderOut.yes {n : Nat} {L : List Edg} {w w' : World} {v : Value} {out : List Nat} (h : GOk n L) (ho : ordO n (adjL L) = some out) (hv : NsIs w' v out) (hk : Kept [] w w') : OrderOut n L w (.returned (.tuple #[v, .slice none 0 0, .int .i64 0])) w' := by
  have e1 : ordE n L = 0 := by unfold ordE; rw [if_pos h, Int.toNat_natCast, ho]; rfl
  have e2 : ordL n L = out := by unfold ordL; rw [if_pos h, Int.toNat_natCast, ho]; rfl
  refine ⟨_, _, [], by rw [e1], by rw [e2]; exact hv, NsIs.nil _, fun _ => rfl, fun g => ?_, hk⟩
  rw [e1] at g; cases g
theorem OrderOut.no {n : Nat} {L : List Edg} {w w' : World} {v : Value} {c : List Nat} (h : GOk n L) (ho : ordO n (adjL L) = none) (hv : NsIs w' v c) (hc : Cyc (adjL L) c) (hl : ∀ i ∈ c, i < n) (hk : Kept [] w w') : OrderOut n L w (.returned (.tuple #[.slice none 0 0, v, .int .i64 80])) w' := by
  have e1 : ordE n L = 80 := by unfold ordE; rw [if_pos h, Int.toNat_natCast, ho]; rfl
  have e2 : ordL n L = [] := by unfold ordL; rw [if_pos h, Int.toNat_natCast, ho]; rfl
  exact ⟨_, _, c, by rw [e1], by rw [e2]; exact NsIs.nil _, hv, fun g => absurd e1 g, fun _ => ⟨hc, by simpa using hl⟩, hk⟩

/-- What stays in Order: the number, the edges, the function value. -/
structure OvSt (w : World) (n nb l g h : Nat) (A : Nat → Nat → Bool) (S : Nat → Bool) (wr : World) : Prop where
  cnb : wr.cell? ⟨nb, 0, none⟩ = some (.int .i64 n)
  set : SetIs wr l S
  ld : LdIs wr g A
  fn : wr.cell? ⟨h, 0, none⟩ = some (.func (.func 16) #[] #[.pointer (some ⟨nb, 0, none⟩), .pointer (some ⟨l, 0, none⟩), .pointer (some ⟨g, 0, none⟩)])
  kept : Kept [] w wr
theorem OvSt.go {w : World} {n nb l g h : Nat} {A : Nat → Nat → Bool} {S : Nat → Bool} {wr w' : World} (s : OvSt w n nb l g h A S wr) (hk : Kept [] wr w') : OvSt w n nb l g h A S w' :=
  ⟨(hk.cell (p := ⟨nb, 0, none⟩) (World.block_lt_of_cell? wr _ s.cnb) (by simp)).trans s.cnb, s.set.kept hk (by simp), s.ld.kept hk (by simp), (hk.cell (p := ⟨h, 0, none⟩) (World.block_lt_of_cell? wr _ s.fn) (by simp)).trans s.fn, s.kept.trans hk⟩
theorem less_put (S : Nat → Bool) (i : Nat) : put S i false = less S i := by
  funext k
  unfold put less
  by_cases e : k = i
  · rw [if_pos e, decide_eq_true e]; simp
  · rw [if_neg e, decide_eq_false e]; simp
theorem OvSt.drop {w : World} {n nb l g h : Nat} {A : Nat → Nat → Bool} {S : Nat → Bool} {wr : World} (s : OvSt w n nb l g h A S wr) (i : Nat) (hl : w.heap.size ≤ l) (h1 : nb ≠ l) (h2 : g ≠ l) (h3 : h ≠ l) : OvSt w n nb l g h A (less S i) (wr.setCell ⟨l, i, none⟩ (.bool false)) := by
  have hk := Kept.setCell [l] wr ⟨l, i, none⟩ (.bool false) (by simp)
  refine ⟨(hk.cell (p := ⟨nb, 0, none⟩) (World.block_lt_of_cell? wr _ s.cnb) (by simpa using h1)).trans s.cnb, ?_, s.ld.kept hk (by simpa using h2), (hk.cell (p := ⟨h, 0, none⟩) (World.block_lt_of_cell? wr _ s.fn) (by simpa using h3)).trans s.fn, s.kept.into hk (by simpa using hl)⟩
  rw [← less_put]
  exact s.set.set i false
/-- The function values over what stays. -/
theorem OvSt.free {w : World} {n nb l g h : Nat} {A : Nat → Nat → Bool} {S : Nat → Bool} {wr : World} (s : OvSt w n nb l g h A S wr) (hn : n ≤ 32) : FnI wr (.func (.func 19) #[] #[.pointer (some ⟨l, 0, none⟩), .pointer (some ⟨h, 0, none⟩)]) n (freeP n A S) :=
  ⟨_, _, rfl, enters_o2, fun w' hk j hj => o2_any n j nb l g h S A w' (s.go hk).set (s.go hk).ld (s.go hk).cnb hn (s.go hk).fn (by omega)⟩
theorem OvSt.left {w : World} {n nb l g h : Nat} {A : Nat → Nat → Bool} {S : Nat → Bool} {wr : World} (s : OvSt w n nb l g h A S wr) (hn : n ≤ 32) : FnI wr (.func (.func 20) #[] #[.pointer (some ⟨l, 0, none⟩)]) n S :=
  ⟨_, _, rfl, enters_o3, fun w' hk j hj => o3_any j l S w' (s.go hk).set (by omega)⟩
def predP (n : Nat) (A : Nat → Nat → Bool) (S : Nat → Bool) (i : Nat) : Nat := (aheadP n A S i).getD 0
theorem pred_is {n : Nat} {A : Nat → Nat → Bool} {S : Nat → Bool} (hs : lst n (freeP n A S) = none) (hS : ∀ i, S i = true → i < n) (i : Nat) (hi : S i = true) : lstI (aheadP n A S i) = (predP n A S i : Int) ∧ i < n ∧ S (predP n A S i) = true ∧ A (predP n A S i) i = true := by
  obtain ⟨j, h1, h2, h3, h4⟩ := stuck hs (hS i hi) hi
  unfold predP
  rw [h1]
  exact ⟨rfl, hS i hi, h3, h4⟩
theorem OvSt.ahead {w : World} {n nb l g h : Nat} {A : Nat → Nat → Bool} {S : Nat → Bool} {wr : World} (s : OvSt w n nb l g h A S wr) (hn : n ≤ 32) (hs : lst n (freeP n A S) = none) (hS : ∀ i, S i = true → i < n) :
    FnN wr (.func (.func 16) #[] #[.pointer (some ⟨nb, 0, none⟩), .pointer (some ⟨l, 0, none⟩), .pointer (some ⟨g, 0, none⟩)]) S (predP n A S) :=
  ⟨_, _, rfl, enters_o1, fun w' hk i hi => by
    obtain ⟨h1, h2, _⟩ := pred_is hs hS i hi
    rw [← h1]
    exact o1_any n i nb l g S A w' (s.go hk).set (s.go hk).ld (s.go hk).cnb hn (by omega)⟩
/-- The state of Order's second loop. -/
structure OdSt (w w3 : World) (n nb l g h : Nat) (A : Nat → Nat → Bool) (k : Nat) (S : Nat → Bool) (out : List Nat) (v : Value) (wr : World) : Prop where
  ov : OvSt w n nb l g h A S wr
  ans : ordO n A = ordG n A (n - k) S out
  st : OrdSt n A S out
  len : out.length = k
  own : OwnN w3.heap.size wr v out
  size : w3.heap.size ≤ wr.heap.size

/-- The state of Order's first loop. -/
structure O1St (w : World) (n g : Nat) (A : Nat → Nat → Bool) (k : Nat) (wr : World) : Prop where
  cn : wr.cell? ⟨w.heap.size, 0, none⟩ = some (.int .i64 n)
  set : SetIs wr (g + 1) (fun j => decide (j < k))
  ld : LdIs wr g A
  kept : Kept [] w wr
  size : wr.heap.size = g + 2
  lt : w.heap.size < g
theorem O1St.next {w : World} {n g : Nat} {A : Nat → Nat → Bool} {k : Nat} {wr : World} (h : O1St w n g A k wr) : O1St w n g A (k + 1) (wr.setCell ⟨g + 1, k, none⟩ (.bool true)) := by
  have hk := Kept.setCell [g + 1] wr ⟨g + 1, k, none⟩ (.bool true) (by simp)
  have hl := h.lt
  have hs := h.set.set k true
  refine ⟨(hk.cell (p := ⟨w.heap.size, 0, none⟩) (World.block_lt_of_cell? wr _ h.cn) (by simp; omega)).trans h.cn, ?_, h.ld.kept hk (by simp), h.kept.into hk (by simp; omega), ?_, hl⟩
  · have e : put (fun j => decide (j < k)) k true = fun j => decide (j < k + 1) := by
      funext j
      unfold put
      by_cases e : j = k
      · rw [if_pos e, e]; simp
      · rw [if_neg e]
        show decide (j < k) = _
        by_cases e2 : j < k
        · rw [decide_eq_true e2, decide_eq_true (by omega)]
        · rw [decide_eq_false e2, decide_eq_false (by omega)]
    rw [e] at hs
    exact hs
  · rw [← h.size]; simp [World.setCell]
theorem OrdSt.any {n : Nat} {A : Nat → Nat → Bool} {S : Nat → Bool} {out : List Nat} (h : OrdSt n A S out) (hl : out.length < n) : ∃ s, lst n S = some s ∧ S s = true := by
  cases e : lst n S with
  | some s => exact ⟨s, rfl, (lst_some e).2.1⟩
  | none =>
    have hall : ∀ i ∈ List.range n, i ∈ out := fun i hi => by
      have hi2 : i < n := by simpa using hi
      by_cases hm : i ∈ out
      · exact hm
      · have := (h.left i).2 ⟨hi2, hm⟩
        rw [lst_none e i hi2] at this
        cases this
    have := nodup_len _ _ List.nodup_range hall
    simp at this
    omega
theorem OdSt.init {w w3 : World} {n nb l g h : Nat} {A : Nat → Nat → Bool} (ov : OvSt w n nb l g h A (allP n) w3) : OdSt w w3 n nb l g h A 0 (allP n) [] (.slice none 0 0) w3 :=
  ⟨ov, rfl, OrdSt.init n A, rfl, OwnN.nil _ _, Nat.le_refl _⟩

set_option maxRecDepth 100000 in
set_option maxHeartbeats 4000000 in
theorem order_any (n : Int) (L : List Edg) (v : Value) (w : World) (h : EsIs w v L) :
    Calls Try.prog 9 #[.int .i64 n, v] w (OrderOut n L w) := by
  have HE := Lib.hid h
  clear h
  go_enter Try.func9, Try.ntmps9
  go_wp2_with fail
  generalize hw1 : World.alloc w _ = w1
  have HK1 : Hid (Kept [] w w1) := by rw [← hw1]; exact Kept.alloc _ _ _
  have HN1 : Hid (w1.cell? ⟨w.heap.size, 0, none⟩ = some (.int .i64 n)) := by rw [← hw1]; exact cell_of_row _ _ 0 _ _ _ (heap_alloc_last _ _)
  clear hw1
  refine (gather_any n L v w1 (HE.out.kept HK1.out)).mono ?_
  rintro e w2 ⟨M, c, rfl, H2⟩
  obtain ⟨A0, hA0⟩ : ∃ A0, blA (List.replicate 1024 false) = A0 := ⟨_, rfl⟩
  have hz : ∀ w, (zeroValue 42).run Try.prog w = .ok (.agg A0) w := fun w => by rw [← hA0]; exact zero_ged w
  obtain ⟨A1, hA1⟩ : ∃ A1, blA M = A1 := ⟨_, rfl⟩
  have h1 : A1.size = 1024 := by rw [← hA1, blA_size]; exact H2.out.1
  have h0 : A0.size = 1024 := by rw [← hA0, blA_size, List.length_replicate]
  have hst := run_storeCells_new (P := Try.prog) w2 42 A0 A1 (by rw [h1]; exact size_ged) (by rw [h1, h0]) (by rw [← hA1]; exact blA_one _)
  rw [hA1]
  have HA1 := Lib.hid hA1
  have HK2 : Hid (Kept [] w w2) := HK1.out.trans H2.out.2.2.2
  have HN2 : Hid (w2.cell? ⟨w.heap.size, 0, none⟩ = some (.int .i64 n)) := (H2.out.2.2.2.cell (p := ⟨w.heap.size, 0, none⟩) (World.block_lt_of_cell? w1 _ HN1.out) (by simp)).trans HN1.out
  clear hA0 hA1
  by_cases hok : GOk n L
  · have hc : c = 0 := by rw [H2.out.2.1, if_pos hok]
    subst hc
    have HOK := Lib.hid hok
    obtain ⟨q, rfl⟩ : ∃ q : Nat, n = q := ⟨n.toNat, by have := hok.1; omega⟩
    have hq : q ≤ 32 := by have := hok.1; omega
    have HQ := Lib.hid hq
    have HLD : Hid (∀ i j, i < 32 → j < 32 → M.getD (i * 32 + j) false = adjL L i j) := H2.out.2.2.1 hok
    have HML : Hid (M.length = 1024) := H2.out.1
    clear hok H2
    obtain ⟨A, hA⟩ : ∃ A, adjL L = A := ⟨_, rfl⟩
    have HA := Lib.hid hA
    rw [hA] at HLD
    obtain ⟨A2, hA2⟩ : ∃ A2, blA (List.replicate 32 false) = A2 := ⟨_, rfl⟩
    have hz2 : ∀ w, (zeroValue 40).run Try.prog w = .ok (.agg A2) w := fun w => by rw [← hA2]; exact zero_set w
    obtain ⟨w3, hw3⟩ : ∃ w3, (w2.alloc (.cells A1 42)).alloc (.cells A2 40) = w3 := ⟨_, rfl⟩
    have HK3 : Hid (Kept [] w2 w3) := by rw [← hw3]; exact (Kept.alloc _ _ _).trans (Kept.alloc _ _ _)
    have hS0 : Hid (SetIs w3 (w2.heap.size + 1) (fun _ => false)) := by
      refine ⟨List.replicate 32 false, ?_, List.length_replicate, fun i hi => ?_⟩
      · rw [← hw3, hA2]
        have := heap_alloc_last (w2.alloc (.cells A1 42)) (.cells A2 40)
        rw [size_alloc] at this
        exact this
      · rw [List.getD_eq_getElem?_getD, List.getElem?_replicate, if_pos hi]; rfl
    have hL0 : Hid (LdIs w3 w2.heap.size A) := by
      refine ⟨M, ?_, HML.out, HLD.out⟩
      rw [← hw3, HA1.out]
      exact (Kept.alloc [] _ _).heap (by simp) (heap_alloc_last _ _)
    have cn : w3.cell? ⟨w.heap.size, 0, none⟩ = some (.int .i64 q) := (HK3.out.cell (p := ⟨w.heap.size, 0, none⟩) (World.block_lt_of_cell? w2 _ HN2.out) (by simp)).trans HN2.out
    have HCN := Lib.hid cn
    have HSZ : Hid (w3.heap.size = w2.heap.size + 2) := by show _ = _; rw [← hw3, size_alloc, size_alloc]
    have HWL : Hid (w.heap.size < w2.heap.size) := World.block_lt_of_cell? w2 _ HN2.out
    clear hA hA2
    go_wp2_with fail
    obtain ⟨g, hg⟩ : ∃ g, w2.heap.size = g := ⟨_, rfl⟩
    have HO0 : Hid (O1St w q g A 0 w3) := by
      rw [← hg]
      refine ⟨HCN.out, ?_, hL0.out, HK2.out.trans HK3.out, HSZ.out, HWL.out⟩
      have := hS0.out
      obtain ⟨Z, z1, z2, z3⟩ := this
      exact ⟨Z, z1, z2, fun i hi => by rw [z3 i hi]; simp⟩
    rw [hg] at HSZ HWL ⊢
    clear cn hz hz2 hst hw3 h1 h0 hS0 hL0 HCN HLD HML HA1 HN1 HN2 hg
    go_loopw [23] (fun i wr => ∃ k : Nat, k ≤ q ∧ i = .int .i64 k ∧ Hid (O1St w q g A k wr)) (fun i _ => q - (intOf i).toNat)
    case atStart => exact ⟨0, by omega, rfl, HO0⟩
    case round =>
      clear HO0 HK3 HSZ
      obtain ⟨k, hk, rfl, HS⟩ := hrel
      by_cases hlt : k < q
      · have k32 : (k : Int) < 32 := by omega
        have cs := HS.out.set.cell (i := k) (by omega)
        have fz : wr.frozen? ⟨g + 1, k, none⟩ = false := by
          obtain ⟨Z, z1, _⟩ := HS.out.set
          exact frozen_of_row _ _ _ _ _ z1
        have HN := Lib.hid HS.out.next
        go_wp2_with fail
        go_roundw
        case rel => exact ⟨k + 1, by omega, by go_num, HN⟩
        case measure => simp [intOf]; omega
      · have hkq : k = q := by omega
        subst hkq
        clear hlt hk
        have HALL : Hid (SetIs wr (g + 1) (allP k)) := HS.out.set
        obtain ⟨w5, hw5⟩ : ∃ w5, wr.alloc (.cells #[.func (.func 16) #[] #[.pointer (some ⟨w.heap.size, 0, none⟩), .pointer (some ⟨g + 1, 0, none⟩), .pointer (some ⟨g, 0, none⟩)]] 47) = w5 := ⟨_, rfl⟩
        have HK5 : Hid (Kept [] wr w5) := by rw [← hw5]; exact Kept.alloc _ _ _
        have HV : Hid (OvSt w k w.heap.size (g + 1) g (g + 2) A (allP k) w5) := by
          refine ⟨(HK5.out.cell (p := ⟨w.heap.size, 0, none⟩) (World.block_lt_of_cell? wr _ HS.out.cn) (by simp)).trans HS.out.cn, HALL.out.kept HK5.out (by simp), HS.out.ld.kept HK5.out (by simp), ?_, HS.out.kept.trans HK5.out⟩
          rw [← HS.out.size, ← hw5]
          exact cell_of_row _ _ 0 _ _ _ (heap_alloc_last _ _)
        have HGW : Hid (wr.heap.size = g + 2 ∧ w5.heap.size = g + 3) := ⟨HS.out.size, by rw [← hw5, size_alloc, HS.out.size]⟩
        have hst : ∀ (w3 : World) (a : Addr) (fn : Fn) (cap : Array Value), (store a (.func fn #[] cap)).run Try.prog w3 = match w3.cell? a with
          | some _ => if w3.frozen? a then .halt (.unsupported (.unsafePointer "a write to bytes that a string shares")) w3 else .ok () (w3.setCell a (.func fn #[] cap))
          | none => match w3.farStore Try.prog a (.func fn #[] cap) false with
            | .ok (w', _) => .ok () w'
            | .error h => .halt h w3 := fun w3 a fn cap => run_store _ w3 a _ _ rfl
        have c5 : w5.cell? ⟨w.heap.size, 0, none⟩ = some (.int .i64 k) := HV.out.cnb
        go_wp2_with fail
        rw [HGW.out.1]
        have HD0 := Lib.hid (OdSt.init HV.out)
        have HW5 : Hid (w5.heap.size = g + 3) := HGW.out.2
        clear hst c5 hw5 HV HALL HK5 HS HGW
        clear wr
        go_loopw [4, 31] (fun v i wr => ∃ (j : Nat) (S : Nat → Bool) (out : List Nat), j ≤ k ∧ i = .int .i64 j ∧ Hid (OdSt w w5 k w.heap.size (g + 1) g (g + 2) A j S out v wr)) (fun _ i _ => k - (intOf i).toNat)
        case atStart => exact ⟨0, allP k, [], by omega, rfl, HD0⟩
        case round =>
          clear HD0
          obtain ⟨j, S, out, hj, rfl, HS⟩ := hrel
          obtain ⟨va, vc, rfl⟩ := HS.out.own.slice
          have hlen : out.length = j := HS.out.len
          by_cases hlt : j < k
          · have cn := HS.out.ov.cnb
            have HF := Lib.hid (HS.out.ov.free hq)
            have HS2 : Hid (∀ i, S i = true → i < k) := fun i hi => ((HS.out.st.left i).1 hi).1
            have HAN := Lib.hid HS.out.ans
            have HKJ : Hid (k - j = (k - (j + 1)) + 1) := by show _ = _; omega
            clear hlen
            go_wp2_with fail
            refine (least_any k _ _ wr HF.out hq).mono ?_
            rintro e w6 ⟨rfl, hk6⟩
            have HV6 := Lib.hid (HS.out.ov.go hk6)
            have HO6 : Hid (OwnN w5.heap.size w6 (.slice va out.length vc) out ∧ w5.heap.size ≤ w6.heap.size) := ⟨HS.out.own.kept hk6, by have := hk6.size; have := HS.out.size; omega⟩
            clear hk6 cn
            cases hls : lst k (freeP k A S) with
            | none =>
              have HLS := Lib.hid hls
              have HNO : Hid (ordO k A = none) := by
                show _ = _
                rw [HAN.out, HKJ.out]
                unfold ordG
                rw [hls]
              obtain ⟨s, hs, hss⟩ := HS.out.st.any (by rw [HS.out.len]; exact hlt)
              have HSS := Lib.hid hss
              have e0 : lstI (none : Option Nat) = -1 := rfl
              have e1 : lstI (some s) = (s : Int) := rfl
              have cn := HV6.out.cnb
              have HL6 := Lib.hid (least_any k S _ w6 (HV6.out.left hq) hq)
              rw [hs, e1] at HL6
              rw [e0]
              clear hls hs hss e0 e1
              go_wp2_with fail
              refine HL6.out.mono ?_
              rintro e w7 ⟨rfl, hk7⟩
              have HV7 := Lib.hid (HV6.out.go hk7)
              have cf := HV7.out.fn
              clear hk7 cn
              go_wp2_with fail
              refine (round_any k s A S (predP k A S) _ w7 hq (fun i hi => (pred_is HLS.out HS2.out i hi).2) HSS.out (HV7.out.ahead hq HLS.out HS2.out)).mono ?_
              rintro e w8 ⟨vc, c, rfl, H8⟩
              go_wp2_with fail
              go_ret3
              exact OrderOut.no HOK.out (by rw [HA.out]; exact HNO.out) H8.out.1 (by rw [HA.out]; exact H8.out.2.1) (fun i hi => HS2.out i (H8.out.2.2.1 i hi)) (HV7.out.kept.trans H8.out.2.2.2)
            | some i =>
              obtain ⟨hik, _, _⟩ := lst_some hls
              have e0 : lstI (some i) = (i : Int) := rfl
              have q1 : ((i : Int) == -1) = false := by simp
              have i32 : (i : Int) < 32 := by omega
              have cs := HV6.out.set.cell (i := i) (by omega)
              have fz : w6.frozen? ⟨g + 1, i, none⟩ = false := by
                obtain ⟨Z, z1, _⟩ := HV6.out.set
                exact frozen_of_row _ _ _ _ _ z1
              obtain ⟨w7, hw7⟩ : ∃ w7, w6.setCell ⟨g + 1, i, none⟩ (.bool false) = w7 := ⟨_, rfl⟩
              have hk7 : Kept [g + 1] w6 w7 := by rw [← hw7]; exact Kept.setCell _ _ _ _ (by simp)
              have HV7 : Hid (OvSt w k w.heap.size (g + 1) g (g + 2) A (less S i) w7) := by
                rw [← hw7]
                exact HV6.out.drop i (by have := HWL.out; omega) (by have := HWL.out; omega) (by omega) (by omega)
              have HO7 : OwnN w5.heap.size w7 (.slice va out.length vc) out := HO6.out.1.keptX hk7 (fun b hb => by have := (HO6.out.1.blk b hb).1; rw [HW5.out] at this; simp; omega)
              obtain ⟨v4, w8, hrun, hown, hap⟩ := HO7.app (by have := hk7.size; have := HO6.out.2; omega) i (by have := HS.out.len; omega)
              have HRUN := Lib.hid hrun
              have HN : Hid (OdSt w w5 k w.heap.size (g + 1) g (g + 2) A (j + 1) (less S i) (out ++ [i]) v4 w8) := by
                have hb7 := HO7.blk
                have hne : ∀ q ∈ (Value.slice va out.length vc).ownBlock.toList, w5.heap.size ≤ q := fun q hq => (hb7 q (by simpa using hq)).1
                have hst := HS.out.st.next hls
                refine ⟨?_, ?_, hst, by simp [HS.out.len], hown, by have := hk7.size; have := hap.kept.size; have := HO6.out.2; omega⟩
                · have hg5 := HW5.out
                  have hwl := HWL.out
                  have V := HV7.out
                  have off : ∀ b, b < w5.heap.size → b ∉ (Value.slice va out.length vc).ownBlock.toList := fun b hb hm => by have := hne b hm; omega
                  exact ⟨(hap.kept.cell (p := ⟨w.heap.size, 0, none⟩) (World.block_lt_of_cell? w7 _ V.cnb) (off _ (by show w.heap.size < _; omega))).trans V.cnb, V.set.kept hap.kept (off _ (by omega)), V.ld.kept hap.kept (off _ (by omega)),
                    (hap.kept.cell (p := ⟨g + 2, 0, none⟩) (World.block_lt_of_cell? w7 _ V.fn) (off _ (by show g + 2 < _; omega))).trans V.fn, V.kept.into hap.kept (fun q hq => by have := hne q hq; omega)⟩
                · rw [HAN.out, HKJ.out]
                  conv => lhs; unfold ordG
                  rw [hls]
              rw [e0]
              clear hls e0 hk7 HO7 hrun hown hap
              go_wp2_with (at_builtin; refine wpList_append_run rfl _ _ 24 rfl _ _ _ rfl rfl HRUN.out ?_)
              go_roundw
              case rel => exact ⟨j + 1, _, _, by omega, by go_num, HN⟩
              case measure => simp [intOf]; omega
          · have hjk : j = k := by omega
            have HNO : Hid (ordO k A = some out) := by
              show _ = _
              rw [HS.out.ans, hjk, Nat.sub_self]
              rfl
            have cn := HS.out.ov.cnb
            go_wp2_with fail
            go_ret3
            exact OrderOut.yes HOK.out (by rw [HA.out]; exact HNO.out) HS.out.own.ns HS.out.ov.kept
  · have hc : c = 1 := by rw [H2.out.2.1, if_neg hok]
    subst hc
    have HOK := Lib.hid hok
    clear hok
    go_wp2_with fail
    go_ret3
    exact OrderOut.bad HOK.out (HK2.out.trans (Kept.alloc _ _ _))
end Go.Proofs.Ytpdngekolhcndaa

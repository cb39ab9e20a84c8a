/-
  Layer 3: LayoutUnlike's walk: no two nodes have the same bytes, with those of their other blocks; nor two rows of entries.
  Conditions: those that each theorem states.
-/
import Derived.Test.YtampdibpmgiffaaDoorLInj
import Derived.Deep.DeepCutAuto
namespace Go.Proofs.YtampdibpmgiffaaDoor
open Go.RowKit Go.Maps

def NodeB (k m s more : Int) (l : List Int) (R M : List UInt8) : Prop :=
  ∃ (kN mN sN moreN : Nat) (r : List Nat), k = kN ∧ m = mN ∧ s = sN ∧ more = moreN ∧ l = natI r ∧ validB kN mN sN moreN (natI r) = true ∧ recL kN (fieldsL mN sN moreN r) = R ∧ moreOf r = M

theorem node_same {k m s more k' m' s' more' : Int} {l l' : List Int} {R M R' M' : List UInt8} (h : NodeB k m s more l R M) (h' : NodeB k' m' s' more' l' R' M') : (decide (R = R') && decide (M = M')) = sameB k m s more l k' m' s' more' l' := by
  obtain ⟨kN, mN, sN, moreN, r, rfl, rfl, rfl, rfl, rfl, hv, rfl, rfl⟩ := h
  obtain ⟨kN', mN', sN', moreN', r', rfl, rfl, rfl, rfl, rfl, hv', rfl, rfl⟩ := h'
  rw [Bool.eq_iff_iff]
  simp only [Bool.and_eq_true, decide_eq_true_eq, sameB]
  constructor
  · rintro ⟨e1, e2⟩
    obtain ⟨rfl, rfl, rfl, rfl, rfl⟩ := node_inj hv hv' e1 e2
    exact ⟨rfl, rfl, rfl, rfl, rfl⟩
  · rintro ⟨e1, e2, e3, e4, e5⟩
    have er : r = r' := by
      have := congrArg (List.map Int.toNat) e1
      simpa [natI, Function.comp_def] using this
    obtain rfl : kN = kN' := by omega
    obtain rfl : mN = mN' := by omega
    obtain rfl : sN = sN' := by omega
    obtain rfl : moreN = moreN' := by omega
    subst er
    exact ⟨rfl, rfl⟩

theorem putNode_any (k m s more : Int) (ao : Option Addr) (len cap : Nat) (l : List Int) (w : World) (hl : IntsIs w ao len l) (hc : len ≤ cap) :
    Calls Tryd.prog 16 #[nodeV k m s ao len cap more] w fun e w' => ∃ va vm c R M, e = .returned (.tuple #[va, vm, .int .i64 c]) ∧ Hid (Kept [] w w' ∧ (c = 0 → NodeB k m s more l R M ∧ SlIs w' va R ∧ SlIs w' vm M)) := by
  cases hv : validB k m s more l
  · refine (putNode_no k m s more ao len cap l w hl hv).mono ?_
    rintro e w' ⟨rfl, hk⟩
    exact ⟨_, _, 1, [], [], rfl, hk, fun h => by omega⟩
  · obtain ⟨kN, mN, sN, moreN, r, rfl, rfl, rfl, rfl, rfl, _⟩ := valid_parts hv
    refine (putNode_yes kN mN sN moreN ao len cap r w hl hc hv).mono ?_
    rintro e w' ⟨va, vm, rfl, h1, h2, hk⟩
    exact ⟨va, vm, 0, _, _, rfl, hk, fun _ => ⟨⟨kN, mN, sN, moreN, r, rfl, rfl, rfl, rfl, rfl, hv, rfl, rfl⟩, h1, h2⟩⟩

theorem putE_any (ao : Option Addr) (len cap : Nat) (l : List Ent) (w : World) (hl : EntsIs w ao len l) :
    Calls Tryd.prog 26 #[.slice ao len cap] w fun e w' => ∃ v c L, e = .returned (.tuple #[v, .int .i64 c]) ∧ Hid (Kept [] w w' ∧ (c = 0 → goodB l = true ∧ L = entsL l ∧ SlIs w' v L)) := by
  have go : ∀ e w', PutEOut l w e w' → ∃ v c L, e = .returned (.tuple #[v, .int .i64 c]) ∧ Hid (Kept [] w w' ∧ (c = 0 → goodB l = true ∧ L = entsL l ∧ SlIs w' v L)) := by
    rintro e w' ⟨hk, ⟨_, rfl⟩ | ⟨_, _, rfl⟩ | ⟨_, hg, v, rfl, hv⟩⟩
    · exact ⟨_, 5, [], rfl, hk, fun h => by omega⟩
    · exact ⟨_, 1, [], rfl, hk, fun h => by omega⟩
    · exact ⟨v, 0, _, rfl, hk, fun _ => ⟨hg, rfl, hv⟩⟩
  by_cases h : 16 < len
  · exact (putE_long ao len cap l w hl h).mono go
  · cases hg : goodB l
    · rw [hg] at go; exact (putE_no ao len cap l w hl (by omega) hg).mono go
    · rw [hg] at go; exact (putE_yes ao len cap l w hl (by omega) hg).mono go

structure UnSt (w : World) (X Y Z : Array Value) (wr : World) : Prop where
  x : wr.heap[w.heap.size]? = some (.cells X 32)
  y : wr.heap[w.heap.size + 1]? = some (.cells Y 32)
  z : wr.heap[w.heap.size + 1 + 1]? = some (.cells Z 57)
  kept : Kept [] w wr
theorem UnSt.go {w : World} {X Y Z : Array Value} {wr w' : World} (h : UnSt w X Y Z wr) (hk : Kept [] wr w') : UnSt w X Y Z w' :=
  ⟨hk.heap (by simp) h.x, hk.heap (by simp) h.y, hk.heap (by simp) h.z, h.kept.trans hk⟩

set_option maxRecDepth 100000 in
set_option maxHeartbeats 8000000 in
theorem unlike_walk (k m s more k' m' s' more' : Int) (ao ao' bo bo' : Option Addr) (len cap len' cap' n1 cp1 n2 cp2 : Nat) (l l' : List Int) (q q' : List Ent) (w : World)
    (hl : IntsIs w ao len l) (hc : len ≤ cap) (hl' : IntsIs w ao' len' l') (hc' : len' ≤ cap') (hq : EntsIs w bo n1 q) (hq' : EntsIs w bo' n2 q') :
    Calls Tryd.prog 10 #[nodeV k m s ao len cap more, nodeV k' m' s' ao' len' cap' more', .agg #[.slice bo n1 cp1, .slice bo' n2 cp2]] w fun e w' => e = .returned (.bool true) ∧ Kept [] w w' := by
  unfold nodeV
  have HC := Lib.hid (And.intro hc hc')
  have HL := Lib.hid (And.intro hl hl')
  have HQ := Lib.hid (And.intro hq hq')
  have hn1 : n1 ≤ 140737488355328 := hq.2.1
  have hn2 : n2 ≤ 140737488355328 := hq'.2.1
  clear hl hc hl' hc' hq hq'
  go_enter Tryd.func10, Tryd.ntmps10
  go_wp2_with fail
  generalize hw0 : World.alloc (World.alloc (World.alloc w _) _) _ = w0
  have H0 : Hid (UnSt w #[.int .i64 k, .int .i64 m, .int .i64 s, .slice ao len cap, .int .i64 more] #[.int .i64 k', .int .i64 m', .int .i64 s', .slice ao' len' cap', .int .i64 more'] #[.slice bo n1 cp1, .slice bo' n2 cp2] w0) := by
    rw [← hw0]
    refine ⟨?_, ?_, ?_, ((Kept.alloc _ _ _).trans (Kept.alloc _ _ _)).trans (Kept.alloc _ _ _)⟩
    · exact (Kept.alloc [] _ _).heap (by simp) ((Kept.alloc [] _ _).heap (by simp) (heap_alloc_last w _))
    · have := heap_alloc_last (w.alloc (.cells #[.int .i64 k, .int .i64 m, .int .i64 s, .slice ao len cap, .int .i64 more] 32)) (.cells #[.int .i64 k', .int .i64 m', .int .i64 s', .slice ao' len' cap', .int .i64 more'] 32)
      rw [size_alloc] at this
      exact (Kept.alloc [] _ _).heap (by simp) this
    · have := heap_alloc_last ((w.alloc (.cells #[.int .i64 k, .int .i64 m, .int .i64 s, .slice ao len cap, .int .i64 more] 32)).alloc (.cells #[.int .i64 k', .int .i64 m', .int .i64 s', .slice ao' len' cap', .int .i64 more'] 32)) (.cells #[.slice bo n1 cp1, .slice bo' n2 cp2] 57)
      rw [size_alloc, size_alloc] at this
      exact this
  clear hw0
  refine (shown3_any _).mono ?_
  rintro e w1 ⟨rfl, hk1⟩
  have H1 := Lib.hid (H0.out.go hk1)
  clear hk1 H0
  clear w0
  have x0 : w1.cell? ⟨w.heap.size, 0, none⟩ = some (.int .i64 k) := cell_of_row _ _ 0 _ _ _ H1.out.x
  have x1 : w1.cell? ⟨w.heap.size, 1, none⟩ = some (.int .i64 m) := cell_of_row _ _ 1 _ _ _ H1.out.x
  have x2 : w1.cell? ⟨w.heap.size, 2, none⟩ = some (.int .i64 s) := cell_of_row _ _ 2 _ _ _ H1.out.x
  have x3 : w1.cell? ⟨w.heap.size, 3, none⟩ = some (.slice ao len cap) := cell_of_row _ _ 3 _ _ _ H1.out.x
  have x4 : w1.cell? ⟨w.heap.size, 4, none⟩ = some (.int .i64 more) := cell_of_row _ _ 4 _ _ _ H1.out.x
  go_wp2_with fail
  refine (putNode_any k m s more ao len cap l _ (HL.out.1.kept H1.out.kept) HC.out.1).mono ?_
  rintro e w2 ⟨va, vm, c1, R1, M1, rfl, HP1⟩
  have H2 := Lib.hid (H1.out.go HP1.out.1)
  clear x0 x1 x2 x3 x4 H1
  have y0 : w2.cell? ⟨w.heap.size + 1, 0, none⟩ = some (.int .i64 k') := cell_of_row _ _ 0 _ _ _ H2.out.y
  have y1 : w2.cell? ⟨w.heap.size + 1, 1, none⟩ = some (.int .i64 m') := cell_of_row _ _ 1 _ _ _ H2.out.y
  have y2 : w2.cell? ⟨w.heap.size + 1, 2, none⟩ = some (.int .i64 s') := cell_of_row _ _ 2 _ _ _ H2.out.y
  have y3 : w2.cell? ⟨w.heap.size + 1, 3, none⟩ = some (.slice ao' len' cap') := cell_of_row _ _ 3 _ _ _ H2.out.y
  have y4 : w2.cell? ⟨w.heap.size + 1, 4, none⟩ = some (.int .i64 more') := cell_of_row _ _ 4 _ _ _ H2.out.y
  go_wp2_with fail
  refine (putNode_any k' m' s' more' ao' len' cap' l' _ (HL.out.2.kept H2.out.kept) HC.out.2).mono ?_
  rintro e w3 ⟨vb, vn, c2, R2, M2, rfl, HP2⟩
  have H3 := Lib.hid (H2.out.go HP2.out.1)
  have HN1 : Hid (c1 = 0 → NodeB k m s more l R1 M1 ∧ SlIs w3 va R1 ∧ SlIs w3 vm M1) := fun h => by
    obtain ⟨a1, a2, a3⟩ := HP1.out.2 h
    exact ⟨a1, a2.kept HP2.out.1, a3.kept HP2.out.1⟩
  have HN2 := Lib.hid HP2.out.2
  clear y0 y1 y2 y3 y4 H2 HP1 HP2
  have x0 : w3.cell? ⟨w.heap.size, 0, none⟩ = some (.int .i64 k) := cell_of_row _ _ 0 _ _ _ H3.out.x
  have x1 : w3.cell? ⟨w.heap.size, 1, none⟩ = some (.int .i64 m) := cell_of_row _ _ 1 _ _ _ H3.out.x
  have x2 : w3.cell? ⟨w.heap.size, 2, none⟩ = some (.int .i64 s) := cell_of_row _ _ 2 _ _ _ H3.out.x
  have x3 : w3.cell? ⟨w.heap.size, 3, none⟩ = some (.slice ao len cap) := cell_of_row _ _ 3 _ _ _ H3.out.x
  have x4 : w3.cell? ⟨w.heap.size, 4, none⟩ = some (.int .i64 more) := cell_of_row _ _ 4 _ _ _ H3.out.x
  have y0 : w3.cell? ⟨w.heap.size + 1, 0, none⟩ = some (.int .i64 k') := cell_of_row _ _ 0 _ _ _ H3.out.y
  have y1 : w3.cell? ⟨w.heap.size + 1, 1, none⟩ = some (.int .i64 m') := cell_of_row _ _ 1 _ _ _ H3.out.y
  have y2 : w3.cell? ⟨w.heap.size + 1, 2, none⟩ = some (.int .i64 s') := cell_of_row _ _ 2 _ _ _ H3.out.y
  have y3 : w3.cell? ⟨w.heap.size + 1, 3, none⟩ = some (.slice ao' len' cap') := cell_of_row _ _ 3 _ _ _ H3.out.y
  have y4 : w3.cell? ⟨w.heap.size + 1, 4, none⟩ = some (.int .i64 more') := cell_of_row _ _ 4 _ _ _ H3.out.y
  go_wp2_with fail
  refine (same_any k m s more k' m' s' more' ao ao' len cap len' cap' l l' _ (HL.out.1.kept H3.out.kept) (HL.out.2.kept H3.out.kept)).mono ?_
  rintro e w4 ⟨rfl, hk4⟩
  obtain ⟨al, hal⟩ : ∃ al, sameB k m s more l k' m' s' more' l' = al := ⟨_, rfl⟩
  rw [hal]
  have HAL := Lib.hid hal
  have H4 := Lib.hid (H3.out.go hk4)
  have HM1 : Hid (c1 = 0 → NodeB k m s more l R1 M1 ∧ SlIs w4 va R1 ∧ SlIs w4 vm M1) := fun h => by
    obtain ⟨a1, a2, a3⟩ := HN1.out h
    exact ⟨a1, a2.kept hk4, a3.kept hk4⟩
  have HM2 : Hid (c2 = 0 → NodeB k' m' s' more' l' R2 M2 ∧ SlIs w4 vb R2 ∧ SlIs w4 vn M2) := fun h => by
    obtain ⟨a1, a2, a3⟩ := HN2.out h
    exact ⟨a1, a2.kept hk4, a3.kept hk4⟩
  clear x0 x1 x2 x3 x4 y0 y1 y2 y3 y4 H3 HN1 HN2 hk4 hal
  go_upto_region 5 with (fail)
  go_cut [62] (fun s62 wx => s62 = .bool false ∧ Hid (UnSt w #[.int .i64 k, .int .i64 m, .int .i64 s, .slice ao len cap, .int .i64 more] #[.int .i64 k', .int .i64 m', .int .i64 s', .slice ao' len' cap', .int .i64 more'] #[.slice bo n1 cp1, .slice bo' n2 cp2] wx))
  case first =>
    by_cases h1 : c1 = 0
    · subst h1
      by_cases h2 : c2 = 0
      · subst h2
        obtain ⟨a1, a2, a3⟩ := HM1.out rfl
        obtain ⟨b1, b2, b3⟩ := HM2.out rfl
        have cva : (convert 33 9 va).run Tryd.prog w4 = .ok (.string (strL R1)) w4 := convL a2
        have cvb : (convert 33 9 vb).run Tryd.prog w4 = .ok (.string (strL R2)) w4 := convL b2
        have cvm : (convert 33 9 vm).run Tryd.prog w4 = .ok (.string (strL M1)) w4 := convL a3
        have cvn : (convert 33 9 vn).run Tryd.prog w4 = .ok (.string (strL M2)) w4 := convL b3
        have hs := node_same a1 b1
        rw [HAL.out] at hs
        have hq : ∀ A B : List UInt8, ((strL A).toList == (strL B).toList) = decide (A = B) := fun A B => by rw [strL_bytes, strL_bytes, Bool.eq_iff_iff]; simp
        have q1 := hq R1 R2
        have q2 := hq M1 M2
        clear a1 a2 a3 b1 b2 b3 hq
        generalize decide (R1 = R2) = d1 at hs q1
        generalize decide (M1 = M2) = d2 at hs q2
        subst hs
        cases d1
        · rw [Bool.false_and]
          go_wp2_with fail
          go_meet
          exact ⟨rfl, H4⟩
        · rw [Bool.true_and]
          cases d2
          · go_wp2_with fail
            go_meet
            exact ⟨rfl, H4⟩
          · go_wp2_with fail
            go_meet
            exact ⟨rfl, H4⟩
      · have h2' : (c2 == 0) = false := by simpa using h2
        go_wp2_with fail
        go_meet
        exact ⟨rfl, H4⟩
    · have h1' : (c1 == 0) = false := by simpa using h1
      go_wp2_with fail
      go_meet
      exact ⟨rfl, H4⟩
  case rest =>
    obtain ⟨rfl, H5⟩ := hcut
    clear HM1 HM2 HAL H4 HL HC
    have z0 : wc.cell? ⟨w.heap.size + 1 + 1, 0, none⟩ = some (.slice bo n1 cp1) := cell_of_row _ _ 0 _ _ _ H5.out.z
    have z1 : wc.cell? ⟨w.heap.size + 1 + 1, 1, none⟩ = some (.slice bo' n2 cp2) := cell_of_row _ _ 1 _ _ _ H5.out.z
    go_wp2_with fail
    refine (putE_any bo n1 cp1 q _ (HQ.out.1.kept H5.out.kept)).mono ?_
    rintro e w6 ⟨v1, c3, L1, rfl, HE1⟩
    have H6 := Lib.hid (H5.out.go HE1.out.1)
    clear z0 z1 H5
    have z0 : w6.cell? ⟨w.heap.size + 1 + 1, 0, none⟩ = some (.slice bo n1 cp1) := cell_of_row _ _ 0 _ _ _ H6.out.z
    have z1 : w6.cell? ⟨w.heap.size + 1 + 1, 1, none⟩ = some (.slice bo' n2 cp2) := cell_of_row _ _ 1 _ _ _ H6.out.z
    go_wp2_with fail
    refine (putE_any bo' n2 cp2 q' _ (HQ.out.2.kept H6.out.kept)).mono ?_
    rintro e w7 ⟨v2, c4, L2, rfl, HE2⟩
    have H7 := Lib.hid (H6.out.go HE2.out.1)
    have HF1 : Hid (c3 = 0 → goodB q = true ∧ L1 = entsL q ∧ SlIs w7 v1 L1) := fun h => by
      obtain ⟨a1, a2, a3⟩ := HE1.out.2 h
      exact ⟨a1, a2, a3.kept HE2.out.1⟩
    have HF2 := Lib.hid HE2.out.2
    clear z0 z1 H6 HE1 HE2
    have z0 : w7.cell? ⟨w.heap.size + 1 + 1, 0, none⟩ = some (.slice bo n1 cp1) := cell_of_row _ _ 0 _ _ _ H7.out.z
    have z1 : w7.cell? ⟨w.heap.size + 1 + 1, 1, none⟩ = some (.slice bo' n2 cp2) := cell_of_row _ _ 1 _ _ _ H7.out.z
    obtain ⟨b0, hb0⟩ : ∃ b0, ((n1 : Int) == (n2 : Int)) = b0 := ⟨_, rfl⟩
    go_wp2_with fail
    clear z0 z1
    have HB0 : Hid (b0 = decide (n1 = n2)) := by
      show _ = _
      rw [← hb0, Bool.eq_iff_iff]
      simp only [beq_iff_eq, decide_eq_true_eq]
      omega
    clear hb0
    go_loopw [19, 20] (fun e i wr => ∃ (j : Nat) (b : Bool), j ≤ n1 ∧ i = .int .i64 j ∧ e = .bool b ∧ Hid (Drawn w7 wr ∧ b = decide (n1 = n2 ∧ q.take j = q'.take j))) (fun _ i _ => n1 - (intOf i).toNat)
    case atStart => exact ⟨0, b0, by omega, rfl, rfl, ⟨0, rfl⟩, by rw [HB0.out]; simp⟩
    case round =>
      obtain ⟨j, b, hj, rfl, rfl, HR⟩ := hrel
      have HS := Lib.hid (H7.out.go HR.out.1.kept)
      have z0 : wr.cell? ⟨w.heap.size + 1 + 1, 0, none⟩ = some (.slice bo n1 cp1) := cell_of_row _ _ 0 _ _ _ HS.out.z
      have z1 : wr.cell? ⟨w.heap.size + 1 + 1, 1, none⟩ = some (.slice bo' n2 cp2) := cell_of_row _ _ 1 _ _ _ HS.out.z
      have FIN : ∀ bb, decide (q = q') = bb → Hid ((c3 = 0 → c4 = 0 → ((strL L1).toList == (strL L2).toList) = bb)) := fun bb hbb h3 h4 => by
        obtain ⟨a1, a2, _⟩ := HF1.out h3
        obtain ⟨b1, b2, _⟩ := HF2.out h4
        rw [strL_bytes, strL_bytes, ← hbb, Bool.eq_iff_iff]
        simp only [beq_iff_eq, decide_eq_true_eq]
        constructor
        · intro e
          rw [a2, b2] at e
          exact entsL_inj (good_all a1) (good_all b1) e
        · intro e
          rw [a2, b2, e]
      have HQL := Lib.hid (And.intro HQ.out.1.1 HQ.out.2.1)
      cases b
      · have HX := FIN false (decide_eq_false fun e => by
          have h1 := of_decide_eq_false HR.out.2.symm
          exact h1 ⟨by rw [← HQL.out.1, ← HQL.out.2, e], by rw [e]⟩)
        clear FIN
        by_cases hlt : j < n1
        · have hltb : (decide ((j : Int) < (n1 : Int))) = true := decide_eq_true (by omega)
          by_cases h3 : c3 = 0
          · subst h3
            by_cases h4 : c4 = 0
            · subst h4
              have cv1 : (convert 33 9 v1).run Tryd.prog wr = .ok (.string (strL L1)) wr := convL ((HF1.out rfl).2.2.kept HR.out.1.kept)
              have cv2 : (convert 33 9 v2).run Tryd.prog wr = .ok (.string (strL L2)) wr := convL ((HF2.out rfl).2.2.kept HR.out.1.kept)
              have hx := HX.out rfl rfl
              clear HX
              go_wp2_with fail
              go_ret
              exact ⟨rfl, HS.out.kept⟩
            · have h4' : (c4 != 0) = true := by simpa using h4
              clear HX
              go_wp2_with fail
              go_ret
              exact ⟨rfl, HS.out.kept⟩
          · have h3' : (c3 != 0) = true := by simpa using h3
            clear HX
            go_wp2_with fail
            go_ret
            exact ⟨rfl, HS.out.kept⟩
        · have hltb : (decide ((j : Int) < (n1 : Int))) = false := decide_eq_false (by omega)
          by_cases h3 : c3 = 0
          · subst h3
            by_cases h4 : c4 = 0
            · subst h4
              have cv1 : (convert 33 9 v1).run Tryd.prog wr = .ok (.string (strL L1)) wr := convL ((HF1.out rfl).2.2.kept HR.out.1.kept)
              have cv2 : (convert 33 9 v2).run Tryd.prog wr = .ok (.string (strL L2)) wr := convL ((HF2.out rfl).2.2.kept HR.out.1.kept)
              have hx := HX.out rfl rfl
              clear HX
              go_wp2_with fail
              go_ret
              exact ⟨rfl, HS.out.kept⟩
            · have h4' : (c4 != 0) = true := by simpa using h4
              clear HX
              go_wp2_with fail
              go_ret
              exact ⟨rfl, HS.out.kept⟩
          · have h3' : (c3 != 0) = true := by simpa using h3
            clear HX
            go_wp2_with fail
            go_ret
            exact ⟨rfl, HS.out.kept⟩
      · have hT := of_decide_eq_true HR.out.2.symm
        have HT := Lib.hid hT
        clear hT
        by_cases hlt : j < n1
        · clear FIN
          obtain ⟨b1, o1, rfl, hb1, hcc⟩ := (HQ.out.1.kept HS.out.kept).cell (by omega)
          obtain ⟨b2, o2, rfl, hb2, hdd⟩ := (HQ.out.2.kept HS.out.kept).cell (by have := HT.out.1; omega)
          have hj1 : j < q.length := by rw [HQL.out.1]; exact hlt
          have hj2 : j < q'.length := by rw [HQL.out.2, ← HT.out.1]; exact hlt
          obtain ⟨c0, c1⟩ := hcc j hj1
          obtain ⟨d0, d1⟩ := hdd j hj2
          have hlt2 : j < n2 := by have := HT.out.1; omega
          obtain ⟨x, hx⟩ : ∃ x, q[j] = x := ⟨_, rfl⟩
          obtain ⟨y, hy⟩ : ∃ y, q'[j] = y := ⟨_, rfl⟩
          rw [hx] at c0 c1
          rw [hy] at d0 d1
          have HXY := Lib.hid (And.intro hx hy)
          have HNX : ∀ bb, decide (x = y) = bb → Hid (bb = decide (n1 = n2 ∧ q.take (j + 1) = q'.take (j + 1))) := fun bb hbb => by
            show _ = _
            rw [← hbb, List.take_succ_eq_append_getElem hj1, List.take_succ_eq_append_getElem hj2, HXY.out.1, HXY.out.2, HT.out.2, Bool.eq_iff_iff]
            simp [HT.out.1]
          obtain ⟨x1, x2⟩ := x
          obtain ⟨y1, y2⟩ := y
          clear hx hy hcc hdd
          simp only at c0 c1 d0 d1
          by_cases e1 : x1 = y1
          · by_cases e2 : x2 = y2
            · subst e1
              subst e2
              have HN := HNX true (decide_eq_true rfl)
              clear HNX
              go_wp2_with fail
              go_quiet (fail)
              go_wp2_with fail
              go_roundw
              case rel => exact ⟨j + 1, true, by omega, by go_num, rfl, HR.out.1.more _, HN.out⟩
              case measure => simp [intOf]; omega
            · subst e1
              have e3 : ((strL x2).toList == (strL y2).toList) = false := by rw [strL_bytes, strL_bytes]; simpa using e2
              have HN := HNX false (decide_eq_false (fun e => e2 (Prod.mk.inj e).2))
              clear HNX
              go_wp2_with fail
              go_quiet (fail)
              go_wp2_with fail
              go_roundw
              case rel => exact ⟨j + 1, false, by omega, by go_num, rfl, HR.out.1.more _, HN.out⟩
              case measure => simp [intOf]; omega
          · have e3 : (x1 == y1) = false := by simpa using e1
            have HN := HNX false (decide_eq_false (fun e => e1 (Prod.mk.inj e).1))
            clear HNX
            go_wp2_with fail
            go_quiet (fail)
            go_wp2_with fail
            go_roundw
            case rel => exact ⟨j + 1, false, by omega, by go_num, rfl, HR.out.1.more _, HN.out⟩
            case measure => simp [intOf]; omega
        · have HX := FIN true (decide_eq_true (by
            have h1 := HT.out.1
            have h2 := HT.out.2
            have l1 := HQL.out.1
            have l2 := HQL.out.2
            rw [List.take_of_length_le (by omega), List.take_of_length_le (by omega)] at h2
            exact h2))
          clear FIN
          by_cases h3 : c3 = 0
          · subst h3
            by_cases h4 : c4 = 0
            · subst h4
              have cv1 : (convert 33 9 v1).run Tryd.prog wr = .ok (.string (strL L1)) wr := convL ((HF1.out rfl).2.2.kept HR.out.1.kept)
              have cv2 : (convert 33 9 v2).run Tryd.prog wr = .ok (.string (strL L2)) wr := convL ((HF2.out rfl).2.2.kept HR.out.1.kept)
              have hx := HX.out rfl rfl
              clear HX
              go_wp2_with fail
              go_ret
              exact ⟨rfl, HS.out.kept⟩
            · have h4' : (c4 != 0) = true := by simpa using h4
              clear HX
              go_wp2_with fail
              go_ret
              exact ⟨rfl, HS.out.kept⟩
          · have h3' : (c3 != 0) = true := by simpa using h3
            clear HX
            go_wp2_with fail
            go_ret
            exact ⟨rfl, HS.out.kept⟩
end Go.Proofs.YtampdibpmgiffaaDoor

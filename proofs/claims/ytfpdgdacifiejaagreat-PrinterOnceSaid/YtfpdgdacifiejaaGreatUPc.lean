/-
  Layer 13: what may stand below a node: the program's kinds, where they may.
  Conditions: those that each theorem states.
  A statement whose order Go leaves open, walked by a plan: an operation that only reads is taken first; where one alone can come up it comes; where two can, both ways are walked.
  Conditions: those that the kernel reckons of the region's own list ('planMix'); the relation is reflexive and transitive.
  A struct that is stored whole; a struct as a result.
  Conditions: those that each theorem states.
  Layer 11: the program's signs, and the piece that it cuts.
  Conditions: those that each theorem states.
  Layer 11: the piece that the program cuts off a text.
  Conditions: those that each theorem states.
-/
import Derived.Test.YtfpdgdacifiejaaGreatVDepP
import Derived.Test.YtfpdgdacifiejaaGreatTKit
import Derived.Laws.ResultCell
import Derived.Test.YtfpdgdacifiejaaGreatUCut
namespace Go.Proofs.YtfpdgdacifiejaaGreat
open Go.RowKit Go.Maps

/-- The kind of the node at k. -/
def kdN (ns : List Nod) (k : Nat) : Nat := (ns[k]?.map (·.kd)).getD 0
/-- Kinds in a block of their own. -/
def KnIs (w : World) (v : Value) (kl : List Nat) : Prop := ∃ g, v = .slice (some ⟨g, 0, none⟩) kl.length kl.length ∧ w.heap[g]? = some (.cells (nvA kl) 3) ∧ kl.length ≤ 5000
theorem KnIs.kept {w w' : World} {v : Value} {kl : List Nat} (h : KnIs w v kl) (hk : Kept [] w w') : KnIs w' v kl := by
  obtain ⟨g, h1, h2, h3⟩ := h
  exact ⟨g, h1, hk.heap (by simp) h2, h3⟩
/-- These kinds may be, as a method says. -/
def BelC (fid : FuncId) (kl : List Nat) : Prop := ∀ (w : World) (v : Value), KnIs w v kl → Calls Tryz.prog fid #[v] w fun e w' => e = .returned (.bool true) ∧ Kept [] w w'
set_option maxRecDepth 100000 in
set_option maxHeartbeats 4000000 in
theorem pkindsOf_any (v lv : Value) (ns : List Nod) (ks : List Nat) (w : World) (h : NdIs w v ns) (hk : KsIs w lv ks) (hi : ∀ k ∈ ks, k < ns.length) (hl : ks.length ≤ 5000) :
    Calls Tryz.prog 58 #[v, lv] w fun e w' => ∃ v', e = .returned v' ∧ KnIs w' v' (ks.map (kdN ns)) ∧ Kept [] w w' := by
  obtain ⟨na, nc, rfl, hnc, hn63, hnat⟩ := h
  obtain ⟨la, lc, rfl, hlc, hl63, hlat⟩ := hk
  obtain ⟨n, hn⟩ : ∃ n, ks.length = n := ⟨_, rfl⟩
  obtain ⟨N, hN⟩ : ∃ N, ns.length = N := ⟨_, rfl⟩
  have HN := Lib.hid (And.intro hn hN)
  have HNA := Lib.hid hnat
  have HLA := Lib.hid hlat
  have HI := Lib.hid hi
  rw [hn] at hlc hl ⊢
  rw [hN] at hnc ⊢
  obtain ⟨w1, hw1⟩ : ∃ w1, w.alloc (.cells (nvA (List.replicate n 0)) 3) = w1 := ⟨_, rfl⟩
  have hmk := run_make_ints (P := Tryz.prog) w 94 3 Tryz.underlying94 (by kernel_rfl) n (by omega)
  rw [hw1] at hmk
  have H1 : Hid (DpSt w w.heap.size (List.replicate n 0) w1) := ⟨by rw [← hw1]; exact heap_alloc_last _ _, by rw [← hw1]; exact Kept.alloc _ _ _, Nat.le_refl _⟩
  obtain ⟨gd, hgd⟩ : ∃ g, w.heap.size = g := ⟨_, rfl⟩
  rw [hgd] at hmk H1
  clear hnat hlat hi hw1 hgd hn hN
  go_enter Tryz.func58, Tryz.ntmps58
  go_wp2_with fail
  go_loopw [13] (fun si wr => ∃ i : Nat, si = .int .i64 i ∧ i ≤ n ∧ Hid (DpSt w gd ((ks.take i).map (kdN ns) ++ List.replicate (n - i) 0) wr)) (fun si _ => n - (intOf si).toNat)
  case atStart => exact ⟨0, rfl, by omega, Lib.hid (by simpa using H1.out)⟩
  case round =>
    obtain ⟨i, rfl, hi, HS⟩ := hrel
    clear H1 hmk
    by_cases hlt : i < n
    · have hil : i < ks.length := by have := HN.out.1; omega
      obtain ⟨b2, o2, rfl, hb2, hc2⟩ := HLA.out (by omega)
      have y0 := hc2 i hil
      have hx := HI.out _ (List.getElem_mem hil)
      have HNX : Hid ((ks.take (i + 1)).map (kdN ns) = (ks.take i).map (kdN ns) ++ [kdN ns ks[i]]) := by
        show _ = _
        rw [List.take_succ_eq_append_getElem hil, List.map_append]
        rfl
      obtain ⟨x, hxe⟩ : ∃ x, ks[i] = x := ⟨_, rfl⟩
      rw [hxe] at y0 hx HNX
      obtain ⟨b, o, rfl, hb, hc⟩ := HNA.out (by omega)
      obtain ⟨e0, _⟩ := hc x hx
      have hkd : kdN ns x = ns[x].kd := by unfold kdN; rw [List.getElem?_eq_getElem hx]; rfl
      rw [← hkd] at e0
      obtain ⟨kd, hkd2⟩ : ∃ k, kdN ns x = k := ⟨_, rfl⟩
      rw [hkd2] at e0 HNX
      have hxN : x < N := by have := HN.out.2; omega
      have y1 := (HS.out.kept.cell (p := ⟨b2, o2 + i, none⟩) hb2 (by simp)).trans y0
      have y2 := (HS.out.kept.cell (p := ⟨b, o + x * 3, none⟩) hb (by simp)).trans e0
      have HPL : Hid (((ks.take i).map (kdN ns)).length = i) := by show _ = _; simp; omega
      have HN2 : Hid (DpSt w gd ((ks.take (i + 1)).map (kdN ns) ++ List.replicate (n - (i + 1)) 0) (wr.setCell ⟨gd, i, none⟩ (.int .i64 (kd : Int)))) := by
        have := HS.out.set i kd
        rw [show n - i = (n - (i + 1)) + 1 by omega, List.replicate_succ, List.set_append_right _ _ (by rw [HPL.out]; omega), HPL.out, Nat.sub_self, List.set_cons_zero] at this
        rw [HNX.out, List.append_assoc]
        exact this
      have zz : wr.cell? ⟨gd, i, none⟩ = some (.int .i64 ((0 : Nat) : Int)) := by
        rw [HS.out.cell i (by simp; omega)]
        simp only [List.getElem_append_right (Nat.le_of_eq HPL.out), List.getElem_replicate]
      have ff : ∀ q, wr.frozen? ⟨gd, q, none⟩ = false := fun q => frozen_of_row _ _ q _ _ HS.out.row
      clear e0 hkd hkd2 hxe y0 hc2 hc
      go_wp2_with fail
      go_roundw
      case rel => exact ⟨i + 1, by go_num, by omega, HN2⟩
      case measure => simp [intOf]; omega
    · have hin : i = n := by omega
      have HE : Hid (DpSt w gd (ks.map (kdN ns)) wr) := by
        have := HS.out
        rw [hin, Nat.sub_self, List.take_of_length_le (by have := HN.out.1; omega)] at this
        exact Lib.hid (by simpa using this)
      have hii : ¬ (i : Int) < (n : Int) := by omega
      clear hin
      go_wp2_with fail
      go_ret
      exact ⟨_, rfl, ⟨gd, by rw [List.length_map, HN.out.1]; rfl, HE.out.row, by rw [List.length_map, HN.out.1]; exact hl⟩, HE.out.kept⟩
/- One kind. -/
def IsC (fid : FuncId) (k : Nat) : Prop := ∀ w : World, Calls Tryz.prog fid #[.int .i64 (k : Int)] w fun e w' => e = .returned (.bool true) ∧ w = w'
theorem pisBlock_any : IsC 30 1 := by
  intro w
  go_enter Tryz.func30, Tryz.ntmps30
  go_wp2_with fail
  go_ret
  exact ⟨rfl, rfl⟩
theorem pisParam_any : IsC 122 4 := by
  intro w
  go_enter Tryz.func122, Tryz.ntmps122
  go_wp2_with fail
  go_ret
  exact ⟨rfl, rfl⟩
theorem pisAttr_any : IsC 124 9 := by
  intro w
  go_enter Tryz.func124, Tryz.ntmps124
  go_wp2_with fail
  go_ret
  exact ⟨rfl, rfl⟩
theorem pisValue_any (k : Nat) (h : 13 ≤ k ∧ k ≤ 20) : IsC 123 k := by
  intro w
  have h1 : (13 : Int) ≤ (k : Int) := by omega
  have h2 : (k : Int) ≤ 20 := by omega
  go_enter Tryz.func123, Tryz.ntmps123
  go_wp2_with fail
  go_ret
  exact ⟨rfl, rfl⟩
theorem pisStatement_any (k : Nat) (h : k = 2 ∨ k = 3 ∨ k = 5 ∨ k = 6 ∨ k = 7 ∨ k = 8 ∨ k = 10) : IsC 119 k := by
  intro w
  rcases h with rfl | rfl | rfl | rfl | rfl | rfl | rfl
  all_goals
    go_enter Tryz.func119, Tryz.ntmps119
    go_wp2_with fail
    go_ret
    exact ⟨rfl, rfl⟩
set_option maxRecDepth 100000 in
set_option maxHeartbeats 4000000 in
theorem pkAll_any (fid : FuncId) (hent : Enters Tryz.prog fid) (g o n c : Nat) (kl : List Nat) (w : World) (hn : kl.length = n) (hc : ∀ j (h : j < kl.length), w.cell? ⟨g, o + j, none⟩ = some (.int .i64 (kl[j] : Int))) (hb : n ≤ 5000) (hi : ∀ k ∈ kl, IsC fid k) :
    Calls Tryz.prog 118 #[.slice (some ⟨g, o, none⟩) n c, .func (.func fid) #[] #[]] w fun e w' => e = .returned (.bool true) ∧ w = w' := by
  have hE : ∀ (args : Array Value) (w : World), (callFunc fid args).run Tryz.prog w = .ok (.enter fid args) w := hent
  have HC := Lib.hid hc
  have HN := Lib.hid hn
  have HI := Lib.hid hi
  clear hc hn hi hent
  go_enter Tryz.func118, Tryz.ntmps118
  go_wp2_with fail
  go_loopw [9] (fun si wr => ∃ k : Nat, si = .int .i64 k ∧ k ≤ n ∧ Hid (w = wr)) (fun si _ => n - (intOf si).toNat)
  case atStart => exact ⟨0, rfl, by omega, Lib.hid rfl⟩
  case round =>
    obtain ⟨k, rfl, hk, HS⟩ := hrel
    obtain rfl := HS.out
    clear HS
    by_cases hlt : k < n
    · have hkl : k < kl.length := by have := HN.out; omega
      have c0 := HC.out k hkl
      have hx := HI.out _ (List.getElem_mem hkl)
      obtain ⟨x, hxe⟩ : ∃ x, kl[k] = x := ⟨_, rfl⟩
      rw [hxe] at c0 hx
      have HX := Lib.hid (hx w)
      clear hx hxe
      by_cases hk0 : k = 0
      · subst hk0
        have c1 : w.cell? ⟨g, o, none⟩ = some (.int .i64 (x : Int)) := c0
        go_wp2_with fail
        refine HX.out.mono ?_
        rintro e w2 ⟨rfl, rfl⟩
        clear c0 c1 HX
        go_wp2_with fail
        go_roundw
        case rel => exact ⟨0 + 1, by go_num, by omega, Lib.hid (by trivial)⟩
        case measure => simp [intOf]; omega
      · go_wp2_with fail
        refine HX.out.mono ?_
        rintro e w2 ⟨rfl, rfl⟩
        clear c0 HX
        go_wp2_with fail
        go_roundw
        case rel => exact ⟨k + 1, by go_num, by omega, Lib.hid (by trivial)⟩
        case measure => simp [intOf]; omega
    · have hii : ¬ (k : Int) < (n : Int) := by omega
      go_wp2_with fail
      go_ret
      exact ⟨rfl, rfl⟩
theorem KnIs.cells {w : World} {g : Nat} {kl : List Nat} (h : w.heap[g]? = some (.cells (nvA kl) 3)) : ∀ j (hj : j < kl.length), w.cell? ⟨g, j, none⟩ = some (.int .i64 (kl[j] : Int)) := fun j hj => by
  rw [cell_of_row _ _ j _ _ _ h]
  exact nvA_get kl j hj
theorem enters_isBlock : Enters Tryz.prog 30 := enters_of Tryz.func30 (by kernel_rfl) rfl
theorem enters_isParam : Enters Tryz.prog 122 := enters_of Tryz.func122 (by kernel_rfl) rfl
theorem enters_isAttr : Enters Tryz.prog 124 := enters_of Tryz.func124 (by kernel_rfl) rfl
theorem enters_isValue : Enters Tryz.prog 123 := enters_of Tryz.func123 (by kernel_rfl) rfl
theorem enters_isStatement : Enters Tryz.prog 119 := enters_of Tryz.func119 (by kernel_rfl) rfl
set_option maxRecDepth 100000 in
theorem pkNone_any : BelC 94 [] := by
  rintro w v ⟨g, rfl, h, _⟩
  rw [show ([] : List Nat).length = 0 from rfl]
  clear h
  go_enter Tryz.func94, Tryz.ntmps94
  go_wp2_with fail
  go_ret
  exact ⟨rfl, Kept.refl _ _⟩
set_option maxRecDepth 100000 in
theorem pkStatements_any (kl : List Nat) (hk : ∀ k ∈ kl, k = 2 ∨ k = 3 ∨ k = 5 ∨ k = 6 ∨ k = 7 ∨ k = 8 ∨ k = 10) : BelC 89 kl := by
  rintro w v ⟨g, rfl, h, h5⟩
  have HP := Lib.hid (pkAll_any 119 enters_isStatement g 0 kl.length kl.length kl w rfl (fun j hj => by rw [Nat.zero_add]; exact KnIs.cells h j hj) h5 (fun k hm => pisStatement_any k (hk k hm)))
  clear h h5 hk
  go_enter Tryz.func89, Tryz.ntmps89
  go_wp2_with fail
  refine HP.out.mono ?_
  rintro e w2 ⟨rfl, rfl⟩
  go_wp2_with fail
  go_ret
  exact ⟨rfl, Kept.refl _ _⟩
set_option maxRecDepth 100000 in
theorem pkValue_any (k : Nat) (hk : 13 ≤ k ∧ k ≤ 20) : BelC 95 [k] := by
  rintro w v ⟨g, rfl, h, _⟩
  rw [show [k].length = 1 from rfl]
  have c0 : w.cell? ⟨g, 0, none⟩ = some (.int .i64 (k : Int)) := KnIs.cells h 0 (by simp)
  have HP := Lib.hid (pisValue_any k hk w)
  clear h hk
  go_enter Tryz.func95, Tryz.ntmps95
  go_wp2_with fail
  refine HP.out.mono ?_
  rintro e w2 ⟨rfl, rfl⟩
  clear c0
  go_wp2_with fail
  go_ret
  exact ⟨rfl, Kept.refl _ _⟩
set_option maxRecDepth 100000 in
/-- none of no kinds; of others. -/
theorem pkNone_no (g k : Nat) (w : World) : Calls Tryz.prog 94 #[.slice (some ⟨g, 0, none⟩) (k + 1) (k + 1)] w fun e w' => e = .returned (.bool false) ∧ w = w' := by
  have h : (((k + 1 : Nat) : Int) == 0) = false := by simp; omega
  go_enter Tryz.func94, Tryz.ntmps94
  go_wp2_with fail
  go_ret
  exact ⟨retB (by first | rfl | exact h), rfl⟩
set_option maxRecDepth 100000 in
theorem pkParam_none : BelC 93 [] := by
  intro w v hv
  have HP := Lib.hid (pkNone_any w v hv)
  obtain ⟨g, rfl, _, _⟩ := hv
  go_enter Tryz.func93, Tryz.ntmps93
  go_wp2_with fail
  refine HP.out.mono ?_
  rintro e w2 ⟨rfl, hk⟩
  have HK := Lib.hid hk
  clear hk
  go_wp2_with fail
  go_ret
  exact ⟨rfl, HK.out⟩
set_option maxRecDepth 100000 in
theorem pkParam_one (k : Nat) (hk : 13 ≤ k ∧ k ≤ 20) : BelC 93 [k] := by
  intro w v hv
  have HP := Lib.hid (pkValue_any k hk w v hv)
  obtain ⟨g, rfl, _, _⟩ := hv
  rw [show [k].length = 1 from rfl] at HP ⊢
  have HQ := Lib.hid (pkNone_no g 0 w)
  go_enter Tryz.func93, Tryz.ntmps93
  go_wp2_with fail
  refine HQ.out.mono ?_
  rintro e w2 ⟨rfl, rfl⟩
  go_wp2_with fail
  refine HP.out.mono ?_
  rintro e w2 ⟨rfl, hk⟩
  have HK := Lib.hid hk
  clear hk
  go_wp2_with fail
  go_ret
  exact ⟨rfl, HK.out⟩
set_option maxRecDepth 100000 in
theorem pkOperands_any (a b : Nat) (ha : 13 ≤ a ∧ a ≤ 20) (hb : 13 ≤ b ∧ b ≤ 20) : BelC 130 [a, b] := by
  rintro w v ⟨g, rfl, h, _⟩
  have HP := Lib.hid (pkAll_any 123 enters_isValue g 0 2 2 [a, b] w rfl (fun j hj => by rw [Nat.zero_add]; exact KnIs.cells h j hj) (by omega) (fun k hm => by
    simp only [List.mem_cons, List.not_mem_nil, or_false] at hm
    rcases hm with rfl | rfl
    · exact pisValue_any _ ha
    · exact pisValue_any _ hb))
  rw [show [a, b].length = 2 from rfl]
  clear h ha hb
  go_enter Tryz.func130, Tryz.ntmps130
  go_wp2_with fail
  refine HP.out.mono ?_
  rintro e w2 ⟨rfl, rfl⟩
  go_wp2_with fail
  go_ret
  exact ⟨rfl, Kept.refl _ _⟩
set_option maxRecDepth 100000 in
theorem pkDeclaration_any (ps : List Nat) (hp : ∀ k ∈ ps, k = 4) : BelC 91 (ps ++ [1]) := by
  rintro w v ⟨g, rfl, h, h5⟩
  obtain ⟨n, hn⟩ : ∃ n, ps.length = n := ⟨_, rfl⟩
  have hlen : (ps ++ [1]).length = n + 1 := by simp [hn]
  have c0 : w.cell? ⟨g, n, none⟩ = some (.int .i64 1) := by
    have := KnIs.cells h n (by omega)
    rw [List.getElem_append_right (by omega)] at this
    simpa [hn] using this
  have HP := Lib.hid (pkAll_any 122 enters_isParam g 0 n (n + 1) ps w hn (fun j hj => by
    have := KnIs.cells h j (by omega)
    rw [List.getElem_append_left hj] at this
    rw [Nat.zero_add]; exact this) (by omega) (fun k hm => by rw [hp k hm]; exact pisParam_any))
  have HB := Lib.hid (show Calls Tryz.prog 30 #[.int .i64 1] w _ from pisBlock_any w)
  rw [hlen] at h5 ⊢
  have hw : IntKind.i64.wrap (((n + 1 : Nat) : Int) - 1) = (n : Int) := by rw [IntKind.wrap_i64]; omega
  have hn0 : (0 : Int) ≤ (n : Int) := by omega
  clear h hp hn hlen
  go_enter Tryz.func91, Tryz.ntmps91
  go_wp2_with fail
  refine HP.out.mono ?_
  rintro e w2 ⟨rfl, rfl⟩
  go_wp2_with fail
  refine HB.out.mono ?_
  rintro e w2 ⟨rfl, rfl⟩
  clear c0
  go_wp2_with fail
  go_ret
  exact ⟨rfl, Kept.refl _ _⟩
set_option maxRecDepth 100000 in
theorem pkCondition_any (k : Nat) (r : List Nat) (hk : 13 ≤ k ∧ k ≤ 20) (hr : r = [1] ∨ r = [1, 1]) : BelC 96 (k :: r) := by
  rintro w v ⟨g, rfl, h, _⟩
  have c0 : w.cell? ⟨g, 0, none⟩ = some (.int .i64 (k : Int)) := KnIs.cells h 0 (by simp)
  have HV := Lib.hid (pisValue_any k hk w)
  have HP := Lib.hid (fun c => pkAll_any 30 enters_isBlock g 1 r.length c r w rfl (fun j hj => by have := KnIs.cells h (j + 1) (by simpa using hj); rw [Nat.add_comm 1 j]; simpa using this) (by rcases hr with rfl | rfl <;> simp) (fun k hm => by
    have : k = 1 := by rcases hr with rfl | rfl <;> simpa using hm
    rw [this]; exact pisBlock_any))
  clear h hk
  rcases hr with rfl | rfl
  · rw [show [k, 1].length = 2 from rfl]
    rw [show ([1] : List Nat).length = 1 from rfl] at HP
    go_enter Tryz.func96, Tryz.ntmps96
    go_wp2_with fail
    refine HV.out.mono ?_
    rintro e w2 ⟨rfl, rfl⟩
    go_wp2_with fail
    refine (HP.out _).mono ?_
    rintro e w2 ⟨rfl, rfl⟩
    clear c0
    go_wp2_with fail
    go_ret
    exact ⟨rfl, Kept.refl _ _⟩
  · rw [show [k, 1, 1].length = 3 from rfl]
    rw [show ([1, 1] : List Nat).length = 2 from rfl] at HP
    go_enter Tryz.func96, Tryz.ntmps96
    go_wp2_with fail
    refine HV.out.mono ?_
    rintro e w2 ⟨rfl, rfl⟩
    go_wp2_with fail
    refine (HP.out _).mono ?_
    rintro e w2 ⟨rfl, rfl⟩
    clear c0
    go_wp2_with fail
    go_ret
    exact ⟨rfl, Kept.refl _ _⟩
set_option maxRecDepth 100000 in
theorem pkResource_any (k : Nat) (r : List Nat) (hk : 13 ≤ k ∧ k ≤ 20) (hr : ∀ x ∈ r, x = 9) : BelC 97 (k :: r) := by
  rintro w v ⟨g, rfl, h, h5⟩
  have c0 : w.cell? ⟨g, 0, none⟩ = some (.int .i64 (k : Int)) := KnIs.cells h 0 (by simp)
  have HV := Lib.hid (pisValue_any k hk w)
  have hall : ∀ c o, (r ≠ [] → o = 1) → Calls Tryz.prog 118 #[.slice (some ⟨g, o, none⟩) r.length c, .func (.func 124) #[] #[]] w fun e w' => e = .returned (.bool true) ∧ w = w' := fun c o ho => by
    refine pkAll_any 124 enters_isAttr g o r.length c r w rfl (fun j hj => ?_) (by simp at h5; omega) (fun x hm => by rw [hr x hm]; exact pisAttr_any)
    have := KnIs.cells h (j + 1) (by simpa using hj)
    rw [ho (by rintro rfl; simp at hj), Nat.add_comm 1 j]
    simpa using this
  clear h hk
  cases r with
  | nil =>
    have HP := Lib.hid (hall 0 0 (by simp))
    rw [show ([] : List Nat).length = 0 from rfl] at HP
    rw [show [k].length = 1 from rfl]
    clear hall h5 hr
    go_enter Tryz.func97, Tryz.ntmps97
    go_wp2_with fail
    refine HV.out.mono ?_
    rintro e w2 ⟨rfl, rfl⟩
    go_wp2_with fail
    refine HP.out.mono ?_
    rintro e w2 ⟨rfl, rfl⟩
    clear c0
    go_wp2_with fail
    go_ret
    exact ⟨rfl, Kept.refl _ _⟩
  | cons a r =>
    obtain ⟨n, hn⟩ : ∃ n, r.length = n := ⟨_, rfl⟩
    have HP := Lib.hid (fun c => hall c 1 (fun _ => rfl))
    rw [show (a :: r).length = n + 1 by simp [hn]] at HP
    rw [show (k :: a :: r).length = n + 1 + 1 by simp [hn]] at h5 ⊢
    have h0 : (0 : Int) < ((n + 1 + 1 : Nat) : Int) := by omega
    clear hall hr hn
    go_enter Tryz.func97, Tryz.ntmps97
    go_wp2_with fail
    refine HV.out.mono ?_
    rintro e w2 ⟨rfl, rfl⟩
    go_wp2_with fail
    refine (HP.out _).mono ?_
    rintro e w2 ⟨rfl, rfl⟩
    clear c0
    go_wp2_with fail
    go_ret
    exact ⟨rfl, Kept.refl _ _⟩
set_option maxRecDepth 100000 in
set_option maxHeartbeats 4000000 in
theorem pkChain_any (kl : List Nat) (m : Nat) (hlen : kl.length = 2 * m + 3) (hk : ∀ j (h : j < kl.length), kl[j] = if j % 2 = 1 then 12 else 11) : BelC 99 kl := by
  rintro w v ⟨g, rfl, h, h5⟩
  obtain ⟨n, hn⟩ : ∃ n, kl.length = n := ⟨_, rfl⟩
  have HC : Hid (∀ j, j < n → w.cell? ⟨g, j, none⟩ = some (.int .i64 ((if j % 2 = 1 then 12 else 11 : Nat) : Int))) := fun j hj => by
    have := KnIs.cells h j (by omega)
    rwa [hk j (by omega)] at this
  rw [hn] at hlen h5 ⊢
  clear hk h hn
  go_enter Tryz.func99, Tryz.ntmps99
  go_wp2_with fail
  go_loopw [8] (fun si wr => ∃ k : Nat, si = .int .i64 k ∧ k ≤ n ∧ Hid (w = wr)) (fun si _ => n - (intOf si).toNat)
  case atStart => exact ⟨0, rfl, by omega, Lib.hid rfl⟩
  case round =>
    obtain ⟨k, rfl, hk, HS⟩ := hrel
    obtain rfl := HS.out
    clear HS
    by_cases hlt : k < n
    · have c0 := HC.out k hlt
      by_cases hm : k % 2 = 1
      · rw [if_pos hm] at c0
        have c1 : w.cell? ⟨g, k, none⟩ = some (.int .i64 12) := c0
        have hmm : (k : Int) % 2 = 1 := by omega
        have hmt : (k : Int).tmod 2 = 1 := by rw [Int.tmod_eq_emod_of_nonneg (by omega)]; omega
        clear c0 hm
        go_wp2_with fail
        go_roundw
        case rel => exact ⟨k + 1, by go_num, by omega, Lib.hid (by trivial)⟩
        case measure => simp [intOf]; omega
      · rw [if_neg hm] at c0
        have c1 : w.cell? ⟨g, k, none⟩ = some (.int .i64 11) := c0
        have hmm : (k : Int) % 2 = 0 := by omega
        have hmt : (k : Int).tmod 2 = 0 := by rw [Int.tmod_eq_emod_of_nonneg (by omega)]; omega
        clear c0 hm
        go_wp2_with fail
        go_roundw
        case rel => exact ⟨k + 1, by go_num, by omega, Lib.hid (by trivial)⟩
        case measure => simp [intOf]; omega
    · have hii : ¬ (k : Int) < (n : Int) := by omega
      have h3 : (3 : Int) ≤ (n : Int) := by omega
      have hmm : (n : Int) % 2 = 1 := by omega
      have hmt : (n : Int).tmod 2 = 1 := by rw [Int.tmod_eq_emod_of_nonneg (by omega)]; omega
      go_wp2_with fail
      go_ret
      exact ⟨rfl, Kept.refl _ _⟩
end Go.Proofs.YtfpdgdacifiejaaGreat

namespace Go.Proofs.YtfpdgdacifiejaaGreat
open Go.RowKit Go.Maps

inductive Plan where
  | fin
  | take (k : Nat) (p : Plan)
  | one (k : Nat) (p : Plan)
  | two (k : Nat) (p : Plan) (j : Nat) (q : Plan)
def Plan.len : Plan → Nat
  | .fin => 0
  | .take _ p => p.len + 1
  | .one _ p => p.len + 1
  | .two _ p _ _ => p.len + 1

section
variable {P : Program} {ops : Array Oper} {Q : Exit → Act → World → Prop} {R : World → World → Prop} {md : Region.Mode}

def planMix (md : Region.Mode) (ops : Array Oper) : Plan → Array Bool → Bool
  | .fin, listed => (Region.ready md ops listed).isEmpty
  | .take k p, listed => decide (k < ops.size) && ((Region.ready md ops listed).contains k && Region.free md ops listed k && planMix md ops p (listed.setIfInBounds k true))
  | .one k p, listed => decide (k < ops.size) && (decide (Region.ready md ops listed = [k]) && planMix md ops p (listed.setIfInBounds k true))
  | .two k p j q, listed => decide (k < ops.size) && (decide (j < ops.size) && (decide (Region.ready md ops listed = [k, j]) && (decide (p.len = q.len) && (planMix md ops p (listed.setIfInBounds k true) && planMix md ops q (listed.setIfInBounds j true)))))

def wpP (P : Program) (ops : Array Oper) (Q : Exit → Act → World → Prop) (R : World → World → Prop) (l : List Oper) : Plan → Act → World → Prop
  | .fin, a, w => Q .normal a w
  | .take k p, a, w => ∃ v, YieldsIf P ops (R w) (l.getD k default) v a ∧ wpP P ops Q R l p (a.put (l.getD k default).dst v) w
  | .one k p, a, w => (if Region.wanted (l.getD k default) (yielded ops a.tmps) then (l.getD k default).wp P a w (fun a' w' => R w w' ∧ wpP P ops Q R l p a' w') Q else wpP P ops Q R l p (a.put (l.getD k default).dst undef) w)
  | .two k p j q, a, w => (if Region.wanted (l.getD k default) (yielded ops a.tmps) then (l.getD k default).wp P a w (fun a' w' => R w w' ∧ wpP P ops Q R l p a' w') Q else wpP P ops Q R l p (a.put (l.getD k default).dst undef) w) ∧
      (if Region.wanted (l.getD j default) (yielded ops a.tmps) then (l.getD j default).wp P a w (fun a' w' => R w w' ∧ wpP P ops Q R l q a' w') Q else wpP P ops Q R l q (a.put (l.getD j default).dst undef) w)

theorem wpP_fin {l : List Oper} {a : Act} {w : World} (h : Q .normal a w) : wpP P ops Q R l .fin a w := h
theorem wpP_take {l : List Oper} {k : Nat} {p : Plan} {a : Act} {w : World} (v : Value) (hw : Region.wanted (l.getD k default) (yielded ops a.tmps) = true)
    (hv : ∀ w', R w w' → (execOp a.eval (l.getD k default)).run P w' = .ok (.value v) w') (h : wpP P ops Q R l p (a.put (l.getD k default).dst v) w) : wpP P ops Q R l (.take k p) a w :=
  ⟨v, Or.inl ⟨hw, hv⟩, h⟩
theorem wpP_pass {l : List Oper} {k : Nat} {p : Plan} {a : Act} {w : World} (hw : Region.wanted (l.getD k default) (yielded ops a.tmps) = false)
    (h : wpP P ops Q R l p (a.put (l.getD k default).dst undef) w) : wpP P ops Q R l (.take k p) a w :=
  ⟨undef, Or.inr ⟨hw, rfl⟩, h⟩
theorem wpP_one {l : List Oper} {k : Nat} {p : Plan} {a : Act} {w : World} (hw : Region.wanted (l.getD k default) (yielded ops a.tmps) = true)
    (h : ∀ K : Act → World → Prop, (∀ a' w', R w w' → wpP P ops Q R l p a' w' → K a' w') → (l.getD k default).wp P a w K Q) : wpP P ops Q R l (.one k p) a w := by
  unfold wpP
  rw [if_pos hw]
  exact h _ fun a' w' h1 h2 => ⟨h1, h2⟩
theorem wpP_skip {l : List Oper} {k : Nat} {p : Plan} {a : Act} {w : World} (hw : Region.wanted (l.getD k default) (yielded ops a.tmps) = false)
    (h : wpP P ops Q R l p (a.put (l.getD k default).dst undef) w) : wpP P ops Q R l (.one k p) a w := by
  unfold wpP
  rw [if_neg (by rw [hw]; exact Bool.false_ne_true)]
  exact h
theorem wpP_two {l : List Oper} {k j : Nat} {p q : Plan} {a : Act} {w : World} (h1 : wpP P ops Q R l (.one k p) a w) (h2 : wpP P ops Q R l (.one j q) a w) : wpP P ops Q R l (.two k p j q) a w := by
  unfold wpP at h1 h2 ⊢
  exact ⟨h1, h2⟩

theorem wpAnyH_of_plan (hrf : ∀ w, R w w) (htr : ∀ a b c, R a b → R b c → R a c) (hs : Region.noSelect ops = true) (hQ : ∀ c a d v w, Q (.panic c) (Act.put a d v) w → Q (.panic c) a w) :
    ∀ (p : Plan) (listed : Array Bool) (a : Act) (w : World), planMix md ops p listed = true → wpP P ops Q R ops.toList p a w → wpAnyH P md ops Q (R w) p.len listed a w
  | .fin, listed, a, w, hB, h => by
    have hr : Region.ready md ops listed = [] := by simpa [planMix] using hB
    exact wpAnyH_done hr h _
  | .take k p, listed, a, w, hB, h => by
    simp only [planMix, Bool.and_eq_true, decide_eq_true_eq] at hB
    obtain ⟨hk, ⟨hr, hf⟩, hB'⟩ := hB
    have h0 : ops[k]? = some (ops.toList.getD k default) := by simp [hk]
    obtain ⟨v, hy, hK⟩ := h
    exact wpAnyH_take h0 hs hf hr (fun c a w hh => hQ c a _ _ w hh) hy (hrf _) (wpAnyH_of_plan hrf htr hs hQ p _ _ w hB' hK)
  | .one k p, listed, a, w, hB, h => by
    simp only [planMix, Bool.and_eq_true, decide_eq_true_eq] at hB
    obtain ⟨hk, hr, hB'⟩ := hB
    have h0 : ops[k]? = some (ops.toList.getD k default) := by simp [hk]
    refine wpAnyH_all hr (by simp) fun i hi => ?_
    obtain rfl : i = k := by simpa using hi
    unfold wpP at h
    unfold wpOp
    simp only [h0]
    by_cases hw : Region.wanted (ops.toList.getD i default) (yielded ops a.tmps) = true
    · rw [if_pos hw] at h ⊢
      refine .inl (Oper.wp_mono (fun a' w' hh => ⟨hh.1, ?_⟩) h)
      exact wpAnyH_mono (fun w'' h2 => htr _ _ _ hh.1 h2) _ _ _ _ (wpAnyH_of_plan hrf htr hs hQ p _ a' w' hB' hh.2)
    · rw [if_neg hw] at h ⊢
      exact ⟨hrf _, wpAnyH_of_plan hrf htr hs hQ p _ _ w hB' h⟩
  | .two k p j q, listed, a, w, hB, h => by
    simp only [planMix, Bool.and_eq_true, decide_eq_true_eq] at hB
    obtain ⟨hk, hj, hr, hl, hB1, hB2⟩ := hB
    have h0 : ops[k]? = some (ops.toList.getD k default) := by simp [hk]
    have h1 : ops[j]? = some (ops.toList.getD j default) := by simp [hj]
    refine wpAnyH_all hr (by simp) fun i hi => ?_
    unfold wpP at h
    have hi' : i = k ∨ i = j := by simpa using hi
    rcases hi' with rfl | rfl
    · have h := h.1
      unfold wpOp
      simp only [h0]
      by_cases hw : Region.wanted (ops.toList.getD i default) (yielded ops a.tmps) = true
      · rw [if_pos hw] at h ⊢
        refine .inl (Oper.wp_mono (fun a' w' hh => ⟨hh.1, ?_⟩) h)
        exact wpAnyH_mono (fun w'' h2 => htr _ _ _ hh.1 h2) _ _ _ _ (wpAnyH_of_plan hrf htr hs hQ p _ a' w' hB1 hh.2)
      · rw [if_neg hw] at h ⊢
        exact ⟨hrf _, wpAnyH_of_plan hrf htr hs hQ p _ _ w hB1 h⟩
    · have h := h.2
      unfold wpOp
      simp only [h1]
      rw [hl]
      by_cases hw : Region.wanted (ops.toList.getD i default) (yielded ops a.tmps) = true
      · rw [if_pos hw] at h ⊢
        refine .inl (Oper.wp_mono (fun a' w' hh => ⟨hh.1, ?_⟩) h)
        exact wpAnyH_mono (fun w'' h2 => htr _ _ _ hh.1 h2) _ _ _ _ (wpAnyH_of_plan hrf htr hs hQ q _ a' w' hB2 hh.2)
      · rw [if_neg hw] at h ⊢
        exact ⟨hrf _, wpAnyH_of_plan hrf htr hs hQ q _ _ w hB2 h⟩

/-- THE BEGINNING. -/
theorem wp_region_plan {id : Nat} {a : Act} {w : World} {l : List Oper} (p : Plan) (hrf : ∀ w, R w w) (htr : ∀ a b c, R a b → R b c → R a c) (hm : P.follows .mixedOrders = true) (hQ : ∀ c a d v w, Q (.panic c) (Act.put a d v) w → Q (.panic c) a w)
    (hn : Region.noSelect l.toArray = true) (hk : p.len = l.length) (hB : planMix .any l.toArray p (Array.replicate l.toArray.size false) = true)
    (h : wpP P l.toArray Q R l p a w.drew) : (Code.region id l.toArray true).wp P Q a w := by
  have := wpAnyH_of_plan hrf htr (md := .any) hn hQ p _ a w.drew hB h
  rw [hk] at this
  refine wp_region_held (S := R w.drew) hm ?_
  exact this
end
end Go.Proofs.YtfpdgdacifiejaaGreat

namespace Go.Proofs.YtfpdgdacifiejaaGreat
open Go.RowKit Go.Maps

theorem results_rowQ {P : Program} {fn : Func} {p u : Tmp} {ty : TypeId} (h : fn.results = #[.cell p ty, .tmp u]) (tmps : Array Value) (w : World) (g : Nat) (t : TypeId) (cs : Array Value) (d : TypeDesc)
    (hp : tmps.getD p undef = .pointer (some ⟨g, 0, none⟩)) (hg : w.heap[g]? = some (.cells cs t)) (hu : P.underlying ty = some d) (hd : d.isRow = true) (hi : (P.info? ty).map (·.size) = some cs.size) :
    (results fn tmps).run P w = .ok (.tuple #[.agg cs, tmps.getD u undef]) w := by
  have hl := run_loadVar_mid (P := P) w g 0 ty cs.toList d (fun j v hv => by rw [Nat.zero_add, cell_of_row w g j _ _ _ hg]; simpa using hv) hu hd (by simpa using hi)
  rw [results_cell_tmp h, hp]
  simp only [asAddr, Sem.run_pure, Result.andThen_ok, hl, Array.toArray_toList]

/-- A struct is stored whole, at the operation. -/
theorem wp_store_cells {P : Program} {o : Oper} {a : Act} {w : World} {K : Act → World → Prop} {Q : Exit → Act → World → Prop} (ty : TypeId) (x y : Operand) (ho : o.op = .store ty x y) (b : Nat) (t : TypeId) (cs new : Array Value)
    (hx : a.eval x = .pointer (some ⟨b, 0, none⟩)) (hy : a.eval y = .agg new) (hg : w.heap[b]? = some (.cells cs t)) (hl : new.size = cs.size) (h1 : ∀ v ∈ new.toList, v.oneCell' = true) (hi : (P.info? ty).map (·.size) = some new.size)
    (h : K (a.put o.dst undef) (w.setRow b new)) : o.wp P a w K Q := by
  have hst : (storeCells ⟨b, 0, none⟩ new.toList 0).run P w = .ok () (w.setRow b new) := by
    rw [run_storeCells_at P b 0 t new.toList 0 cs w hg (by rw [Array.length_toList]; omega) h1]
    have e : ((cs.toList.take (0 + 0) ++ new.toList ++ cs.toList.drop (0 + 0 + new.toList.length)).toArray) = new := by
      apply Array.toList_inj.1
      simp only [Nat.add_zero, Nat.zero_add, List.take_zero, List.nil_append]
      rw [List.drop_of_length_le (by rw [Array.length_toList, Array.length_toList]; omega), List.append_nil]
    rw [e]
  unfold Oper.wp execOp
  cases hq : P.info? ty with
  | none => simp [hq] at hi
  | some i =>
    have hs : new.size = i.size := by simp [hq] at hi; omega
    have : (storeVar ty ⟨b, 0, none⟩ (.agg new)).run P w = .ok () (w.setRow b new) := by
      simp [storeVar, sizeOf, typeInfo, hq, Value.cells, hs, hst]
    simp only [ho, hx, hy, Instr.storeAt, Instr.sureAddr, Sem.run_bind, Sem.run_pure, Result.andThen_ok, this]
    exact h
end Go.Proofs.YtfpdgdacifiejaaGreat

namespace Go.Proofs.YtfpdgdacifiejaaGreat
open Go.RowKit Go.Maps
set_option maxRecDepth 100000

def sgs : List (List UInt8) := [[61, 62], [61, 61], [33, 61], [45, 62], [126, 62], [123], [125], [40], [41], [91], [93], [44], [58], [61], [33]]
theorem sgs_len (k : Nat) (h : k < sgs.length) : (k < 5 → sgs[k] ∈ sgn2 ∧ sgs[k].length = 2) ∧ (5 ≤ k → sgs[k] ∈ sgn1 ∧ sgs[k].length = 1) := by
  have hh : ∀ k : Fin 15, (k.1 < 5 → sgs[k.1]'k.2 ∈ sgn2 ∧ (sgs[k.1]'k.2).length = 2) ∧ (5 ≤ k.1 → sgs[k.1]'k.2 ∈ sgn1 ∧ (sgs[k.1]'k.2).length = 1) := by decide
  exact hh ⟨k, h⟩
theorem sgs_two {t : List UInt8} (h : t ∈ sgn2) : ∃ k, ∃ hk : k < sgs.length, k < 5 ∧ sgs[k] = t := by
  simp [sgn2] at h
  rcases h with rfl | rfl | rfl | rfl | rfl
  · exact ⟨0, by decide, by decide, rfl⟩
  · exact ⟨1, by decide, by decide, rfl⟩
  · exact ⟨2, by decide, by decide, rfl⟩
  · exact ⟨3, by decide, by decide, rfl⟩
  · exact ⟨4, by decide, by decide, rfl⟩
theorem sgs_one {t : List UInt8} (h : t ∈ sgn1) : ∃ k, ∃ hk : k < sgs.length, 5 ≤ k ∧ sgs[k] = t := by
  simp [sgn1] at h
  rcases h with rfl | rfl | rfl | rfl | rfl | rfl | rfl | rfl | rfl | rfl
  · exact ⟨5, by decide, by decide, rfl⟩
  · exact ⟨6, by decide, by decide, rfl⟩
  · exact ⟨7, by decide, by decide, rfl⟩
  · exact ⟨8, by decide, by decide, rfl⟩
  · exact ⟨9, by decide, by decide, rfl⟩
  · exact ⟨10, by decide, by decide, rfl⟩
  · exact ⟨11, by decide, by decide, rfl⟩
  · exact ⟨12, by decide, by decide, rfl⟩
  · exact ⟨13, by decide, by decide, rfl⟩
  · exact ⟨14, by decide, by decide, rfl⟩
/-- None of the first k signs begins the text. -/
def NoSgn (l : List UInt8) (k : Nat) : Prop := ∀ j (h : j < sgs.length), j < k → l.take sgs[j].length ≠ sgs[j]
theorem sign_hit {l : List UInt8} {k : Nat} (hk : k < sgs.length) (hn : NoSgn l k) (h : l.take sgs[k].length = sgs[k]) : signN l = sgs[k].length := by
  have hs := sgs_len k hk
  unfold signN
  by_cases h5 : k < 5
  · have := hs.1 h5
    rw [this.2] at h
    rw [h, if_pos this.1, this.2]
  · have := hs.2 (by omega)
    have h2 : l.take 2 ∉ sgn2 := by
      intro hm
      obtain ⟨j, hj, hj5, e⟩ := sgs_two hm
      refine hn j hj (by omega) ?_
      rw [((sgs_len j hj).1 hj5).2, e]
    rw [this.2] at h
    rw [if_neg h2, h, if_pos this.1, this.2]
theorem sign_none {l : List UInt8} (hn : NoSgn l 15) : signN l = 0 := by
  have h2 : l.take 2 ∉ sgn2 := by
    intro hm
    obtain ⟨j, hj, hj5, e⟩ := sgs_two hm
    refine hn j hj (by omega) ?_
    rw [((sgs_len j hj).1 hj5).2, e]
  have h1 : l.take 1 ∉ sgn1 := by
    intro hm
    obtain ⟨j, hj, hj5, e⟩ := sgs_one hm
    refine hn j hj hj ?_
    rw [((sgs_len j hj).2 hj5).2, e]
  unfold signN
  rw [if_neg h2, if_neg h1]

theorem sgs_index (k : Nat) (h : k < sgs.length) (wx : World) : (Instr.index 100 (.agg #[.string { data := #[61, 62] }, .string { data := #[61, 61] }, .string { data := #[33, 61] }, .string { data := #[45, 62] }, .string { data := #[126, 62] }, .string { data := #[123] }, .string { data := #[125] }, .string { data := #[40] }, .string { data := #[41] }, .string { data := #[91] }, .string { data := #[93] }, .string { data := #[44] }, .string { data := #[58] }, .string { data := #[61] }, .string { data := #[33] }]) (.int .i64 (k : Int))).run Tryz.prog wx = .ok (.string (strL sgs[k])) wx := by
  have : k < 15 := h
  match k, this with
  | 0, _ => rfl
  | 1, _ => rfl
  | 2, _ => rfl
  | 3, _ => rfl
  | 4, _ => rfl
  | 5, _ => rfl
  | 6, _ => rfl
  | 7, _ => rfl
  | 8, _ => rfl
  | 9, _ => rfl
  | 10, _ => rfl
  | 11, _ => rfl
  | 12, _ => rfl
  | 13, _ => rfl
  | 14, _ => rfl
set_option maxHeartbeats 4000000 in
theorem sign_any (S : ByteArray) (w : World) :
    Calls Tryz.prog 38 #[.string S] w fun e w' => e = .returned (.int .i64 (signN (bl S))) ∧ w = w' := by
  go_enter Tryz.func38, Tryz.ntmps38
  go_wp2_with fail
  go_loop [6] (fun i => ∃ k : Nat, k ≤ 15 ∧ i = .int .i64 k ∧ Hid (NoSgn (bl S) k)) (fun i => 15 - (intOf i).toNat)
  case atStart => exact ⟨0, by omega, rfl, fun j hj h0 => by omega⟩
  case round =>
    obtain ⟨k, hk, rfl, HS⟩ := hrel
    by_cases hlt : k < 15
    · have hkl : k < sgs.length := hlt
      obtain ⟨T, hT⟩ : ∃ T, sgs[k] = T := ⟨_, rfl⟩
      have hix : ∀ wx, (Instr.index 100 (.agg #[.string { data := #[61, 62] }, .string { data := #[61, 61] }, .string { data := #[33, 61] }, .string { data := #[45, 62] }, .string { data := #[126, 62] }, .string { data := #[123] }, .string { data := #[125] }, .string { data := #[40] }, .string { data := #[41] }, .string { data := #[91] }, .string { data := #[93] }, .string { data := #[44] }, .string { data := #[58] }, .string { data := #[61] }, .string { data := #[33] }]) (.int .i64 (k : Int))).run Tryz.prog wx = .ok (.string (strL T)) wx := by
        intro wx
        subst hT
        exact sgs_index k hkl wx
      have HT := Lib.hid hT
      clear hT
      cases q : decide ((bl S).take (bl (strL T)).length = bl (strL T))
      · have HQ := Lib.hid q
        clear q
        go_wp2_with fail
        refine (prefix_any _ _ _).mono ?_
        rw [HQ.out]
        rintro e w3 ⟨rfl, rfl⟩
        go_wp2_with fail
        go_round
        case rel =>
          refine ⟨k + 1, by omega, by go_num, fun j hj h0 => ?_⟩
          by_cases e : j = k
          · subst e
            have := HQ.out
            rw [bl_str] at this
            rw [HT.out]
            exact of_decide_eq_false this
          · exact HS.out j hj (by omega)
        case measure => simp [intOf]; omega
      · have HQ := Lib.hid q
        have HR : Hid (signN (bl S) = T.length) := by
          show _ = _
          have e1 := of_decide_eq_true q
          rw [bl_str] at e1
          rw [← HT.out] at e1 ⊢
          exact sign_hit hkl HS.out e1
        have HL : Hid ((strL T).size = T.length) := strL_size T
        clear q
        go_wp2_with fail
        refine (prefix_any _ _ _).mono ?_
        rw [HQ.out]
        rintro e w3 ⟨rfl, rfl⟩
        go_wp2_with fail
        go_ret
        exact ⟨ret1 (by rw [HR.out, HL.out]), rfl⟩
    · have HR : Hid (signN (bl S) = 0) := sign_none (fun j hj h0 => HS.out j hj (by omega))
      go_wp2_with fail
      go_ret
      exact ⟨ret1 (by rw [HR.out]; rfl), rfl⟩
end Go.Proofs.YtfpdgdacifiejaaGreat

namespace Go.Proofs.YtfpdgdacifiejaaGreat
open Go.RowKit Go.Maps
set_option maxRecDepth 100000

def pcA (p : Pc) : Array Value := #[.int .i64 p.kd, .int .i64 p.sz, .int .i64 p.ah, .int .i64 p.bh]
theorem retP {a b c d : Int} {p : Pc} (h1 : a = p.kd) (h2 : b = p.sz) (h3 : c = p.ah) (h4 : d = p.bh) : Ending.returned (.agg #[.int .i64 a, .int .i64 b, .int .i64 c, .int .i64 d]) = .returned (.agg (pcA p)) := by
  subst h1 h2 h3 h4; rfl
theorem four_cells {w : World} {g : Nat} {t : TypeId} {a b c d : Value} (h : w.heap[g]? = some (.cells #[a, b, c, d] t)) :
    w.cell? ⟨g, 0, none⟩ = some a ∧ w.cell? ⟨g, 1, none⟩ = some b ∧ w.cell? ⟨g, 2, none⟩ = some c ∧ w.cell? ⟨g, 3, none⟩ = some d ∧
    w.frozen? ⟨g, 0, none⟩ = false ∧ w.frozen? ⟨g, 1, none⟩ = false ∧ w.frozen? ⟨g, 2, none⟩ = false ∧ w.frozen? ⟨g, 3, none⟩ = false :=
  ⟨cell_of_row _ _ 0 _ _ _ h, cell_of_row _ _ 1 _ _ _ h, cell_of_row _ _ 2 _ _ _ h, cell_of_row _ _ 3 _ _ _ h, frozen_of_row _ _ _ _ _ h, frozen_of_row _ _ _ _ _ h, frozen_of_row _ _ _ _ _ h, frozen_of_row _ _ _ _ _ h⟩
set_option maxHeartbeats 8000000 in
theorem cut_any (S : ByteArray) (c : Nat) (w : World) (hs : S.size ≤ 9223372036854775807) (hp : 0 < S.size) :
    Calls Tryz.prog 15 #[.string S, .int .i64 (c : Int)] w fun e w' => e = .returned (.agg (pcA (cutO (bl S) c))) ∧ Kept [] w w' := by
  obtain ⟨w1, hw1⟩ : ∃ w1, w.alloc (.cells #[.int .i64 0, .int .i64 0, .int .i64 0, .int .i64 0] 46) = w1 := ⟨_, rfl⟩
  have HR1 : Hid (w1.heap[w.heap.size]? = some (.cells #[.int .i64 0, .int .i64 0, .int .i64 0, .int .i64 0] 46) ∧ Kept [] w w1) := by rw [← hw1]; exact ⟨heap_alloc_last _ _, Kept.alloc _ _ _⟩
  by_cases c1 : c = 1
  · subst c1
    clear hw1
    go_enter Tryz.func15, Tryz.ntmps15
    go_wp2_with fail
    refine bodyPost_ret_by (results_cell_row rfl _ _ w.heap.size 46 _ (0, 0) _ rfl (heap_alloc_last _ _) Tryz.underlying46 rfl (by kernel_rfl)) rfl ⟨rfl, Kept.alloc _ _ _⟩
  by_cases c2 : c = 2
  · subst c2
    clear hw1
    go_enter Tryz.func15, Tryz.ntmps15
    go_wp2_with fail
    refine (comment_any S _).mono ?_
    rintro e w2 ⟨rfl, rfl⟩
    go_wp2_with fail
    refine bodyPost_ret_by (results_cell_row rfl _ _ w.heap.size 46 _ (0, 0) _ rfl (heap_alloc_last _ _) Tryz.underlying46 rfl (by kernel_rfl)) rfl ⟨rfl, Kept.alloc _ _ _⟩
  by_cases c3 : c = 3
  · subst c3
    go_enter Tryz.func15, Tryz.ntmps15
    go_wp2_with fail
    refine (name_any S _ hs).mono ?_
    rintro e w2 ⟨rfl, hk2⟩
    have HR2 : Hid (Kept [] w w2) := HR1.out.2.trans hk2
    have HROW : Hid (w2.heap[w.heap.size]? = some (.cells #[.int .i64 0, .int .i64 0, .int .i64 0, .int .i64 0] 46)) := hk2.heap (by simp) HR1.out.1
    obtain ⟨hc0, hc1, hc2, hc3, f0, f1, f2, f3⟩ := four_cells HROW.out
    clear hk2 hw1
    go_wp2_with fail
    refine bodyPost_ret_by (results_cell_row rfl _ _ w.heap.size 46 _ (0, 0) _ rfl (heap_setCell_same _ _ 3 _ _ _ (heap_setCell_same _ _ 2 _ _ _ (heap_setCell_same _ _ 1 _ _ _ (heap_setCell_same _ _ 0 _ _ _ HROW.out)))) Tryz.underlying46 rfl (by kernel_rfl)) rfl ⟨rfl, (((HR2.out.setNew _ _ (Nat.le_refl _)).setNew _ _ (Nat.le_refl _)).setNew _ _ (Nat.le_refl _)).setNew _ _ (Nat.le_refl _)⟩
  by_cases c4 : c = 4
  · subst c4
    go_enter Tryz.func15, Tryz.ntmps15
    go_wp2_with fail
    refine (part_any S grB 4 _ hs cls_gr).mono ?_
    rintro e w2 ⟨rfl, hk2⟩
    have HR2 : Hid (Kept [] w w2) := HR1.out.2.trans hk2
    have HROW : Hid (w2.heap[w.heap.size]? = some (.cells #[.int .i64 0, .int .i64 0, .int .i64 0, .int .i64 0] 46)) := hk2.heap (by simp) HR1.out.1
    obtain ⟨hc0, hc1, hc2, hc3, f0, f1, f2, f3⟩ := four_cells HROW.out
    clear hk2 hw1
    go_wp2_with fail
    refine bodyPost_ret_by (results_cell_row rfl _ _ w.heap.size 46 _ (0, 0) _ rfl (heap_setCell_same _ _ 3 _ _ _ (heap_setCell_same _ _ 2 _ _ _ (heap_setCell_same _ _ 1 _ _ _ (heap_setCell_same _ _ 0 _ _ _ HROW.out)))) Tryz.underlying46 rfl (by kernel_rfl)) rfl ⟨rfl, (((HR2.out.setNew _ _ (Nat.le_refl _)).setNew _ _ (Nat.le_refl _)).setNew _ _ (Nat.le_refl _)).setNew _ _ (Nat.le_refl _)⟩
  by_cases c5 : c = 5
  · subst c5
    go_enter Tryz.func15, Tryz.ntmps15
    go_wp2_with fail
    refine (number_any S _ hs).mono ?_
    rintro e w2 ⟨rfl, hk2⟩
    have HR2 : Hid (Kept [] w w2) := HR1.out.2.trans hk2
    have HROW : Hid (w2.heap[w.heap.size]? = some (.cells #[.int .i64 0, .int .i64 0, .int .i64 0, .int .i64 0] 46)) := hk2.heap (by simp) HR1.out.1
    obtain ⟨hc0, hc1, hc2, hc3, f0, f1, f2, f3⟩ := four_cells HROW.out
    clear hk2 hw1
    go_wp2_with fail
    refine bodyPost_ret_by (results_cell_row rfl _ _ w.heap.size 46 _ (0, 0) _ rfl (heap_setCell_same _ _ 3 _ _ _ (heap_setCell_same _ _ 2 _ _ _ (heap_setCell_same _ _ 1 _ _ _ (heap_setCell_same _ _ 0 _ _ _ HROW.out)))) Tryz.underlying46 rfl (by kernel_rfl)) rfl ⟨rfl, (((HR2.out.setNew _ _ (Nat.le_refl _)).setNew _ _ (Nat.le_refl _)).setNew _ _ (Nat.le_refl _)).setNew _ _ (Nat.le_refl _)⟩
  by_cases c7 : c = 7
  · subst c7
    go_enter Tryz.func15, Tryz.ntmps15
    go_wp2_with fail
    refine (variable_any S _ hs hp).mono ?_
    rintro e w2 ⟨rfl, hk2⟩
    have HR2 : Hid (Kept [] w w2) := HR1.out.2.trans hk2
    have HROW : Hid (w2.heap[w.heap.size]? = some (.cells #[.int .i64 0, .int .i64 0, .int .i64 0, .int .i64 0] 46)) := hk2.heap (by simp) HR1.out.1
    obtain ⟨hc0, hc1, hc2, hc3, f0, f1, f2, f3⟩ := four_cells HROW.out
    clear hk2 hw1
    go_wp2_with fail
    refine bodyPost_ret_by (results_cell_row rfl _ _ w.heap.size 46 _ (0, 0) _ rfl (heap_setCell_same _ _ 3 _ _ _ (heap_setCell_same _ _ 2 _ _ _ (heap_setCell_same _ _ 1 _ _ _ (heap_setCell_same _ _ 0 _ _ _ HROW.out)))) Tryz.underlying46 rfl (by kernel_rfl)) rfl ⟨rfl, (((HR2.out.setNew _ _ (Nat.le_refl _)).setNew _ _ (Nat.le_refl _)).setNew _ _ (Nat.le_refl _)).setNew _ _ (Nat.le_refl _)⟩
  by_cases c8 : c = 8
  · subst c8
    go_enter Tryz.func15, Tryz.ntmps15
    go_wp2_with fail
    refine (quoted_any S _ hs hp).mono ?_
    rintro e w2 ⟨rfl, hk2⟩
    have HR2 : Hid (Kept [] w w2) := HR1.out.2.trans hk2
    have HROW : Hid (w2.heap[w.heap.size]? = some (.cells #[.int .i64 0, .int .i64 0, .int .i64 0, .int .i64 0] 46)) := hk2.heap (by simp) HR1.out.1
    obtain ⟨hc0, hc1, hc2, hc3, f0, f1, f2, f3⟩ := four_cells HROW.out
    clear hk2 hw1
    go_wp2_with fail
    refine bodyPost_ret_by (results_cell_row rfl _ _ w.heap.size 46 _ (0, 0) _ rfl (heap_setCell_same _ _ 3 _ _ _ (heap_setCell_same _ _ 2 _ _ _ (heap_setCell_same _ _ 1 _ _ _ (heap_setCell_same _ _ 0 _ _ _ HROW.out)))) Tryz.underlying46 rfl (by kernel_rfl)) rfl ⟨rfl, (((HR2.out.setNew _ _ (Nat.le_refl _)).setNew _ _ (Nat.le_refl _)).setNew _ _ (Nat.le_refl _)).setNew _ _ (Nat.le_refl _)⟩
  by_cases c9 : c = 9
  · subst c9
    go_enter Tryz.func15, Tryz.ntmps15
    go_wp2_with fail
    refine (quoted_any S _ hs hp).mono ?_
    rintro e w2 ⟨rfl, hk2⟩
    have HR2 : Hid (Kept [] w w2) := HR1.out.2.trans hk2
    have HROW : Hid (w2.heap[w.heap.size]? = some (.cells #[.int .i64 0, .int .i64 0, .int .i64 0, .int .i64 0] 46)) := hk2.heap (by simp) HR1.out.1
    obtain ⟨hc0, hc1, hc2, hc3, f0, f1, f2, f3⟩ := four_cells HROW.out
    clear hk2 hw1
    go_wp2_with fail
    refine bodyPost_ret_by (results_cell_row rfl _ _ w.heap.size 46 _ (0, 0) _ rfl (heap_setCell_same _ _ 3 _ _ _ (heap_setCell_same _ _ 2 _ _ _ (heap_setCell_same _ _ 1 _ _ _ (heap_setCell_same _ _ 0 _ _ _ HROW.out)))) Tryz.underlying46 rfl (by kernel_rfl)) rfl ⟨rfl, (((HR2.out.setNew _ _ (Nat.le_refl _)).setNew _ _ (Nat.le_refl _)).setNew _ _ (Nat.le_refl _)).setNew _ _ (Nat.le_refl _)⟩
  · have HC : Hid (cutO (bl S) c = ⟨7, signN (bl S), 0, 0⟩) := by show _ = _; unfold cutO; simp only [c1, c2, c3, c4, c5, c7, c8, c9, if_false]
    have d1 : ¬ (c : Int) = 1 := by omega
    have d2 : ¬ (c : Int) = 2 := by omega
    have d3 : ¬ (c : Int) = 3 := by omega
    have d4 : ¬ (c : Int) = 4 := by omega
    have d5 : ¬ (c : Int) = 5 := by omega
    have d7 : ¬ (c : Int) = 7 := by omega
    have d8 : ¬ (c : Int) = 8 := by omega
    have d9 : ¬ (c : Int) = 9 := by omega
    clear hw1 c1 c2 c3 c4 c5 c7 c8 c9
    go_enter Tryz.func15, Tryz.ntmps15
    go_wp2_with fail
    refine (sign_any S _).mono ?_
    rintro e w2 ⟨rfl, rfl⟩
    go_wp2_with fail
    refine bodyPost_ret_by (results_cell_row rfl _ _ w.heap.size 46 _ (0, 0) _ rfl (heap_alloc_last _ _) Tryz.underlying46 rfl (by kernel_rfl)) rfl ⟨by rw [HC.out]; rfl, Kept.alloc _ _ _⟩
end Go.Proofs.YtfpdgdacifiejaaGreat

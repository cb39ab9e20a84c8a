/-
  Layer 3: readNode: what a record of 32 bytes tells of a node.
  Conditions: those that each theorem states.
-/
import Derived.Test.YtbggmeilkfpbgaaDoorLPut
namespace Go.Proofs.YtbggmeilkfpbgaaDoor
open Go.RowKit Go.Maps

theorem elemInt : ElemOk Tryd.prog 24 3 (.int .i64 0) 1 8 := ⟨Tryd.underlying24, by kernel_rfl, rfl, by omega⟩

/-- The numbers of a record, behind the kind. -/
def numsL (R : List UInt8) : List Nat := (List.range 9).map fun i => numAt R (1 + 2 * i)
theorem numsL_length (R : List UInt8) : (numsL R).length = 9 := by simp [numsL]
theorem numsL_get (R : List UInt8) (i : Nat) (h : i < (numsL R).length) : (numsL R)[i] = numAt R (1 + 2 * i) := by simp [numsL]
def kindN (R : List UInt8) : Nat := (R.getD 0 0).toNat
/-- How many of its blocks a record tells itself. -/
def dirN (k s : Nat) : Nat := min 6 (dataI k s).toNat
def dirL (R : List UInt8) : List Nat := ((numsL R).drop 3).take (dirN (kindN R) (numAt R 3))

theorem iv_natI_set (F : List Nat) (k x z : Nat) (h : k < F.length) (hx : F[k] = x) : (natI (F.take k) ++ List.replicate (z + 1) (0 : Int)).set k (x : Int) = natI (F.take (k + 1)) ++ List.replicate z 0 := by
  rw [List.take_succ_eq_append_getElem h, hx]
  have hl : (natI (F.take k)).length = k := by rw [natI_length, List.length_take]; omega
  rw [List.set_append_right _ _ (by omega), hl, Nat.sub_self, List.replicate_succ]
  simp [natI]

theorem content_any (k s n : Int) (w : World) (h : dataI k s = n) :
    Calls Tryd.prog 41 #[.int .i64 k, .int .i64 s] w fun r w' => r = .returned (.tuple #[.int .i64 (max 0 n), .bool (decide (0 ≤ n))]) ∧ w = w' := by
  by_cases h0 : 0 ≤ n
  · rw [show max 0 n = n by omega, decide_eq_true h0]
    exact content_yes k s n w h h0
  · rw [show max 0 n = 0 by omega, decide_eq_false h0]
    exact content_no k s w (by omega)

theorem Kept.setIn {ex : List Nat} {a b : World} (h : Kept ex a b) (p : Addr) (v : Value) (hp : p.block ∈ ex) : Kept ex a (b.setCell p v) := h.trans (Kept.setCell _ _ _ _ hp)
theorem IntsIs.keptEx {w w' : World} {ex : List Nat} {ao : Option Addr} {len : Nat} {l : List Int} (h : IntsIs w ao len l) (hk : Kept ex w w') (hne : ∀ b o, ao = some ⟨b, o, none⟩ → b ∉ ex) : IntsIs w' ao len l := by
  obtain ⟨h1, h2, h3⟩ := h
  refine ⟨h1, h2, ?_⟩
  rcases h3 with h3 | ⟨b, o, rfl, hb, hr⟩
  · exact .inl h3
  · exact .inr ⟨b, o, rfl, Nat.lt_of_lt_of_le hb hk.size, hk.range hb (hne b o rfl) hr⟩

structure RdSt (w : World) (R : List UInt8) (F : List Int) (wr : World) : Prop where
  r : wr.heap[w.heap.size]? = some (.cells (bvA R) 55)
  x : wr.heap[w.heap.size + 1]? = some (.cells #[.int .i64 0, .int .i64 0, .int .i64 0, .slice none 0 0, .int .i64 0] 26)
  f : wr.heap[w.heap.size + 2]? = some (.cells (ivA F) 76)
  kept : Kept [] w wr

theorem own_ints {w : World} {base : Nat} {v : Value} {n : Nat} {l : List Int} (h : w.ownsRow base 3 1 v n (iv l)) (hn : n ≤ 100000) : ∃ ao cap, v = .slice ao n cap ∧ n ≤ cap ∧ cap ≤ 9223372036854775807 ∧ IntsIs w ao n l := by
  have hl : l.length = n := by have := h.1; rw [iv_length] at this; omega
  rcases owns_range h with ⟨g, cap, rfl, _, hg, hc, hm, hr⟩ | ⟨rfl, rfl, hx⟩
  · exact ⟨_, _, rfl, hc, by unfold maxLen at hm; omega, hl, by omega, .inr ⟨g, 0, rfl, hg, hr⟩⟩
  · exact ⟨_, _, rfl, by omega, by omega, hl, by omega, .inl rfl⟩

set_option maxRecDepth 100000 in
set_option maxHeartbeats 4000000 in
theorem readNode_any (R : List UInt8) (w : World) (hR : R.length = 32) :
    Calls Tryd.prog 22 #[.agg (bvA R)] w fun e w' => ∃ ao cap, e = .returned (.tuple #[nodeV (kindN R) (numAt R 1) (numAt R 3) ao (dirL R).length cap (numAt R 5), .int .i64 (contI (kindN R) (numAt R 3)), .bool (contB (kindN R) (numAt R 3))]) ∧
      Hid (IntsIs w' ao (dirL R).length (natI (dirL R)) ∧ Kept [] w w' ∧ (dirL R).length ≤ cap ∧ (∀ b o, ao = some ⟨b, o, none⟩ → w.heap.size ≤ b) ∧ w'.ownsRow w.heap.size 3 1 (.slice ao (dirL R).length cap) (dirL R).length (iv (natI (dirL R)))) := by
  have hsz : (Tryd.prog.info? 55).map (·.size) = some R.length := by rw [hR]; exact size64
  obtain ⟨k, hk⟩ : ∃ k, kindN R = k := ⟨_, rfl⟩
  obtain ⟨m, hm⟩ : ∃ m, numAt R 1 = m := ⟨_, rfl⟩
  obtain ⟨s, hs⟩ : ∃ s, numAt R 3 = s := ⟨_, rfl⟩
  obtain ⟨more, hmore⟩ : ∃ more, numAt R 5 = more := ⟨_, rfl⟩
  obtain ⟨D, hD⟩ : ∃ D, dirL R = D := ⟨_, rfl⟩
  obtain ⟨F, hF⟩ : ∃ F, numsL R = F := ⟨_, rfl⟩
  have hFl : F.length = 9 := by rw [← hF]; exact numsL_length R
  have hDF : D = (F.drop 3).take (dirN k s) := by rw [← hD, ← hF, ← hk, ← hs]; rfl
  have hf0 : F[0]? = some m := by rw [← hF, ← hm]; rfl
  have hf1 : F[1]? = some s := by rw [← hF, ← hs]; rfl
  have hf2 : F[2]? = some more := by rw [← hF, ← hmore]; rfl
  have hk0 : (bv R)[0]? = some (.int .u8 (k : Int)) := by rw [← hk]; simp [bv, kindN, List.getD_eq_getElem?_getD, show 0 < R.length by omega]
  have hk255 : k < 256 := by rw [← hk]; exact UInt8.toNat_lt _
  rw [hk, hm, hs, hmore, hD]
  obtain ⟨n, hn⟩ : ∃ n, dataI k s = n := ⟨_, rfl⟩
  have hb := dataI_bd k s
  rw [hn] at hb
  have hcn : contI k s = max 0 n := by unfold contI; rw [hn]
  have hcb : contB k s = decide (0 ≤ n) := by unfold contB; rw [hn]
  rw [hcn, hcb]
  have hDl : D.length = min 6 n.toNat := by
    rw [hDF]
    unfold dirN
    rw [hn]
    simp [hFl]
  have HN := Lib.hid hn
  have HF := Lib.hid hF
  have HFL := Lib.hid hFl
  have HDF := Lib.hid hDF
  have HDL := Lib.hid hDl
  have HF0 := Lib.hid hf0
  have HF1 := Lib.hid hf1
  have HF2 := Lib.hid hf2
  have HK0 := Lib.hid hk0
  have HR := Lib.hid hR
  clear hk hm hs hmore hD hF hFl hDF hf0 hf1 hf2 hk0 hn hcn hcb hDl hR
  go_enter Tryd.func22, Tryd.ntmps22
  go_wp2_with fail
  generalize hw3 : World.alloc (World.alloc (World.alloc w _) _) _ = w3
  have HS0 : Hid (RdSt w R (natI (F.take 0) ++ List.replicate (9 - 0) 0) w3) := by
    rw [← hw3]
    refine ⟨?_, ?_, ?_, ((Kept.alloc _ _ _).trans (Kept.alloc _ _ _)).trans (Kept.alloc _ _ _)⟩
    · exact (Kept.alloc [] _ _).heap (by simp) ((Kept.alloc [] _ _).heap (by simp) (heap_alloc_last w _))
    · have := heap_alloc_last (w.alloc (.cells (bvA R) 55)) (.cells #[.int .i64 0, .int .i64 0, .int .i64 0, .slice none 0 0, .int .i64 0] 26)
      rw [size_alloc] at this
      exact (Kept.alloc [] _ _).heap (by simp) this
    · have := heap_alloc_last ((w.alloc (.cells (bvA R) 55)).alloc (.cells #[.int .i64 0, .int .i64 0, .int .i64 0, .slice none 0 0, .int .i64 0] 26)) (.cells (ivA (List.replicate 9 0)) 76)
      rw [size_alloc, size_alloc] at this
      exact this
  clear hw3
  go_loopw [7] (fun i wr => ∃ j : Nat, j ≤ 9 ∧ i = .int .i64 j ∧ Hid (RdSt w R (natI (F.take j) ++ List.replicate (9 - j) 0) wr)) (fun i _ => 9 - (intOf i).toNat)
  case atStart => exact ⟨0, by omega, rfl, HS0⟩
  case round =>
    clear HS0
    obtain ⟨j, hj, rfl, HS⟩ := hrel
    by_cases hlt : j < 9
    · have hjf : j < F.length := by rw [HFL.out]; exact hlt
      obtain ⟨x, hx⟩ : ∃ x, numAt R (1 + 2 * j) = x := ⟨_, rfl⟩
      have hfx : F[j] = x := by
        have := HF.out
        subst this
        rw [numsL_get]; exact hx
      have HFX : Hid (F[j]? = some x) := by show _ = _; rw [List.getElem?_eq_getElem hjf, hfx]
      have HX := Lib.hid hx
      clear hx hfx
      go_wp2_with fail
      refine (number3_any (w.heap.size) 0 32 32 (1 + 2 * j) R wr (range_row HS.out.r) HR.out (by omega) (by omega)).mono ?_
      rw [HX.out]
      rintro e w5 ⟨rfl, hd5⟩
      have HN5 : Hid (RdSt w R (natI (F.take j) ++ List.replicate (9 - j) 0) w5) := ⟨hd5.kept.heap (by simp) HS.out.r, hd5.kept.heap (by simp) HS.out.x, hd5.kept.heap (by simp) HS.out.f, HS.out.kept.trans hd5.kept⟩
      have hrl : (natI (F.take j) ++ List.replicate (9 - j) (0 : Int)).length = 9 := by
        rw [List.length_append, natI_length, List.length_take, List.length_replicate, HFL.out]; omega
      obtain ⟨y, hy⟩ : ∃ y, (ivA (natI (F.take j) ++ List.replicate (9 - j) 0))[j]? = some y := by
        rw [Array.getElem?_eq_getElem (by rw [ivA_size, hrl]; exact hlt)]
        exact ⟨_, rfl⟩
      have cj : w5.cell? ⟨w.heap.size + 1 + 1, j, none⟩ = some y := by rw [cell_of_row w5 _ j _ _ _ HN5.out.f]; exact hy
      have fj : ∀ q, w5.frozen? ⟨w.heap.size + 1 + 1, q, none⟩ = false := fun q => frozen_of_row _ _ q _ _ HN5.out.f
      clear hd5 HS hy hrl
      go_wp2_with fail
      have HN6 : Hid (RdSt w R (natI (F.take (j + 1)) ++ List.replicate (9 - (j + 1)) 0) (w5.setCell ⟨w.heap.size + 1 + 1, j, none⟩ (.int .i64 (x : Int)))) := by
        have hkp : Kept [w.heap.size + 2] w5 (w5.setCell ⟨w.heap.size + 2, j, none⟩ (.int .i64 (x : Int))) := Kept.setCell _ _ _ _ (by simp)
        refine ⟨hkp.heap (by simp) HN5.out.r, hkp.heap (by simp) HN5.out.x, ?_, HN5.out.kept.into hkp (by simp)⟩
        rw [heap_setCell_same _ _ _ _ _ _ HN5.out.f, ivA_set]
        have hfx : F[j] = x := by have := HFX.out; rw [List.getElem?_eq_getElem hjf] at this; exact Option.some.inj this
        have := iv_natI_set F j x (9 - (j + 1)) hjf hfx
        rw [show 9 - (j + 1) + 1 = 9 - j by omega] at this
        rw [this]
      clear cj fj HN5
      go_roundw
      case rel => exact ⟨j + 1, by omega, by go_num, HN6⟩
      case measure => simp [intOf]; omega
    · have HS9 : Hid (RdSt w R (natI F) wr) := by
        have h9 : j = 9 := by omega
        have := HS.out
        rw [h9, List.take_of_length_le (by rw [HFL.out]; omega)] at this
        show RdSt w R (natI F) wr
        simpa using this
      clear HS
      have cf : ∀ (q x : Nat), F[q]? = some x → wr.cell? ⟨w.heap.size + 1 + 1, q, none⟩ = some (.int .i64 (x : Int)) := fun q x hq => by
        rw [cell_of_row wr _ q _ _ _ HS9.out.f]
        simp [ivA, iv, natI, hq]
      have c0 := cf 0 m HF0.out
      have c1 := cf 1 s HF1.out
      have c2 := cf 2 more HF2.out
      have r0 : wr.cell? ⟨w.heap.size, 0, none⟩ = some (.int .u8 (k : Int)) := by rw [cell_of_row wr _ 0 _ _ _ HS9.out.r]; simpa [bvA] using HK0.out
      have x0 : wr.cell? ⟨w.heap.size + 1, 0, none⟩ = some (.int .i64 0) := cell_of_row wr _ 0 _ _ _ HS9.out.x
      have x1 : wr.cell? ⟨w.heap.size + 1, 1, none⟩ = some (.int .i64 0) := cell_of_row wr _ 1 _ _ _ HS9.out.x
      have x2 : wr.cell? ⟨w.heap.size + 1, 2, none⟩ = some (.int .i64 0) := cell_of_row wr _ 2 _ _ _ HS9.out.x
      have x3 : wr.cell? ⟨w.heap.size + 1, 3, none⟩ = some (.slice none 0 0) := cell_of_row wr _ 3 _ _ _ HS9.out.x
      have x4 : wr.cell? ⟨w.heap.size + 1, 4, none⟩ = some (.int .i64 0) := cell_of_row wr _ 4 _ _ _ HS9.out.x
      have fx : ∀ q, wr.frozen? ⟨w.heap.size + 1, q, none⟩ = false := fun q => frozen_of_row _ _ q _ _ HS9.out.x
      clear cf
      go_wp2_with fail
      generalize hw4 : World.setCell (World.setCell (World.setCell (World.setCell (World.setCell wr _ _) _ _) _ _) _ _) _ _ = w4
      have HS4 : Hid (w4.heap[w.heap.size + 1]? = some (.cells #[.int .i64 k, .int .i64 m, .int .i64 s, .slice none 0 0, .int .i64 more] 26) ∧ w4.heap[w.heap.size + 2]? = some (.cells (ivA (natI F)) 76) ∧ Kept [] w w4) := by
        rw [← hw4]
        have kp : ∀ (u : World) q v, Kept [w.heap.size + 1] u (u.setCell ⟨w.heap.size + 1, q, none⟩ v) := fun u q v => Kept.setCell _ _ _ _ (by simp)
        refine ⟨?_, ?_, ?_⟩
        · exact heap_setCell_same _ _ _ _ _ _ (heap_setCell_same _ _ _ _ _ _ (heap_setCell_same _ _ _ _ _ _ (heap_setCell_same _ _ _ _ _ _ (heap_setCell_same _ _ _ _ _ _ HS9.out.x))))
        · exact (kp _ _ _).heap (by simp) ((kp _ _ _).heap (by simp) ((kp _ _ _).heap (by simp) ((kp _ _ _).heap (by simp) ((kp _ _ _).heap (by simp) HS9.out.f))))
        · exact ((((HS9.out.kept.into (kp _ _ _) (by simp)).into (kp _ _ _) (by simp)).into (kp _ _ _) (by simp)).into (kp _ _ _) (by simp)).into (kp _ _ _) (by simp)
      clear hw4 HS9 c0 c1 c2 r0 x0 x1 x2 x3 x4 fx
      refine (content_any k s n _ HN.out).mono ?_
      obtain ⟨cN, hcN⟩ : ∃ cN : Nat, max 0 n = cN := ⟨(max 0 n).toNat, by omega⟩
      have hc38 : cN ≤ 38 := by omega
      have HDL2 : Hid (D.length = min 6 cN) := by show _ = _; rw [HDL.out]; omega
      have HDF2 : Hid (D = (F.drop 3).take (min 6 cN)) := by
        show _ = _
        rw [HDF.out]
        unfold dirN
        rw [HN.out]
        congr 1
        omega
      rw [hcN]
      have HCN := Lib.hid hcN
      clear hcN
      obtain ⟨ob, hob⟩ : ∃ ob, decide (0 ≤ n) = ob := ⟨_, rfl⟩
      rw [hob]
      have HOB := Lib.hid hob
      clear hob hb
      rintro e w' ⟨rfl, rfl⟩
      obtain ⟨j6, hj6⟩ : ∃ j6, min 6 cN = j6 := ⟨_, rfl⟩
      have hj6l : j6 ≤ 6 := by omega
      have hDl : D.length = j6 := by rw [HDL2.out, hj6]
      have hDF : D = (F.drop 3).take j6 := by rw [HDF2.out, hj6]
      have hdc : ∀ q u, (iv (natI D))[q]? = some u → w4.drew.cell? ((⟨w.heap.size + 1 + 1, 3, none⟩ : Addr).add q) = some u := fun q u hu => by
        rw [Addr.add_mid, World.cell?_drew, cell_of_row w4 _ _ _ _ _ HS4.out.2.1]
        have hq : q < j6 := by
          have := (List.getElem?_eq_some_iff.1 hu).1
          rw [iv_length, natI_length, hDl] at this
          exact this
        rw [hDF] at hu
        simp [iv, natI, List.getElem?_take_of_lt hq] at hu
        simpa [ivA, iv, natI] using hu
      obtain ⟨v7, w7, hrun, hown, hk7, hblk⟩ := own_app elemInt 24 w4.drew w.heap.size (.slice none 0 0) 0 [] (World.ownsRow_nil _ _ _ _) ⟨w.heap.size + 1 + 1, 3, none⟩ j6 6 (iv (natI D)) (by rw [iv_length, natI_length, hDl]; omega) hdc (iv_one _) (by unfold maxLen; omega) (by omega) HS4.out.2.2.size
      have hk7' : Kept [] w4 w7 := (Kept.drew [] w4).trans hk7
      rw [Nat.zero_add, List.nil_append] at hown
      obtain ⟨ao, cap, rfl, hcap, hcap2, hints⟩ := own_ints hown (by omega)
      have HBLK2 : Hid (∀ b o, ao = some ⟨b, o, none⟩ → w.heap.size ≤ b) := fun b o hao => by
        have h4 := (Array.getElem?_eq_some_iff.1 HS4.out.2.1).1
        subst hao
        simp [Value.ownBlock] at hblk
        omega
      have HBLK : Hid (∀ b o, ao = some ⟨b, o, none⟩ → b ∉ [w.heap.size + 1]) := fun b o hao => by
        have h4 := (Array.getElem?_eq_some_iff.1 HS4.out.2.1).1
        subst hao
        simp [Value.ownBlock] at hblk
        simp
        omega
      have HBLK3 : Hid (∀ q, (Value.slice ao j6 cap).ownBlock = some q → q ∉ [w.heap.size + 1]) := fun q hq => by
        have h4 := (Array.getElem?_eq_some_iff.1 HS4.out.2.1).1
        rcases hblk with e | e
        · rw [e] at hq; cases hq
        · rw [e] at hq
          injection hq with hq
          simp
          have : w4.drew.heap.size = w4.heap.size := rfl
          omega
      have HOWN := Lib.hid hown
      have HRUN := Lib.hid hrun
      have HINTS := Lib.hid hints
      have HX7 := Lib.hid (hk7'.heap (by simp) HS4.out.1)
      have HK7 := Lib.hid (HS4.out.2.2.trans hk7')
      have HJ6 := Lib.hid hj6
      have HDl := Lib.hid hDl
      have x3 : w4.cell? ⟨w.heap.size + 1, 3, none⟩ = some (.slice none 0 0) := cell_of_row w4 _ 3 _ _ _ HS4.out.1
      clear hblk hdc hrun hown hk7 hk7' hints hDF HDF2 HDL2 HS4 hj6 hDl
      by_cases hc6 : cN ≤ 6
      · have hjc : j6 = cN := by have := HJ6.out; omega
        subst hjc
        go_wp2_with fail
        refine wp_region_still_tail 6 (by kernel_rfl) (by kernel_rfl) ?_
        simp only [List.take_succ_cons, List.take_zero, List.drop_succ_cons, List.drop_zero]
        still_step
        still_step
        still_step
        have e1 : IntKind.i64.wrap (3 + (j6 : Int)) = 3 + (j6 : Int) := by rw [IntKind.wrap_i64]; omega
        have e2 : (3 + (j6 : Int)).toNat = 3 + j6 := by omega
        have e3 : (0 : Int) ≤ 3 + (j6 : Int) := by omega
        have e4 : 3 + (j6 : Int) ≤ 9 := by omega
        have e5 : (3 : Int) ≤ 3 + (j6 : Int) := by omega
        have e6 : (j6 : Int) ≤ 6 := by omega
        have e7 : ¬ (6 : Int) < (j6 : Int) := by omega
        still_step
        still_step
        still_step
        refine wpStill_nil ?_
        refine wpList_append_run rfl _ _ 24 rfl _ _ _ rfl rfl HRUN.out ?_
        clear e1 e2 e3 e4 e5 e6 e7 x3
        have y0 : w7.cell? ⟨w.heap.size + 1, 0, none⟩ = some (.int .i64 k) := cell_of_row w7 _ 0 _ _ _ HX7.out
        have y1 : w7.cell? ⟨w.heap.size + 1, 1, none⟩ = some (.int .i64 m) := cell_of_row w7 _ 1 _ _ _ HX7.out
        have y2 : w7.cell? ⟨w.heap.size + 1, 2, none⟩ = some (.int .i64 s) := cell_of_row w7 _ 2 _ _ _ HX7.out
        have y3 : w7.cell? ⟨w.heap.size + 1, 3, none⟩ = some (.slice none 0 0) := cell_of_row w7 _ 3 _ _ _ HX7.out
        have y4 : w7.cell? ⟨w.heap.size + 1, 4, none⟩ = some (.int .i64 more) := cell_of_row w7 _ 4 _ _ _ HX7.out
        have fy : ∀ q, w7.frozen? ⟨w.heap.size + 1, q, none⟩ = false := fun q => frozen_of_row _ _ q _ _ HX7.out
        go_wp2_with fail
        refine bodyPost_ret (v := .tuple #[nodeV k m s ao j6 cap more, .int .i64 j6, .bool ob]) (by simp [results, Tryd.results22, go_sem, y0, y1, y2, y3, y4, nodeV]) rfl ⟨ao, cap, by rw [HCN.out, HOB.out, HDl.out], ?_⟩
        have hkx := Kept.refl [w.heap.size + 1] w7
        have hkk : Kept [w.heap.size + 1] w7 ((((((w7.setCell ⟨w.heap.size + 1, 3, none⟩ (.slice ao j6 cap)).setCell ⟨w.heap.size + 1, 0, none⟩ (.int .i64 k)).setCell ⟨w.heap.size + 1, 1, none⟩ (.int .i64 m)).setCell ⟨w.heap.size + 1, 2, none⟩ (.int .i64 s)).setCell ⟨w.heap.size + 1, 3, none⟩ (.slice ao j6 cap)).setCell ⟨w.heap.size + 1, 4, none⟩ (.int .i64 more)) :=
          (((((hkx.setIn _ _ (by simp)).setIn _ _ (by simp)).setIn _ _ (by simp)).setIn _ _ (by simp)).setIn _ _ (by simp)).setIn _ _ (by simp)
        rw [HDl.out]
        exact ⟨HINTS.out.keptEx hkk HBLK.out, HK7.out.into hkk (by simp), hcap, HBLK2.out, owns_kept HOWN.out hkk HBLK3.out⟩
      · have hjc : j6 = 6 := by have := HJ6.out; omega
        subst hjc
        go_wp2_with fail
        refine wp_region_still_tail 6 (by kernel_rfl) (by kernel_rfl) ?_
        simp only [List.take_succ_cons, List.take_zero, List.drop_succ_cons, List.drop_zero]
        still_step
        still_step
        still_step
        have e1 : IntKind.i64.wrap 9 = 9 := by decide
        have e6 : ¬ (cN : Int) ≤ 6 := by omega
        have e7 : (6 : Int) < (cN : Int) := by omega
        still_step
        still_step
        still_step
        refine wpStill_nil ?_
        refine wpList_append_run rfl _ _ 24 rfl _ _ _ rfl rfl HRUN.out ?_
        clear e1 e6 e7 x3
        have y0 : w7.cell? ⟨w.heap.size + 1, 0, none⟩ = some (.int .i64 k) := cell_of_row w7 _ 0 _ _ _ HX7.out
        have y1 : w7.cell? ⟨w.heap.size + 1, 1, none⟩ = some (.int .i64 m) := cell_of_row w7 _ 1 _ _ _ HX7.out
        have y2 : w7.cell? ⟨w.heap.size + 1, 2, none⟩ = some (.int .i64 s) := cell_of_row w7 _ 2 _ _ _ HX7.out
        have y3 : w7.cell? ⟨w.heap.size + 1, 3, none⟩ = some (.slice none 0 0) := cell_of_row w7 _ 3 _ _ _ HX7.out
        have y4 : w7.cell? ⟨w.heap.size + 1, 4, none⟩ = some (.int .i64 more) := cell_of_row w7 _ 4 _ _ _ HX7.out
        have fy : ∀ q, w7.frozen? ⟨w.heap.size + 1, q, none⟩ = false := fun q => frozen_of_row _ _ q _ _ HX7.out
        go_wp2_with fail
        refine bodyPost_ret (v := .tuple #[nodeV k m s ao 6 cap more, .int .i64 cN, .bool ob]) (by simp [results, Tryd.results22, go_sem, y0, y1, y2, y3, y4, nodeV]) rfl ⟨ao, cap, by rw [HCN.out, HOB.out, HDl.out], ?_⟩
        have hkx := Kept.refl [w.heap.size + 1] w7
        have hkk : Kept [w.heap.size + 1] w7 ((((((w7.setCell ⟨w.heap.size + 1, 3, none⟩ (.slice ao 6 cap)).setCell ⟨w.heap.size + 1, 0, none⟩ (.int .i64 k)).setCell ⟨w.heap.size + 1, 1, none⟩ (.int .i64 m)).setCell ⟨w.heap.size + 1, 2, none⟩ (.int .i64 s)).setCell ⟨w.heap.size + 1, 3, none⟩ (.slice ao 6 cap)).setCell ⟨w.heap.size + 1, 4, none⟩ (.int .i64 more)) :=
          (((((hkx.setIn _ _ (by simp)).setIn _ _ (by simp)).setIn _ _ (by simp)).setIn _ _ (by simp)).setIn _ _ (by simp)).setIn _ _ (by simp)
        rw [HDl.out]
        exact ⟨HINTS.out.keptEx hkk HBLK.out, HK7.out.into hkk (by simp), hcap, HBLK2.out, owns_kept HOWN.out hkk HBLK3.out⟩
end Go.Proofs.YtbggmeilkfpbgaaDoor

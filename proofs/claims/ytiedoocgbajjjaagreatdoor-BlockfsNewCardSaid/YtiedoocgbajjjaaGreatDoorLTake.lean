/-
  Layer 3: readNode: what a record of 32 bytes tells of a node.
  Conditions: those that each theorem states.
  Layer 3: TakeNode: 32 bytes are taken as a node, or refused.
  Conditions: those that each theorem states.
-/
import Derived.Test.YtiedoocgbajjjaaGreatDoorLPut
namespace Go.Proofs.YtiedoocgbajjjaaGreatDoor
open Go.RowKit Go.Maps
set_option maxRecDepth 100000

theorem elemInt : ElemOk Tryz.prog 56 3 (.int .i64 0) 1 8 := ⟨Tryz.underlying56, by kernel_rfl, rfl, by omega⟩

/-- The numbers of a record, behind the kind. -/
def numsL (R : List UInt8) : List Nat := (List.range 9).map fun i => numAt R (1 + 2 * i)
theorem numsL_length (R : List UInt8) : (numsL R).length = 9 := by simp [numsL]
theorem numsL_get (R : List UInt8) (i : Nat) (h : i < (numsL R).length) : (numsL R)[i] = numAt R (1 + 2 * i) := by simp [numsL]
def kindN (R : List UInt8) : Nat := (R.getD 0 0).toNat
/-- How many of its blocks a record tells itself. -/
def dirN (k s : Nat) : Nat := min 6 (dataI k s).toNat
def dirL (R : List UInt8) : List Nat := ((numsL R).drop 3).take (dirN (kindN R) (numAt R 3))

theorem iv_natI_set (F : List Nat) (k x z : Nat) (h : k < F.length) (hx : F[k] = x) : (natI (F.take k) ++ List.replicate (z + 1) (0 : Int)).set k (x : Int) = natI (F.take (k + 1)) ++ List.replicate z 0 := by
  rw [List.take_succ_eq_append_getElem h, hx]
  have hl : (natI (F.take k)).length = k := by rw [natI_length, List.length_take]; omega
  rw [List.set_append_right _ _ (by omega), hl, Nat.sub_self, List.replicate_succ]
  simp [natI]

theorem content_any (k s n : Int) (w : World) (h : dataI k s = n) :
    Calls Tryz.prog 90 #[.int .i64 k, .int .i64 s] w fun r w' => r = .returned (.tuple #[.int .i64 (max 0 n), .bool (decide (0 ≤ n))]) ∧ w = w' := by
  by_cases h0 : 0 ≤ n
  · rw [show max 0 n = n by omega, decide_eq_true h0]
    exact content_yes k s n w h h0
  · rw [show max 0 n = 0 by omega, decide_eq_false h0]
    exact content_no k s w (by omega)

theorem Kept.setIn {ex : List Nat} {a b : World} (h : Kept ex a b) (p : Addr) (v : Value) (hp : p.block ∈ ex) : Kept ex a (b.setCell p v) := h.trans (Kept.setCell _ _ _ _ hp)
theorem IntsIs.keptEx {w w' : World} {ex : List Nat} {ao : Option Addr} {len : Nat} {l : List Int} (h : IntsIs w ao len l) (hk : Kept ex w w') (hne : ∀ b o, ao = some ⟨b, o, none⟩ → b ∉ ex) : IntsIs w' ao len l := by
  obtain ⟨h1, h2, h3⟩ := h
  refine ⟨h1, h2, ?_⟩
  rcases h3 with h3 | ⟨b, o, rfl, hb, hr⟩
  · exact .inl h3
  · exact .inr ⟨b, o, rfl, Nat.lt_of_lt_of_le hb hk.size, hk.range hb (hne b o rfl) hr⟩

structure RdSt (w : World) (R : List UInt8) (F : List Int) (wr : World) : Prop where
  r : wr.heap[w.heap.size]? = some (.cells (bvA R) 154)
  x : wr.heap[w.heap.size + 1]? = some (.cells #[.int .i64 0, .int .i64 0, .int .i64 0, .slice none 0 0, .int .i64 0] 123)
  f : wr.heap[w.heap.size + 2]? = some (.cells (ivA F) 182)
  kept : Kept [] w wr

theorem own_ints {w : World} {base : Nat} {v : Value} {n : Nat} {l : List Int} (h : w.ownsRow base 3 1 v n (iv l)) (hn : n ≤ 100000) : ∃ ao cap, v = .slice ao n cap ∧ n ≤ cap ∧ cap ≤ 9223372036854775807 ∧ IntsIs w ao n l := by
  have hl : l.length = n := by have := h.1; rw [iv_length] at this; omega
  rcases owns_range h with ⟨g, cap, rfl, _, hg, hc, hm, hr⟩ | ⟨rfl, rfl, hx⟩
  · exact ⟨_, _, rfl, hc, by unfold maxLen at hm; omega, hl, by omega, .inr ⟨g, 0, rfl, hg, hr⟩⟩
  · exact ⟨_, _, rfl, by omega, by omega, hl, by omega, .inl rfl⟩

set_option maxRecDepth 100000 in
set_option maxHeartbeats 4000000 in
theorem readNode_any (R : List UInt8) (w : World) (hR : R.length = 32) :
    Calls Tryz.prog 153 #[.agg (bvA R)] w fun e w' => ∃ ao cap, e = .returned (.tuple #[nodeV (kindN R) (numAt R 1) (numAt R 3) ao (dirL R).length cap (numAt R 5), .int .i64 (contI (kindN R) (numAt R 3)), .bool (contB (kindN R) (numAt R 3))]) ∧
      Hid (IntsIs w' ao (dirL R).length (natI (dirL R)) ∧ Kept [] w w' ∧ (dirL R).length ≤ cap ∧ (∀ b o, ao = some ⟨b, o, none⟩ → w.heap.size ≤ b) ∧ w'.ownsRow w.heap.size 3 1 (.slice ao (dirL R).length cap) (dirL R).length (iv (natI (dirL R)))) := by
  have hsz : (Tryz.prog.info? 154).map (·.size) = some R.length := by rw [hR]; exact size64
  obtain ⟨k, hk⟩ : ∃ k, kindN R = k := ⟨_, rfl⟩
  obtain ⟨m, hm⟩ : ∃ m, numAt R 1 = m := ⟨_, rfl⟩
  obtain ⟨s, hs⟩ : ∃ s, numAt R 3 = s := ⟨_, rfl⟩
  obtain ⟨more, hmore⟩ : ∃ more, numAt R 5 = more := ⟨_, rfl⟩
  obtain ⟨D, hD⟩ : ∃ D, dirL R = D := ⟨_, rfl⟩
  obtain ⟨F, hF⟩ : ∃ F, numsL R = F := ⟨_, rfl⟩
  have hFl : F.length = 9 := by rw [← hF]; exact numsL_length R
  have hDF : D = (F.drop 3).take (dirN k s) := by rw [← hD, ← hF, ← hk, ← hs]; rfl
  have hf0 : F[0]? = some m := by rw [← hF, ← hm]; rfl
  have hf1 : F[1]? = some s := by rw [← hF, ← hs]; rfl
  have hf2 : F[2]? = some more := by rw [← hF, ← hmore]; rfl
  have hk0 : (bv R)[0]? = some (.int .u8 (k : Int)) := by rw [← hk]; simp [bv, kindN, List.getD_eq_getElem?_getD, show 0 < R.length by omega]
  have hk255 : k < 256 := by rw [← hk]; exact UInt8.toNat_lt _
  rw [hk, hm, hs, hmore, hD]
  obtain ⟨n, hn⟩ : ∃ n, dataI k s = n := ⟨_, rfl⟩
  have hb := dataI_bd k s
  rw [hn] at hb
  have hcn : contI k s = max 0 n := by unfold contI; rw [hn]
  have hcb : contB k s = decide (0 ≤ n) := by unfold contB; rw [hn]
  rw [hcn, hcb]
  have hDl : D.length = min 6 n.toNat := by
    rw [hDF]
    unfold dirN
    rw [hn]
    simp [hFl]
  have HN := Lib.hid hn
  have HF := Lib.hid hF
  have HFL := Lib.hid hFl
  have HDF := Lib.hid hDF
  have HDL := Lib.hid hDl
  have HF0 := Lib.hid hf0
  have HF1 := Lib.hid hf1
  have HF2 := Lib.hid hf2
  have HK0 := Lib.hid hk0
  have HR := Lib.hid hR
  clear hk hm hs hmore hD hF hFl hDF hf0 hf1 hf2 hk0 hn hcn hcb hDl hR
  go_enter Tryz.func153, Tryz.ntmps153
  go_wp2_with fail
  generalize hw3 : World.alloc (World.alloc (World.alloc w _) _) _ = w3
  have HS0 : Hid (RdSt w R (natI (F.take 0) ++ List.replicate (9 - 0) 0) w3) := by
    rw [← hw3]
    refine ⟨?_, ?_, ?_, ((Kept.alloc _ _ _).trans (Kept.alloc _ _ _)).trans (Kept.alloc _ _ _)⟩
    · exact (Kept.alloc [] _ _).heap (by simp) ((Kept.alloc [] _ _).heap (by simp) (heap_alloc_last w _))
    · have := heap_alloc_last (w.alloc (.cells (bvA R) 154)) (.cells #[.int .i64 0, .int .i64 0, .int .i64 0, .slice none 0 0, .int .i64 0] 123)
      rw [size_alloc] at this
      exact (Kept.alloc [] _ _).heap (by simp) this
    · have := heap_alloc_last ((w.alloc (.cells (bvA R) 154)).alloc (.cells #[.int .i64 0, .int .i64 0, .int .i64 0, .slice none 0 0, .int .i64 0] 123)) (.cells (ivA (List.replicate 9 0)) 182)
      rw [size_alloc, size_alloc] at this
      exact this
  clear hw3
  go_loopw [7] (fun i wr => ∃ j : Nat, j ≤ 9 ∧ i = .int .i64 j ∧ Hid (RdSt w R (natI (F.take j) ++ List.replicate (9 - j) 0) wr)) (fun i _ => 9 - (intOf i).toNat)
  case atStart => exact ⟨0, by omega, rfl, HS0⟩
  case round =>
    clear HS0
    obtain ⟨j, hj, rfl, HS⟩ := hrel
    by_cases hlt : j < 9
    · have hjf : j < F.length := by rw [HFL.out]; exact hlt
      obtain ⟨x, hx⟩ : ∃ x, numAt R (1 + 2 * j) = x := ⟨_, rfl⟩
      have hfx : F[j] = x := by
        have := HF.out
        subst this
        rw [numsL_get]; exact hx
      have HFX : Hid (F[j]? = some x) := by show _ = _; rw [List.getElem?_eq_getElem hjf, hfx]
      have HX := Lib.hid hx
      clear hx hfx
      go_wp2_with fail
      refine (number3_any (w.heap.size) 0 32 32 (1 + 2 * j) R wr (range_row HS.out.r) HR.out (by omega) (by omega)).mono ?_
      rw [HX.out]
      rintro e w5 ⟨rfl, hd5⟩
      have HN5 : Hid (RdSt w R (natI (F.take j) ++ List.replicate (9 - j) 0) w5) := ⟨hd5.kept.heap (by simp) HS.out.r, hd5.kept.heap (by simp) HS.out.x, hd5.kept.heap (by simp) HS.out.f, HS.out.kept.trans hd5.kept⟩
      have hrl : (natI (F.take j) ++ List.replicate (9 - j) (0 : Int)).length = 9 := by
        rw [List.length_append, natI_length, List.length_take, List.length_replicate, HFL.out]; omega
      obtain ⟨y, hy⟩ : ∃ y, (ivA (natI (F.take j) ++ List.replicate (9 - j) 0))[j]? = some y := by
        rw [Array.getElem?_eq_getElem (by rw [ivA_size, hrl]; exact hlt)]
        exact ⟨_, rfl⟩
      have cj : w5.cell? ⟨w.heap.size + 1 + 1, j, none⟩ = some y := by rw [cell_of_row w5 _ j _ _ _ HN5.out.f]; exact hy
      have fj : ∀ q, w5.frozen? ⟨w.heap.size + 1 + 1, q, none⟩ = false := fun q => frozen_of_row _ _ q _ _ HN5.out.f
      clear hd5 HS hy hrl
      go_wp2_with fail
      have HN6 : Hid (RdSt w R (natI (F.take (j + 1)) ++ List.replicate (9 - (j + 1)) 0) (w5.setCell ⟨w.heap.size + 1 + 1, j, none⟩ (.int .i64 (x : Int)))) := by
        have hkp : Kept [w.heap.size + 2] w5 (w5.setCell ⟨w.heap.size + 2, j, none⟩ (.int .i64 (x : Int))) := Kept.setCell _ _ _ _ (by simp)
        refine ⟨hkp.heap (by simp) HN5.out.r, hkp.heap (by simp) HN5.out.x, ?_, HN5.out.kept.into hkp (by simp)⟩
        rw [heap_setCell_same _ _ _ _ _ _ HN5.out.f, ivA_set]
        have hfx : F[j] = x := by have := HFX.out; rw [List.getElem?_eq_getElem hjf] at this; exact Option.some.inj this
        have := iv_natI_set F j x (9 - (j + 1)) hjf hfx
        rw [show 9 - (j + 1) + 1 = 9 - j by omega] at this
        rw [this]
      clear cj fj HN5
      go_roundw
      case rel => exact ⟨j + 1, by omega, by go_num, HN6⟩
      case measure => simp [intOf]; omega
    · have HS9 : Hid (RdSt w R (natI F) wr) := by
        have h9 : j = 9 := by omega
        have := HS.out
        rw [h9, List.take_of_length_le (by rw [HFL.out]; omega)] at this
        show RdSt w R (natI F) wr
        simpa using this
      clear HS
      have cf : ∀ (q x : Nat), F[q]? = some x → wr.cell? ⟨w.heap.size + 1 + 1, q, none⟩ = some (.int .i64 (x : Int)) := fun q x hq => by
        rw [cell_of_row wr _ q _ _ _ HS9.out.f]
        simp [ivA, iv, natI, hq]
      have c0 := cf 0 m HF0.out
      have c1 := cf 1 s HF1.out
      have c2 := cf 2 more HF2.out
      have r0 : wr.cell? ⟨w.heap.size, 0, none⟩ = some (.int .u8 (k : Int)) := by rw [cell_of_row wr _ 0 _ _ _ HS9.out.r]; simpa [bvA] using HK0.out
      have x0 : wr.cell? ⟨w.heap.size + 1, 0, none⟩ = some (.int .i64 0) := cell_of_row wr _ 0 _ _ _ HS9.out.x
      have x1 : wr.cell? ⟨w.heap.size + 1, 1, none⟩ = some (.int .i64 0) := cell_of_row wr _ 1 _ _ _ HS9.out.x
      have x2 : wr.cell? ⟨w.heap.size + 1, 2, none⟩ = some (.int .i64 0) := cell_of_row wr _ 2 _ _ _ HS9.out.x
      have x3 : wr.cell? ⟨w.heap.size + 1, 3, none⟩ = some (.slice none 0 0) := cell_of_row wr _ 3 _ _ _ HS9.out.x
      have x4 : wr.cell? ⟨w.heap.size + 1, 4, none⟩ = some (.int .i64 0) := cell_of_row wr _ 4 _ _ _ HS9.out.x
      have fx : ∀ q, wr.frozen? ⟨w.heap.size + 1, q, none⟩ = false := fun q => frozen_of_row _ _ q _ _ HS9.out.x
      clear cf
      go_wp2_with fail
      generalize hw4 : World.setCell (World.setCell (World.setCell (World.setCell (World.setCell wr _ _) _ _) _ _) _ _) _ _ = w4
      have HS4 : Hid (w4.heap[w.heap.size + 1]? = some (.cells #[.int .i64 k, .int .i64 m, .int .i64 s, .slice none 0 0, .int .i64 more] 123) ∧ w4.heap[w.heap.size + 2]? = some (.cells (ivA (natI F)) 182) ∧ Kept [] w w4) := by
        rw [← hw4]
        have kp : ∀ (u : World) q v, Kept [w.heap.size + 1] u (u.setCell ⟨w.heap.size + 1, q, none⟩ v) := fun u q v => Kept.setCell _ _ _ _ (by simp)
        refine ⟨?_, ?_, ?_⟩
        · exact heap_setCell_same _ _ _ _ _ _ (heap_setCell_same _ _ _ _ _ _ (heap_setCell_same _ _ _ _ _ _ (heap_setCell_same _ _ _ _ _ _ (heap_setCell_same _ _ _ _ _ _ HS9.out.x))))
        · exact (kp _ _ _).heap (by simp) ((kp _ _ _).heap (by simp) ((kp _ _ _).heap (by simp) ((kp _ _ _).heap (by simp) ((kp _ _ _).heap (by simp) HS9.out.f))))
        · exact ((((HS9.out.kept.into (kp _ _ _) (by simp)).into (kp _ _ _) (by simp)).into (kp _ _ _) (by simp)).into (kp _ _ _) (by simp)).into (kp _ _ _) (by simp)
      clear hw4 HS9 c0 c1 c2 r0 x0 x1 x2 x3 x4 fx
      refine (content_any k s n _ HN.out).mono ?_
      obtain ⟨cN, hcN⟩ : ∃ cN : Nat, max 0 n = cN := ⟨(max 0 n).toNat, by omega⟩
      have hc38 : cN ≤ 38 := by omega
      have HDL2 : Hid (D.length = min 6 cN) := by show _ = _; rw [HDL.out]; omega
      have HDF2 : Hid (D = (F.drop 3).take (min 6 cN)) := by
        show _ = _
        rw [HDF.out]
        unfold dirN
        rw [HN.out]
        congr 1
        omega
      rw [hcN]
      have HCN := Lib.hid hcN
      clear hcN
      obtain ⟨ob, hob⟩ : ∃ ob, decide (0 ≤ n) = ob := ⟨_, rfl⟩
      rw [hob]
      have HOB := Lib.hid hob
      clear hob hb
      rintro e w' ⟨rfl, rfl⟩
      obtain ⟨j6, hj6⟩ : ∃ j6, min 6 cN = j6 := ⟨_, rfl⟩
      have hj6l : j6 ≤ 6 := by omega
      have hDl : D.length = j6 := by rw [HDL2.out, hj6]
      have hDF : D = (F.drop 3).take j6 := by rw [HDF2.out, hj6]
      have hdc : ∀ q u, (iv (natI D))[q]? = some u → w4.drew.cell? ((⟨w.heap.size + 1 + 1, 3, none⟩ : Addr).add q) = some u := fun q u hu => by
        rw [Addr.add_mid, World.cell?_drew, cell_of_row w4 _ _ _ _ _ HS4.out.2.1]
        have hq : q < j6 := by
          have := (List.getElem?_eq_some_iff.1 hu).1
          rw [iv_length, natI_length, hDl] at this
          exact this
        rw [hDF] at hu
        simp [iv, natI, List.getElem?_take_of_lt hq] at hu
        simpa [ivA, iv, natI] using hu
      obtain ⟨v7, w7, hrun, hown, hk7, hblk⟩ := own_app elemInt 56 w4.drew w.heap.size (.slice none 0 0) 0 [] (World.ownsRow_nil _ _ _ _) ⟨w.heap.size + 1 + 1, 3, none⟩ j6 6 (iv (natI D)) (by rw [iv_length, natI_length, hDl]; omega) hdc (iv_one _) (by unfold maxLen; omega) (by omega) HS4.out.2.2.size
      have hk7' : Kept [] w4 w7 := (Kept.drew [] w4).trans hk7
      rw [Nat.zero_add, List.nil_append] at hown
      obtain ⟨ao, cap, rfl, hcap, hcap2, hints⟩ := own_ints hown (by omega)
      have HBLK2 : Hid (∀ b o, ao = some ⟨b, o, none⟩ → w.heap.size ≤ b) := fun b o hao => by
        have h4 := (Array.getElem?_eq_some_iff.1 HS4.out.2.1).1
        subst hao
        simp [Value.ownBlock] at hblk
        omega
      have HBLK : Hid (∀ b o, ao = some ⟨b, o, none⟩ → b ∉ [w.heap.size + 1]) := fun b o hao => by
        have h4 := (Array.getElem?_eq_some_iff.1 HS4.out.2.1).1
        subst hao
        simp [Value.ownBlock] at hblk
        simp
        omega
      have HBLK3 : Hid (∀ q, (Value.slice ao j6 cap).ownBlock = some q → q ∉ [w.heap.size + 1]) := fun q hq => by
        have h4 := (Array.getElem?_eq_some_iff.1 HS4.out.2.1).1
        rcases hblk with e | e
        · rw [e] at hq; cases hq
        · rw [e] at hq
          injection hq with hq
          simp
          have : w4.drew.heap.size = w4.heap.size := rfl
          omega
      have HOWN := Lib.hid hown
      have HRUN := Lib.hid hrun
      have HINTS := Lib.hid hints
      have HX7 := Lib.hid (hk7'.heap (by simp) HS4.out.1)
      have HK7 := Lib.hid (HS4.out.2.2.trans hk7')
      have HJ6 := Lib.hid hj6
      have HDl := Lib.hid hDl
      have x3 : w4.cell? ⟨w.heap.size + 1, 3, none⟩ = some (.slice none 0 0) := cell_of_row w4 _ 3 _ _ _ HS4.out.1
      clear hblk hdc hrun hown hk7 hk7' hints hDF HDF2 HDL2 HS4 hj6 hDl
      by_cases hc6 : cN ≤ 6
      · have hjc : j6 = cN := by have := HJ6.out; omega
        subst hjc
        go_wp2_with fail
        refine wp_region_still_tail 6 (by kernel_rfl) (by kernel_rfl) ?_
        simp only [List.take_succ_cons, List.take_zero, List.drop_succ_cons, List.drop_zero]
        still_step
        still_step
        still_step
        have e1 : IntKind.i64.wrap (3 + (j6 : Int)) = 3 + (j6 : Int) := by rw [IntKind.wrap_i64]; omega
        have e2 : (3 + (j6 : Int)).toNat = 3 + j6 := by omega
        have e3 : (0 : Int) ≤ 3 + (j6 : Int) := by omega
        have e4 : 3 + (j6 : Int) ≤ 9 := by omega
        have e5 : (3 : Int) ≤ 3 + (j6 : Int) := by omega
        have e6 : (j6 : Int) ≤ 6 := by omega
        have e7 : ¬ (6 : Int) < (j6 : Int) := by omega
        still_step
        still_step
        still_step
        refine wpStill_nil ?_
        refine wpList_append_run rfl _ _ 56 rfl _ _ _ rfl rfl HRUN.out ?_
        clear e1 e2 e3 e4 e5 e6 e7 x3
        have y0 : w7.cell? ⟨w.heap.size + 1, 0, none⟩ = some (.int .i64 k) := cell_of_row w7 _ 0 _ _ _ HX7.out
        have y1 : w7.cell? ⟨w.heap.size + 1, 1, none⟩ = some (.int .i64 m) := cell_of_row w7 _ 1 _ _ _ HX7.out
        have y2 : w7.cell? ⟨w.heap.size + 1, 2, none⟩ = some (.int .i64 s) := cell_of_row w7 _ 2 _ _ _ HX7.out
        have y3 : w7.cell? ⟨w.heap.size + 1, 3, none⟩ = some (.slice none 0 0) := cell_of_row w7 _ 3 _ _ _ HX7.out
        have y4 : w7.cell? ⟨w.heap.size + 1, 4, none⟩ = some (.int .i64 more) := cell_of_row w7 _ 4 _ _ _ HX7.out
        have fy : ∀ q, w7.frozen? ⟨w.heap.size + 1, q, none⟩ = false := fun q => frozen_of_row _ _ q _ _ HX7.out
        go_wp2_with fail
        refine bodyPost_ret (v := .tuple #[nodeV k m s ao j6 cap more, .int .i64 j6, .bool ob]) (by simp [results, Tryz.results153, go_sem, y0, y1, y2, y3, y4, nodeV]) rfl ⟨ao, cap, by rw [HCN.out, HOB.out, HDl.out], ?_⟩
        have hkx := Kept.refl [w.heap.size + 1] w7
        have hkk : Kept [w.heap.size + 1] w7 ((((((w7.setCell ⟨w.heap.size + 1, 3, none⟩ (.slice ao j6 cap)).setCell ⟨w.heap.size + 1, 0, none⟩ (.int .i64 k)).setCell ⟨w.heap.size + 1, 1, none⟩ (.int .i64 m)).setCell ⟨w.heap.size + 1, 2, none⟩ (.int .i64 s)).setCell ⟨w.heap.size + 1, 3, none⟩ (.slice ao j6 cap)).setCell ⟨w.heap.size + 1, 4, none⟩ (.int .i64 more)) :=
          (((((hkx.setIn _ _ (by simp)).setIn _ _ (by simp)).setIn _ _ (by simp)).setIn _ _ (by simp)).setIn _ _ (by simp)).setIn _ _ (by simp)
        rw [HDl.out]
        exact ⟨HINTS.out.keptEx hkk HBLK.out, HK7.out.into hkk (by simp), hcap, HBLK2.out, owns_kept HOWN.out hkk HBLK3.out⟩
      · have hjc : j6 = 6 := by have := HJ6.out; omega
        subst hjc
        go_wp2_with fail
        refine wp_region_still_tail 6 (by kernel_rfl) (by kernel_rfl) ?_
        simp only [List.take_succ_cons, List.take_zero, List.drop_succ_cons, List.drop_zero]
        still_step
        still_step
        still_step
        have e1 : IntKind.i64.wrap 9 = 9 := by decide
        have e6 : ¬ (cN : Int) ≤ 6 := by omega
        have e7 : (6 : Int) < (cN : Int) := by omega
        still_step
        still_step
        still_step
        refine wpStill_nil ?_
        refine wpList_append_run rfl _ _ 56 rfl _ _ _ rfl rfl HRUN.out ?_
        clear e1 e6 e7 x3
        have y0 : w7.cell? ⟨w.heap.size + 1, 0, none⟩ = some (.int .i64 k) := cell_of_row w7 _ 0 _ _ _ HX7.out
        have y1 : w7.cell? ⟨w.heap.size + 1, 1, none⟩ = some (.int .i64 m) := cell_of_row w7 _ 1 _ _ _ HX7.out
        have y2 : w7.cell? ⟨w.heap.size + 1, 2, none⟩ = some (.int .i64 s) := cell_of_row w7 _ 2 _ _ _ HX7.out
        have y3 : w7.cell? ⟨w.heap.size + 1, 3, none⟩ = some (.slice none 0 0) := cell_of_row w7 _ 3 _ _ _ HX7.out
        have y4 : w7.cell? ⟨w.heap.size + 1, 4, none⟩ = some (.int .i64 more) := cell_of_row w7 _ 4 _ _ _ HX7.out
        have fy : ∀ q, w7.frozen? ⟨w.heap.size + 1, q, none⟩ = false := fun q => frozen_of_row _ _ q _ _ HX7.out
        go_wp2_with fail
        refine bodyPost_ret (v := .tuple #[nodeV k m s ao 6 cap more, .int .i64 cN, .bool ob]) (by simp [results, Tryz.results153, go_sem, y0, y1, y2, y3, y4, nodeV]) rfl ⟨ao, cap, by rw [HCN.out, HOB.out, HDl.out], ?_⟩
        have hkx := Kept.refl [w.heap.size + 1] w7
        have hkk : Kept [w.heap.size + 1] w7 ((((((w7.setCell ⟨w.heap.size + 1, 3, none⟩ (.slice ao 6 cap)).setCell ⟨w.heap.size + 1, 0, none⟩ (.int .i64 k)).setCell ⟨w.heap.size + 1, 1, none⟩ (.int .i64 m)).setCell ⟨w.heap.size + 1, 2, none⟩ (.int .i64 s)).setCell ⟨w.heap.size + 1, 3, none⟩ (.slice ao 6 cap)).setCell ⟨w.heap.size + 1, 4, none⟩ (.int .i64 more)) :=
          (((((hkx.setIn _ _ (by simp)).setIn _ _ (by simp)).setIn _ _ (by simp)).setIn _ _ (by simp)).setIn _ _ (by simp)).setIn _ _ (by simp)
        rw [HDl.out]
        exact ⟨HINTS.out.keptEx hkk HBLK.out, HK7.out.into hkk (by simp), hcap, HBLK2.out, owns_kept HOWN.out hkk HBLK3.out⟩
end Go.Proofs.YtiedoocgbajjjaaGreatDoor

namespace Go.Proofs.YtiedoocgbajjjaaGreatDoor
open Go.RowKit Go.Maps
set_option maxRecDepth 100000

theorem eqItems_bytes {P : Program} (w : World) (d : Nat) (e : TypeId) (he : P.plainKey e = true) (hue : P.underlying e = some (.int .u8)) (A B : List UInt8) : ∀ is : List Nat, (∀ i ∈ is, i < A.length ∧ i < B.length) →
    (Op.eqItems (d + 1) e 1 (bvA A) (bvA B) is).run P w = .ok (is.all fun i => A.getD i 0 == B.getD i 0) w
  | [], _ => by simp [Op.eqItems]
  | i :: is, h => by
    obtain ⟨ha, hb⟩ := h i (by simp)
    have p1 : (part e (bvA A) (i * 1)).run P w = .ok (.int .u8 ((A.getD i 0).toNat : Int)) w := run_part_plain w he (by simp [bvA, bv, ha])
    have p2 : (part e (bvA B) (i * 1)).run P w = .ok (.int .u8 ((B.getD i 0).toNat : Int)) w := run_part_plain w he (by simp [bvA, bv, hb])
    have ih := eqItems_bytes w d e he hue A B is (fun j hj => h j (by simp [hj]))
    simp only [Op.eqItems, Sem.run_bind, p1, p2, Result.andThen_ok, run_equalIn_int w d e .u8 .u8 _ _ hue, List.all_cons]
    have hx : (((A.getD i 0).toNat : Int) == ((B.getD i 0).toNat : Int)) = (A.getD i 0 == B.getD i 0) := by
      by_cases q : A.getD i 0 = B.getD i 0
      · rw [q, beq_self_eq_true, beq_self_eq_true]
      · have : ¬ (A.getD i 0).toNat = (B.getD i 0).toNat := fun e => q (UInt8.toNat_inj.1 e)
        have h2 : ¬ ((A.getD i 0).toNat : Int) = ((B.getD i 0).toNat : Int) := by omega
        rw [beq_eq_false_iff_ne.2 h2, beq_eq_false_iff_ne.2 q]
    rw [hx]
    cases A.getD i 0 == B.getD i 0
    · simp
    · simpa using ih
theorem infoByte3 : ∃ i, Tryz.prog.info? 5 = some i := by
  have : (Tryz.prog.info? 5).isSome = true := by kernel_rfl
  exact Option.isSome_iff_exists.1 this
theorem equal_bytesN (n : Nat) (t : TypeId) (ht : Tryz.prog.underlying t = some (.array n 5)) (w : World) (A B : List UInt8) (ha : A.length = n) (hb : B.length = n) : (Op.equalIn 10000 t (.agg (bvA A)) (.agg (bvA B))).run Tryz.prog w = .ok (decide (A = B)) w := by
  obtain ⟨i, hi⟩ := infoByte3
  rw [run_equalIn_array w 9999 (bvA A) (bvA B) ht hi, show Tryz.prog.cellsOf 5 = 1 by kernel_rfl]
  rw [eqItems_bytes w 9998 5 (by kernel_rfl) Tryz.underlying5 A B (List.range n) (fun i hi => by simp at hi; omega)]
  congr 1
  rw [Bool.eq_iff_iff]
  simp only [List.all_eq_true, List.mem_range, decide_eq_true_eq, beq_iff_eq]
  refine ⟨fun h => List.ext_getElem (by omega) fun i h1 h2 => ?_, fun h i _ => by rw [h]⟩
  have := h i (by omega)
  simpa [h1, h2] using this

/-- A whole row of bytes is read. -/
theorem exec_load_row {P : Program} {o : Oper} {a : Act} {w' : World} (ty : TypeId) (x : Operand) (ho : o.op = .load ty x) (b off : Nat) (hx : a.eval x = .pointer (some ⟨b, off, none⟩)) (L : List UInt8) (d : TypeDesc) (hc : w'.rangeAt b off (bv L))
    (hu : P.underlying ty = some d) (hd : d.isRow = true) (hi : (P.info? ty).map (·.size) = some (bv L).length) : (execOp a.eval o).run P w' = .ok (.value (.agg (bvA L))) w' := by
  unfold execOp
  simp only [ho, hx, Instr.loadAt, Instr.sureAddr, Sem.run_bind, Sem.run_pure, Result.andThen_ok, run_loadVar_mid w' b off ty (bv L) d hc hu hd hi]
  rfl

/-- Which bytes are a node's. -/
def takeB (R : List UInt8) : Bool := decide (R.length = 32) && (decide (0 ≤ dataI (kindN R) (numAt R 3)) && (headB (numAt R 1) (dataI (kindN R) (numAt R 3)) (numAt R 5) && ((natI (dirL R)).all sndB && decide (recL (kindN R) (fieldsL (numAt R 1) (numAt R 3) (numAt R 5) (dirL R)) = R))))
/-- What TakeNode leaves. -/
def TakeOut (R : List UInt8) (w : World) (e : Ending) (w' : World) : Prop :=
  Kept [] w w' ∧ ((takeB R = false ∧ e = .returned (.tuple #[nodeV 0 0 0 none 0 0 0, .int .i64 0, .int .i64 4])) ∨
    ∃ ao cap, takeB R = true ∧ e = .returned (.tuple #[nodeV (kindN R) (numAt R 1) (numAt R 3) ao (dirL R).length cap (numAt R 5), .int .i64 (dataI (kindN R) (numAt R 3) - (dirL R).length), .int .i64 0]) ∧ IntsIs w' ao (dirL R).length (natI (dirL R)) ∧ (dirL R).length ≤ cap ∧ w'.ownsRow w.heap.size 3 1 (.slice ao (dirL R).length cap) (dirL R).length (iv (natI (dirL R))))

set_option maxRecDepth 100000 in
set_option maxHeartbeats 4000000 in
theorem takeNode_32 (b o cap : Nat) (R : List UInt8) (w : World) (hR : R.length = 32) (hb : b < w.heap.size) (hr : w.rangeAt b o (bv R)) :
    Calls Tryz.prog 134 #[.slice (some ⟨b, o, none⟩) 32 cap] w (TakeOut R w) := by
  have hsz : (Tryz.prog.info? 154).map (·.size) = some (bv R).length := by rw [bv_length, hR]; exact size64
  have hsz2 : (Tryz.prog.info? 154).map (·.size) = some R.length := by rw [hR]; exact size64
  have har := run_arrayAt (P := Tryz.prog) 154 5 32 Tryz.underlying154 (some ⟨b, o, none⟩) 32 cap (Nat.le_refl _)
  obtain ⟨w0, hw0⟩ : ∃ w0, w.alloc (.cells #[.int .i64 0, .int .i64 0, .int .i64 0, .slice none 0 0, .int .i64 0] 123) = w0 := ⟨_, rfl⟩
  have hk0 : Kept [] w w0 := by rw [← hw0]; exact Kept.alloc _ _ _
  have hx0 : w0.heap[w.heap.size]? = some (.cells #[.int .i64 0, .int .i64 0, .int .i64 0, .slice none 0 0, .int .i64 0] 123) := by rw [← hw0]; exact heap_alloc_last _ _
  have hs0 : w0.heap.size = w.heap.size + 1 := by rw [← hw0, size_alloc]
  have hr0 : w0.rangeAt b o (bv R) := hk0.range hb (by simp) hr
  have z32 := zero32 w0
  have hRz : (bvA R).size = 32 := by rw [bvA_size]; exact hR
  have hst := run_storeCells_new (P := Tryz.prog) w0 154 (bvA (zerosL 32)) (bvA R) (by rw [hRz]; exact size64) (by rw [hRz]; rfl) (bvA_one _)
  rw [bvA_toList] at hst
  have hRl : (bv R).length = 32 := by rw [bv_length]; exact hR
  have hr1 : (w0.alloc (.cells (bvA R) 154)).rangeAt w0.heap.size 0 (bv R) := range_row (heap_alloc_last _ _)
  have HR := Lib.hid hR
  have HK0 := Lib.hid hk0
  have HX0 := Lib.hid hx0
  have HS0 := Lib.hid hs0
  clear hk0 hx0 hs0 hr hR
  go_enter Tryz.func134, Tryz.ntmps134
  go_wp2_with first
    | (refine wpList_load_mid rfl 154 _ rfl b o rfl (bv R) _ hr0 Tryz.underlying154 rfl hsz ?_)
    | (refine wpList_load_mid rfl 154 _ rfl w0.heap.size 0 rfl (bv R) _ hr1 Tryz.underlying154 rfl hsz ?_)
  rw [show (bv R).toArray = bvA R from rfl]
  generalize hw3 : World.alloc w0 _ = w3
  have H3 : Hid (w3.heap[w.heap.size]? = some (.cells #[.int .i64 0, .int .i64 0, .int .i64 0, .slice none 0 0, .int .i64 0] 123) ∧ w3.heap[w.heap.size + 1]? = some (.cells (bvA R) 154) ∧ Kept [] w w3) := by
    rw [← hw3]
    refine ⟨(Kept.alloc [] _ _).heap (by simp) HX0.out, ?_, HK0.out.trans (Kept.alloc _ _ _)⟩
    rw [← HS0.out]
    exact heap_alloc_last _ _
  rw [HS0.out]
  clear hw3 hr1 hst z32 hr0 har hRz hRl hw0 HX0 HK0 HS0 hb
  clear w0
  refine (readNode_any R w3 HR.out).mono ?_
  simp only [nodeV]
  rintro e w4 ⟨ao, cp, rfl, H4⟩
  obtain ⟨k, hk⟩ : ∃ k, kindN R = k := ⟨_, rfl⟩
  obtain ⟨m, hm⟩ : ∃ m, numAt R 1 = m := ⟨_, rfl⟩
  obtain ⟨s, hs⟩ : ∃ s, numAt R 3 = s := ⟨_, rfl⟩
  obtain ⟨more, hmore⟩ : ∃ more, numAt R 5 = more := ⟨_, rfl⟩
  obtain ⟨D, hD⟩ : ∃ D, dirL R = D := ⟨_, rfl⟩
  obtain ⟨n, hn⟩ : ∃ n, dataI k s = n := ⟨_, rfl⟩
  have hnb := dataI_bd k s
  have hkr : k < 256 := by rw [← hk]; exact UInt8.toNat_lt _
  have hD6 : D.length ≤ 6 := by rw [← hD]; unfold dirL dirN; rw [List.length_take]; omega
  have hTB : takeB R = (decide (0 ≤ n) && (headB m n more && ((natI D).all sndB && decide (recL k (fieldsL m s more D) = R)))) := by
    unfold takeB
    rw [hk, hm, hs, hmore, hD, hn, decide_eq_true HR.out, Bool.true_and]
  have hTO : ∀ e w', Kept [] w w' → ((takeB R = false ∧ e = .returned (.tuple #[.agg #[.int .i64 0, .int .i64 0, .int .i64 0, .slice none 0 0, .int .i64 0], .int .i64 0, .int .i64 4])) ∨
      (takeB R = true ∧ e = .returned (.tuple #[.agg #[.int .i64 k, .int .i64 m, .int .i64 s, .slice ao D.length cp, .int .i64 more], .int .i64 (n - D.length), .int .i64 0]) ∧ IntsIs w' ao D.length (natI D) ∧ D.length ≤ cp ∧ w'.ownsRow w.heap.size 3 1 (.slice ao D.length cp) D.length (iv (natI D)))) → TakeOut R w e w' := fun e w' hk' h => by
    refine ⟨hk', ?_⟩
    rw [hk, hm, hs, hmore, hD, hn]
    rcases h with h | h
    · exact .inl h
    · exact .inr ⟨ao, cp, h.1, h.2.1, h.2.2⟩
  rw [hk, hm, hs, hmore, hD, show contI k s = max 0 n by unfold contI; rw [hn], show contB k s = decide (0 ≤ n) by unfold contB; rw [hn]]
  rw [hD] at H4
  rw [hn] at hnb
  have HTB := Lib.hid hTB
  have HTO := Lib.hid hTO
  have x0 : w4.cell? ⟨w.heap.size, 0, none⟩ = some (.int .i64 0) := cell_of_row _ _ 0 _ _ _ (H4.out.2.1.heap (by simp) H3.out.1)
  have x1 : w4.cell? ⟨w.heap.size, 1, none⟩ = some (.int .i64 0) := cell_of_row _ _ 1 _ _ _ (H4.out.2.1.heap (by simp) H3.out.1)
  have x2 : w4.cell? ⟨w.heap.size, 2, none⟩ = some (.int .i64 0) := cell_of_row _ _ 2 _ _ _ (H4.out.2.1.heap (by simp) H3.out.1)
  have x3 : w4.cell? ⟨w.heap.size, 3, none⟩ = some (.slice none 0 0) := cell_of_row _ _ 3 _ _ _ (H4.out.2.1.heap (by simp) H3.out.1)
  have x4 : w4.cell? ⟨w.heap.size, 4, none⟩ = some (.int .i64 0) := cell_of_row _ _ 4 _ _ _ (H4.out.2.1.heap (by simp) H3.out.1)
  have fx : ∀ q, w4.frozen? ⟨w.heap.size, q, none⟩ = false := fun q => frozen_of_row _ _ q _ _ (H4.out.2.1.heap (by simp) H3.out.1)
  clear hk hm hs hmore hD hn hTB hTO
  obtain ⟨cb, hcb⟩ : ∃ cb, decide (0 ≤ n) = cb := ⟨_, rfl⟩
  obtain ⟨cn, hcn⟩ : ∃ cn, max 0 n = cn := ⟨_, rfl⟩
  rw [hcb, hcn]
  rw [hcb] at HTB
  have HCB := Lib.hid hcb
  have HCN := Lib.hid hcn
  clear hcb hcn
  go_wp2_with fail
  generalize hw5 : World.setCell (World.setCell (World.setCell (World.setCell (World.setCell w4 _ _) _ _) _ _) _ _) _ _ = w5
  have H5 : Hid (w5.heap[w.heap.size]? = some (.cells #[.int .i64 k, .int .i64 m, .int .i64 s, .slice ao D.length cp, .int .i64 more] 123) ∧ w5.heap[w.heap.size + 1]? = some (.cells (bvA R) 154) ∧ Kept [] w w5 ∧ IntsIs w5 ao D.length (natI D) ∧ D.length ≤ cp ∧ (∀ b o, ao = some ⟨b, o, none⟩ → b ∉ [w.heap.size]) ∧ w5.ownsRow (w.heap.size + 1) 3 1 (.slice ao D.length cp) D.length (iv (natI D))) := by
    have kp : ∀ (u : World) q v, Kept [w.heap.size] u (u.setCell ⟨w.heap.size, q, none⟩ v) := fun u q v => Kept.setCell _ _ _ _ (by simp)
    have hblk : ∀ b o, ao = some ⟨b, o, none⟩ → b ∉ [w.heap.size] := fun b o hbo => by
      have h1 := H4.out.2.2.2.1 b o hbo
      have h2 := (Array.getElem?_eq_some_iff.1 H3.out.2.1).1
      simp
      omega
    have hkk : Kept [w.heap.size] w4 w5 := by rw [← hw5]; exact ((((kp _ _ _).trans (kp _ _ _)).trans (kp _ _ _)).trans (kp _ _ _)).trans (kp _ _ _)
    refine ⟨?_, hkk.heap (by simp) (H4.out.2.1.heap (by simp) H3.out.2.1), (H3.out.2.2.trans H4.out.2.1).into hkk (by simp), H4.out.1.keptEx hkk hblk, H4.out.2.2.1, hblk, ?_⟩
    · rw [← hw5]
      exact heap_setCell_same _ _ _ _ _ _ (heap_setCell_same _ _ _ _ _ _ (heap_setCell_same _ _ _ _ _ _ (heap_setCell_same _ _ _ _ _ _ (heap_setCell_same _ _ _ _ _ _ (H4.out.2.1.heap (by simp) H3.out.1)))))
    · have h2 := (Array.getElem?_eq_some_iff.1 H3.out.2.1).1
      have how := H4.out.2.2.2.2
      have how2 := owns_kept how hkk (fun q hq => by have := (World.ownsRow.lt how q hq).1; simp; omega)
      obtain ⟨o1, o2 | ⟨g, cap, cur, e1, e2, e3⟩⟩ := how2
      · exact ⟨o1, .inl o2⟩
      · exact ⟨o1, .inr ⟨g, cap, cur, e1, by omega, e3⟩⟩
  clear hw5 x0 x1 x2 x3 x4 fx H4 H3
  clear w3 w4
  have HB5 : Hid (∀ w', Kept [] w5.drew w' → w'.heap[w.heap.size]? = some (.cells #[.int .i64 k, .int .i64 m, .int .i64 s, .slice ao D.length cp, .int .i64 more] 123)) := fun w' hk' => ((Kept.drew [] w5).trans hk').heap (by simp) H5.out.1
  have y0 : ∀ w', Kept [] w5.drew w' → w'.cell? ⟨w.heap.size, 0, none⟩ = some (.int .i64 k) := fun w' hk' => cell_of_row _ _ 0 _ _ _ (HB5.out w' hk')
  have y1 : ∀ w', Kept [] w5.drew w' → w'.cell? ⟨w.heap.size, 1, none⟩ = some (.int .i64 m) := fun w' hk' => cell_of_row _ _ 1 _ _ _ (HB5.out w' hk')
  have y2 : ∀ w', Kept [] w5.drew w' → w'.cell? ⟨w.heap.size, 2, none⟩ = some (.int .i64 s) := fun w' hk' => cell_of_row _ _ 2 _ _ _ (HB5.out w' hk')
  have y3 : ∀ w', Kept [] w5.drew w' → w'.cell? ⟨w.heap.size, 3, none⟩ = some (.slice ao D.length cp) := fun w' hk' => cell_of_row _ _ 3 _ _ _ (HB5.out w' hk')
  have y4 : ∀ w', Kept [] w5.drew w' → w'.cell? ⟨w.heap.size, 4, none⟩ = some (.int .i64 more) := fun w' hk' => cell_of_row _ _ 4 _ _ _ (HB5.out w' hk')
  have KR : Hid (∀ w', Kept [] w5.drew w' → w'.rangeAt (w.heap.size + 1) 0 (bv R)) := fun w' hk' => range_row (((Kept.drew [] w5).trans hk').heap (by simp) H5.out.2.1)
  cases cb
  · -- there is no such node
    refine wp_region_ord [(true, 0), (true, 1), (true, 2), (true, 3), (true, 4), (false, 5), (true, 6), (true, 7), (true, 8), (true, 9), (true, 10), (false, 11), (true, 12), (true, 13), (true, 14), (true, 15), (true, 17), (false, 16), (true, 18), (true, 19)] [] (by kernel_rfl) (fun _ _ d _ _ h => by cases d <;> exact h) (by kernel_rfl) rfl (by kernel_rfl) (by kernel_rfl) ?_
    simp only [named, List.getD_cons_zero, List.getD_cons_succ]
    repeat (first | (apply wpGrow_take; (case hw => rfl); (case hv => intro w' hk; go_simp; with_reducible rfl); simp only [Act.put, List.setIfInBounds_toArray, List.set_cons_zero, List.set_cons_succ]) | (refine wpGrow_pass (by rfl) ?_; simp only [Act.put, List.setIfInBounds_toArray, List.set_cons_zero, List.set_cons_succ]) | (refine wpGrow_skip (by rfl) ?_; simp only [Act.put, List.setIfInBounds_toArray, List.set_cons_zero, List.set_cons_succ]))
    refine wpGrow_nil ?_
    have hku : Kept [] w5 w5 := Kept.refl _ _
    have hbu := hku.heap (by simp) H5.out.1
    have z0 : w5.cell? ⟨w.heap.size, 0, none⟩ = some (.int .i64 k) := cell_of_row _ _ 0 _ _ _ hbu
    have z1 : w5.cell? ⟨w.heap.size, 1, none⟩ = some (.int .i64 m) := cell_of_row _ _ 1 _ _ _ hbu
    have z2 : w5.cell? ⟨w.heap.size, 2, none⟩ = some (.int .i64 s) := cell_of_row _ _ 2 _ _ _ hbu
    have z3 : w5.cell? ⟨w.heap.size, 3, none⟩ = some (.slice ao D.length cp) := cell_of_row _ _ 3 _ _ _ hbu
    have z4 : w5.cell? ⟨w.heap.size, 4, none⟩ = some (.int .i64 more) := cell_of_row _ _ 4 _ _ _ hbu
    have fz : ∀ q, w5.frozen? ⟨w.heap.size, q, none⟩ = false := fun q => frozen_of_row _ _ q _ _ hbu
    have HKU := Lib.hid (H5.out.2.2.1.trans hku)
    clear hku hbu y0 y1 y2 y3 y4
    go_wp2_with fail
    refine bodyPost_ret (v := .tuple #[.agg #[.int .i64 0, .int .i64 0, .int .i64 0, .slice none 0 0, .int .i64 0], .int .i64 0, .int .i64 4]) (by simp [results, Tryz.results134, go_sem, z0, z1, z2, z3, z4]) rfl ?_
    refine HTO.out _ _ ?_ (.inl ⟨by rw [HTB.out]; rfl, rfl⟩)
    have hk := HKU.out
    repeat (first | (with_reducible refine Kept.setNew ?_ _ _ (by simp)) | (with_reducible refine Kept.drewNew ?_))
    with_reducible exact hk
  · have hcn0 : cn = n := by
      have h1 := HCB.out
      have h2 := HCN.out
      simp at h1
      omega
    subst hcn0
    cases hhd : headB m cn more
    · have HHD := Lib.hid hhd
      clear hhd
      refine wp_region_ord [(true, 0), (true, 1), (true, 2), (true, 3), (true, 4), (false, 5), (true, 6), (true, 7), (true, 8), (true, 9), (true, 10), (false, 11), (true, 12), (true, 13), (true, 14), (true, 15), (true, 17), (false, 16), (true, 18), (true, 19)] [] (by kernel_rfl) (fun _ _ d _ _ h => by cases d <;> exact h) (by kernel_rfl) rfl (by kernel_rfl) (by kernel_rfl) ?_
      simp only [named, List.getD_cons_zero, List.getD_cons_succ]
      repeat (first | (apply wpGrow_take; (case hw => rfl); (case hv => intro w' hk; go_simp; with_reducible rfl); simp only [Act.put, List.setIfInBounds_toArray, List.set_cons_zero, List.set_cons_succ]) | (refine wpGrow_pass (by rfl) ?_; simp only [Act.put, List.setIfInBounds_toArray, List.set_cons_zero, List.set_cons_succ]) | (refine wpGrow_skip (by rfl) ?_; simp only [Act.put, List.setIfInBounds_toArray, List.set_cons_zero, List.set_cons_succ]))
      refine wpGrow_force (by rfl) (fun K hK => ?_)
      go_simp
      refine (soundHead_any k m s ao D.length cp more cn _).mono ?_
      rw [HHD.out]
      rintro e w6 ⟨rfl, hk6⟩
      refine hK _ _ hk6 ?_
      clear hK K
      have HK6 := Lib.hid hk6
      have u0 : ∀ w', Kept [] w6 w' → w'.cell? ⟨w.heap.size, 0, none⟩ = some (.int .i64 k) := fun w' hk' => y0 w' (hk6.trans hk')
      have u1 : ∀ w', Kept [] w6 w' → w'.cell? ⟨w.heap.size, 1, none⟩ = some (.int .i64 m) := fun w' hk' => y1 w' (hk6.trans hk')
      have u2 : ∀ w', Kept [] w6 w' → w'.cell? ⟨w.heap.size, 2, none⟩ = some (.int .i64 s) := fun w' hk' => y2 w' (hk6.trans hk')
      have u3 : ∀ w', Kept [] w6 w' → w'.cell? ⟨w.heap.size, 3, none⟩ = some (.slice ao D.length cp) := fun w' hk' => y3 w' (hk6.trans hk')
      have u4 : ∀ w', Kept [] w6 w' → w'.cell? ⟨w.heap.size, 4, none⟩ = some (.int .i64 more) := fun w' hk' => y4 w' (hk6.trans hk')
      clear hk6 y0 y1 y2 y3 y4
      repeat (first | (apply wpGrow_take; (case hw => rfl); (case hv => intro w' hk; go_simp; with_reducible rfl); simp only [Act.put, List.setIfInBounds_toArray, List.set_cons_zero, List.set_cons_succ]) | (refine wpGrow_pass (by rfl) ?_; simp only [Act.put, List.setIfInBounds_toArray, List.set_cons_zero, List.set_cons_succ]) | (refine wpGrow_skip (by rfl) ?_; simp only [Act.put, List.setIfInBounds_toArray, List.set_cons_zero, List.set_cons_succ]))
      refine wpGrow_nil ?_
      have hku : Kept [] w5 w6 := (Kept.drew _ _).trans HK6.out
      have hbu := hku.heap (by simp) H5.out.1
      have z0 : w6.cell? ⟨w.heap.size, 0, none⟩ = some (.int .i64 k) := cell_of_row _ _ 0 _ _ _ hbu
      have z1 : w6.cell? ⟨w.heap.size, 1, none⟩ = some (.int .i64 m) := cell_of_row _ _ 1 _ _ _ hbu
      have z2 : w6.cell? ⟨w.heap.size, 2, none⟩ = some (.int .i64 s) := cell_of_row _ _ 2 _ _ _ hbu
      have z3 : w6.cell? ⟨w.heap.size, 3, none⟩ = some (.slice ao D.length cp) := cell_of_row _ _ 3 _ _ _ hbu
      have z4 : w6.cell? ⟨w.heap.size, 4, none⟩ = some (.int .i64 more) := cell_of_row _ _ 4 _ _ _ hbu
      have fz : ∀ q, w6.frozen? ⟨w.heap.size, q, none⟩ = false := fun q => frozen_of_row _ _ q _ _ hbu
      have HKU := Lib.hid (H5.out.2.2.1.trans hku)
      clear hku hbu u0 u1 u2 u3 u4
      go_wp2_with fail
      refine bodyPost_ret (v := .tuple #[.agg #[.int .i64 0, .int .i64 0, .int .i64 0, .slice none 0 0, .int .i64 0], .int .i64 0, .int .i64 4]) (by simp [results, Tryz.results134, go_sem, z0, z1, z2, z3, z4]) rfl ?_
      refine HTO.out _ _ ?_ (.inl ⟨by rw [HTB.out]; rw [HHD.out]; rfl, rfl⟩)
      have hk := HKU.out
      repeat (first | (with_reducible refine Kept.setNew ?_ _ _ (by simp)) | (with_reducible refine Kept.drewNew ?_))
      with_reducible exact hk
    · have HHD := Lib.hid hhd
      clear hhd
      cases hsn : (natI D).all sndB
      · have HSN := Lib.hid hsn
        clear hsn
        refine wp_region_ord [(true, 0), (true, 1), (true, 2), (true, 3), (true, 4), (false, 5), (true, 6), (true, 7), (true, 8), (true, 9), (true, 10), (false, 11), (true, 12), (true, 13), (true, 14), (true, 15), (true, 17), (false, 16), (true, 18), (true, 19)] [] (by kernel_rfl) (fun _ _ d _ _ h => by cases d <;> exact h) (by kernel_rfl) rfl (by kernel_rfl) (by kernel_rfl) ?_
        simp only [named, List.getD_cons_zero, List.getD_cons_succ]
        repeat (first | (apply wpGrow_take; (case hw => rfl); (case hv => intro w' hk; go_simp; with_reducible rfl); simp only [Act.put, List.setIfInBounds_toArray, List.set_cons_zero, List.set_cons_succ]) | (refine wpGrow_pass (by rfl) ?_; simp only [Act.put, List.setIfInBounds_toArray, List.set_cons_zero, List.set_cons_succ]) | (refine wpGrow_skip (by rfl) ?_; simp only [Act.put, List.setIfInBounds_toArray, List.set_cons_zero, List.set_cons_succ]))
        refine wpGrow_force (by rfl) (fun K hK => ?_)
        go_simp
        refine (soundHead_any k m s ao D.length cp more cn _).mono ?_
        rw [HHD.out]
        rintro e w6 ⟨rfl, hk6⟩
        refine hK _ _ hk6 ?_
        clear hK K
        have HK6 := Lib.hid hk6
        have u0 : ∀ w', Kept [] w6 w' → w'.cell? ⟨w.heap.size, 0, none⟩ = some (.int .i64 k) := fun w' hk' => y0 w' (hk6.trans hk')
        have u1 : ∀ w', Kept [] w6 w' → w'.cell? ⟨w.heap.size, 1, none⟩ = some (.int .i64 m) := fun w' hk' => y1 w' (hk6.trans hk')
        have u2 : ∀ w', Kept [] w6 w' → w'.cell? ⟨w.heap.size, 2, none⟩ = some (.int .i64 s) := fun w' hk' => y2 w' (hk6.trans hk')
        have u3 : ∀ w', Kept [] w6 w' → w'.cell? ⟨w.heap.size, 3, none⟩ = some (.slice ao D.length cp) := fun w' hk' => y3 w' (hk6.trans hk')
        have u4 : ∀ w', Kept [] w6 w' → w'.cell? ⟨w.heap.size, 4, none⟩ = some (.int .i64 more) := fun w' hk' => y4 w' (hk6.trans hk')
        clear hk6 y0 y1 y2 y3 y4
        repeat (first | (apply wpGrow_take; (case hw => rfl); (case hv => intro w' hk; go_simp; with_reducible rfl); simp only [Act.put, List.setIfInBounds_toArray, List.set_cons_zero, List.set_cons_succ]) | (refine wpGrow_pass (by rfl) ?_; simp only [Act.put, List.setIfInBounds_toArray, List.set_cons_zero, List.set_cons_succ]) | (refine wpGrow_skip (by rfl) ?_; simp only [Act.put, List.setIfInBounds_toArray, List.set_cons_zero, List.set_cons_succ]))
        refine wpGrow_force (by rfl) (fun K hK => ?_)
        go_simp
        refine (soundBlocks_any ao D.length cp (natI D) _ (H5.out.2.2.2.1.kept ((Kept.drew [] w5).trans HK6.out))).mono ?_
        rw [HSN.out]
        rintro e w7 ⟨rfl, rfl⟩
        refine hK _ _ (Kept.refl _ _) ?_
        clear hK K
        repeat (first | (apply wpGrow_take; (case hw => rfl); (case hv => intro w' hk; go_simp; with_reducible rfl); simp only [Act.put, List.setIfInBounds_toArray, List.set_cons_zero, List.set_cons_succ]) | (refine wpGrow_pass (by rfl) ?_; simp only [Act.put, List.setIfInBounds_toArray, List.set_cons_zero, List.set_cons_succ]) | (refine wpGrow_skip (by rfl) ?_; simp only [Act.put, List.setIfInBounds_toArray, List.set_cons_zero, List.set_cons_succ]))
        refine wpGrow_nil ?_
        have hku : Kept [] w5 w6 := (Kept.drew _ _).trans HK6.out
        have hbu := hku.heap (by simp) H5.out.1
        have z0 : w6.cell? ⟨w.heap.size, 0, none⟩ = some (.int .i64 k) := cell_of_row _ _ 0 _ _ _ hbu
        have z1 : w6.cell? ⟨w.heap.size, 1, none⟩ = some (.int .i64 m) := cell_of_row _ _ 1 _ _ _ hbu
        have z2 : w6.cell? ⟨w.heap.size, 2, none⟩ = some (.int .i64 s) := cell_of_row _ _ 2 _ _ _ hbu
        have z3 : w6.cell? ⟨w.heap.size, 3, none⟩ = some (.slice ao D.length cp) := cell_of_row _ _ 3 _ _ _ hbu
        have z4 : w6.cell? ⟨w.heap.size, 4, none⟩ = some (.int .i64 more) := cell_of_row _ _ 4 _ _ _ hbu
        have fz : ∀ q, w6.frozen? ⟨w.heap.size, q, none⟩ = false := fun q => frozen_of_row _ _ q _ _ hbu
        have HKU := Lib.hid (H5.out.2.2.1.trans hku)
        clear hku hbu u0 u1 u2 u3 u4
        go_wp2_with fail
        refine bodyPost_ret (v := .tuple #[.agg #[.int .i64 0, .int .i64 0, .int .i64 0, .slice none 0 0, .int .i64 0], .int .i64 0, .int .i64 4]) (by simp [results, Tryz.results134, go_sem, z0, z1, z2, z3, z4]) rfl ?_
        refine HTO.out _ _ ?_ (.inl ⟨by rw [HTB.out]; rw [HHD.out, HSN.out]; rfl, rfl⟩)
        have hk := HKU.out
        repeat (first | (with_reducible refine Kept.setNew ?_ _ _ (by simp)) | (with_reducible refine Kept.drewNew ?_))
        with_reducible exact hk
      · have HSN := Lib.hid hsn
        clear hsn
        refine wp_region_ord [(true, 0), (true, 1), (true, 2), (true, 3), (true, 4), (false, 5), (true, 6), (true, 7), (true, 8), (true, 9), (true, 10), (false, 11), (true, 12), (true, 13), (true, 14), (true, 15), (true, 17), (false, 16), (true, 18), (true, 19)] [] (by kernel_rfl) (fun _ _ d _ _ h => by cases d <;> exact h) (by kernel_rfl) rfl (by kernel_rfl) (by kernel_rfl) ?_
        simp only [named, List.getD_cons_zero, List.getD_cons_succ]
        repeat (first | (apply wpGrow_take; (case hw => rfl); (case hv => intro w' hk; go_simp; with_reducible rfl); simp only [Act.put, List.setIfInBounds_toArray, List.set_cons_zero, List.set_cons_succ]) | (refine wpGrow_pass (by rfl) ?_; simp only [Act.put, List.setIfInBounds_toArray, List.set_cons_zero, List.set_cons_succ]) | (refine wpGrow_skip (by rfl) ?_; simp only [Act.put, List.setIfInBounds_toArray, List.set_cons_zero, List.set_cons_succ]))
        refine wpGrow_force (by rfl) (fun K hK => ?_)
        go_simp
        refine (soundHead_any k m s ao D.length cp more cn _).mono ?_
        rw [HHD.out]
        rintro e w6 ⟨rfl, hk6⟩
        refine hK _ _ hk6 ?_
        clear hK K
        have HK6 := Lib.hid hk6
        have u0 : ∀ w', Kept [] w6 w' → w'.cell? ⟨w.heap.size, 0, none⟩ = some (.int .i64 k) := fun w' hk' => y0 w' (hk6.trans hk')
        have u1 : ∀ w', Kept [] w6 w' → w'.cell? ⟨w.heap.size, 1, none⟩ = some (.int .i64 m) := fun w' hk' => y1 w' (hk6.trans hk')
        have u2 : ∀ w', Kept [] w6 w' → w'.cell? ⟨w.heap.size, 2, none⟩ = some (.int .i64 s) := fun w' hk' => y2 w' (hk6.trans hk')
        have u3 : ∀ w', Kept [] w6 w' → w'.cell? ⟨w.heap.size, 3, none⟩ = some (.slice ao D.length cp) := fun w' hk' => y3 w' (hk6.trans hk')
        have u4 : ∀ w', Kept [] w6 w' → w'.cell? ⟨w.heap.size, 4, none⟩ = some (.int .i64 more) := fun w' hk' => y4 w' (hk6.trans hk')
        clear hk6 y0 y1 y2 y3 y4
        repeat (first | (apply wpGrow_take; (case hw => rfl); (case hv => intro w' hk; go_simp; with_reducible rfl); simp only [Act.put, List.setIfInBounds_toArray, List.set_cons_zero, List.set_cons_succ]) | (refine wpGrow_pass (by rfl) ?_; simp only [Act.put, List.setIfInBounds_toArray, List.set_cons_zero, List.set_cons_succ]) | (refine wpGrow_skip (by rfl) ?_; simp only [Act.put, List.setIfInBounds_toArray, List.set_cons_zero, List.set_cons_succ]))
        refine wpGrow_force (by rfl) (fun K hK => ?_)
        go_simp
        refine (soundBlocks_any ao D.length cp (natI D) _ (H5.out.2.2.2.1.kept ((Kept.drew [] w5).trans HK6.out))).mono ?_
        rw [HSN.out]
        rintro e w7 ⟨rfl, rfl⟩
        refine hK _ _ (Kept.refl _ _) ?_
        clear hK K
        repeat (first | (apply wpGrow_take; (case hw => rfl); (case hv => intro w' hk; go_simp; with_reducible rfl); simp only [Act.put, List.setIfInBounds_toArray, List.set_cons_zero, List.set_cons_succ]) | (refine wpGrow_pass (by rfl) ?_; simp only [Act.put, List.setIfInBounds_toArray, List.set_cons_zero, List.set_cons_succ]) | (refine wpGrow_skip (by rfl) ?_; simp only [Act.put, List.setIfInBounds_toArray, List.set_cons_zero, List.set_cons_succ]))
        refine wpGrow_take (.agg (bvA R)) (by rfl) (fun w' hk' => exec_load_row 154 _ rfl (w.heap.size + 1) 0 rfl R _ (KR.out w' (HK6.out.trans hk')) Tryz.underlying154 rfl hsz) ?_
        simp only [Act.put, List.setIfInBounds_toArray, List.set_cons_zero, List.set_cons_succ]
        refine wpGrow_force (by rfl) (fun K hK => ?_)
        go_simp
        refine (nodeRecord_any k m s more ao D.length cp D _ (H5.out.2.2.2.1.kept ((Kept.drew [] w5).trans HK6.out)) hkr).mono ?_
        rintro e w8 ⟨rfl, hk8⟩
        refine hK _ _ hk8 ?_
        clear hK K
        have HK8 := Lib.hid (((Kept.drew [] w5).trans HK6.out).trans hk8)
        clear hk8 u0 u1 u2 u3 u4
        obtain ⟨qb, hqb⟩ : ∃ qb, decide (recL k (fieldsL m s more D) = R) = qb := ⟨_, rfl⟩
        have HQB := Lib.hid hqb
        have HE : Hid (∀ w', (Op.equalIn 10000 154 (.agg (bvA (recL k (fieldsL m s more D)))) (.agg (bvA R))).run Tryz.prog w' = .ok qb w') := fun w' => by
          rw [equal_bytesN 32 154 Tryz.underlying154 w' _ R (recL_length (fieldsL_length _ _ _ _)) HR.out, hqb]
        clear hqb
        refine wpGrow_take (.bool (!qb)) (by rfl) (fun w' hk' => ?_) ?_
        · have he := HE.out w'
          go_simp
        simp only [Act.put, List.setIfInBounds_toArray, List.set_cons_zero, List.set_cons_succ]
        repeat (first | (apply wpGrow_take; (case hw => rfl); (case hv => intro w' hk; go_simp; with_reducible rfl); simp only [Act.put, List.setIfInBounds_toArray, List.set_cons_zero, List.set_cons_succ]) | (refine wpGrow_pass (by rfl) ?_; simp only [Act.put, List.setIfInBounds_toArray, List.set_cons_zero, List.set_cons_succ]) | (refine wpGrow_skip (by rfl) ?_; simp only [Act.put, List.setIfInBounds_toArray, List.set_cons_zero, List.set_cons_succ]))
        refine wpGrow_nil ?_
        have hku : Kept [] w5 w8 := HK8.out
        have hbu := hku.heap (by simp) H5.out.1
        have z0 : w8.cell? ⟨w.heap.size, 0, none⟩ = some (.int .i64 k) := cell_of_row _ _ 0 _ _ _ hbu
        have z1 : w8.cell? ⟨w.heap.size, 1, none⟩ = some (.int .i64 m) := cell_of_row _ _ 1 _ _ _ hbu
        have z2 : w8.cell? ⟨w.heap.size, 2, none⟩ = some (.int .i64 s) := cell_of_row _ _ 2 _ _ _ hbu
        have z3 : w8.cell? ⟨w.heap.size, 3, none⟩ = some (.slice ao D.length cp) := cell_of_row _ _ 3 _ _ _ hbu
        have z4 : w8.cell? ⟨w.heap.size, 4, none⟩ = some (.int .i64 more) := cell_of_row _ _ 4 _ _ _ hbu
        have fz : ∀ q, w8.frozen? ⟨w.heap.size, q, none⟩ = false := fun q => frozen_of_row _ _ q _ _ hbu
        have HKU := Lib.hid (H5.out.2.2.1.trans hku)
        clear hku hbu
        cases qb
        · go_wp2_with fail
          refine bodyPost_ret (v := .tuple #[.agg #[.int .i64 0, .int .i64 0, .int .i64 0, .slice none 0 0, .int .i64 0], .int .i64 0, .int .i64 4]) (by simp [results, Tryz.results134, go_sem, z0, z1, z2, z3, z4]) rfl ?_
          refine HTO.out _ _ ?_ (.inl ⟨by rw [HTB.out, HHD.out, HSN.out, HQB.out]; rfl, rfl⟩)
          have hk := HKU.out
          repeat (first | (with_reducible refine Kept.setNew ?_ _ _ (by simp)) | (with_reducible refine Kept.drewNew ?_))
          with_reducible exact hk
        · go_wp2_with fail
          refine bodyPost_ret (v := .tuple #[.agg #[.int .i64 k, .int .i64 m, .int .i64 s, .slice ao D.length cp, .int .i64 more], .int .i64 (cn - D.length), .int .i64 0]) (by simp [results, Tryz.results134, go_sem, z0, z1, z2, z3, z4]) rfl ?_
          have hkx := Kept.refl [w.heap.size] w8
          have hkk : Kept [w.heap.size] w8 (((((w8.setCell ⟨w.heap.size, 0, none⟩ (.int .i64 k)).setCell ⟨w.heap.size, 1, none⟩ (.int .i64 m)).setCell ⟨w.heap.size, 2, none⟩ (.int .i64 s)).setCell ⟨w.heap.size, 3, none⟩ (.slice ao D.length cp)).setCell ⟨w.heap.size, 4, none⟩ (.int .i64 more)) :=
            ((((hkx.setIn _ _ (by simp)).setIn _ _ (by simp)).setIn _ _ (by simp)).setIn _ _ (by simp)).setIn _ _ (by simp)
          refine HTO.out _ _ (HKU.out.into hkk (by simp)) (.inr ⟨by rw [HTB.out, HHD.out, HSN.out, HQB.out]; rfl, rfl, (H5.out.2.2.2.1.kept HK8.out).keptEx hkk H5.out.2.2.2.2.2.1, H5.out.2.2.2.2.1, ?_⟩)
          have how := H5.out.2.2.2.2.2.2
          have how2 := owns_kept (owns_kept how HK8.out (by simp)) hkk (fun q hq => by have := (World.ownsRow.lt how q hq).1; simp; omega)
          obtain ⟨o1, o2 | ⟨g, cap, cur, e1, e2, e3⟩⟩ := how2
          · exact ⟨o1, .inl o2⟩
          · exact ⟨o1, .inr ⟨g, cap, cur, e1, by omega, e3⟩⟩

theorem takeNode_no (ao : Option Addr) (len cap : Nat) (R : List UInt8) (w : World) (hR : R.length = len) (h : len ≠ 32) :
    Calls Tryz.prog 134 #[.slice ao len cap] w (TakeOut R w) := by
  have hne : ((len : Int) != 32) = true := by simp; omega
  have HT : Hid (takeB R = false) := by show _ = _; unfold takeB; rw [decide_eq_false (by omega), Bool.false_and]
  go_enter Tryz.func134, Tryz.ntmps134
  go_wp2_with fail
  exact bodyPost_ret (v := .tuple #[nodeV 0 0 0 none 0 0 0, .int .i64 0, .int .i64 4]) (by simp [results, Tryz.results134, go_sem, nodeV]) rfl ⟨Kept.alloc _ _ _, .inl ⟨HT.out, rfl⟩⟩

end Go.Proofs.YtiedoocgbajjjaaGreatDoor

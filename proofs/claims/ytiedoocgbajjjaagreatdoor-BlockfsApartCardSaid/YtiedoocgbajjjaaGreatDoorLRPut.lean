/-
  Layer 3: TakeMore: 64 bytes are taken as a node's other blocks, or refused.
  Conditions: those that each theorem states.
  Layer 3: the document's PutNode, with two and pad: bytes that are laid one behind the other.
  Conditions: those that each theorem states.
-/
import Derived.Test.YtiedoocgbajjjaaGreatDoorLTake
import Derived.Test.YtiedoocgbajjjaaGreatDoorLPut
import Derived.Test.YtiedoocgbajjjaaGreatDoorTKit
namespace Go.Proofs.YtiedoocgbajjjaaGreatDoor
open Go.RowKit Go.Maps
set_option maxRecDepth 100000

def moreN (M : List UInt8) (n : Nat) : List Nat := (List.range n).map fun i => numAt M (2 * i)
theorem moreN_length (M : List UInt8) (n : Nat) : (moreN M n).length = n := by simp [moreN]
theorem moreN_succ (M : List UInt8) (n : Nat) : moreN M (n + 1) = moreN M n ++ [numAt M (2 * n)] := by simp [moreN, List.range_succ]
def moreB (M : List UInt8) (left : Int) : Bool := decide (0 ≤ left ∧ left ≤ 32 ∧ M.length = 64) && ((natI (moreN M left.toNat)).all sndB && decide (moreL (moreN M left.toNat) = M))
def MoreOut (M : List UInt8) (left : Int) (w : World) (e : Ending) (w' : World) : Prop :=
  Kept [] w w' ∧ ((moreB M left = false ∧ e = .returned (.tuple #[.slice none 0 0, .int .i64 4])) ∨
    ∃ ao cap, moreB M left = true ∧ e = .returned (.tuple #[.slice ao left.toNat cap, .int .i64 0]) ∧ IntsIs w' ao left.toNat (natI (moreN M left.toNat)) ∧ left.toNat ≤ cap)

theorem takeMore_no (ao : Option Addr) (len cap : Nat) (M : List UInt8) (left : Int) (w : World) (hM : M.length = len) (h : left < 0 ∨ 32 < left ∨ len ≠ 64) :
    Calls Tryz.prog 135 #[.slice ao len cap, .int .i64 left] w (MoreOut M left w) := by
  have HT : Hid (moreB M left = false) := by show _ = _; unfold moreB; rw [decide_eq_false (by omega), Bool.false_and]
  rcases (by omega : left < 0 ∨ (¬ left < 0 ∧ 32 < left) ∨ (¬ left < 0 ∧ left ≤ 32 ∧ len ≠ 64)) with h | ⟨h, h1⟩ | ⟨h, h1, h2⟩
  · go_enter Tryz.func135, Tryz.ntmps135
    go_wp2_with fail
    go_ret2
    exact ⟨Kept.refl _ _, .inl ⟨HT.out, rfl⟩⟩
  · go_enter Tryz.func135, Tryz.ntmps135
    go_wp2_with fail
    go_ret2
    exact ⟨Kept.refl _ _, .inl ⟨HT.out, rfl⟩⟩
  · have hne : ((len : Int) != 64) = true := by simp; omega
    go_enter Tryz.func135, Tryz.ntmps135
    go_wp2_with fail
    go_ret2
    exact ⟨Kept.refl _ _, .inl ⟨HT.out, rfl⟩⟩

structure TmSt (w : World) (M : List UInt8) (k : Nat) (v : Value) (wr : World) : Prop where
  b : wr.heap[w.heap.size]? = some (.cells (bvA M) 156)
  own : wr.ownsRow (w.heap.size + 1) 3 1 v k (iv (natI (moreN M k)))
  kept : Kept [] w wr

theorem TmSt.next {w : World} {M : List UInt8} {k : Nat} {v : Value} {wr : World} (R : TmSt w M k v wr) (hk : k < 32) (x : Nat) (hx : numAt M (2 * k) = x) :
    ∃ v' w7, (Builtin.append_ #[56, 56] 56 #[v, .slice (some ⟨wr.heap.size, 0, none⟩) 1 1]).run Tryz.prog (wr.alloc (.cells #[.int .i64 (x : Int)] 3)) = .ok v' w7 ∧ TmSt w M (k + 1) v' w7 := by
  have hlt := (Array.getElem?_eq_some_iff.1 R.b).1
  have hs0 : w.heap.size + 1 ≤ (wr.alloc (.cells #[.int .i64 (x : Int)] 3)).heap.size := by rw [size_alloc]; omega
  obtain ⟨v', w7, hrun, hown, hk7, _⟩ := own_app elemInt 56 (wr.alloc (.cells #[.int .i64 (x : Int)] 3)) (w.heap.size + 1) v k _ (World.ownsRow.alloc R.own _) ⟨wr.heap.size, 0, none⟩ 1 1 (iv (natI [x])) rfl
    (fun j u hu => by
      rw [Addr.add_mid, Nat.zero_add, cell_of_row _ _ j _ _ _ (heap_alloc_last wr _)]
      simpa [iv, natI] using hu) (iv_one _) (by unfold maxLen; omega) (by omega) hs0
  have hex : ∀ q ∈ v.ownBlock.toList, w.heap.size + 1 ≤ q := fun q hq => (World.ownsRow.lt R.own q (by simpa using hq)).1
  refine ⟨v', w7, hrun, hk7.heap (fun hq => by have := hex _ hq; omega) ((Kept.alloc [] _ _).heap (by simp) R.b), ?_, (R.kept.trans (Kept.alloc _ _ _)).into hk7 (fun q hq => by have := hex q hq; omega)⟩
  rw [moreN_succ, hx, show iv (natI (moreN M k ++ [x])) = iv (natI (moreN M k)) ++ iv (natI [x]) by simp [iv, natI]]
  exact hown

set_option maxRecDepth 100000 in
set_option maxHeartbeats 4000000 in
theorem takeMore_64 (b o cap n : Nat) (M : List UInt8) (w : World) (hM : M.length = 64) (hr : w.rangeAt b o (bv M)) (hn : n ≤ 32) :
    Calls Tryz.prog 135 #[.slice (some ⟨b, o, none⟩) 64 cap, .int .i64 n] w (MoreOut M n w) := by
  have hsz : (Tryz.prog.info? 156).map (·.size) = some (bv M).length := by rw [bv_length, hM]; exact size67
  have har := run_arrayAt (P := Tryz.prog) 156 5 64 Tryz.underlying156 (some ⟨b, o, none⟩) 64 cap (Nat.le_refl _)
  have z64 := zero64 w
  have hRz : (bvA M).size = 64 := by rw [bvA_size]; exact hM
  have hst := run_storeCells_new (P := Tryz.prog) w 156 (bvA (zerosL 64)) (bvA M) (by rw [hRz]; exact size67) (by rw [hRz]; rfl) (bvA_one _)
  rw [bvA_toList] at hst
  have hRl : (bv M).length = 64 := by rw [bv_length]; exact hM
  have HM := Lib.hid hM
  obtain ⟨ok, hok⟩ : ∃ ok, (natI (moreN M n)).all sndB = ok := ⟨_, rfl⟩
  obtain ⟨qb, hqb⟩ : ∃ qb, decide (moreL (moreN M n) = M) = qb := ⟨_, rfl⟩
  have HTB : Hid (moreB M n = (ok && qb)) := by
    show _ = _
    unfold moreB
    rw [decide_eq_true (by omega), Bool.true_and, Int.toNat_natCast, hok, hqb]
  have HOK := Lib.hid hok
  have HQB := Lib.hid hqb
  clear hM hok hqb
  go_enter Tryz.func135, Tryz.ntmps135
  go_wp2_with (refine wpList_load_mid rfl 156 _ rfl b o rfl (bv M) _ hr Tryz.underlying156 rfl hsz ?_)
  clear har z64 hst hRz hRl hr
  generalize hw3 : World.alloc w _ = w3
  have H3 : Hid (TmSt w M 0 (.slice none 0 0) w3) := by
    rw [← hw3]
    exact ⟨heap_alloc_last _ _, World.ownsRow_nil _ _ _ _, Kept.alloc _ _ _⟩
  clear hw3
  go_loopw [7, 24] (fun v i wr => ∃ k : Nat, k ≤ n ∧ i = .int .i64 k ∧ Hid (TmSt w M k v wr)) (fun _ i _ => n - (intOf i).toNat)
  case atStart => exact ⟨0, by omega, rfl, H3⟩
  case round =>
    clear H3
    obtain ⟨k, hk, rfl, HS⟩ := hrel
    by_cases hlt : k < n
    · obtain ⟨x, hx⟩ : ∃ x, numAt M (2 * k) = x := ⟨_, rfl⟩
      have HX := Lib.hid hx
      clear hx
      go_wp2_with fail
      refine (number3_any (w.heap.size) 0 64 64 (2 * k) M wr (range_row HS.out.b) HM.out (by omega) (by omega)).mono ?_
      rw [HX.out]
      rintro e w5 ⟨rfl, hd5⟩
      have HS5 : Hid (TmSt w M k u7 w5) := ⟨hd5.kept.heap (by simp) HS.out.b, owns_kept HS.out.own hd5.kept (by simp), HS.out.kept.trans hd5.kept⟩
      obtain ⟨v', w7, hrun, hst7⟩ := HS5.out.next (by omega) x HX.out
      have HRUN := Lib.hid hrun
      have H7 := Lib.hid hst7
      clear hd5 HS hrun hst7
      go_wp2_with (at_builtin; refine wpList_append_run rfl _ _ 56 rfl _ _ _ rfl rfl HRUN.out ?_)
      go_roundw
      case rel => exact ⟨k + 1, by omega, by go_num, H7⟩
      case measure => simp [intOf]; omega
    · have hkn : k = n := by omega
      have HS2 : Hid (TmSt w M n u7 wr) := by have := HS.out; rw [hkn] at this; exact this
      clear HS hkn
      obtain ⟨ao, cp, rfl, hcp, _, hints⟩ := own_ints HS2.out.own (by omega)
      have HI := Lib.hid hints
      clear hints
      have KR : Hid (∀ w', Kept [] wr.drew w' → w'.rangeAt w.heap.size 0 (bv M)) := fun w' hk' => range_row (((Kept.drew [] wr).trans hk').heap (by simp) HS2.out.b)
      cases ok
      · go_wp2_with fail
        refine wp_region_ord [(true, 0), (false, 1), (true, 2), (true, 3), (true, 4), (true, 6), (false, 5), (true, 7), (true, 8)] [] (by kernel_rfl) (fun _ _ d _ _ h => by cases d <;> exact h) (by kernel_rfl) rfl (by kernel_rfl) (by kernel_rfl) ?_
        simp only [named, List.getD_cons_zero, List.getD_cons_succ]
        repeat (first | (apply wpGrow_take; (case hw => rfl); (case hv => intro w' hk; go_simp; with_reducible rfl); simp only [Act.put, List.setIfInBounds_toArray, List.set_cons_zero, List.set_cons_succ]) | (refine wpGrow_pass (by rfl) ?_; simp only [Act.put, List.setIfInBounds_toArray, List.set_cons_zero, List.set_cons_succ]) | (refine wpGrow_skip (by rfl) ?_; simp only [Act.put, List.setIfInBounds_toArray, List.set_cons_zero, List.set_cons_succ]))
        refine wpGrow_force (by rfl) (fun K hK => ?_)
        go_simp
        refine (soundBlocks_any ao n cp (natI (moreN M n)) _ (HI.out.kept (Kept.drew _ _))).mono ?_
        rw [HOK.out]
        rintro e w6 ⟨rfl, rfl⟩
        refine hK _ _ (Kept.refl _ _) ?_
        clear hK K
        repeat (first | (apply wpGrow_take; (case hw => rfl); (case hv => intro w' hk; go_simp; with_reducible rfl); simp only [Act.put, List.setIfInBounds_toArray, List.set_cons_zero, List.set_cons_succ]) | (refine wpGrow_pass (by rfl) ?_; simp only [Act.put, List.setIfInBounds_toArray, List.set_cons_zero, List.set_cons_succ]) | (refine wpGrow_skip (by rfl) ?_; simp only [Act.put, List.setIfInBounds_toArray, List.set_cons_zero, List.set_cons_succ]))
        refine wpGrow_nil ?_
        go_wp2_with fail
        go_ret2
        exact ⟨HS2.out.kept.trans (Kept.drew _ _), .inl ⟨by rw [HTB.out]; rfl, rfl⟩⟩
      · go_wp2_with fail
        refine wp_region_ord [(true, 0), (false, 1), (true, 2), (true, 3), (true, 4), (true, 6), (false, 5), (true, 7), (true, 8)] [] (by kernel_rfl) (fun _ _ d _ _ h => by cases d <;> exact h) (by kernel_rfl) rfl (by kernel_rfl) (by kernel_rfl) ?_
        simp only [named, List.getD_cons_zero, List.getD_cons_succ]
        repeat (first | (apply wpGrow_take; (case hw => rfl); (case hv => intro w' hk; go_simp; with_reducible rfl); simp only [Act.put, List.setIfInBounds_toArray, List.set_cons_zero, List.set_cons_succ]) | (refine wpGrow_pass (by rfl) ?_; simp only [Act.put, List.setIfInBounds_toArray, List.set_cons_zero, List.set_cons_succ]) | (refine wpGrow_skip (by rfl) ?_; simp only [Act.put, List.setIfInBounds_toArray, List.set_cons_zero, List.set_cons_succ]))
        refine wpGrow_force (by rfl) (fun K hK => ?_)
        go_simp
        refine (soundBlocks_any ao n cp (natI (moreN M n)) _ (HI.out.kept (Kept.drew _ _))).mono ?_
        rw [HOK.out]
        rintro e w6 ⟨rfl, rfl⟩
        refine hK _ _ (Kept.refl _ _) ?_
        clear hK K
        repeat (first | (apply wpGrow_take; (case hw => rfl); (case hv => intro w' hk; go_simp; with_reducible rfl); simp only [Act.put, List.setIfInBounds_toArray, List.set_cons_zero, List.set_cons_succ]) | (refine wpGrow_pass (by rfl) ?_; simp only [Act.put, List.setIfInBounds_toArray, List.set_cons_zero, List.set_cons_succ]) | (refine wpGrow_skip (by rfl) ?_; simp only [Act.put, List.setIfInBounds_toArray, List.set_cons_zero, List.set_cons_succ]))
        refine wpGrow_take (.agg (bvA M)) (by rfl) (fun w' hk' => exec_load_row 156 _ rfl (w.heap.size) 0 rfl M _ (KR.out w' hk') Tryz.underlying156 rfl hsz) ?_
        simp only [Act.put, List.setIfInBounds_toArray, List.set_cons_zero, List.set_cons_succ]
        refine wpGrow_force (by rfl) (fun K hK => ?_)
        go_simp
        refine (moreBlock_any ao n cp (moreN M n) _ (HI.out.kept (Kept.drew _ _)) hn).mono ?_
        rintro e w8 ⟨rfl, hk8⟩
        refine hK _ _ hk8 ?_
        clear hK K
        have HK8 := Lib.hid ((Kept.drew [] wr).trans hk8)
        clear hk8
        have HE : Hid (∀ w', (Op.equalIn 10000 156 (.agg (bvA (moreL (moreN M n)))) (.agg (bvA M))).run Tryz.prog w' = .ok qb w') := fun w' => by
          rw [equal_bytesN 64 156 Tryz.underlying156 w' _ M (moreL_length (by rw [moreN_length]; exact hn)) HM.out, HQB.out]
        refine wpGrow_take (.bool (!qb)) (by rfl) (fun w' hk' => ?_) ?_
        · have he := HE.out w'
          go_simp
        simp only [Act.put, List.setIfInBounds_toArray, List.set_cons_zero, List.set_cons_succ]
        repeat (first | (apply wpGrow_take; (case hw => rfl); (case hv => intro w' hk; go_simp; with_reducible rfl); simp only [Act.put, List.setIfInBounds_toArray, List.set_cons_zero, List.set_cons_succ]) | (refine wpGrow_pass (by rfl) ?_; simp only [Act.put, List.setIfInBounds_toArray, List.set_cons_zero, List.set_cons_succ]) | (refine wpGrow_skip (by rfl) ?_; simp only [Act.put, List.setIfInBounds_toArray, List.set_cons_zero, List.set_cons_succ]))
        refine wpGrow_nil ?_
        cases qb
        · go_wp2_with fail
          go_ret2
          exact ⟨HS2.out.kept.trans HK8.out, .inl ⟨by rw [HTB.out]; rfl, rfl⟩⟩
        · go_wp2_with fail
          go_ret2
          exact ⟨HS2.out.kept.trans HK8.out, .inr ⟨ao, cp, by rw [HTB.out]; rfl, rfl, HI.out.kept HK8.out, hcp⟩⟩

end Go.Proofs.YtiedoocgbajjjaaGreatDoor

namespace Go.Proofs.YtiedoocgbajjjaaGreatDoor
open Go.RowKit Go.Maps
set_option maxRecDepth 100000

theorem twosB_zeros (j : Nat) : twosB (List.replicate j 0) = zerosL (2 * j) := by
  induction j with
  | zero => rfl
  | succ j ih =>
    rw [List.replicate_succ, show twosB (0 :: List.replicate j 0) = 0 :: 0 :: twosB (List.replicate j 0) from rfl, ih, show 2 * (j + 1) = 2 * j + 1 + 1 by omega]
    rfl
theorem recL_pad (k m s more : Nat) (r : List Nat) : ([loB k] ++ twoB m ++ twoB s ++ twoB more ++ twosB (r.take 6)) ++ zerosL (32 - ([loB k] ++ twoB m ++ twoB s ++ twoB more ++ twosB (r.take 6)).length) = recL k (fieldsL m s more r) := by
  have hl : ([loB k] ++ twoB m ++ twoB s ++ twoB more ++ twosB (r.take 6)).length = 7 + 2 * min 6 r.length := by
    simp [twoB, twosB_length]; omega
  rw [hl]
  unfold recL fieldsL
  rw [show twosB (m :: s :: more :: (r.take 6 ++ List.replicate (6 - r.length) 0)) = twoB m ++ twoB s ++ twoB more ++ twosB (r.take 6 ++ List.replicate (6 - r.length) 0) by simp [twosB], twosB_append, twosB_zeros]
  have hz : zerosL (32 - (7 + 2 * min 6 r.length)) = zerosL (2 * (6 - r.length)) ++ zerosL 13 := by
    unfold zerosL
    rw [List.replicate_append_replicate]
    congr 1
    omega
  rw [hz]
  simp

structure RpnSt (w : World) (B : Nat) (cs : Array Value) (hd : List UInt8) (r : List Nat) (i : Nat) (vb vm : Value) (wr : World) : Prop where
  box : wr.heap[w.heap.size]? = some (.cells cs 123)
  lt : w.heap.size < B
  b : OwnB B wr vb (hd ++ twosB ((r.take i).take 6))
  m : OwnB B wr vm (twosB ((r.take i).drop 6))
  dis : ∀ g, vb.ownBlock = some g → vm.ownBlock ≠ some g
  kept : Kept [] w wr
  bs : B ≤ wr.heap.size
theorem RpnSt.appB {w : World} {B : Nat} {cs : Array Value} {hd : List UInt8} {r : List Nat} {i : Nat} {vb vm : Value} {wr : World} (R : RpnSt w B cs hd r i vb vm wr) {w' : World} {vb' : Value} (h : AppB wr vb w' vb') {L : List UInt8} (hL : OwnB B w' vb' L)
    (hb : L = hd ++ twosB ((r.take (i + 1)).take 6)) (hm : (r.take (i + 1)).drop 6 = (r.take i).drop 6) : RpnSt w B cs hd r (i + 1) vb' vm w' := by
  have hlt := R.lt
  have hex : ∀ q ∈ vb.ownBlock.toList, B ≤ q := fun q hq => (World.ownsRow.lt R.b q (by simpa using hq)).1
  refine ⟨h.kept.heap (fun hq => by have := hex _ hq; omega) R.box, R.lt, hb ▸ hL, ?_, ?_, R.kept.into h.kept (fun q hq => by have := hex q hq; omega), Nat.le_trans R.bs h.kept.size⟩
  · rw [hm]
    exact R.m.kept h.kept fun q hq hh => R.dis q (by simpa using hh) hq
  · intro g hg hgm
    rcases h.own with e | ⟨g', e, hg'⟩
    · rw [e] at hg; exact R.dis g hg hgm
    · rw [e] at hg
      injection hg with hg
      have := (World.ownsRow.lt R.m g hgm).2
      omega
theorem RpnSt.appM {w : World} {B : Nat} {cs : Array Value} {hd : List UInt8} {r : List Nat} {i : Nat} {vb vm : Value} {wr : World} (R : RpnSt w B cs hd r i vb vm wr) {w' : World} {vm' : Value} (h : AppB wr vm w' vm') {L : List UInt8} (hL : OwnB B w' vm' L)
    (hm : L = twosB ((r.take (i + 1)).drop 6)) (hb : (r.take (i + 1)).take 6 = (r.take i).take 6) : RpnSt w B cs hd r (i + 1) vb vm' w' := by
  have hlt := R.lt
  have hex : ∀ q ∈ vm.ownBlock.toList, B ≤ q := fun q hq => (World.ownsRow.lt R.m q (by simpa using hq)).1
  refine ⟨h.kept.heap (fun hq => by have := hex _ hq; omega) R.box, R.lt, ?_, hm ▸ hL, ?_, R.kept.into h.kept (fun q hq => by have := hex q hq; omega), Nat.le_trans R.bs h.kept.size⟩
  · rw [hb]
    exact R.b.kept h.kept fun q hq hh => R.dis q hq (by simpa using hh)
  · intro g hg hgm
    rcases h.own with e | ⟨g', e, hg'⟩
    · rw [e] at hgm; exact R.dis g hg hgm
    · rw [e] at hgm
      injection hgm with hgm
      have := (World.ownsRow.lt R.b g hg).2
      omega

end Go.Proofs.YtiedoocgbajjjaaGreatDoor

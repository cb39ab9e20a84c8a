/-
  Layer 3: the document's at, TakeMore.
  Conditions: those that each theorem states.
-/
import Derived.Test.YtbggmeilkfpbgaaDoorLMore
import Derived.Test.YtbggmeilkfpbgaaDoorLNodes
namespace Go.Proofs.YtbggmeilkfpbgaaDoor
open Go.RowKit Go.Maps

theorem rat_any (b o len cap i : Nat) (L : List UInt8) (w : World) (hh : w.rangeAt b o (bv L)) (hl : L.length = len) (h1 : i + 1 < len) (h3 : len < 4611686018427387904) :
    Calls Tryd.prog 26 #[.slice (some ⟨b, o, none⟩) len cap, .int .i64 i] w fun e w' => e = .returned (.int .i64 (numAt L i : Nat)) ∧ Drawn w w' := by
  have c1 : w.cell? ⟨b, o + i, none⟩ = some (.int .u8 (((L[i]'(by omega)).toNat : Nat) : Int)) := hh i _ (by simp [bv, show i < L.length by omega])
  have c2 : w.cell? ⟨b, o + (i + 1), none⟩ = some (.int .u8 (((L[i + 1]'(by omega)).toNat : Nat) : Int)) := hh (i + 1) _ (by simp [bv, show i + 1 < L.length by omega])
  obtain ⟨x, hx⟩ : ∃ x, L[i]'(by omega) = x := ⟨_, rfl⟩
  obtain ⟨y, hy⟩ : ∃ y, L[i + 1]'(by omega) = y := ⟨_, rfl⟩
  have hnm : numAt L i = 256 * x.toNat + y.toNat := by
    unfold numAt
    rw [← hx, ← hy]
    simp [List.getD_eq_getElem?_getD, show i < L.length by omega, show i + 1 < L.length by omega]
  rw [hx] at c1
  rw [hy] at c2
  have x1 : x.toNat < 256 := UInt8.toNat_lt x
  have y1 : y.toNat < 256 := UInt8.toNat_lt y
  have HN : Hid (((numAt L i : Nat) : Int) = 256 * (x.toNat : Int) + (y.toNat : Int)) := by show _ = _; rw [hnm]; omega
  clear hx hy hh hnm
  go_enter Tryd.func26, Tryd.ntmps26
  go_wp2
  go_quiet (fail)
  go_wp2
  go_ret
  exact ⟨by rw [HN.out]; rfl, _, rfl⟩

theorem two_num (M : List UInt8) (i : Nat) (h : i + 1 < M.length) : twoB (numAt M i) = [M[i], M[i + 1]] := by
  have e1 : M.getD i 0 = M[i] := by simp [List.getD_eq_getElem?_getD, show i < M.length by omega]
  have e2 : M.getD (i + 1) 0 = M[i + 1] := by simp [List.getD_eq_getElem?_getD, h]
  have h1 := UInt8.toNat_lt M[i]
  have h2 := UInt8.toNat_lt M[i + 1]
  unfold twoB numAt hiB loB
  rw [e1, e2]
  refine List.cons_eq_cons.2 ⟨?_, List.cons_eq_cons.2 ⟨?_, rfl⟩⟩
  · apply UInt8.toNat_inj.1
    simp
    omega
  · apply UInt8.toNat_inj.1
    simp
theorem twos_more (M : List UInt8) : ∀ k, 2 * k ≤ M.length → twosB (moreN M k) = M.take (2 * k)
  | 0, _ => by simp [moreN, twosB]
  | k + 1, h => by
    have ih := twos_more M k (by omega)
    rw [moreN_succ, twosB_append, ih, show twosB [numAt M (2 * k)] = twoB (numAt M (2 * k)) by simp [twosB], two_num M (2 * k) (by omega)]
    rw [show 2 * (k + 1) = 2 * k + 1 + 1 by omega, List.take_succ_eq_append_getElem (show 2 * k + 1 < M.length by omega), List.take_succ_eq_append_getElem (show 2 * k < M.length by omega), List.append_assoc]
    rfl
theorem moreL_yes {M : List UInt8} {n : Nat} (hM : M.length = 64) (hn : n ≤ 32) (h : ∀ t, n ≤ t → t < 32 → numAt M (2 * t) = 0) : moreL (moreN M n) = M := by
  have e : moreN M 32 = moreN M n ++ List.replicate (32 - n) 0 := by
    refine List.ext_getElem (by simp [moreN_length]; omega) fun i h1 h2 => ?_
    rw [moreN_length] at h1
    by_cases hi : i < n
    · rw [List.getElem_append_left (by rw [moreN_length]; exact hi)]
      simp [moreN]
    · rw [List.getElem_append_right (by rw [moreN_length]; omega)]
      simp [moreN]
      exact h i (by omega) h1
  have e2 := twos_more M 32 (by omega)
  rw [e, twosB_append, twosB_zeros, List.take_of_length_le (by omega)] at e2
  unfold moreL
  rw [moreN_length, show 64 - 2 * n = 2 * (32 - n) by omega]
  exact e2
theorem moreL_no {M : List UInt8} {n : Nat} (t : Nat) (h1 : n ≤ t) (h : numAt M (2 * t) ≠ 0) : decide (moreL (moreN M n) = M) = false := by
  refine decide_eq_false fun e => h ?_
  rw [← e]
  unfold moreL numAt
  have hz : ∀ i, 2 * n ≤ i → (twosB (moreN M n) ++ zerosL (64 - 2 * (moreN M n).length)).getD i 0 = 0 := fun i hi => by
    rw [List.getD_eq_getElem?_getD, List.getElem?_append_right (by rw [twosB_length, moreN_length]; exact hi)]
    unfold zerosL
    rw [List.getElem?_replicate]
    split <;> rfl
  rw [hz _ (by omega), hz _ (by omega)]
  rfl

structure RmSt (w : World) (M : List UInt8) (n k : Nat) (v : Value) (wr : World) : Prop where
  own : wr.ownsRow w.heap.size 3 1 v (min k n) (iv (natI (moreN M (min k n))))
  kept : Kept [] w wr
  one : ∀ t, t < k → t < n → sndB ((numAt M (2 * t) : Nat) : Int) = true
  nought : ∀ t, t < k → n ≤ t → numAt M (2 * t) = 0

theorem RmSt.next {w : World} {M : List UInt8} {n k : Nat} {v : Value} {wr : World} (R : RmSt w M n k v wr) (hk : k < n) (hn : n ≤ 32) (x : Nat) (hx : numAt M (2 * k) = x) (hs : sndB (x : Int) = true) :
    ∃ v' w7, (Builtin.append_ #[24, 24] 24 #[v, .slice (some ⟨wr.heap.size, 0, none⟩) 1 1]).run Tryd.prog (wr.alloc (.cells #[.int .i64 (x : Int)] 3)) = .ok v' w7 ∧ RmSt w M n (k + 1) v' w7 := by
  have hs0 : w.heap.size ≤ (wr.alloc (.cells #[.int .i64 (x : Int)] 3)).heap.size := by rw [size_alloc]; have := R.kept.size; omega
  obtain ⟨v', w7, hrun, hown, hk7, _⟩ := own_app elemInt 24 (wr.alloc (.cells #[.int .i64 (x : Int)] 3)) w.heap.size v (min k n) _ (World.ownsRow.alloc R.own _) ⟨wr.heap.size, 0, none⟩ 1 1 (iv (natI [x])) rfl
    (fun j u hu => by
      rw [Addr.add_mid, Nat.zero_add, cell_of_row _ _ j _ _ _ (heap_alloc_last wr _)]
      simpa [iv, natI] using hu) (iv_one _) (by unfold maxLen; omega) (by omega) hs0
  refine ⟨v', w7, hrun, ?_, (R.kept.trans (Kept.alloc _ _ _)).own (World.ownsRow.alloc R.own _) (Nat.le_refl _) hk7, fun t h1 h2 => ?_, fun t h1 h2 => by omega⟩
  · rw [show min (k + 1) n = k + 1 by omega, moreN_succ, hx, show iv (natI (moreN M k ++ [x])) = iv (natI (moreN M k)) ++ iv (natI [x]) by simp [iv, natI]]
    rw [show min k n = k by omega] at hown
    exact hown
  · by_cases e : t = k
    · rw [e, hx]; exact hs
    · exact R.one t (by omega) h2
theorem RmSt.over {w : World} {M : List UInt8} {n k : Nat} {v : Value} {wr w' : World} (R : RmSt w M n k v wr) (hk : n ≤ k) (hd : Drawn wr w') (hx : numAt M (2 * k) = 0) : RmSt w M n (k + 1) v w' := by
  refine ⟨?_, R.kept.trans hd.kept, fun t h1 h2 => R.one t (by omega) h2, fun t h1 h2 => ?_⟩
  · have := owns_kept R.own hd.kept (by simp)
    rw [show min k n = min (k + 1) n by omega] at this
    exact this
  · by_cases e : t = k
    · rw [e]; exact hx
    · exact R.nought t (by omega) h2
theorem RmSt.go {w : World} {M : List UInt8} {n k : Nat} {v : Value} {wr w' : World} (R : RmSt w M n k v wr) (hd : Drawn wr w') : RmSt w M n k v w' :=
  ⟨owns_kept R.own hd.kept (by simp), R.kept.trans hd.kept, R.one, R.nought⟩

theorem rtakeMore_no (ao : Option Addr) (len cap : Nat) (M : List UInt8) (left : Int) (w : World) (hM : M.length = len) (h : left < 0 ∨ 32 < left ∨ len ≠ 64) :
    Calls Tryd.prog 10 #[.slice ao len cap, .int .i64 left] w (MoreOut M left w) := by
  have HT : Hid (moreB M left = false) := by show _ = _; unfold moreB; rw [decide_eq_false (by omega), Bool.false_and]
  rcases (by omega : left < 0 ∨ (¬ left < 0 ∧ 32 < left) ∨ (¬ left < 0 ∧ left ≤ 32 ∧ len ≠ 64)) with h | ⟨h, h1⟩ | ⟨h, h1, h2⟩
  · go_enter Tryd.func10, Tryd.ntmps10
    go_wp2_with fail
    go_ret2
    exact ⟨Kept.refl _ _, .inl ⟨HT.out, rfl⟩⟩
  · go_enter Tryd.func10, Tryd.ntmps10
    go_wp2_with fail
    go_ret2
    exact ⟨Kept.refl _ _, .inl ⟨HT.out, rfl⟩⟩
  · have hne : ((len : Int) != 64) = true := by simp; omega
    go_enter Tryd.func10, Tryd.ntmps10
    go_wp2_with fail
    go_ret2
    exact ⟨Kept.refl _ _, .inl ⟨HT.out, rfl⟩⟩

set_option maxRecDepth 100000 in
set_option maxHeartbeats 4000000 in
theorem rtakeMore_64 (b o cap n : Nat) (M : List UInt8) (w : World) (hM : M.length = 64) (hb : b < w.heap.size) (hr : w.rangeAt b o (bv M)) (hn : n ≤ 32) :
    Calls Tryd.prog 10 #[.slice (some ⟨b, o, none⟩) 64 cap, .int .i64 n] w (MoreOut M n w) := by
  have HM := Lib.hid hM
  have HR := Lib.hid hr
  clear hM hr
  go_enter Tryd.func10, Tryd.ntmps10
  go_wp2_with fail
  go_loopw [6, 7] (fun v i wr => ∃ k : Nat, k ≤ 32 ∧ i = .int .i64 k ∧ Hid (RmSt w M n k v wr)) (fun _ i _ => 32 - (intOf i).toNat)
  case atStart => exact ⟨0, by omega, rfl, by rw [Nat.zero_min]; exact World.ownsRow_nil _ _ _ _, Kept.refl _ _, fun t h => by omega, fun t h => by omega⟩
  case round =>
    obtain ⟨k, hk, rfl, HS⟩ := hrel
    by_cases hlt : k < 32
    · obtain ⟨x, hx⟩ : ∃ x, numAt M (2 * k) = x := ⟨_, rfl⟩
      have HX := Lib.hid hx
      have HR2 := Lib.hid (HS.out.kept.range hb (by simp) HR.out)
      have e2 : 2 * (k : Int) = ((2 * k : Nat) : Int) := by push_cast; rfl
      clear hx e2
      go_wp2_with fail
      refine (rat_any b o 64 cap (2 * k) M _ HR2.out HM.out (by omega) (by omega)).mono ?_
      rw [HX.out]
      rintro e w5 ⟨rfl, hd5⟩
      have HS5 := Lib.hid (HS.out.go hd5)
      clear hd5 HS HR2
      by_cases hkn : k < n
      · cases hs : sndB (x : Int)
        · have HT : Hid (moreB M n = false) := by
            show _ = _
            have : (natI (moreN M n)).all sndB = false := by
              refine not_all_snd k (by rw [natI_length, moreN_length]; exact hkn) ?_
              rw [natI_get]
              have : (moreN M n)[k]'(by rw [moreN_length]; exact hkn) = x := by simp [moreN]; exact HX.out
              rw [this]; exact hs
            unfold moreB
            rw [Int.toNat_natCast, this, Bool.false_and, Bool.and_false]
          have HSB := Lib.hid hs
          clear hs
          go_wp2_with fail
          refine (rblock_any (x : Int) _).mono ?_
          rw [HSB.out]
          rintro e w6 ⟨rfl, rfl⟩
          go_wp2_with fail
          go_ret2
          exact ⟨HS5.out.kept, .inl ⟨HT.out, rfl⟩⟩
        · have HSB := Lib.hid hs
          clear hs
          obtain ⟨v', w7, hrun, hst⟩ := HS5.out.next hkn hn x HX.out HSB.out
          have HRUN := Lib.hid hrun
          have H7 := Lib.hid hst
          clear hrun hst
          go_wp2_with fail
          refine (rblock_any (x : Int) _).mono ?_
          rw [HSB.out]
          rintro e w6 ⟨rfl, rfl⟩
          go_wp2_with (at_builtin; refine wpList_append_run rfl _ _ 24 rfl _ _ _ rfl rfl HRUN.out ?_)
          go_roundw
          case rel => exact ⟨k + 1, by omega, by go_num, H7⟩
          case measure => simp [intOf]; omega
      · have hkn' : n ≤ k := by omega
        by_cases hx0 : x = 0
        · subst hx0
          have H7 := Lib.hid (HS5.out.over hkn' ⟨0, rfl⟩ HX.out)
          go_wp2_with fail
          go_roundw
          case rel => exact ⟨k + 1, by omega, by go_num, H7⟩
          case measure => simp [intOf]; omega
        · have HT : Hid (moreB M n = false) := by
            show _ = _
            unfold moreB
            rw [Int.toNat_natCast, moreL_no k hkn' (by rw [HX.out]; exact hx0), Bool.and_false, Bool.and_false]
          have hx1 : ((x : Int) != 0) = true := by simp; omega
          go_wp2_with fail
          go_ret2
          exact ⟨HS5.out.kept, .inl ⟨HT.out, rfl⟩⟩
    · have HT : Hid (moreB M n = true) := by
        show _ = _
        have R := HS.out
        have h1 : (natI (moreN M n)).all sndB = true := by
          refine all_snd_of fun i hi => ?_
          rw [natI_get]
          rw [natI_length, moreN_length] at hi
          have : (moreN M n)[i]'(by rw [moreN_length]; exact hi) = numAt M (2 * i) := by simp [moreN]
          rw [this]
          exact R.one i (by omega) hi
        have h2 := moreL_yes HM.out hn (fun t h1 h2 => R.nought t (by omega) h1)
        unfold moreB
        rw [Int.toNat_natCast, h1, h2, HM.out]
        simp
        omega
      have hown := HS.out.own
      rw [show min k n = n by omega] at hown
      obtain ⟨ao, cp, rfl, hcp, _, hints⟩ := own_ints hown (by omega)
      have HI := Lib.hid hints
      clear hints hown
      go_wp2_with fail
      go_ret2
      exact ⟨HS.out.kept, .inr ⟨ao, cp, HT.out, rfl, HI.out, hcp⟩⟩
end Go.Proofs.YtbggmeilkfpbgaaDoor

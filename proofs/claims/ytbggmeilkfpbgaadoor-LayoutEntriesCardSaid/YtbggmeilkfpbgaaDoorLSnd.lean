/-
  Layer 3: which nodes may be: the program's soundBlock, soundBlocks, soundHead, and the document's block and may; the law's own comparisons of numbers and of nodes.
  Conditions: those that each theorem states.
-/
import Derived.Test.YtbggmeilkfpbgaaDoorLArith
namespace Go.Proofs.YtbggmeilkfpbgaaDoor
open Go.RowKit Go.Maps

def sndB (b : Int) : Bool := decide (1 ≤ b ∧ b < 4096)
def headB (m n more : Int) : Bool := decide (0 ≤ m ∧ m ≤ 4095) && if 6 < n then sndB more else decide (more = 0)
def validB (k m s more : Int) (l : List Int) : Bool := decide (0 ≤ dataI k s) && decide ((l.length : Int) = dataI k s) && headB m (dataI k s) more && l.all sndB
/-- A node as a value. -/
def nodeV (k m s : Int) (ao : Option Addr) (len cap : Nat) (more : Int) : Value := .agg #[.int .i64 k, .int .i64 m, .int .i64 s, .slice ao len cap, .int .i64 more]

theorem soundBlock_any (b : Int) (w : World) :
    Calls Tryd.prog 42 #[.int .i64 b] w fun e w' => e = .returned (.bool (sndB b)) ∧ w = w' := by
  by_cases h1 : 1 ≤ b
  · by_cases h2 : b < 4096
    · have HB := Lib.hid (show sndB b = true by simp [sndB]; omega)
      go_enter Tryd.func42, Tryd.ntmps42
      go_wp2
      go_ret
      exact ⟨retB HB.out.symm, rfl⟩
    · have HB := Lib.hid (show sndB b = false by simp [sndB]; omega)
      go_enter Tryd.func42, Tryd.ntmps42
      go_wp2
      go_ret
      exact ⟨retB HB.out.symm, rfl⟩
  · have HB := Lib.hid (show sndB b = false by simp [sndB]; omega)
    go_enter Tryd.func42, Tryd.ntmps42
    go_wp2
    go_ret
    exact ⟨retB HB.out.symm, rfl⟩

theorem rblock_any (b : Int) (w : World) :
    Calls Tryd.prog 31 #[.int .i64 b] w fun e w' => e = .returned (.bool (sndB b)) ∧ w = w' := by
  by_cases h1 : 1 ≤ b
  · by_cases h2 : b < 4096
    · have HB := Lib.hid (show sndB b = true by simp [sndB]; omega)
      go_enter Tryd.func31, Tryd.ntmps31
      go_wp2
      go_ret
      exact ⟨retB HB.out.symm, rfl⟩
    · have HB := Lib.hid (show sndB b = false by simp [sndB]; omega)
      go_enter Tryd.func31, Tryd.ntmps31
      go_wp2
      go_ret
      exact ⟨retB HB.out.symm, rfl⟩
  · have HB := Lib.hid (show sndB b = false by simp [sndB]; omega)
    go_enter Tryd.func31, Tryd.ntmps31
    go_wp2
    go_ret
    exact ⟨retB HB.out.symm, rfl⟩

theorem all_snd_of {l : List Int} (h : ∀ i (hi : i < l.length), sndB l[i] = true) : l.all sndB = true := by
  rw [List.all_eq_true]
  intro x hx
  obtain ⟨i, hi, rfl⟩ := List.getElem_of_mem hx
  exact h i hi
theorem not_all_snd {l : List Int} (i : Nat) (hi : i < l.length) (h : sndB l[i] = false) : l.all sndB = false := by
  rw [Bool.eq_false_iff]
  intro hh
  rw [List.all_eq_true] at hh
  rw [hh _ (List.getElem_mem hi)] at h
  cases h

set_option maxHeartbeats 1000000 in
theorem soundBlocks_any (ao : Option Addr) (len cap : Nat) (l : List Int) (w : World) (hl : IntsIs w ao len l) :
    Calls Tryd.prog 24 #[.slice ao len cap] w fun e w' => e = .returned (.bool (l.all sndB)) ∧ w = w' := by
  have HL := Lib.hid hl
  have hlen := hl.2.1
  have HLL := Lib.hid hl.1
  clear hl
  go_enter Tryd.func24, Tryd.ntmps24
  go_wp2_with fail
  go_loop [7] (fun i => ∃ k : Nat, k ≤ len ∧ i = .int .i64 k ∧ Hid (∀ j (hj : j < l.length), j < k → sndB l[j] = true)) (fun i => len - (intOf i).toNat)
  case atStart => exact ⟨0, by omega, rfl, fun j hj h0 => by omega⟩
  case round =>
    obtain ⟨k, hk, rfl, HK⟩ := hrel
    by_cases hlt : k < len
    · obtain ⟨b, o, rfl, hb, hc⟩ := HL.out.cell (by omega)
      have c1 := hc k hlt
      have hll : k < l.length := by rw [HLL.out]; exact hlt
      obtain ⟨x, hx⟩ : ∃ x, l[k] = x := ⟨_, rfl⟩
      rw [hx] at c1
      have HX := Lib.hid hx
      clear hc hx
      cases hs : sndB x
      · have HS := Lib.hid hs
        clear hs
        go_wp2_with fail
        refine (soundBlock_any x _).mono ?_
        rw [HS.out]
        rintro e w' ⟨rfl, rfl⟩
        go_wp2_with fail
        go_ret
        exact ⟨retB (not_all_snd k hll (by rw [HX.out]; exact HS.out)).symm, rfl⟩
      · have HS := Lib.hid hs
        clear hs
        go_wp2_with fail
        refine (soundBlock_any x _).mono ?_
        rw [HS.out]
        rintro e w' ⟨rfl, rfl⟩
        go_wp2_with fail
        go_round
        case rel =>
          refine ⟨k + 1, by omega, by go_num, fun j hj h0 => ?_⟩
          by_cases e : j = k
          · subst e; rw [HX.out]; exact HS.out
          · exact HK.out j hj (by omega)
        case measure => simp [intOf]; omega
    · go_wp2_with fail
      go_ret
      exact ⟨retB (all_snd_of fun i hi => HK.out i hi (by rw [HLL.out] at hi; omega)).symm, rfl⟩

theorem headB_eq {m n more : Int} {b : Bool} (h : (0 ≤ m ∧ m ≤ 4095) ∧ ((6 < n ∧ sndB more = b) ∨ (¬ 6 < n ∧ decide (more = 0) = b))) : headB m n more = b := by
  obtain ⟨h1, h2⟩ := h
  unfold headB
  rw [decide_eq_true h1, Bool.true_and]
  rcases h2 with ⟨h2, h3⟩ | ⟨h2, h3⟩
  · rw [if_pos h2]; exact h3
  · rw [if_neg h2]; exact h3
theorem headB_no {m n more : Int} (h : m < 0 ∨ 4095 < m) : headB m n more = false := by
  unfold headB
  rw [decide_eq_false (by omega), Bool.false_and]

set_option maxHeartbeats 1000000 in
theorem soundHead_any (k m s : Int) (ao : Option Addr) (len cap : Nat) (more n : Int) (w : World) :
    Calls Tryd.prog 23 #[nodeV k m s ao len cap more, .int .i64 n] w fun e w' => e = .returned (.bool (headB m n more)) ∧ Kept [] w w' := by
  unfold nodeV
  rcases (by omega : m < 0 ∨ (¬ m < 0 ∧ 4095 < m) ∨ ((¬ m < 0 ∧ m ≤ 4095) ∧ 6 < n) ∨ ((¬ m < 0 ∧ m ≤ 4095) ∧ ¬ 6 < n)) with h | ⟨h, h2⟩ | ⟨⟨h, h2⟩, h3⟩ | ⟨⟨h, h2⟩, h3⟩
  · have HB := Lib.hid (headB_no (n := n) (more := more) (.inl h))
    go_enter Tryd.func23, Tryd.ntmps23
    go_wp2_with fail
    go_ret
    exact ⟨retB HB.out.symm, Kept.alloc _ _ _⟩
  · have HB := Lib.hid (headB_no (n := n) (more := more) (.inr h2))
    go_enter Tryd.func23, Tryd.ntmps23
    go_wp2_with fail
    go_ret
    exact ⟨retB HB.out.symm, Kept.alloc _ _ _⟩
  · have HB := Lib.hid (headB_eq (m := m) (n := n) (more := more) ⟨by omega, .inl ⟨h3, rfl⟩⟩)
    go_enter Tryd.func23, Tryd.ntmps23
    go_wp2_with fail
    refine (soundBlock_any more _).mono ?_
    rintro e w' ⟨rfl, rfl⟩
    go_wp2_with fail
    go_ret
    exact ⟨retB HB.out.symm, Kept.alloc _ _ _⟩
  · have HB := Lib.hid (headB_eq (m := m) (n := n) (more := more) ⟨by omega, .inr ⟨h3, rfl⟩⟩)
    by_cases h0 : more = 0
    · subst h0
      go_enter Tryd.func23, Tryd.ntmps23
      go_wp2_with fail
      go_ret
      exact ⟨retB HB.out.symm, Kept.alloc _ _ _⟩
    · have e0 : (more == 0) = false := by simpa using h0
      go_enter Tryd.func23, Tryd.ntmps23
      go_wp2_with fail
      go_ret
      exact ⟨retB (by rw [HB.out]; simpa using h0), Kept.alloc _ _ _⟩

theorem ne_of_get {l r : List Int} (i : Nat) (h1 : i < l.length) (h2 : i < r.length) (h : l[i] ≠ r[i]) : decide (l = r) = false := by
  rw [decide_eq_false_iff_not]
  intro e
  subst e
  exact h rfl
theorem ne_of_len {l r : List Int} (h : l.length ≠ r.length) : decide (l = r) = false := by
  rw [decide_eq_false_iff_not]
  intro e
  subst e
  exact h rfl
theorem eq_of_get {l r : List Int} (h0 : l.length = r.length) (h : ∀ i (h1 : i < l.length) (h2 : i < r.length), l[i] = r[i]) : decide (l = r) = true := by
  rw [decide_eq_true_iff]
  exact List.ext_getElem h0 h

set_option maxHeartbeats 1000000 in
theorem ints_any (ao bo : Option Addr) (len cap len2 cap2 : Nat) (l r : List Int) (w : World) (hl : IntsIs w ao len l) (hr : IntsIs w bo len2 r) :
    Calls Tryd.prog 11 #[.slice ao len cap, .slice bo len2 cap2] w fun e w' => e = .returned (.bool (decide (l = r))) ∧ Drawn w w' := by
  have HL := Lib.hid hl
  have HR := Lib.hid hr
  have hlen := hl.2.1
  have hlen2 := hr.2.1
  have HLL := Lib.hid hl.1
  have HRL := Lib.hid hr.1
  clear hl hr
  by_cases hne : len = len2
  · obtain rfl : len = len2 := hne
    go_enter Tryd.func11, Tryd.ntmps11
    go_wp2_with fail
    go_loopw [5] (fun i wr => ∃ k : Nat, k ≤ len ∧ i = .int .i64 k ∧ Hid (∀ j (h1 : j < l.length) (h2 : j < r.length), j < k → l[j] = r[j]) ∧ Hid (Drawn w wr)) (fun i _ => len - (intOf i).toNat)
    case atStart => exact ⟨0, by omega, rfl, fun j _ _ h0 => by omega, 0, rfl⟩
    case round =>
      obtain ⟨k, hk, rfl, HK, HD⟩ := hrel
      by_cases hlt : k < len
      · obtain ⟨b, o, rfl, hb, hc⟩ := (HL.out.kept HD.out.kept).cell (by omega)
        obtain ⟨b2, o2, rfl, hb2, hc2⟩ := (HR.out.kept HD.out.kept).cell (by omega)
        have c1 := hc k hlt
        have c2 := hc2 k hlt
        have hll : k < l.length := by rw [HLL.out]; exact hlt
        have hrl : k < r.length := by rw [HRL.out]; exact hlt
        obtain ⟨x, hx⟩ : ∃ x, l[k] = x := ⟨_, rfl⟩
        obtain ⟨y, hy⟩ : ∃ y, r[k] = y := ⟨_, rfl⟩
        rw [hx] at c1
        rw [hy] at c2
        have HX := Lib.hid hx
        have HY := Lib.hid hy
        clear hc hc2 hx hy
        by_cases hxy : x = y
        · subst hxy
          go_wp2_with fail
          go_quiet (fail)
          go_wp2_with fail
          go_roundw
          case rel =>
            refine ⟨k + 1, by omega, by go_num, fun j h1 h2 h0 => ?_, ?_⟩
            · by_cases e : j = k
              · subst e; rw [HX.out, HY.out]
              · exact HK.out j h1 h2 (by omega)
            · exact HD.out.more _
          case measure => simp [intOf]; omega
        · have hxy' : (x == y) = false := by simpa using hxy
          have hxy2 : (x != y) = true := by simpa using hxy
          go_wp2_with fail
          go_quiet (fail)
          go_wp2_with fail
          go_ret
          refine ⟨retB (ne_of_get k hll hrl (by rw [HX.out, HY.out]; exact hxy)).symm, ?_⟩
          exact HD.out.more _
      · go_wp2_with fail
        go_ret
        exact ⟨retB (eq_of_get (by rw [HLL.out, HRL.out]) fun i h1 h2 => HK.out i h1 h2 (by rw [HLL.out] at h1; omega)).symm, HD.out⟩
  · have hn2 : ((len : Int) != (len2 : Int)) = true := by simp; omega
    go_enter Tryd.func11, Tryd.ntmps11
    go_wp2_with fail
    go_ret
    exact ⟨retB (ne_of_len (by rw [HLL.out, HRL.out]; exact hne)).symm, 0, rfl⟩

def sameB (k m s more : Int) (l : List Int) (k' m' s' more' : Int) (l' : List Int) : Bool := decide (l = l') && (decide (k = k') && (decide (m = m') && (decide (s = s') && decide (more = more'))))

set_option maxHeartbeats 2000000 in
theorem same_any (k m s more k' m' s' more' : Int) (ao bo : Option Addr) (len cap len2 cap2 : Nat) (l r : List Int) (w : World) (hl : IntsIs w ao len l) (hr : IntsIs w bo len2 r) :
    Calls Tryd.prog 8 #[nodeV k m s ao len cap more, nodeV k' m' s' bo len2 cap2 more'] w fun e w' => e = .returned (.bool (sameB k m s more l k' m' s' more' r)) ∧ Kept [] w w' := by
  unfold nodeV
  go_enter Tryd.func8, Tryd.ntmps8
  go_wp2_with fail
  refine (ints_any ao bo len cap len2 cap2 l r _ (hl.kept ((Kept.alloc _ _ _).trans (Kept.alloc _ _ _))) (hr.kept ((Kept.alloc _ _ _).trans (Kept.alloc _ _ _)))).mono ?_
  rintro e w1 ⟨rfl, h1⟩
  obtain ⟨n, rfl⟩ := h1
  go_wp2_with fail
  all_goals
    go_ret
    refine ⟨retB (by first | (simp [sameB, *]; done) | (simp [sameB, *]; exact Bool.eq_iff_iff.2 (by simp))), ?_⟩
    exact ((Kept.alloc _ _ _).trans (Kept.alloc _ _ _)).trans (Kept.drewN _ _ _)

theorem validB_no {k m s more : Int} {l : List Int} {n : Int} (hn : dataI k s = n) (h : n < 0 ∨ m < 0 ∨ 4095 < m ∨ (l.length : Int) ≠ n) : validB k m s more l = false := by
  unfold validB
  rw [hn]
  rcases h with h | h | h | h
  · rw [decide_eq_false (by omega)]; rfl
  · rw [headB_no (.inl h)]; simp
  · rw [headB_no (.inr h)]; simp
  · rw [decide_eq_false h]; simp
theorem validB_all {k m s more : Int} {l : List Int} (h : l.all sndB = false) : validB k m s more l = false := by
  unfold validB
  rw [h, Bool.and_false]
theorem validB_rest {k m s more : Int} {l : List Int} {n : Int} {b : Bool} (hn : dataI k s = n) (h0 : 0 ≤ n) (h1 : 0 ≤ m) (h2 : m ≤ 4095) (h3 : (l.length : Int) = n) (h4 : l.all sndB = true) (h5 : (6 < n ∧ sndB more = b) ∨ (¬ 6 < n ∧ decide (more = 0) = b)) : validB k m s more l = b := by
  unfold validB
  rw [hn, h4, headB_eq ⟨⟨h1, h2⟩, h5⟩, decide_eq_true h0, decide_eq_true h3]
  simp

set_option maxHeartbeats 2000000 in
theorem rmay_any (k m s more : Int) (ao : Option Addr) (len cap : Nat) (l : List Int) (w : World) (hl : IntsIs w ao len l) :
    Calls Tryd.prog 44 #[nodeV k m s ao len cap more] w fun e w' => e = .returned (.bool (validB k m s more l)) ∧ Kept [] w w' := by
  unfold nodeV
  have HL := Lib.hid (hl.kept (Kept.alloc [] w (.cells #[.int .i64 k, .int .i64 m, .int .i64 s, .slice ao len cap, .int .i64 more] 26)))
  have hlen := hl.2.1
  have HLL := Lib.hid hl.1
  clear hl
  obtain ⟨n, hn⟩ : ∃ n, dataI k s = n := ⟨_, rfl⟩
  have hb := dataI_bd k s
  rw [hn] at hb
  have HN := Lib.hid hn
  clear hn
  rcases (by omega : n < 0 ∨ (¬ n < 0 ∧ m < 0) ∨ (¬ n < 0 ∧ ¬ m < 0 ∧ 4095 < m) ∨ (¬ n < 0 ∧ ¬ m < 0 ∧ m ≤ 4095 ∧ (len : Int) ≠ n) ∨ (¬ n < 0 ∧ ¬ m < 0 ∧ m ≤ 4095 ∧ (len : Int) = n)) with h | ⟨h, h1⟩ | ⟨h, h1, h2⟩ | ⟨h, h1, h2, h3⟩ | ⟨h, h1, h2, h3⟩
  · go_enter Tryd.func44, Tryd.ntmps44
    go_wp2_with fail
    refine (rdata_any k s _).mono ?_
    rw [HN.out]
    rintro e w' ⟨rfl, rfl⟩
    go_wp2_with fail
    go_ret
    exact ⟨retB (validB_no HN.out (.inl h)).symm, Kept.alloc _ _ _⟩
  · go_enter Tryd.func44, Tryd.ntmps44
    go_wp2_with fail
    refine (rdata_any k s _).mono ?_
    rw [HN.out]
    rintro e w' ⟨rfl, rfl⟩
    go_wp2_with fail
    go_ret
    exact ⟨retB (validB_no HN.out (.inr (.inl h1))).symm, Kept.alloc _ _ _⟩
  · go_enter Tryd.func44, Tryd.ntmps44
    go_wp2_with fail
    refine (rdata_any k s _).mono ?_
    rw [HN.out]
    rintro e w' ⟨rfl, rfl⟩
    go_wp2_with fail
    go_ret
    exact ⟨retB (validB_no HN.out (.inr (.inr (.inl h2)))).symm, Kept.alloc _ _ _⟩
  · have h3' : ((len : Int) != n) = true := by simpa using h3
    go_enter Tryd.func44, Tryd.ntmps44
    go_wp2_with fail
    refine (rdata_any k s _).mono ?_
    rw [HN.out]
    rintro e w' ⟨rfl, rfl⟩
    go_wp2_with fail
    go_ret
    exact ⟨retB (validB_no HN.out (.inr (.inr (.inr (by rw [HLL.out]; exact h3))))).symm, Kept.alloc _ _ _⟩
  · subst h3
    go_enter Tryd.func44, Tryd.ntmps44
    go_wp2_with fail
    refine (rdata_any k s _).mono ?_
    rw [HN.out]
    rintro e w' ⟨rfl, rfl⟩
    go_wp2_with fail
    go_loop [4] (fun i => ∃ j : Nat, j ≤ len ∧ i = .int .i64 j ∧ Hid (∀ q (hq : q < l.length), q < j → sndB l[q] = true)) (fun i => len - (intOf i).toNat)
    case atStart => exact ⟨0, by omega, rfl, fun j hj h0 => by omega⟩
    case round =>
      obtain ⟨j, hj, rfl, HK⟩ := hrel
      by_cases hlt : j < len
      · obtain ⟨b, o, rfl, hb, hc⟩ := HL.out.cell (by omega)
        have c1 := hc j hlt
        have hll : j < l.length := by rw [HLL.out]; exact hlt
        obtain ⟨x, hx⟩ : ∃ x, l[j] = x := ⟨_, rfl⟩
        rw [hx] at c1
        have HX := Lib.hid hx
        clear hc hx
        cases hs : sndB x
        · have HS := Lib.hid hs
          clear hs
          go_wp2_with fail
          refine (rblock_any x _).mono ?_
          rw [HS.out]
          rintro e w' ⟨rfl, rfl⟩
          go_wp2_with fail
          go_ret
          exact ⟨retB (validB_all (not_all_snd j hll (by rw [HX.out]; exact HS.out))).symm, Kept.alloc _ _ _⟩
        · have HS := Lib.hid hs
          clear hs
          go_wp2_with fail
          refine (rblock_any x _).mono ?_
          rw [HS.out]
          rintro e w' ⟨rfl, rfl⟩
          go_wp2_with fail
          go_round
          case rel =>
            refine ⟨j + 1, by omega, by go_num, fun q hq h0 => ?_⟩
            by_cases e : q = j
            · subst e; rw [HX.out]; exact HS.out
            · exact HK.out q hq (by omega)
          case measure => simp [intOf]; omega
      · have HA := Lib.hid (all_snd_of fun i hi => HK.out i hi (by rw [HLL.out] at hi; omega))
        by_cases h6 : (6 : Int) < (len : Int)
        · cases hs : sndB more
          all_goals
            have HS := Lib.hid hs
            clear hs
            go_wp2_with fail
            refine (rblock_any more _).mono ?_
            rw [HS.out]
            rintro e w' ⟨rfl, rfl⟩
            go_wp2_with fail
            go_ret
            exact ⟨retB (validB_rest HN.out (by omega) (by omega) (by omega) (by rw [HLL.out]) HA.out (.inl ⟨h6, HS.out⟩)).symm, Kept.alloc _ _ _⟩
        · by_cases h0 : more = 0
          · subst h0
            go_wp2_with fail
            go_ret
            exact ⟨retB (validB_rest HN.out (by omega) (by omega) (by omega) (by rw [HLL.out]) HA.out (.inr ⟨by omega, by simp⟩)).symm, Kept.alloc _ _ _⟩
          · have e0 : (more == 0) = false := by simpa using h0
            go_wp2_with fail
            go_ret
            exact ⟨retB (validB_rest HN.out (by omega) (by omega) (by omega) (by rw [HLL.out]) HA.out (.inr ⟨by omega, by simpa using h0⟩)).symm, Kept.alloc _ _ _⟩

end Go.Proofs.YtbggmeilkfpbgaaDoor

/-
  Layer 3: Path, the program's and the document's.
  Conditions: those that each theorem states.
-/
import Derived.Test.YthpfnkanilfohaaDoorLSplit
namespace Go.Proofs.YthpfnkanilfohaaDoor
open Go.RowKit Go.Maps

/-- A path's names. -/
def pathO (s : List UInt8) : Option (List (List UInt8)) :=
  if s = [47] then some [] else if s.length ≤ 120 ∧ s.head? = some 47 ∧ (cutL s.tail).length ≤ 8 ∧ (cutL s.tail).all nameB = true then some (cutL s.tail) else none

/-- What Path leaves. -/
def PathOut (s : List UInt8) (w : World) (e : Ending) (w' : World) : Prop :=
  Kept [] w w' ∧ ((pathO s = none ∧ e = .returned (.tuple #[.slice none 0 0, .int .i64 40])) ∨ ∃ ps v, pathO s = some ps ∧ e = .returned (.tuple #[v, .int .i64 0]) ∧ StrsIs w' v ps)

theorem not_all_name {l : List (List UInt8)} (i : Nat) (hi : i < l.length) (h : nameB l[i] = false) : l.all nameB = false := by
  rw [Bool.eq_false_iff]
  intro hh
  rw [List.all_eq_true] at hh
  rw [hh _ (List.getElem_mem hi)] at h
  cases h
theorem all_name {l : List (List UInt8)} (h : ∀ i (hi : i < l.length), nameB l[i] = true) : l.all nameB = true := by
  rw [List.all_eq_true]
  intro x hx
  obtain ⟨i, hi, rfl⟩ := List.getElem_of_mem hx
  exact h i hi
theorem pathO_no {s : List UInt8} (h0 : s ≠ [47]) (h : ¬ (s.length ≤ 120 ∧ s.head? = some 47 ∧ (cutL s.tail).length ≤ 8 ∧ (cutL s.tail).all nameB = true)) : pathO s = none := by
  unfold pathO
  rw [if_neg h0, if_neg h]
theorem pathO_yes {s : List UInt8} (h0 : s ≠ [47]) (h : s.length ≤ 120 ∧ s.head? = some 47 ∧ (cutL s.tail).length ≤ 8 ∧ (cutL s.tail).all nameB = true) : pathO s = some (cutL s.tail) := by
  unfold pathO
  rw [if_neg h0, if_pos h]
theorem extract_tail (l : List UInt8) : (strL l).extract 1 (strL l).size = strL l.tail := by
  apply ByteArray.ext
  apply Array.toList_inj.1
  rw [Lib.extract_data, strL_size]
  simp [strL]
  exact List.take_of_length_le (by simp)
theorem cutL_le : ∀ (l : List UInt8), ∀ x ∈ cutL l, x.length ≤ l.length
  | [], x, hx => by simp [cutL] at hx; simp [hx]
  | c :: l, x, hx => by
    have ih := cutL_le l
    rw [cutL] at hx
    split at hx
    · simp at hx
      rcases hx with rfl | hx
      · simp
      · have := ih x hx; simp; omega
    · split at hx
      · simp at hx; simp [hx]
      · rename_i p ps hp
        simp at hx
        rcases hx with rfl | hx
        · have := ih p (by rw [hp]; simp); simp; omega
        · have := ih x (by rw [hp]; simp [hx]); simp; omega

set_option maxRecDepth 100000 in
set_option maxHeartbeats 4000000 in
theorem path_any (s : List UInt8) (w : World) (hs : s.length ≤ 9223372036854775807) :
    Calls Tryd.prog 38 #[.string (strL s)] w (PathOut s w) := by
  have hsz : (strL s).size = s.length := strL_size s
  have HSZ := Lib.hid hsz
  clear hsz
  have htl : (strL s).toList = s := Lib.toList_data _
  by_cases h1 : 120 < s.length
  · have HP := Lib.hid (pathO_no (s := s) (fun e => by rw [e] at h1; simp at h1) (fun h => by omega))
    have h1' : (120 : Int) < ((strL s).size : Int) := by rw [HSZ.out]; omega
    clear htl
    go_enter Tryd.func38, Tryd.ntmps38
    go_wp2_with fail
    go_ret2
    exact ⟨Kept.refl _ _, .inl ⟨HP.out, rfl⟩⟩
  · have h1' : ¬ (120 : Int) < ((strL s).size : Int) := by rw [HSZ.out]; omega
    by_cases h2 : s.head? = some 47
    · have HH := Lib.hid (show decide (s.head? = some 47) = true by rw [decide_eq_true_iff]; exact h2)
      by_cases h3 : s = [47]
      · have e3 : ((strL s).toList == [47]) = true := by rw [htl, h3]; rfl
        have HP := Lib.hid (show pathO s = some [] by unfold pathO; rw [if_pos h3])
        clear htl h3 h2
        go_enter Tryd.func38, Tryd.ntmps38
        go_wp2_with fail
        refine (hasPrefix_stroke s _).mono ?_
        rw [HH.out]
        rintro e w' ⟨rfl, rfl⟩
        go_wp2_with fail
        all_goals
          go_ret2
          exact ⟨Kept.refl _ _, .inr ⟨[], _, HP.out, rfl, .inr ⟨rfl, rfl⟩⟩⟩
      · have e3 : ((strL s).toList == [47]) = false := by rw [htl]; simpa using h3
        have htail : s.tail.length ≤ 120 := by rw [List.length_tail]; omega
        obtain ⟨C, hC⟩ : ∃ C, cutL s.tail = C := ⟨_, rfl⟩
        have hsl := extract_tail s
        have H2 := Lib.hid h2
        have H3 := Lib.hid h3
        have HCC := Lib.hid hC
        clear htl h3 h2 hC
        have hn1 : 1 ≤ (strL s).size := by
          rw [HSZ.out]
          cases s with
          | nil => have := H2.out; simp at this
          | cons a b => simp
        have hcl : C.length ≤ 121 := by
          rw [← HCC.out, cutL_count]
          have := Lib.countB_le strokeS (by decide) _ (strL s.tail) (Nat.le_refl _)
          rw [strL_size] at this
          omega
        go_enter Tryd.func38, Tryd.ntmps38
        go_wp2_with fail
        refine (hasPrefix_stroke s _).mono ?_
        rw [HH.out]
        rintro e w' ⟨rfl, rfl⟩
        go_wp2_with fail
        clear hsl
        refine (split_stroke s.tail _ (by omega)).mono ?_
        rw [HCC.out]
        rintro e w1 ⟨rfl, hw1⟩
        have HW : Hid (w1.heap[w.heap.size]? = some (.cells (svA C) 9) ∧ Kept [] w w1) := ⟨by rw [hw1]; exact heap_alloc_last _ _, by rw [hw1]; exact Kept.alloc _ _ _⟩
        clear hw1
        by_cases h8 : C.length ≤ 8
        · go_wp2_with fail
          go_loop [25] (fun i => ∃ k : Nat, k ≤ C.length ∧ i = .int .i64 k ∧ Hid (∀ j (hj : j < C.length), j < k → nameB C[j] = true)) (fun i => C.length - (intOf i).toNat)
          case atStart => exact ⟨0, by omega, rfl, fun j hj h0 => by omega⟩
          case round =>
            obtain ⟨k, hk, rfl, HK⟩ := hrel
            by_cases hlt : k < C.length
            · have c1 : w1.cell? ⟨w.heap.size, k, none⟩ = some (.string (strL C[k])) := by
                rw [cell_of_row _ _ k _ _ _ HW.out.1]
                simp [svA, sv, hlt]
              obtain ⟨x, hx⟩ : ∃ x, C[k] = x := ⟨_, rfl⟩
              rw [hx] at c1
              have HX := Lib.hid hx
              have hxl : (strL x).size ≤ 9223372036854775807 := by
                have hm : x ∈ cutL s.tail := by rw [HCC.out, ← hx]; exact List.getElem_mem hlt
                have := cutL_le s.tail x hm
                rw [strL_size]
                omega
              clear hx
              cases hn : nameB x
              all_goals
                have HN := Lib.hid hn
                clear hn
                go_wp2_with fail
                refine (name_any (strL x) _ hxl).mono ?_
                rw [strL_toList, HN.out]
                rintro e w' ⟨rfl, rfl⟩
                go_wp2_with fail
              · go_ret2
                refine ⟨HW.out.2, .inl ⟨?_, rfl⟩⟩
                refine pathO_no H3.out fun h => ?_
                rw [HCC.out] at h
                rw [not_all_name k hlt (by rw [HX.out]; exact HN.out)] at h
                exact absurd h.2.2.2 (by simp)
              · go_round
                case rel =>
                  refine ⟨k + 1, by omega, by go_num, fun j hj h0 => ?_⟩
                  by_cases e : j = k
                  · subst e; rw [HX.out]; exact HN.out
                  · exact HK.out j hj (by omega)
                case measure => simp [intOf]; omega
            · go_wp2_with fail
              go_ret2
              refine ⟨HW.out.2, .inr ⟨C, _, ?_, rfl, .inl ⟨w.heap.size, 0, _, rfl, (Array.getElem?_eq_some_iff.1 HW.out.1).1, range_svA HW.out.1⟩⟩⟩
              rw [← HCC.out]
              refine pathO_yes H3.out ⟨by omega, H2.out, by rw [HCC.out]; exact h8, ?_⟩
              rw [HCC.out]
              exact all_name fun i hi => HK.out i hi (by omega)
        · go_wp2_with fail
          go_ret2
          refine ⟨HW.out.2, .inl ⟨pathO_no H3.out fun h => ?_, rfl⟩⟩
          rw [HCC.out] at h
          omega
    · have HH := Lib.hid (show decide (s.head? = some 47) = false by rw [decide_eq_false_iff_not]; exact h2)
      have HP := Lib.hid (pathO_no (s := s) (fun e => h2 (by rw [e]; rfl)) (fun h => h2 h.2.1))
      clear htl h2
      go_enter Tryd.func38, Tryd.ntmps38
      go_wp2_with fail
      refine (hasPrefix_stroke s _).mono ?_
      rw [HH.out]
      rintro e w' ⟨rfl, rfl⟩
      go_wp2_with fail
      go_ret2
      exact ⟨Kept.refl _ _, .inl ⟨HP.out, rfl⟩⟩

theorem run_index_str (l : List UInt8) (k : Nat) (hk : k < l.length) (w : World) : (Instr.index 9 (.string (strL l)) (.int .i64 (k : Int))).run Tryd.prog w = .ok (.int .u8 (l[k].toNat : Int)) w := by
  have h : (strL l)[k]? = some l[k] := by
    show (strL l).data[k]? = _
    simp [strL, hk]
  simp [Instr.index, run_underlying Tryd.underlying9, asIntOf, go_sem, h]
theorem run_index_str0 (l : List UInt8) (hk : 0 < l.length) (w : World) : (Instr.index 9 (.string (strL l)) (.int .i64 0)).run Tryd.prog w = .ok (.int .u8 (l[0].toNat : Int)) w := run_index_str l 0 hk w
theorem extract_piece (l : List UInt8) (f i : Nat) : (strL l).extract f i = strL ((l.take i).drop f) := by
  apply ByteArray.ext
  apply Array.toList_inj.1
  rw [Lib.extract_data]
  simp [strL, List.drop_take]

theorem elemStr : ElemOk Tryd.prog 60 9 (.string ByteArray.empty) 1 16 := ⟨Tryd.underlying60, by kernel_rfl, rfl, by omega⟩

/-- What is still to be cut. -/
def restL (s : List UInt8) (f : Nat) : List (List UInt8) := if f ≤ s.length then cutL (s.drop f) else []

structure RpSt (w : World) (s : List UInt8) (ps : List (List UInt8)) (f i : Nat) (v : Value) (wr : World) : Prop where
  own : wr.ownsRow w.heap.size 9 1 v ps.length (sv ps)
  cut : cutL s.tail = ps ++ restL s f
  fi : 1 ≤ f ∧ f ≤ i ∧ i ≤ s.length + 1
  free : ∀ j (hj : j < s.length), f ≤ j → j < i → s[j] ≠ 47
  done : i ≤ s.length ∨ f = s.length + 1
  name : ∀ x ∈ ps, nameB x = true
  few : ps.length ≤ i
  kept : Kept [] w wr

theorem RpSt.piece {w : World} {s : List UInt8} {ps : List (List UInt8)} {f i : Nat} {v : Value} {wr : World} (R : RpSt w s ps f i v wr) (hi : i ≤ s.length) (hs : i = s.length ∨ ∃ hj : i < s.length, s[i] = 47) :
    restL s f = (s.take i).drop f :: restL s (i + 1) := by
  have hfi := R.fi
  have hfree : ∀ c ∈ (s.take i).drop f, c ≠ 47 := fun c hc => by
    obtain ⟨j, hj, rfl⟩ := List.getElem_of_mem hc
    simp at hj
    rw [List.getElem_drop, List.getElem_take]
    exact R.free (f + j) (by omega) (by omega) (by omega)
  unfold restL
  rw [if_pos (by omega)]
  rcases hs with hs | ⟨hj, hs⟩
  · rw [if_neg (by omega)]
    have e : (s.take i).drop f = s.drop f := by rw [hs, List.take_length]
    rw [e] at hfree ⊢
    exact cutL_miss _ hfree
  · rw [if_pos (by omega)]
    have e : s.drop f = (s.take i).drop f ++ 47 :: s.drop (i + 1) := by
      have h1 : s = s.take i ++ 47 :: s.drop (i + 1) := by
        conv => lhs; rw [← List.take_append_drop i s, List.drop_eq_getElem_cons hj, hs]
      conv => lhs; rw [h1]
      rw [List.drop_append_of_le_length (by simp; omega)]
    rw [e]
    exact cutL_hit _ _ hfree

theorem RpSt.strs {w : World} {s : List UInt8} {ps : List (List UInt8)} {f i : Nat} {v : Value} {wr : World} (R : RpSt w s ps f i v wr) : StrsIs wr v ps := by
  rcases owns_range R.own with ⟨g, cap, rfl, _, hg, _, _, hr⟩ | ⟨rfl, _, hx⟩
  · exact .inl ⟨g, 0, cap, rfl, hg, hr⟩
  · refine .inr ⟨rfl, ?_⟩
    have := congrArg List.length hx
    rw [sv_length] at this
    exact List.eq_nil_of_length_eq_zero this
theorem sv_one (l : List (List UInt8)) : ∀ v ∈ sv l, v.oneCell' = true := by
  intro v hv
  simp [sv] at hv
  obtain ⟨c, _, rfl⟩ := hv
  rfl

theorem RpSt.next {w : World} {s : List UInt8} {ps : List (List UInt8)} {f i : Nat} {v : Value} {wr : World} (R : RpSt w s ps f i v wr) (hi : i ≤ s.length) (hs : i = s.length ∨ ∃ hj : i < s.length, s[i] = 47) (h120 : s.length ≤ 120) (hn : nameB ((s.take i).drop f) = true) :
    ∃ v' w7, (Builtin.append_ #[60, 60] 60 #[v, .slice (some ⟨wr.heap.size, 0, none⟩) 1 1]).run Tryd.prog (wr.alloc (.cells #[.string (strL ((s.take i).drop f))] 9)) = .ok v' w7 ∧ RpSt w s (ps ++ [(s.take i).drop f]) (i + 1) (i + 1) v' w7 := by
  have hfew := R.few
  have hs0 : w.heap.size ≤ (wr.alloc (.cells #[.string (strL ((s.take i).drop f))] 9)).heap.size := by have := R.kept.size; rw [size_alloc]; omega
  obtain ⟨v', w7, hrun, hown, hk7, _⟩ := own_app elemStr 60 (wr.alloc (.cells #[.string (strL ((s.take i).drop f))] 9)) w.heap.size v ps.length (sv ps) (R.own.alloc _) ⟨wr.heap.size, 0, none⟩ 1 1 (sv [(s.take i).drop f]) rfl
    (fun j u hu => by
      rw [Addr.add_mid, Nat.zero_add, cell_of_row _ _ j _ _ _ (heap_alloc_last wr _)]
      simpa [sv] using hu) (sv_one _) (by unfold maxLen; omega) (by omega) hs0
  refine ⟨v', w7, hrun, ?_, ?_, by have := R.fi; omega, fun j hj h1 h2 => by omega, by omega, ?_, by simp; omega, (R.kept.trans (Kept.alloc _ _ _)).own (R.own.alloc _) (Nat.le_refl _) hk7⟩
  · rw [List.length_append, show sv (ps ++ [(s.take i).drop f]) = sv ps ++ sv [(s.take i).drop f] by simp [sv]]
    exact hown
  · rw [R.cut, R.piece hi hs]
    simp
  · intro x hx
    simp only [List.mem_append, List.mem_singleton] at hx
    rcases hx with hx | rfl
    · exact R.name x hx
    · exact hn
theorem RpSt.bad {w : World} {s : List UInt8} {ps : List (List UInt8)} {f i : Nat} {v : Value} {wr : World} (R : RpSt w s ps f i v wr) (hi : i ≤ s.length) (hs : i = s.length ∨ ∃ hj : i < s.length, s[i] = 47) (h3 : s ≠ [47]) (hn : nameB ((s.take i).drop f) = false) : pathO s = none := by
  refine pathO_no h3 fun h => ?_
  have := List.all_eq_true.1 h.2.2.2 ((s.take i).drop f) (by rw [R.cut, R.piece hi hs]; simp)
  rw [this] at hn
  cases hn

set_option maxRecDepth 100000 in
set_option maxHeartbeats 4000000 in
theorem rpath_any (s : List UInt8) (w : World) (hs : s.length ≤ 9223372036854775807) :
    Calls Tryd.prog 35 #[.string (strL s)] w (PathOut s w) := by
  have hsz : (strL s).size = s.length := strL_size s
  have htl : (strL s).toList = s := Lib.toList_data _
  by_cases h3 : s = [47]
  · have e3 : ((strL s).toList == [47]) = true := by rw [htl, h3]; rfl
    have HP := Lib.hid (show pathO s = some [] by unfold pathO; rw [if_pos h3])
    clear htl h3 hsz
    go_enter Tryd.func35, Tryd.ntmps35
    go_wp2_with fail
    all_goals
      go_ret2
      exact ⟨Kept.refl _ _, .inr ⟨[], _, HP.out, rfl, .inr ⟨rfl, rfl⟩⟩⟩
  · have e3 : ((strL s).toList == [47]) = false := by rw [htl]; simpa using h3
    have H3 := Lib.hid h3
    clear htl
    by_cases hbad : s.length < 2 ∨ 120 < s.length ∨ ∃ h : 0 < s.length, s[0] ≠ 47
    · have HP := Lib.hid (show pathO s = none from pathO_no h3 fun h => by
        rcases hbad with hb | hb | ⟨hb, hb2⟩
        · match s, h3, hb, h with
          | [], _, _, h => simp at h
          | [c], h3, _, h => simp at h; exact h3 (by rw [h.1])
          | _ :: _ :: _, _, hb, _ => simp at hb; omega
        · omega
        · match s, hb, hb2, h with
          | c :: l, _, hb2, h => simp at h hb2; exact hb2 h.2.1)
      clear h3
      by_cases h1 : s.length < 2
      · have h1' : ((strL s).size : Int) < 2 := by rw [hsz]; omega
        clear hsz hbad
        go_enter Tryd.func35, Tryd.ntmps35
        go_wp2_with fail
        go_ret2
        exact ⟨Kept.refl _ _, .inl ⟨HP.out, rfl⟩⟩
      · have h1' : ¬ ((strL s).size : Int) < 2 := by rw [hsz]; omega
        by_cases h2 : 120 < s.length
        · have h2' : (120 : Int) < ((strL s).size : Int) := by rw [hsz]; omega
          clear hsz hbad
          go_enter Tryd.func35, Tryd.ntmps35
          go_wp2_with fail
          go_ret2
          exact ⟨Kept.refl _ _, .inl ⟨HP.out, rfl⟩⟩
        · have h2' : ¬ (120 : Int) < ((strL s).size : Int) := by rw [hsz]; omega
          obtain ⟨c, hc⟩ : ∃ c : Int, ((s[0]'(by omega)).toNat : Int) = c := ⟨_, rfl⟩
          have hix := run_index_str0 s (by omega) w
          rw [hc] at hix
          have hcn : (c != 47) = true := by
            rcases hbad with hb | hb | ⟨hb, hb2⟩
            · omega
            · omega
            · rw [← hc]
              simp
              intro e
              apply hb2
              apply UInt8.toNat_inj.1
              exact_mod_cast e
          clear hsz hbad hc
          go_enter Tryd.func35, Tryd.ntmps35
          go_wp2_with fail
          go_ret2
          exact ⟨Kept.refl _ _, .inl ⟨HP.out, rfl⟩⟩
    · have h1 : 2 ≤ s.length := by omega
      have h2 : s.length ≤ 120 := by omega
      have hz0 : s[0]'(by omega) = 47 := by
        apply Classical.byContradiction
        intro hne
        exact hbad (.inr (.inr ⟨by omega, hne⟩))
      have hhead : s.head? = some 47 := by rw [List.head?_eq_getElem?, List.getElem?_eq_getElem (by omega), hz0]
      have h1' : ¬ ((strL s).size : Int) < 2 := by rw [hsz]; omega
      have h2' : ¬ (120 : Int) < ((strL s).size : Int) := by rw [hsz]; omega
      have hix := run_index_str0 s (by omega) w
      rw [hz0] at hix
      have HH := Lib.hid hhead
      have HSZ := Lib.hid hsz
      clear hbad hz0 hhead h3 hsz
      go_enter Tryd.func35, Tryd.ntmps35
      go_wp2_with fail
      clear hix
      go_loopw [4, 5, 6] (fun v a b wr => ∃ (ps : List (List UInt8)) (f i : Nat), a = .int .i64 f ∧ b = .int .i64 i ∧ Hid (RpSt w s ps f i v wr)) (fun _ _ b _ => s.length + 1 - (intOf b).toNat)
      case atStart =>
        refine ⟨[], 1, 1, rfl, rfl, World.ownsRow_nil _ _ _ _, ?_, by omega, fun j hj h1 h2 => by omega, by omega, by simp, by simp, Kept.refl _ _⟩
        unfold restL
        rw [if_pos (by omega), List.drop_one]
        rfl
      case round =>
        obtain ⟨ps, f, i, rfl, rfl, HR⟩ := hrel
        obtain ⟨hf1, hfi, hin⟩ := HR.out.fi
        by_cases hlt : i ≤ s.length
        · have hlt' : (i : Int) ≤ ((strL s).size : Int) := by rw [HSZ.out]; omega
          by_cases hst : i = s.length ∨ ∃ hj : i < s.length, s[i] = 47
          · have hsl := extract_piece s f i
            have hpl : (strL ((s.take i).drop f)).size ≤ 9223372036854775807 := by rw [strL_size]; simp; omega
            obtain ⟨P, hP⟩ : ∃ P, (s.take i).drop f = P := ⟨_, rfl⟩
            have hsl1 : (f : Int) ≤ (i : Int) := by omega
            rw [hP] at hsl hpl
            cases hn : nameB P
            · have HB := Lib.hid (HR.out.bad hlt hst H3.out (by rw [hP]; exact hn))
              have HN := Lib.hid hn
              clear hn hP
              by_cases hie : i = s.length
              · have hie2 : i = (strL s).size := by rw [HSZ.out]; exact hie
                subst hie2
                clear hst hie
                go_wp2_with fail
                refine (rname_any (strL P) _ hpl).mono ?_
                rw [strL_toList, HN.out]
                rintro e w' ⟨rfl, rfl⟩
                go_wp2_with fail
                go_ret2
                exact ⟨HR.out.kept, .inl ⟨HB.out, rfl⟩⟩
              · have q1 : ((i : Int) == ((strL s).size : Int)) = false := by rw [HSZ.out]; simp; omega
                have hil : i < s.length := by omega
                have hix := run_index_str s i hil wr
                have hc : s[i] = 47 := by
                  rcases hst with h | ⟨_, h⟩
                  · omega
                  · exact h
                rw [hc] at hix
                clear hst hc
                go_wp2_with fail
                refine (rname_any (strL P) _ hpl).mono ?_
                rw [strL_toList, HN.out]
                rintro e w' ⟨rfl, rfl⟩
                go_wp2_with fail
                go_ret2
                exact ⟨HR.out.kept, .inl ⟨HB.out, rfl⟩⟩
            · obtain ⟨v', w7, hrun, hst7⟩ := HR.out.next hlt hst h2 (by rw [hP]; exact hn)
              rw [hP] at hrun hst7
              have HN := Lib.hid hn
              have HRUN := Lib.hid hrun
              have H7 := Lib.hid hst7
              clear hn hP hrun hst7
              by_cases hie : i = s.length
              · have hie2 : i = (strL s).size := by rw [HSZ.out]; exact hie
                subst hie2
                clear hst hie
                go_wp2_with fail
                refine (rname_any (strL P) _ hpl).mono ?_
                rw [strL_toList, HN.out]
                rintro e w' ⟨rfl, rfl⟩
                go_wp2_with (refine wpList_append_run rfl _ _ 60 rfl _ _ _ rfl rfl HRUN.out ?_)
                go_roundw
                case rel => exact ⟨_, (strL s).size + 1, (strL s).size + 1, by go_num, by go_num, H7⟩
                case measure => simp [intOf]; omega
              · have q1 : ((i : Int) == ((strL s).size : Int)) = false := by rw [HSZ.out]; simp; omega
                have hil : i < s.length := by omega
                have hix := run_index_str s i hil wr
                have hc : s[i] = 47 := by
                  rcases hst with h | ⟨_, h⟩
                  · omega
                  · exact h
                rw [hc] at hix
                clear hst hc
                go_wp2_with fail
                refine (rname_any (strL P) _ hpl).mono ?_
                rw [strL_toList, HN.out]
                rintro e w' ⟨rfl, rfl⟩
                go_wp2_with (refine wpList_append_run rfl _ _ 60 rfl _ _ _ rfl rfl HRUN.out ?_)
                go_roundw
                case rel => exact ⟨_, i + 1, i + 1, by go_num, by go_num, H7⟩
                case measure => simp [intOf]; omega
          · have hil : i < s.length := by omega
            have q1 : ((i : Int) == ((strL s).size : Int)) = false := by rw [HSZ.out]; simp; omega
            have hix := run_index_str s i hil wr
            obtain ⟨c, hc⟩ : ∃ c : Int, (s[i].toNat : Int) = c := ⟨_, rfl⟩
            rw [hc] at hix
            have hne : s[i] ≠ 47 := fun e => hst (.inr ⟨hil, e⟩)
            have hcn : (c == 47) = false := by
              rw [← hc]
              simp
              intro e
              apply hne
              apply UInt8.toNat_inj.1
              exact_mod_cast e
            have H7 : Hid (RpSt w s ps f (i + 1) u4 wr) := by
              have R := HR.out
              exact ⟨R.own, R.cut, by omega, fun j hj h1 h2 => by
                by_cases e : j = i
                · subst e; exact hne
                · exact R.free j hj h1 (by omega), by omega, R.name, by have := R.few; omega, R.kept⟩
            clear hst hc hne HR
            go_wp2_with fail
            go_roundw
            case rel => exact ⟨_, f, i + 1, rfl, by go_num, H7⟩
            case measure => simp [intOf]; omega
        · have hlt' : ¬ (i : Int) ≤ ((strL s).size : Int) := by rw [HSZ.out]; omega
          have hfe : f = s.length + 1 := by rcases HR.out.done with h | h <;> omega
          have hcut : cutL s.tail = ps := by
            rw [HR.out.cut]
            unfold restL
            rw [if_neg (by omega), List.append_nil]
          have HC := Lib.hid hcut
          have hsi := HR.out.strs
          have HSI := Lib.hid hsi
          have hvl : ∃ ao cap, u4 = .slice ao ps.length cap := by
            rcases hsi with ⟨b, o, cap, rfl, _⟩ | ⟨rfl, rfl⟩
            · exact ⟨_, _, rfl⟩
            · exact ⟨_, _, rfl⟩
          obtain ⟨ao, cap, rfl⟩ := hvl
          have hpl : ps.length ≤ 121 := by have := HR.out.few; omega
          clear hcut hsi hfe
          by_cases h8 : ps.length ≤ 8
          · go_wp2_with fail
            go_ret2
            refine ⟨HR.out.kept, .inr ⟨ps, _, ?_, rfl, HSI.out⟩⟩
            rw [← HC.out]
            refine pathO_yes H3.out ⟨h2, HH.out, by rw [HC.out]; exact h8, ?_⟩
            rw [HC.out, List.all_eq_true]
            exact HR.out.name
          · go_wp2_with fail
            go_ret2
            refine ⟨HR.out.kept, .inl ⟨pathO_no H3.out fun h => ?_, rfl⟩⟩
            rw [HC.out] at h
            omega

end Go.Proofs.YthpfnkanilfohaaDoor

/-
  Layer 5: the document's Split.
  Conditions: those that each theorem states.
-/
import Derived.Test.YtdaofgmdledcbaaDoorTSplit
namespace Go.Proofs.YtdaofgmdledcbaaDoor
open Go.RowKit Go.Maps

/-- A row of texts of the call's own. -/
def OwnS (base : Nat) (w : World) (v : Value) (l : List (List UInt8)) : Prop := w.ownsRow base 9 1 v l.length (sv l)
theorem OwnS.kept {base : Nat} {w w' : World} {v : Value} {l : List (List UInt8)} (h : OwnS base w v l) {ex : List Nat} (hk : Kept ex w w') (hne : ∀ k, v.ownBlock = some k → k ∉ ex) : OwnS base w' v l := owns_kept h hk hne
/-- A text that lies in a new block is appended. -/
theorem OwnS.app {base : Nat} {w : World} {v : Value} {l : List (List UInt8)} (h : OwnS base w v l) (hb : base ≤ w.heap.size) (p : List UInt8) (hl : (l.length + 1) * 16 ≤ 140737488355328) :
    ∃ v' w', (Builtin.append_ #[32, 32] 32 #[v, .slice (some ⟨w.heap.size, 0, none⟩) 1 1]).run Tryd.prog (w.alloc (.cells #[.string (strL p)] 9)) = .ok v' w' ∧ OwnS base w' v' (l ++ [p]) ∧ Kept v.ownBlock.toList w w' := by
  have hs0 : base ≤ (w.alloc (.cells #[.string (strL p)] 9)).heap.size := by rw [size_alloc]; omega
  obtain ⟨v', w', hrun, ho, hk, hor⟩ := own_app elemStr 32 (w.alloc (.cells #[.string (strL p)] 9)) base v l.length (sv l) (World.ownsRow.alloc h _) ⟨w.heap.size, 0, none⟩ 1 1 (sv [p]) rfl
    (fun j u hu => by
      rw [Addr.add_mid, Nat.zero_add, cell_of_row _ _ j _ _ _ (heap_alloc_last w _)]
      simpa [sv] using hu) (sv_one _) (by unfold maxLen; omega) hl hs0
  refine ⟨v', w', hrun, ?_, ((Kept.alloc [] w _).mono (by simp)).trans hk⟩
  unfold OwnS
  rw [List.length_append, show sv (l ++ [p]) = sv l ++ sv [p] by simp [sv]]
  exact ho
theorem OwnS.blk {base : Nat} {w : World} {v : Value} {l : List (List UInt8)} (h : OwnS base w v l) : ∀ q, v.ownBlock = some q → base ≤ q ∧ q < w.heap.size := World.ownsRow.lt h
theorem OwnS.cells {base : Nat} {w : World} {v : Value} {l : List (List UInt8)} (h : OwnS base w v l) (h1 : l.length * 16 ≤ 140737488355328) (h2 : ∀ x ∈ l, x.length ≤ 140737488355328) : CellsIs w v l := by
  rcases owns_range h with ⟨g, cap, rfl, _, hg, hc, hm, hr⟩ | ⟨rfl, hn, _⟩
  · exact ⟨⟨_, _, rfl, hc, by unfold maxLen at hm; omega, fun e => (by cases e), .inr ⟨g, 0, rfl, hg, hr⟩⟩, h1, h2⟩
  · have : l = [] := List.eq_nil_of_length_eq_zero hn
    subst this
    exact CellsIs.nil w

/-- The pieces that ended ahead of place i, and where the next one begins. -/
def cutTo (c : UInt8) (l : List UInt8) : Nat → List (List UInt8) × Nat
  | 0 => ([], 0)
  | i + 1 => if l[i]? = some c then ((cutTo c l i).1 ++ [(l.take i).drop (cutTo c l i).2], i + 1) else cutTo c l i
theorem cutTo_le (c : UInt8) (l : List UInt8) : ∀ i, (cutTo c l i).2 ≤ i
  | 0 => Nat.le_refl _
  | i + 1 => by
    rw [cutTo]
    split
    · exact Nat.le_refl _
    · have := cutTo_le c l i; omega
theorem cutTo_len (c : UInt8) (l : List UInt8) : ∀ i, (cutTo c l i).1.length ≤ i
  | 0 => Nat.le_refl _
  | i + 1 => by
    rw [cutTo]
    split
    · have := cutTo_len c l i; simp; omega
    · have := cutTo_len c l i; omega
theorem cutTo_free (c : UInt8) (l : List UInt8) : ∀ i, i ≤ l.length → ∀ j, (cutTo c l i).2 ≤ j → j < i → l[j]? ≠ some c
  | 0, _, j, _, h => by omega
  | i + 1, hi, j, h1, h2 => by
    rw [cutTo] at h1
    split at h1
    · simp at h1; omega
    · rename_i hne
      by_cases e : j = i
      · subst e; exact hne
      · exact cutTo_free c l i (by omega) j h1 (by omega)
/-- The pieces, when all is gone through. -/
theorem cutTo_cut (c : UInt8) (l : List UInt8) : ∀ i, i ≤ l.length → cutC c l = (cutTo c l i).1 ++ cutC c (l.drop (cutTo c l i).2)
  | 0, _ => by simp [cutTo]
  | i + 1, hi => by
    have ih := cutTo_cut c l i (by omega)
    have hle := cutTo_le c l i
    have hfr := cutTo_free c l i (by omega)
    rw [cutTo]
    split
    · rename_i he
      rw [ih]
      obtain ⟨s, hs⟩ : ∃ s, (cutTo c l i).2 = s := ⟨_, rfl⟩
      rw [hs] at hle hfr ⊢
      have hsp : l.drop s = (l.take i).drop s ++ c :: l.drop (i + 1) := by
        obtain ⟨hlt, hge⟩ := List.getElem?_eq_some_iff.1 he
        conv => lhs; rw [← List.take_append_drop i l, List.drop_append_of_le_length (by rw [List.length_take]; omega), List.drop_eq_getElem_cons hlt, hge]
      rw [hsp, cutC_hit]
      · simp
      · intro x hx
        obtain ⟨j, hj, rfl⟩ := List.getElem_of_mem hx
        rw [List.length_drop, List.length_take] at hj
        rw [List.getElem_drop, List.getElem_take]
        have := hfr (s + j) (by omega) (by omega)
        intro e
        exact this (by rw [List.getElem?_eq_getElem (by omega), e])
    · exact ih
theorem cutTo_end (c : UInt8) (l : List UInt8) : cutC c l = (cutTo c l l.length).1 ++ [l.drop (cutTo c l l.length).2] := by
  rw [cutTo_cut c l l.length (Nat.le_refl _), cutC_miss]
  intro x hx
  obtain ⟨j, hj, rfl⟩ := List.getElem_of_mem hx
  rw [List.length_drop] at hj
  rw [List.getElem_drop]
  have := cutTo_free c l l.length (Nat.le_refl _) ((cutTo c l l.length).2 + j) (by omega) (by omega)
  intro e
  exact this (by rw [List.getElem?_eq_getElem (by omega), e])
theorem extract_mid (l : List UInt8) (s i : Nat) : (strL l).extract s i = strL ((l.take i).drop s) := by
  apply ByteArray.ext
  apply Array.toList_inj.1
  rw [Lib.extract_data]
  simp [strL, List.drop_take]

structure RsSt (w : World) (c : UInt8) (l : List UInt8) (k : Nat) (v : Value) (wr : World) : Prop where
  own : OwnS w.heap.size wr v (cutTo c l k).1
  kept : Kept [] w wr

set_option maxRecDepth 100000 in
set_option maxHeartbeats 4000000 in
theorem rsplitS_any (S : ByteArray) (c : UInt8) (w : World) (hs : S.size ≤ 1000000000) :
    Calls Tryd.prog 32 #[.string S, .int .u8 (c.toNat : Int)] w fun e w' => ∃ v, e = .returned v ∧ Hid (OwnS w.heap.size w' v (cutC c S.data.toList) ∧ Kept [] w w') := by
  have HSL := Lib.hid (size_toList S)
  obtain ⟨l, hl⟩ : ∃ l, S.data.toList = l := ⟨_, rfl⟩
  have hSl : S = strL l := by rw [← hl]; exact (strL_of S).symm
  have HLN : Hid (l.length = S.size) := by show _ = _; rw [← hl]; exact HSL.out
  have HX : Hid (∀ s i, S.extract s i = strL ((l.take i).drop s)) := fun s i => by rw [hSl]; exact extract_mid l s i
  have HGT : Hid (∀ i (h : i < S.size), l[i]? = some S[i]) := fun i h => by
    rw [← hl, List.getElem?_eq_getElem (by rw [size_toList]; exact h)]
    rw [get_toList S i h]
  have HLL := Lib.hid hl
  clear hl hSl
  go_enter Tryd.func32, Tryd.ntmps32
  go_wp2_with fail
  go_loopw [5, 6, 7] (fun v f i wr => ∃ (k s : Nat), k ≤ S.size ∧ s ≤ k ∧ i = .int .i64 k ∧ f = .int .i64 s ∧ Hid ((cutTo c l k).2 = s) ∧ Hid (RsSt w c l k v wr)) (fun _ _ i _ => S.size - (intOf i).toNat)
  case atStart => exact ⟨0, 0, by omega, by omega, rfl, rfl, rfl, ⟨World.ownsRow_nil _ _ _ _, Kept.refl _ _⟩⟩
  case round =>
    obtain ⟨k, s, hk, hsk, rfl, rfl, HC, HS⟩ := hrel
    by_cases hlt : k < S.size
    · have hgk := HGT.out k hlt
      by_cases hc : S[k] = c
      · have q1 : (((S[k]).toNat : Int) == (c.toNat : Int)) = true := by rw [hc]; simp
        have hct : cutTo c l (k + 1) = ((cutTo c l k).1 ++ [(l.take k).drop s], k + 1) := by rw [cutTo, if_pos (by rw [hgk, hc]), HC.out]
        have hx := HX.out s k
        obtain ⟨v1, w1, hrun, ho1, hk1⟩ := HS.out.own.app HS.out.kept.size ((l.take k).drop s) (by have := cutTo_len c l k; omega)
        have HR := Lib.hid hrun
        have HS1 : Hid (RsSt w c l (k + 1) v1 w1) := ⟨by rw [hct]; exact ho1, HS.out.kept.into hk1 fun q hq => (HS.out.own.blk q (by simpa using hq)).1⟩
        have HC1 : Hid ((cutTo c l (k + 1)).2 = k + 1) := by show _ = _; rw [hct]
        clear hrun ho1 hk1 hct hc hgk
        have hsI : (s : Int) ≤ (k : Int) := by omega
        have hkS : (k : Int) ≤ (S.size : Int) := by omega
        go_wp2_with (at_builtin; refine wpList_append_run rfl _ _ 32 rfl _ _ _ rfl rfl HR.out ?_)
        go_roundw
        case rel => exact ⟨k + 1, k + 1, by omega, by omega, by go_num, by go_num, HC1, HS1⟩
        case measure => simp [intOf]; omega
      · have q1 : (((S[k]).toNat : Int) == (c.toNat : Int)) = false := by
          simp
          intro h
          exact hc (UInt8.toNat_inj.1 (by omega))
        have hct : cutTo c l (k + 1) = cutTo c l k := by rw [cutTo, if_neg (by rw [hgk]; simpa using hc)]
        have HS1 : Hid (RsSt w c l (k + 1) u5 wr) := ⟨by rw [hct]; exact HS.out.own, HS.out.kept⟩
        have HC1 : Hid ((cutTo c l (k + 1)).2 = s) := by show _ = _; rw [hct]; exact HC.out
        clear hct hc hgk
        go_wp2_with fail
        go_roundw
        case rel => exact ⟨k + 1, s, by omega, by omega, by go_num, rfl, HC1, HS1⟩
        case measure => simp [intOf]; omega
    · have hkl : k = l.length := by rw [HLN.out]; omega
      have hend := cutTo_end c l
      rw [← hkl, HC.out] at hend
      have hx := HX.out s S.size
      rw [List.take_of_length_le (by rw [HLN.out]; exact Nat.le_refl _)] at hx
      obtain ⟨v1, w1, hrun, ho1, hk1⟩ := HS.out.own.app HS.out.kept.size (l.drop s) (by have := cutTo_len c l k; omega)
      have HR := Lib.hid hrun
      have HF : Hid (OwnS w.heap.size w1 v1 (cutC c l) ∧ Kept [] w w1) := ⟨by rw [hend]; exact ho1, HS.out.kept.into hk1 fun q hq => (HS.out.own.blk q (by simpa using hq)).1⟩
      clear hrun ho1 hk1 hend hkl
      have hsI : (s : Int) ≤ (S.size : Int) := by omega
      go_wp2_with (at_builtin; refine wpList_append_run rfl _ _ 32 rfl _ _ _ rfl rfl HR.out ?_)
      go_ret
      exact ⟨_, rfl, by rw [HLL.out]; exact HF.out⟩
end Go.Proofs.YtdaofgmdledcbaaDoor

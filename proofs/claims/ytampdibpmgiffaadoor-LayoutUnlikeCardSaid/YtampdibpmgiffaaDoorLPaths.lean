/-
  LayoutPaths, walked: paths and names are told from other texts as the document says; and a path is its names, a stroke ahead of each.
  Conditions: none.
-/
import Derived.Test.YtampdibpmgiffaaDoorLShown
import Derived.Laws.Concat
namespace Go.Proofs.YtampdibpmgiffaaDoor
open Go.RowKit Go.Maps

/-- Names, a stroke ahead of each. -/
def joinL (ps : List (List UInt8)) : List UInt8 := ps.flatMap fun p => 47 :: p
theorem joinL_snoc (ps : List (List UInt8)) (k : Nat) (h : k < ps.length) : joinL (ps.take (k + 1)) = joinL (ps.take k) ++ 47 :: ps[k] := by
  unfold joinL
  rw [List.take_succ_eq_append_getElem h, List.flatMap_append]
  simp
theorem joinL_cut : ∀ l : List UInt8, joinL (cutL l) = 47 :: l
  | [] => rfl
  | c :: l => by
    have ih := joinL_cut l
    rw [cutL]
    split
    · rename_i h
      subst h
      rw [show joinL ([] :: cutL l) = 47 :: joinL (cutL l) from rfl, ih]
    · split
      · rename_i h
        rw [h] at ih
        simp [joinL] at ih
      · rename_i p ps h
        rw [h] at ih
        simp [joinL] at ih ⊢
        exact ih
theorem pathO_join {s : List UInt8} {ps : List (List UInt8)} (h : pathO s = some ps) : (s ≠ [47] → joinL ps = s) ∧ (s = [47] → ps = []) := by
  unfold pathO at h
  split at h
  · rename_i e
    injection h with h
    exact ⟨fun hn => absurd e hn, fun _ => h.symm⟩
  · rename_i e
    split at h
    · rename_i g
      injection h with h
      refine ⟨fun _ => ?_, fun hn => absurd hn e⟩
      rw [← h, joinL_cut]
      match s, g with
      | c :: l, g => simp at g; simp [g.2.1]
    · cases h
theorem pathO_small {s : List UInt8} {ps : List (List UInt8)} (h : pathO s = some ps) : s.length ≤ 120 ∧ ps.length ≤ 8 ∧ ∀ x ∈ ps, nameB x = true := by
  unfold pathO at h
  split at h
  · rename_i e
    injection h with h
    subst e
    subst h
    simp
  · split at h
    · rename_i g
      injection h with h
      rw [h] at g
      exact ⟨g.1, g.2.2.1, List.all_eq_true.1 g.2.2.2⟩
    · cases h
theorem cat_str (a b c : List UInt8) : strL a ++ strL b ++ strL c = strL (a ++ b ++ c) := by
  apply ByteArray.ext
  simp [strL]

theorem StrsIs.val {w : World} {v : Value} {l : List (List UInt8)} (h : StrsIs w v l) : ∃ ao cap, v = .slice ao l.length cap ∧ (0 < l.length → ∃ b o, ao = some ⟨b, o, none⟩ ∧ b < w.heap.size ∧ w.rangeAt b o (sv l)) := by
  rcases h with ⟨b, o, cap, rfl, hb, hr⟩ | ⟨rfl, rfl⟩
  · exact ⟨_, _, rfl, fun _ => ⟨b, o, rfl, hb, hr⟩⟩
  · exact ⟨none, 0, rfl, fun h => by simp at h⟩

set_option maxRecDepth 100000 in
set_option maxHeartbeats 4000000 in
theorem paths_walk (s : List UInt8) (w : World) (hs : s.length ≤ 9223372036854775807) : Calls Tryd.prog 7 #[.string (strL s)] w fun e w' => e = .returned (.bool true) ∧ Kept [] w w' := by
  have hsz : (strL s).size ≤ 9223372036854775807 := by rw [strL_size]; exact hs
  obtain ⟨nb, hnb⟩ : ∃ nb, nameB s = nb := ⟨_, rfl⟩
  have HNB := Lib.hid hnb
  clear hnb
  cases hp : pathO s with
  | none =>
    have HP := Lib.hid hp
    clear hp
    go_enter Tryd.func7, Tryd.ntmps7
    go_wp2_with fail
    refine (shown3_any _).mono ?_
    rintro e w1 ⟨rfl, hk1⟩
    have HK1 := Lib.hid hk1
    clear hk1
    go_wp2_with fail
    refine (path_any s _ hs).mono ?_
    rintro e w2 ⟨hk2, hd⟩
    obtain rfl : e = .returned (.tuple #[.slice none 0 0, .int .i64 40]) := by
      rcases hd with ⟨_, h⟩ | ⟨ps, v, h, _⟩
      · exact h
      · rw [HP.out] at h; cases h
    have HK2 := Lib.hid (HK1.out.trans hk2)
    clear hk2 hd HK1
    go_wp2_with fail
    refine (rpath_any s _ hs).mono ?_
    rintro e w3 ⟨hk3, hd⟩
    obtain rfl : e = .returned (.tuple #[.slice none 0 0, .int .i64 40]) := by
      rcases hd with ⟨_, h⟩ | ⟨ps, v, h, _⟩
      · exact h
      · rw [HP.out] at h; cases h
    have HK3 := Lib.hid (HK2.out.trans hk3)
    clear hk3 hd HK2
    go_wp2_with fail
    refine (name_any (strL s) _ hsz).mono ?_
    rw [strL_toList, HNB.out]
    rintro e w4 ⟨rfl, rfl⟩
    go_wp2_with fail
    refine (rname_any (strL s) _ hsz).mono ?_
    rw [strL_toList, HNB.out]
    rintro e w4 ⟨rfl, rfl⟩
    go_wp2_with fail
    refine wp_loop_rounds 1 ?_
    rw [rounds_succ]
    go_wp2_with fail
    go_ret
    exact ⟨rfl, HK3.out⟩
  | some ps =>
    have HP := Lib.hid hp
    obtain ⟨h120, h8, hnm⟩ := pathO_small hp
    have HNM := Lib.hid hnm
    clear hp hnm
    go_enter Tryd.func7, Tryd.ntmps7
    go_wp2_with fail
    refine (shown3_any _).mono ?_
    rintro e w1 ⟨rfl, hk1⟩
    have HK1 := Lib.hid hk1
    clear hk1
    go_wp2_with fail
    refine (path_any s _ hs).mono ?_
    rintro e w2 ⟨hk2, hd⟩
    obtain ⟨v, rfl, hs2⟩ : ∃ v, e = .returned (.tuple #[v, .int .i64 0]) ∧ StrsIs w2 v ps := by
      rcases hd with ⟨h, _⟩ | ⟨ps', v, h, he, hs⟩
      · rw [HP.out] at h; cases h
      · rw [HP.out] at h
        injection h with h
        subst h
        exact ⟨v, he, hs⟩
    have HK2 := Lib.hid (HK1.out.trans hk2)
    have HS2 := Lib.hid hs2
    clear hk2 hd HK1 hs2
    go_wp2_with fail
    refine (rpath_any s _ hs).mono ?_
    rintro e w3 ⟨hk3, hd⟩
    obtain ⟨v2, rfl, hs3⟩ : ∃ v, e = .returned (.tuple #[v, .int .i64 0]) ∧ StrsIs w3 v ps := by
      rcases hd with ⟨h, _⟩ | ⟨ps', v, h, he, hs⟩
      · rw [HP.out] at h; cases h
      · rw [HP.out] at h
        injection h with h
        subst h
        exact ⟨v, he, hs⟩
    obtain ⟨ao, cap, rfl, ha⟩ := (HS2.out.kept hk3).val
    obtain ⟨bo, cap2, rfl, hb⟩ := hs3.val
    have HA := Lib.hid ha
    have HB := Lib.hid hb
    have HK3 := Lib.hid (HK2.out.trans hk3)
    clear hk3 hd HK2 HS2 hs3 ha hb
    go_wp2_with fail
    refine (name_any (strL s) _ hsz).mono ?_
    rw [strL_toList, HNB.out]
    rintro e w4 ⟨rfl, rfl⟩
    go_wp2_with fail
    refine (rname_any (strL s) _ hsz).mono ?_
    rw [strL_toList, HNB.out]
    rintro e w4 ⟨rfl, rfl⟩
    go_wp2_with fail
    go_loopw [8, 9] (fun j i wr => ∃ (k : Nat) (J : List UInt8), k ≤ ps.length ∧ i = .int .i64 k ∧ j = .string (strL J) ∧ Hid (joinL (ps.take k) = J ∧ Drawn w3 wr) ∧ (strL J).size ≤ 29 * k) (fun _ i _ => ps.length - (intOf i).toNat)
    case atStart => exact ⟨0, [], by omega, rfl, rfl, ⟨rfl, 0, rfl⟩, by rw [strL_size]; simp⟩
    case round =>
      obtain ⟨k, J, hk, rfl, rfl, HD, hJl⟩ := hrel
      by_cases hlt : k < ps.length
      · obtain ⟨b, o, rfl, hb, hr⟩ := HA.out (by omega)
        obtain ⟨b2, o2, rfl, hb2, hr2⟩ := HB.out (by omega)
        obtain ⟨p, hp⟩ : ∃ p, ps[k] = p := ⟨_, rfl⟩
        have hkd : Kept [] w3 wr.drew := HD.out.2.kept.trans (Kept.drew _ _)
        have ca : ∀ w', Kept [] wr.drew w' → w'.cell? ⟨b, o + k, none⟩ = some (.string (strL p)) := fun w' hk => (hkd.trans hk).range hb (by simp) hr k _ (by simp [sv, hlt, hp])
        have cb : ∀ w', Kept [] wr.drew w' → w'.cell? ⟨b2, o2 + k, none⟩ = some (.string (strL p)) := fun w' hk => (hkd.trans hk).range hb2 (by simp) hr2 k _ (by simp [sv, hlt, hp])
        have cc : wr.cell? ⟨b, o + k, none⟩ = some (.string (strL p)) := HD.out.2.kept.range hb (by simp) hr k _ (by simp [sv, hlt, hp])
        have hnp : nameB p = true := HNM.out p (by rw [← hp]; exact List.getElem_mem hlt)
        have hpl : p.length ≤ 28 := by
          simp [nameB] at hnp
          omega
        have hpz : (strL p).size ≤ 9223372036854775807 := by rw [strL_size]; omega
        have hpz2 : (strL p).size ≤ 28 := by rw [strL_size]; omega
        have HNP := Lib.hid hnp
        have HJ2 : Hid (joinL (ps.take (k + 1)) = J ++ [47] ++ p ∧ (strL (J ++ [47] ++ p)).size ≤ 29 * (k + 1)) := ⟨by rw [joinL_snoc ps k hlt, HD.out.1, hp]; simp, by rw [strL_size] at hJl ⊢; simp; omega⟩
        clear hnp hp hr hr2 hkd
        have j1 : ¬ 9223372036854775807 < (strL J).size + 1 := by omega
        have j2 : ¬ 9223372036854775807 < (strL J).size + 1 + (strL p).size := by omega
        go_wp2_with fail
        refine wp_region_ord [(true, 0), (true, 1), (true, 2), (true, 3), (true, 4), (true, 5), (true, 6), (true, 7), (true, 8), (true, 9), (true, 10), (true, 11), (true, 12), (true, 13), (false, 14), (true, 15), (true, 16)] [] (by kernel_rfl) (fun _ _ d _ _ h => by cases d <;> exact h) (by kernel_rfl) rfl (by kernel_rfl) (by kernel_rfl) ?_
        simp only [named, List.getD_cons_zero, List.getD_cons_succ]
        repeat (first | (apply wpGrow_take; (case hw => rfl); (case hv => intro w' hk; go_simp; with_reducible rfl); simp only [Act.put, List.setIfInBounds_toArray, List.set_cons_zero, List.set_cons_succ]) | (refine wpGrow_pass (by rfl) ?_; simp only [Act.put, List.setIfInBounds_toArray, List.set_cons_zero, List.set_cons_succ]))
        refine wpGrow_force (by rfl) (fun K hK => ?_)
        go_simp
        refine (name_any (strL p) _ hpz).mono ?_
        rw [strL_toList, HNP.out]
        rintro e w5 ⟨rfl, rfl⟩
        refine hK _ _ (Kept.refl _ _) ?_
        clear hK K
        repeat (first | (apply wpGrow_take; (case hw => rfl); (case hv => intro w' hk; go_simp; with_reducible rfl); simp only [Act.put, List.setIfInBounds_toArray, List.set_cons_zero, List.set_cons_succ]) | (refine wpGrow_pass (by rfl) ?_; simp only [Act.put, List.setIfInBounds_toArray, List.set_cons_zero, List.set_cons_succ]))
        refine wpGrow_nil ?_
        clear ca cb
        go_wp2_with fail
        go_roundw
        case rel => exact ⟨k + 1, J ++ [47] ++ p, by omega, by go_num, congrArg Value.string (cat_str J [47] p), ⟨HJ2.out.1, HD.out.2.more 1⟩, HJ2.out.2⟩
        case measure => simp [intOf]; omega
      · have hkk : k = ps.length := by omega
        have hJ : joinL ps = J := by have := HD.out.1; rwa [hkk, List.take_length] at this
        have hkk2 : Hid (ps.length = k) := by show _ = _; omega
        clear hkk
        by_cases h47 : s = [47]
        · have hp0 := (pathO_join HP.out).2 h47
          have hJ0 : J = [] := by rw [← hJ, hp0]; rfl
          have e1 : ((strL s).toList == [47]) = true := by rw [Lib.toList_data, strL_toList, h47]; rfl
          have e0 : ((strL J).toList == (strL s).toList) = false := by rw [Lib.toList_data, Lib.toList_data, strL_toList, strL_toList, hJ0, h47]; rfl
          have e4 : (strL J).toList.isEmpty = true := by rw [Lib.toList_data, strL_toList, hJ0]; rfl
          clear h47 hJ hJ0 hp0
          go_wp2_with fail
          all_goals
            first
              | (go_ret; exact ⟨rfl, HK3.out.trans HD.out.2.kept⟩)
              | (go_ret; refine ⟨retB ?_, HK3.out.trans HD.out.2.kept⟩; simp [e4]; done)
        · have hj := (pathO_join HP.out).1 h47
          have e0 : J = s := by rw [← hJ, hj]
          subst e0
          clear hJ hj h47
          go_wp2_with fail
          all_goals
            go_ret
            exact ⟨rfl, HK3.out.trans HD.out.2.kept⟩
end Go.Proofs.YtampdibpmgiffaaDoor

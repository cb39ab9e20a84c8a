/-
  LayoutNames, walked: a path's names are names, and a path of names is a path, as long as it is neither too long nor too deep.
  Conditions: those of the theorem.
-/
import Derived.Test.YtampdibpmgiffaaDoorLPaths
namespace Go.Proofs.YtampdibpmgiffaaDoor
open Go.RowKit Go.Maps

/-- An argument of type []string. -/
def StrsA (w : World) (ao : Option Addr) (len : Nat) (ps : List (List UInt8)) : Prop :=
  ps.length = len ∧ len ≤ 9223372036854775807 ∧ (len = 0 ∨ ∃ b o, ao = some ⟨b, o, none⟩ ∧ b < w.heap.size ∧ w.rangeAt b o (sv ps)) ∧ ∀ p ∈ ps, p.length ≤ 140737488355328

theorem name_free {p : List UInt8} (h : nameB p = true) : ∀ c ∈ p, c ≠ 47 := by
  intro c hc e
  subst e
  simp only [nameB, Bool.and_eq_true, List.all_eq_true] at h
  have := h.2.1 47 hc
  revert this
  decide
theorem cut_join : ∀ (p : List UInt8) (ps : List (List UInt8)), nameB p = true → (∀ x ∈ ps, nameB x = true) → cutL (p ++ joinL ps) = p :: ps
  | p, [], hp, _ => by rw [show joinL [] = [] from rfl, List.append_nil]; exact cutL_miss p (name_free hp)
  | p, q :: ps, hp, h => by
    rw [show joinL (q :: ps) = 47 :: (q ++ joinL ps) by simp [joinL], cutL_hit _ _ (name_free hp), cut_join q ps (h q (by simp)) fun x hx => h x (by simp [hx])]
theorem path_of_names {ps : List (List UInt8)} (h0 : 0 < ps.length) (h8 : ps.length ≤ 8) (hn : ps.all nameB = true) (hl : (joinL ps).length ≤ 120) : pathO (joinL ps) = some ps := by
  match ps, h0 with
  | p :: rest, _ =>
    rw [List.all_eq_true] at hn
    have hp := hn p (by simp)
    have hj : joinL (p :: rest) = 47 :: (p ++ joinL rest) := by simp [joinL]
    have hc : cutL (p ++ joinL rest) = p :: rest := cut_join p rest hp fun x hx => hn x (by simp [hx])
    have hp1 : 1 ≤ p.length := by
      simp only [nameB, Bool.and_eq_true, decide_eq_true_eq] at hp
      exact hp.1.1
    have := pathO_yes (s := joinL (p :: rest)) (fun e => by
      rw [hj] at e
      have := congrArg List.length e
      simp at this
      have h := this.1
      rw [h] at hp1
      simp at hp1) ⟨hl, by rw [hj]; rfl, by rw [hj]; show (cutL (p ++ joinL rest)).length ≤ 8; rw [hc]; exact h8, by rw [hj]; show (cutL (p ++ joinL rest)).all nameB = true; rw [hc, List.all_eq_true]; exact hn⟩
    rw [this, hj]
    show some (cutL (p ++ joinL rest)) = _
    rw [hc]

def okB (len : Nat) (ps : List (List UInt8)) : Bool := decide (0 < len ∧ len ≤ 8) && ps.all nameB

set_option maxRecDepth 100000 in
set_option maxHeartbeats 4000000 in
theorem names_walk (ao : Option Addr) (len cap : Nat) (ps : List (List UInt8)) (w : World) (hl : StrsA w ao len ps) : Calls Tryd.prog 9 #[.slice ao len cap] w fun e w' => e = .returned (.bool true) ∧ Kept [] w w' := by
  obtain ⟨hpl, hlen, hcell, hsize⟩ := hl
  have HPL := Lib.hid hpl
  have HC := Lib.hid hcell
  have HSZ := Lib.hid hsize
  clear hpl hcell hsize
  obtain ⟨B0, hB0⟩ : ∃ B0, decide (0 < len ∧ len ≤ 8) = B0 := ⟨_, rfl⟩
  go_enter Tryd.func9, Tryd.ntmps9
  go_wp2_with fail
  refine (shown3_any _).mono ?_
  rintro e w1 ⟨rfl, hk1⟩
  have HK1 := Lib.hid hk1
  clear hk1
  have hstart : ∀ K : Value → Prop, (∀ b, K (.bool b)) → True := fun _ _ => trivial
  clear hstart
  by_cases hlen0 : 0 < len
  · by_cases hlen8 : len ≤ 8
    · have HB0 : Hid (B0 = true) := by show _ = _; rw [← hB0, decide_eq_true_iff]; omega
      clear hB0
      go_wp2_with fail
      go_loop [4, 5, 6] (fun j b i => ∃ (k : Nat) (J : List UInt8) (B : Bool), k ≤ len ∧ k ≤ 12 ∧ i = .int .i64 k ∧ j = .string (strL J) ∧ b = .bool B ∧ Hid (joinL (ps.take k) = J ∧ B = (true && (ps.take k).all nameB)) ∧ (strL J).size ≤ 140737488355329 * k) (fun _ _ i => 12 - (intOf i).toNat)
      case atStart => exact ⟨0, [], true, by omega, by omega, rfl, rfl, congrArg Value.bool (by simp; omega), ⟨rfl, by simp⟩, by rw [strL_size]; simp⟩
      case round =>
        obtain ⟨k, J, B, hkl, hk12, rfl, rfl, rfl, HD, hJl⟩ := hrel
        by_cases hlt : k < len
        · by_cases h12 : k < 12
          · obtain ⟨b, o, rfl, hb, hr⟩ := HC.out.resolve_left (by omega)
            have hkp : k < ps.length := by rw [HPL.out]; exact hlt
            obtain ⟨p, hp⟩ : ∃ p, ps[k] = p := ⟨_, rfl⟩
            have cc : w1.cell? ⟨b, o + k, none⟩ = some (.string (strL p)) := HK1.out.range hb (by simp) hr k _ (by simp [sv, hkp, hp])
            have hpm : p.length ≤ 140737488355328 := HSZ.out p (by rw [← hp]; exact List.getElem_mem hkp)
            have hpz2 : (strL p).size ≤ 140737488355328 := by rw [strL_size]; omega
            have hpz : (strL p).size ≤ 9223372036854775807 := by omega
            have HJ2 : Hid (joinL (ps.take (k + 1)) = J ++ [47] ++ p ∧ (strL (J ++ [47] ++ p)).size ≤ 140737488355329 * (k + 1) ∧ (ps.take (k + 1)).all nameB = ((ps.take k).all nameB && nameB p)) := ⟨by rw [joinL_snoc ps k hkp, HD.out.1, hp]; simp, by rw [strL_size] at hJl ⊢; simp; omega, by rw [List.take_succ_eq_append_getElem hkp, List.all_append, hp]; simp⟩
            obtain ⟨nb, hnb⟩ : ∃ nb, nameB p = nb := ⟨_, rfl⟩
            have HNB := Lib.hid hnb
            clear hp hr hpm hnb
            have j1 : ¬ 9223372036854775807 < (strL J).size + 1 := by omega
            have j2 : ¬ 9223372036854775807 < (strL J).size + 1 + (strL p).size := by omega
            cases B
            · go_wp2_with fail
              go_round
              case rel => exact ⟨k + 1, J ++ [47] ++ p, false, by omega, by omega, by go_num, congrArg Value.string (cat_str J [47] p), rfl, ⟨HJ2.out.1, by rw [HJ2.out.2.2, ← Bool.and_assoc, ← HD.out.2]; rfl⟩, HJ2.out.2.1⟩
              case measure => simp [intOf]; omega
            · go_wp2_with fail
              refine (name_any (strL p) _ hpz).mono ?_
              rw [strL_toList, HNB.out]
              rintro e w5 ⟨rfl, rfl⟩
              go_wp2_with fail
              go_round
              case rel => exact ⟨k + 1, J ++ [47] ++ p, nb, by omega, by omega, by go_num, congrArg Value.string (cat_str J [47] p), rfl, ⟨HJ2.out.1, by rw [HJ2.out.2.2, ← Bool.and_assoc, ← HD.out.2, HNB.out]; rfl⟩, HJ2.out.2.1⟩
              case measure => simp [intOf]; omega
          · exfalso; omega
        · have hJ63 : J.length ≤ 9223372036854775807 := by rw [strL_size] at hJl; omega
          cases B
          · go_wp2_with fail
            refine (path_any J _ hJ63).mono ?_
            rintro e w2 ⟨hk2, hd⟩
            have HK2 := Lib.hid (HK1.out.trans hk2)
            clear hk2
            rcases hd with ⟨_, rfl⟩ | ⟨ps2, v, _, rfl, hv⟩
            · go_wp2_with fail
              go_ret
              exact ⟨rfl, HK2.out⟩
            · obtain ⟨ao2, cap2, rfl, _⟩ := hv.val
              clear hv
              go_wp2_with fail
              go_ret
              exact ⟨rfl, HK2.out⟩
          · have hall : ps.all nameB = true := by
              have h2 := HD.out.2
              rw [List.take_of_length_le (by rw [HPL.out]; omega)] at h2
              simpa using h2.symm
            have hJ : joinL ps = J := by have := HD.out.1; rwa [List.take_of_length_le (by rw [HPL.out]; omega)] at this
            by_cases h120 : ((strL J).size : Int) ≤ 120
            · have hpo : pathO J = some ps := by
                rw [← hJ]
                exact path_of_names (by rw [HPL.out]; omega) (by rw [HPL.out]; omega) hall (by rw [hJ, ← strL_size]; omega)
              have HPO := Lib.hid hpo
              clear hall hJ hpo
              go_wp2_with fail
              refine (path_any J _ hJ63).mono ?_
              rintro e w2 ⟨hk2, hd⟩
              have HK2 := Lib.hid (HK1.out.trans hk2)
              obtain ⟨v, rfl, hs2⟩ : ∃ v, e = .returned (.tuple #[v, .int .i64 0]) ∧ StrsIs w2 v ps := by
                rcases hd with ⟨h, _⟩ | ⟨ps', v, h, he, hs⟩
                · rw [HPO.out] at h; cases h
                · rw [HPO.out] at h
                  injection h with h
                  subst h
                  exact ⟨v, he, hs⟩
              obtain ⟨ao2, cap2, rfl, ha⟩ := hs2.val
              rw [HPL.out] at ha ⊢
              obtain ⟨b2, o2, rfl, hb2, hr2⟩ := ha hlen0
              obtain ⟨b, o, rfl, hb, hr⟩ := HC.out.resolve_left (by omega)
              have HR2 := Lib.hid hr2
              have HR := Lib.hid (HK2.out.range hb (by simp) hr)
              have hb' : b < w2.heap.size := Nat.lt_of_lt_of_le hb HK2.out.size
              clear hk2 hd hs2 hr hr2 ha hb
              go_wp2_with fail
              go_loopw [9] (fun i wr => ∃ k : Nat, k ≤ len ∧ i = .int .i64 k ∧ Hid (Drawn w2 wr)) (fun i _ => len - (intOf i).toNat)
              case atStart => exact ⟨0, by omega, rfl, 0, rfl⟩
              case round =>
                obtain ⟨q, hq, rfl, HDR⟩ := hrel
                by_cases hqt : q < len
                · have hqp : q < ps.length := by rw [HPL.out]; exact hqt
                  obtain ⟨p, hp⟩ : ∃ p, ps[q] = p := ⟨_, rfl⟩
                  have c1 : wr.cell? ⟨b, o + q, none⟩ = some (.string (strL p)) := HDR.out.kept.range hb' (by simp) HR.out q _ (by simp [sv, hqp, hp])
                  have c2 : wr.cell? ⟨b2, o2 + q, none⟩ = some (.string (strL p)) := HDR.out.kept.range hb2 (by simp) HR2.out q _ (by simp [sv, hqp, hp])
                  clear hp
                  go_wp2_with fail
                  go_quiet (fail)
                  go_wp2_with fail
                  go_roundw
                  case rel => exact ⟨q + 1, by omega, by go_num, HDR.out.more _⟩
                  case measure => simp [intOf]; omega
                · go_wp2_with fail
                  go_ret
                  exact ⟨rfl, HK2.out.trans HDR.out.kept⟩
            · clear hall hJ
              go_wp2_with fail
              refine (path_any J _ hJ63).mono ?_
              rintro e w2 ⟨hk2, hd⟩
              have HK2 := Lib.hid (HK1.out.trans hk2)
              clear hk2
              rcases hd with ⟨_, rfl⟩ | ⟨ps2, v, _, rfl, hv⟩
              · go_wp2_with fail
                go_ret
                exact ⟨rfl, HK2.out⟩
              · obtain ⟨ao2, cap2, rfl, _⟩ := hv.val
                clear hv
                go_wp2_with fail
                go_ret
                exact ⟨rfl, HK2.out⟩
    · have HB0 : Hid (B0 = false) := by show _ = _; rw [← hB0, decide_eq_false_iff_not]; omega
      clear hB0
      go_wp2_with fail
      go_loop [4, 5, 6] (fun j b i => ∃ (k : Nat) (J : List UInt8) (B : Bool), k ≤ len ∧ k ≤ 12 ∧ i = .int .i64 k ∧ j = .string (strL J) ∧ b = .bool B ∧ Hid (joinL (ps.take k) = J ∧ B = (false && (ps.take k).all nameB)) ∧ (strL J).size ≤ 140737488355329 * k) (fun _ _ i => 12 - (intOf i).toNat)
      case atStart => exact ⟨0, [], false, by omega, by omega, rfl, rfl, congrArg Value.bool (by simp; omega), ⟨rfl, by simp⟩, by rw [strL_size]; simp⟩
      case round =>
        obtain ⟨k, J, B, hkl, hk12, rfl, rfl, rfl, HD, hJl⟩ := hrel
        by_cases hlt : k < len
        · by_cases h12 : k < 12
          · obtain ⟨b, o, rfl, hb, hr⟩ := HC.out.resolve_left (by omega)
            have hkp : k < ps.length := by rw [HPL.out]; exact hlt
            obtain ⟨p, hp⟩ : ∃ p, ps[k] = p := ⟨_, rfl⟩
            have cc : w1.cell? ⟨b, o + k, none⟩ = some (.string (strL p)) := HK1.out.range hb (by simp) hr k _ (by simp [sv, hkp, hp])
            have hpm : p.length ≤ 140737488355328 := HSZ.out p (by rw [← hp]; exact List.getElem_mem hkp)
            have hpz2 : (strL p).size ≤ 140737488355328 := by rw [strL_size]; omega
            have hpz : (strL p).size ≤ 9223372036854775807 := by omega
            have HJ2 : Hid (joinL (ps.take (k + 1)) = J ++ [47] ++ p ∧ (strL (J ++ [47] ++ p)).size ≤ 140737488355329 * (k + 1) ∧ (ps.take (k + 1)).all nameB = ((ps.take k).all nameB && nameB p)) := ⟨by rw [joinL_snoc ps k hkp, HD.out.1, hp]; simp, by rw [strL_size] at hJl ⊢; simp; omega, by rw [List.take_succ_eq_append_getElem hkp, List.all_append, hp]; simp⟩
            obtain ⟨nb, hnb⟩ : ∃ nb, nameB p = nb := ⟨_, rfl⟩
            have HNB := Lib.hid hnb
            clear hp hr hpm hnb
            have j1 : ¬ 9223372036854775807 < (strL J).size + 1 := by omega
            have j2 : ¬ 9223372036854775807 < (strL J).size + 1 + (strL p).size := by omega
            cases B
            · go_wp2_with fail
              go_round
              case rel => exact ⟨k + 1, J ++ [47] ++ p, false, by omega, by omega, by go_num, congrArg Value.string (cat_str J [47] p), rfl, ⟨HJ2.out.1, by rw [HJ2.out.2.2, ← Bool.and_assoc, ← HD.out.2]; rfl⟩, HJ2.out.2.1⟩
              case measure => simp [intOf]; omega
            · go_wp2_with fail
              refine (name_any (strL p) _ hpz).mono ?_
              rw [strL_toList, HNB.out]
              rintro e w5 ⟨rfl, rfl⟩
              go_wp2_with fail
              go_round
              case rel => exact ⟨k + 1, J ++ [47] ++ p, nb, by omega, by omega, by go_num, congrArg Value.string (cat_str J [47] p), rfl, ⟨HJ2.out.1, by rw [HJ2.out.2.2, ← Bool.and_assoc, ← HD.out.2, HNB.out]; rfl⟩, HJ2.out.2.1⟩
              case measure => simp [intOf]; omega
          · have hJ63 : J.length ≤ 9223372036854775807 := by rw [strL_size] at hJl; omega
            obtain rfl : B = false := by
              have := HD.out.2
              simpa using this
            go_wp2_with fail
            refine (path_any J _ hJ63).mono ?_
            rintro e w2 ⟨hk2, hd⟩
            have HK2 := Lib.hid (HK1.out.trans hk2)
            clear hk2
            rcases hd with ⟨_, rfl⟩ | ⟨ps2, v, _, rfl, hv⟩
            · go_wp2_with fail
              go_ret
              exact ⟨rfl, HK2.out⟩
            · obtain ⟨ao2, cap2, rfl, _⟩ := hv.val
              clear hv
              go_wp2_with fail
              go_ret
              exact ⟨rfl, HK2.out⟩
        · have hJ63 : J.length ≤ 9223372036854775807 := by rw [strL_size] at hJl; omega
          obtain rfl : B = false := by
            have := HD.out.2
            simpa using this
          go_wp2_with fail
          refine (path_any J _ hJ63).mono ?_
          rintro e w2 ⟨hk2, hd⟩
          have HK2 := Lib.hid (HK1.out.trans hk2)
          clear hk2
          rcases hd with ⟨_, rfl⟩ | ⟨ps2, v, _, rfl, hv⟩
          · go_wp2_with fail
            go_ret
            exact ⟨rfl, HK2.out⟩
          · obtain ⟨ao2, cap2, rfl, _⟩ := hv.val
            clear hv
            go_wp2_with fail
            go_ret
            exact ⟨rfl, HK2.out⟩
  · have HB0 : Hid (B0 = false) := by show _ = _; rw [← hB0, decide_eq_false_iff_not]; omega
    clear hB0
    go_wp2_with fail
    refine wp_loop_rounds 1 ?_
    rw [rounds_succ]
    have hJ63 : ([] : List UInt8).length ≤ 9223372036854775807 := by simp
    go_wp2_with fail
    refine (path_any [] _ hJ63).mono ?_
    rintro e w2 ⟨hk2, hd⟩
    have HK2 := Lib.hid (HK1.out.trans hk2)
    clear hk2
    rcases hd with ⟨_, rfl⟩ | ⟨ps2, v, _, rfl, hv⟩
    · go_wp2_with fail
      go_ret
      exact ⟨rfl, HK2.out⟩
    · obtain ⟨ao2, cap2, rfl, _⟩ := hv.val
      clear hv
      go_wp2_with fail
      go_ret
      exact ⟨rfl, HK2.out⟩

end Go.Proofs.YtampdibpmgiffaaDoor

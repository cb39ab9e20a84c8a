/-
  Layer 4: the statements' texts, where both rows are the same.
  Conditions: those that each theorem states.
-/
import Derived.Test.YtiedoocgbajjjaaGreatDoorFIo
import Derived.BigQuiet
namespace Go.Proofs.YtiedoocgbajjjaaGreatDoor
open Go.RowKit Go.Maps
set_option maxRecDepth 100000

theorem StrsIs.parts {w : World} {v : Value} {l : List (List UInt8)} (h : StrsIs w v l) : ∃ ao cap, v = .slice ao l.length cap ∧ ∀ k (hk : k < l.length), ∃ b o, ao = some ⟨b, o, none⟩ ∧ b < w.heap.size ∧ w.cell? ⟨b, o + k, none⟩ = some (.string (strL l[k])) := by
  rcases h with ⟨b, o, cap, rfl, hb, hr⟩ | ⟨rfl, rfl⟩
  · exact ⟨_, cap, rfl, fun k hk => ⟨b, o, rfl, hb, hr k _ (by simp [sv, hk])⟩⟩
  · exact ⟨none, 0, rfl, fun k hk => by cases hk⟩
set_option maxRecDepth 100000 in
set_option maxHeartbeats 2000000 in
theorem texts4_same (l : List (List UInt8)) (va vb : Value) (w : World) (ha : StrsIs w va l) (hb : StrsIs w vb l) (hl : l.length ≤ 1000) :
    Calls Tryz.prog 21 #[va, vb] w fun e w' => e = .returned (.bool true) ∧ Kept [] w w' := by
  obtain ⟨aa, ca, rfl, hA⟩ := ha.parts
  obtain ⟨ab, cb, rfl, hB⟩ := hb.parts
  obtain ⟨n, hn⟩ : ∃ n, l.length = n := ⟨_, rfl⟩
  have HN := Lib.hid hn
  have HA := Lib.hid hA
  have HB := Lib.hid hB
  rw [hn] at hl ⊢
  have q1 : ((n : Int) != (n : Int)) = false := by simp
  clear ha hb hA hB hn
  go_enter Tryz.func21, Tryz.ntmps21
  go_wp2_with fail
  go_loopw [5] (fun i wr => ∃ j : Nat, j ≤ n ∧ i = .int .i64 j ∧ Drawn w wr) (fun i _ => n - (intOf i).toNat)
  case atStart => exact ⟨0, by omega, rfl, ⟨0, rfl⟩⟩
  case round =>
    obtain ⟨j, hj, rfl, ⟨m, hm⟩⟩ := hrel
    have HKr : Hid (Kept [] w wr) := by rw [hm]; exact Kept.drewN _ _ _
    have HM := Lib.hid hm
    clear hm
    by_cases hlt : j < n
    · have hjl : j < l.length := by rw [HN.out]; exact hlt
      obtain ⟨ba, oa, rfl, hba, hra⟩ := HA.out j hjl
      obtain ⟨bb, ob, rfl, hbb, hrb⟩ := HB.out j hjl
      obtain ⟨x, hx⟩ : ∃ x, strL l[j] = x := ⟨_, rfl⟩
      rw [hx] at hra hrb
      have e1 : wr.cell? ⟨ba, oa + j, none⟩ = some (.string x) := by rw [HKr.out.cell hba (by simp), hra]
      have e2 : wr.cell? ⟨bb, ob + j, none⟩ = some (.string x) := by rw [HKr.out.cell hbb (by simp), hrb]
      have q3 : (x.toList != x.toList) = false := by simp
      clear hra hrb hx
      go_wp2_with fail
      go_quiet (fail)
      go_wp2_with fail
      go_roundw
      case rel => exact ⟨j + 1, by omega, by go_num, (by rw [HM.out]; exact ⟨m + _, World.drewN_drewN _ _ _⟩)⟩
      case measure => simp [intOf]; omega
    · go_wp2_with fail
      go_ret
      exact ⟨rfl, HKr.out⟩
end Go.Proofs.YtiedoocgbajjjaaGreatDoor

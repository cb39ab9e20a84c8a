/-
  Layer 6: the examples at the head of all statements.
  Conditions: those that each theorem states.
-/
import Derived.Test.YthpfnkanilfohaaDoorQRef
import Derived.Laws.StructEq
namespace Go.Proofs.YthpfnkanilfohaaDoor
open Go.RowKit Go.Maps

theorem code_a : codeO nFile [47, 97] [] = 0 := by decide +kernel
theorem out_a : outO nFile [47, 97] [] = [(nContent, []), (nEnsure, nFile), (nMode, v0644)] := by decide +kernel
theorem code_p : codeO nFile [47, 97] [(nPurge, nTrue)] = 62 := by decide +kernel
theorem code_t : codeO nFile [47, 116, 97, 98, 47, 120] [] = 61 := by decide +kernel
theorem code_d : codeO [100, 105, 115, 107] [97] [] = 60 := by decide +kernel

theorem full_a (w : World) : Calls Tryd.prog 9 #[.agg #[.string ⟨#[102, 105, 108, 101]⟩, .string ⟨#[47, 97]⟩, .slice none 0 0]] w fun e w' => ∃ g cap, e = .returned (.tuple #[.agg #[.string ⟨#[102, 105, 108, 101]⟩, .string ⟨#[47, 97]⟩, .slice (some ⟨g, 0, none⟩) 3 cap], .int .i64 0]) ∧
    Hid (g < w'.heap.size ∧ w'.cell? ⟨g, 4, none⟩ = some (.string ⟨#[109, 111, 100, 101]⟩) ∧ w'.cell? ⟨g, 5, none⟩ = some (.string ⟨#[48, 54, 52, 52]⟩) ∧ Kept [] w w') := by
  have := sfull_any nFile [47, 97] [] _ w (PsIs.nil w) (by decide) (by decide)
  refine this.mono ?_
  rintro e w' ⟨v, rfl, HF⟩
  unfold txO at *
  rw [code_a, if_pos rfl, if_pos rfl]
  have ho := HF.out.1
  rw [out_a] at ho
  obtain ⟨ao, cap, rfl, _, _, _, hc⟩ := ho.ps.open
  obtain ⟨b, o, rfl, hb, hcc⟩ := hc (by decide)
  have ho0 : o = 0 := by
    obtain ⟨⟨_, h2 | ⟨g, cap', cur, he, _⟩⟩, _⟩ := ho
    · cases h2.1
    · injection he with he _ _
      injection he with he
      injection he with _ he2 _
  subst ho0
  obtain ⟨m0, m1⟩ := hcc 2 (by decide)
  refine ⟨b, cap, rfl, hb, ?_, ?_, HF.out.2⟩
  · show w'.cell? _ = some (.string (strL nMode)); simpa using m0
  · show w'.cell? _ = some (.string (strL v0644)); simpa using m1
theorem check_p (w : World) (g : Nat) (hg : w.heap[g]? = some (.cells #[.string ⟨#[112, 117, 114, 103, 101]⟩, .string ⟨#[116, 114, 117, 101]⟩] 31)) :
    Calls Tryd.prog 12 #[.agg #[.string ⟨#[102, 105, 108, 101]⟩, .string ⟨#[47, 97]⟩, .slice (some ⟨g, 0, none⟩) 1 1]] w fun e w' => e = .returned (.int .i64 62) ∧ Kept [] w w' := by
  have hps : PsIs w (.slice (some ⟨g, 0, none⟩) 1 1) [(nPurge, nTrue)] :=
    ⟨⟨_, _, rfl, by simp, by omega, fun e => (by cases e), .inr ⟨g, 0, rfl, (Array.getElem?_eq_some_iff.1 hg).1, fun j u hu => by
      rw [Nat.zero_add, cell_of_row _ _ j _ _ _ hg]
      simpa [sv, fl, nPurge, nTrue, strL] using hu⟩⟩, by simp, fun x hx => by simp at hx; subst hx; exact ⟨by decide, by decide⟩⟩
  have := scheck_any nFile [47, 97] [(nPurge, nTrue)] _ w hps (by decide) (by decide)
  rw [code_p] at this
  exact this
theorem check_t (w : World) : Calls Tryd.prog 12 #[.agg #[.string ⟨#[102, 105, 108, 101]⟩, .string ⟨#[47, 116, 97, 98, 47, 120]⟩, .slice none 0 0]] w fun e w' => e = .returned (.int .i64 61) ∧ Kept [] w w' := by
  have := scheck_any nFile [47, 116, 97, 98, 47, 120] [] _ w (PsIs.nil w) (by decide) (by decide)
  rw [code_t] at this
  exact this
theorem check_d (w : World) : Calls Tryd.prog 12 #[.agg #[.string ⟨#[100, 105, 115, 107]⟩, .string ⟨#[97]⟩, .slice none 0 0]] w fun e w' => e = .returned (.int .i64 60) ∧ Kept [] w w' := by
  have := scheck_any [100, 105, 115, 107] [97] [] _ w (PsIs.nil w) (by decide) (by decide)
  rw [code_d] at this
  exact this

set_option maxRecDepth 100000 in
set_option maxHeartbeats 4000000 in
theorem shown6_any (w : World) : Calls Tryd.prog 8 #[] w fun e w' => e = .returned (.bool true) ∧ Kept [] w w' := by
  go_enter Tryd.func8, Tryd.ntmps8
  go_wp2_with fail
  refine (full_a _).mono ?_
  rintro e w1 ⟨g, cap, rfl, HF⟩
  obtain ⟨w2, hw2⟩ : ∃ w2, w1.alloc (.cells #[.string ⟨#[102, 105, 108, 101]⟩, .string ⟨#[47, 97]⟩, .slice (some ⟨g, 0, none⟩) 3 cap] 24) = w2 := ⟨_, rfl⟩
  have HA : Hid (Kept [] w1 w2 ∧ w2.heap[w1.heap.size]? = some (.cells #[.string ⟨#[102, 105, 108, 101]⟩, .string ⟨#[47, 97]⟩, .slice (some ⟨g, 0, none⟩) 3 cap] 24)) := ⟨by rw [← hw2]; exact Kept.alloc _ _ _, by rw [← hw2]; exact heap_alloc_last _ _⟩
  obtain ⟨w3, hw3⟩ : ∃ w3, w2.alloc (.cells #[.string ⟨#[112, 117, 114, 103, 101]⟩, .string ⟨#[116, 114, 117, 101]⟩] 31) = w3 := ⟨_, rfl⟩
  have HB : Hid (Kept [] w2 w3 ∧ w3.heap[w2.heap.size]? = some (.cells #[.string ⟨#[112, 117, 114, 103, 101]⟩, .string ⟨#[116, 114, 117, 101]⟩] 31)) := ⟨by rw [← hw3]; exact Kept.alloc _ _ _, by rw [← hw3]; exact heap_alloc_last _ _⟩
  go_wp2_with fail
  refine (check_p _ _ HB.out.2).mono ?_
  rintro e w4 ⟨rfl, hk4⟩
  have HK4 := Lib.hid hk4
  clear hk4 hw2 hw3
  go_wp2_with fail
  refine (check_t _).mono ?_
  rintro e w5 ⟨rfl, hk5⟩
  have HK5 := Lib.hid hk5
  clear hk5
  go_wp2_with fail
  refine (check_d _).mono ?_
  rintro e w6 ⟨rfl, hk6⟩
  have HK16 : Hid (Kept [] w1 w6) := (((HA.out.1.trans HB.out.1).trans HK4.out).trans HK5.out).trans hk6
  have e1 := (((HB.out.1.trans HK4.out).trans HK5.out).trans hk6).heap (by simp) HA.out.2
  have c0 : w6.cell? ⟨w1.heap.size, 2, none⟩ = some (.slice (some ⟨g, 0, none⟩) 3 cap) := cell_of_row _ _ 2 _ _ _ e1
  have c1 := (HK16.out.cell (p := ⟨g, 4, none⟩) HF.out.1 (by simp)).trans HF.out.2.1
  have c2 := (HK16.out.cell (p := ⟨g, 5, none⟩) HF.out.1 (by simp)).trans HF.out.2.2.1
  clear hk6 e1
  go_wp2_with fail
  go_ret
  exact ⟨rfl, HF.out.2.2.2.trans HK16.out⟩
end Go.Proofs.YthpfnkanilfohaaDoor

/-
  Layer 6: the program's slots of a state: serviceSlots, fileSlots, record and its closure.
  Conditions: those that each theorem states.
-/
import Derived.Test.YtfofhnbijjocfaaGreatDoorQSlot
namespace Go.Proofs.YtfofhnbijjocfaaGreatDoor
open Go.RowKit Go.Maps
set_option maxRecDepth 100000

/-- A function value that tells the slots of a state. -/
def StFnIs (w : World) (v : Value) (g : List UInt8 → List Prm) : Prop :=
  ∃ f cap, v = .func (.func f) #[] cap ∧ Enters Tryz.prog f ∧ ∀ w', Kept [] w w' → ∀ s : List UInt8, s.length ≤ 140737488355328 → Calls Tryz.prog f (#[.string (strL s)] ++ cap) w' fun e w2 => ∃ v', e = .returned v' ∧ Hid (SlotsIs w2 v' (takesB s) (g s) ∧ Kept [] w' w2)
theorem StFnIs.kept {w w' : World} {v : Value} {g : List UInt8 → List Prm} (h : StFnIs w v g) (hk : Kept [] w w') : StFnIs w' v g := by
  obtain ⟨f, cap, h1, h2, h3⟩ := h
  exact ⟨f, cap, h1, h2, fun w2 hk2 => h3 w2 (hk.trans hk2)⟩
/-- What a function of a state answers. -/
def SlotsOut (S : List Prm) (s : List UInt8) (w : World) (e : Ending) (w' : World) : Prop := ∃ v', e = .returned v' ∧ Hid (SlotsIs w' v' (takesB s) S ∧ Kept [] w w')
theorem SlotsOut.none (s : List UInt8) (w w' : World) (hk : Kept [] w w') : SlotsOut [] s w (.returned (.slice none 0 0)) w' := ⟨_, rfl, SlotsIs.nil _ _, hk⟩
/-- One slot, the state's own. -/
theorem SlotsIs.told {w : World} {s : List UInt8} {f : Value} {g : Nat} (hs : s.length ≤ 140737488355328) (hg : w.heap[g]? = some (.cells #[.string ⟨#[101, 110, 115, 117, 114, 101]⟩, .string (strL s), f] 108)) (hf : FnIs w f (takesB s nEnsure)) :
    SlotsIs w (.slice (some ⟨g, 0, none⟩) 1 1) (takesB s) [(nEnsure, s)] :=
  ⟨[((nEnsure, s), f)], rfl, SlotRow.made w _ g 1 _ hg rfl rfl, (fun x hx => by simp at hx; subst hx; exact hf), fun x hx => by simp at hx; subst hx; exact ⟨(show nEnsure.length ≤ 140737488355328 by decide), hs⟩⟩

set_option maxHeartbeats 1000000 in
theorem serviceSlots_any (s : List UInt8) (w : World) (hs : s.length ≤ 140737488355328) : Calls Tryz.prog 73 #[.string (strL s)] w (SlotsOut (servK s) s w) := by
  have htl := strL_bytes s
  by_cases h1 : s = nRunning
  · have q1 : ((strL s).toList == [114, 117, 110, 110, 105, 110, 103]) = true := by rw [htl, h1]; rfl
    have HS : Hid (servK s = [(nEnsure, s)]) := by show _ = _; unfold servK; rw [if_pos h1]
    clear h1 htl
    go_enter Tryz.func73, Tryz.ntmps73
    go_wp2_with fail
    refine (stold_any s _ hs).mono ?_
    rintro e w2 ⟨f, rfl, HF⟩
    obtain ⟨fi, fc, hfe, _⟩ := id HF.out.1
    subst hfe
    have HK2 := Lib.hid (Kept.alloc [] w2 (.cells #[.string ⟨#[101, 110, 115, 117, 114, 101]⟩, .string (strL s), .func (.func fi) #[] fc] 108))
    have HR := Lib.hid (SlotsIs.told hs (heap_alloc_last w2 (.cells #[.string ⟨#[101, 110, 115, 117, 114, 101]⟩, .string (strL s), .func (.func fi) #[] fc] 108)) (HF.out.1.kept HK2.out))
    go_wp2_with fail
    go_ret
    rw [HS.out]
    exact ⟨_, rfl, HR.out, HF.out.2.trans HK2.out⟩
  · have q1 : ((strL s).toList == [114, 117, 110, 110, 105, 110, 103]) = false := by rw [htl, beq_eq_false_iff_ne]; exact h1
    by_cases h2 : s = nStopped
    · have q2 : ((strL s).toList == [115, 116, 111, 112, 112, 101, 100]) = true := by rw [htl, h2]; rfl
      have HS : Hid (servK s = [(nEnsure, s)]) := by show _ = _; unfold servK; rw [if_neg h1, if_pos h2]
      clear h1 h2 htl
      go_enter Tryz.func73, Tryz.ntmps73
      go_wp2_with fail
      refine (stold_any s _ hs).mono ?_
      rintro e w2 ⟨f, rfl, HF⟩
      obtain ⟨fi, fc, hfe, _⟩ := id HF.out.1
      subst hfe
      have HK2 := Lib.hid (Kept.alloc [] w2 (.cells #[.string ⟨#[101, 110, 115, 117, 114, 101]⟩, .string (strL s), .func (.func fi) #[] fc] 108))
      have HR := Lib.hid (SlotsIs.told hs (heap_alloc_last w2 (.cells #[.string ⟨#[101, 110, 115, 117, 114, 101]⟩, .string (strL s), .func (.func fi) #[] fc] 108)) (HF.out.1.kept HK2.out))
      go_wp2_with fail
      go_ret
      rw [HS.out]
      exact ⟨_, rfl, HR.out, HF.out.2.trans HK2.out⟩
    · have q2 : ((strL s).toList == [115, 116, 111, 112, 112, 101, 100]) = false := by rw [htl, beq_eq_false_iff_ne]; exact h2
      have HS : Hid (servK s = []) := by show _ = _; unfold servK; rw [if_neg h1, if_neg h2]
      clear h1 h2 htl
      go_enter Tryz.func73, Tryz.ntmps73
      go_wp2_with fail
      go_ret
      rw [HS.out]
      exact SlotsOut.none s w w (Kept.refl _ _)

set_option maxRecDepth 100000 in
set_option maxHeartbeats 2000000 in
theorem fileSlots_any (s : List UInt8) (w : World) (hs : s.length ≤ 140737488355328) : Calls Tryz.prog 67 #[.string (strL s)] w (SlotsOut (fileK s) s w) := by
  have htl := strL_bytes s
  by_cases h1 : s = nFile
  · have q1 : ((strL s).toList == [102, 105, 108, 101]) = true := by rw [htl, h1]; rfl
    have HS : Hid (fileK s = [(nContent, []), (nEnsure, s), (nMode, v0644)]) := by show _ = _; unfold fileK; rw [if_pos h1]
    clear h1 htl
    go_enter Tryz.func67, Tryz.ntmps67
    go_wp2_with fail
    refine (stold_any s _ hs).mono ?_
    rintro e w2 ⟨f, rfl, HF⟩
    obtain ⟨fi, fc, hfe, _⟩ := id HF.out.1
    subst hfe
    obtain ⟨w3, hw3⟩ : ∃ w3, w2.alloc (.cells #[.string ⟨#[99, 111, 110, 116, 101, 110, 116]⟩, .string ⟨#[]⟩, .func (.func 76) #[] #[], .string ⟨#[101, 110, 115, 117, 114, 101]⟩, .string (strL s), .func (.func fi) #[] fc, .string ⟨#[109, 111, 100, 101]⟩, .string ⟨#[48, 54, 52, 52]⟩, .func (.func 78) #[] #[]] 108) = w3 := ⟨_, rfl⟩
    have HK2 : Hid (Kept [] w2 w3) := by rw [← hw3]; exact Kept.alloc _ _ _
    have HR : Hid (SlotsIs w3 (.slice (some ⟨w2.heap.size, 0, none⟩) 3 3) (takesB s) [(nContent, []), (nEnsure, s), (nMode, v0644)]) := by
      refine ⟨[((nContent, []), .func (.func 76) #[] #[]), ((nEnsure, s), .func (.func fi) #[] fc), ((nMode, v0644), .func (.func 78) #[] #[])], rfl, SlotRow.made w3 _ _ 3 _ (by rw [← hw3]; exact heap_alloc_last _ _) rfl rfl, fun x hx => ?_, fun x hx => ?_⟩
      · simp only [List.mem_cons, List.not_mem_nil, or_false] at hx
        rcases hx with rfl | rfl | rfl
        · rw [takes_of (by decide), valB_content]; exact fn_text _
        · exact HF.out.1.kept HK2.out
        · rw [takes_of (by decide), valB_mode]; exact fn_mode _
      · simp only [List.mem_cons, List.not_mem_nil, or_false] at hx
        rcases hx with rfl | rfl | rfl
        · exact ⟨by decide, by decide⟩
        · exact ⟨(show nEnsure.length ≤ 140737488355328 by decide), hs⟩
        · exact ⟨by decide, by decide⟩
    go_wp2_with fail
    go_ret
    rw [HS.out]
    exact ⟨_, rfl, HR.out, HF.out.2.trans HK2.out⟩
  have q1 : ((strL s).toList == [102, 105, 108, 101]) = false := by rw [htl, beq_eq_false_iff_ne]; exact h1
  by_cases h2 : s = nDirectory
  · have q2 : ((strL s).toList == [100, 105, 114, 101, 99, 116, 111, 114, 121]) = true := by rw [htl, h2]; rfl
    have HS : Hid (fileK s = [(nEnsure, s), (nMode, v0755), (nPurge, nFalse)]) := by show _ = _; unfold fileK; rw [if_neg h1, if_pos h2]
    clear h1 h2 htl
    go_enter Tryz.func67, Tryz.ntmps67
    go_wp2_with fail
    refine (stold_any s _ hs).mono ?_
    rintro e w2 ⟨f, rfl, HF⟩
    obtain ⟨fi, fc, hfe, _⟩ := id HF.out.1
    subst hfe
    obtain ⟨wb, hwb⟩ : ∃ wb, w2.alloc (.cells #[.string ⟨#[102, 97, 108, 115, 101]⟩, .string ⟨#[116, 114, 117, 101]⟩] 9) = wb := ⟨_, rfl⟩
    have HB : Hid (Kept [] w2 wb ∧ wb.heap[w2.heap.size]? = some (.cells #[.string ⟨#[102, 97, 108, 115, 101]⟩, .string ⟨#[116, 114, 117, 101]⟩] 9)) := ⟨by rw [← hwb]; exact Kept.alloc _ _ _, by rw [← hwb]; exact heap_alloc_last _ _⟩
    go_wp2_with fail
    refine (oneOf_any _ 2 2 _).mono ?_
    rintro e w3 ⟨rfl, HO⟩
    obtain ⟨g, hg⟩ : ∃ g, wb.heap.size = g := ⟨_, rfl⟩
    obtain ⟨q, hq⟩ : ∃ q, w2.heap.size = q := ⟨_, rfl⟩
    rw [hg, hq] at HO
    rw [hq] at HB
    rw [hg]
    have HP : Hid (FnIs w3 (.func (.func 86) #[] #[.pointer (some ⟨g, 0, none⟩)]) (fun x => decide (x ∈ [nFalse, nTrue]))) := by
      refine fn_oneOf HO.out.1 ?_
      have hb2 := HO.out.2.heap (b := q) (by simp) HB.out.2
      exact ⟨⟨_, _, rfl, by simp, by omega, fun e => (by cases e), .inr ⟨q, 0, rfl, (Array.getElem?_eq_some_iff.1 hb2).1, fun j u hu => by
        rw [Nat.zero_add, cell_of_row _ _ j _ _ _ hb2]
        simpa [sv, nFalse, nTrue, strL] using hu⟩⟩, by simp, fun x hx => by simp at hx; rcases hx with rfl | rfl <;> decide⟩
    have HKw : Hid (Kept [] w2 w3) := HB.out.1.trans HO.out.2
    obtain ⟨w4, hw4⟩ : ∃ w4, w3.alloc (.cells #[.string ⟨#[101, 110, 115, 117, 114, 101]⟩, .string (strL s), .func (.func fi) #[] fc, .string ⟨#[109, 111, 100, 101]⟩, .string ⟨#[48, 55, 53, 53]⟩, .func (.func 78) #[] #[], .string ⟨#[112, 117, 114, 103, 101]⟩, .string ⟨#[102, 97, 108, 115, 101]⟩, .func (.func 86) #[] #[.pointer (some ⟨g, 0, none⟩)]] 108) = w4 := ⟨_, rfl⟩
    have HK4 : Hid (Kept [] w3 w4) := by rw [← hw4]; exact Kept.alloc _ _ _
    have HR : Hid (SlotsIs w4 (.slice (some ⟨w3.heap.size, 0, none⟩) 3 3) (takesB s) [(nEnsure, s), (nMode, v0755), (nPurge, nFalse)]) := by
      refine ⟨[((nEnsure, s), .func (.func fi) #[] fc), ((nMode, v0755), .func (.func 78) #[] #[]), ((nPurge, nFalse), .func (.func 86) #[] #[.pointer (some ⟨g, 0, none⟩)])], rfl, SlotRow.made w4 _ _ 3 _ (by rw [← hw4]; exact heap_alloc_last _ _) rfl rfl, fun x hx => ?_, fun x hx => ?_⟩
      · simp only [List.mem_cons, List.not_mem_nil, or_false] at hx
        rcases hx with rfl | rfl | rfl
        · exact (HF.out.1.kept HKw.out).kept HK4.out
        · rw [takes_of (by decide), valB_mode]; exact fn_mode _
        · rw [takes_of (show nPurge ≠ nEnsure by decide), valB_purge]; exact HP.out.kept HK4.out
      · simp only [List.mem_cons, List.not_mem_nil, or_false] at hx
        rcases hx with rfl | rfl | rfl
        · exact ⟨(show nEnsure.length ≤ 140737488355328 by decide), hs⟩
        · exact ⟨by decide, by decide⟩
        · exact ⟨by decide, by decide⟩
    clear hg hq hwb
    go_wp2_with fail
    go_ret
    rw [HS.out]
    exact ⟨_, rfl, HR.out, (HF.out.2.trans HKw.out).trans HK4.out⟩
  have q2 : ((strL s).toList == [100, 105, 114, 101, 99, 116, 111, 114, 121]) = false := by rw [htl, beq_eq_false_iff_ne]; exact h2
  by_cases h3 : s = nLink
  · have q3 : ((strL s).toList == [108, 105, 110, 107]) = true := by rw [htl, h3]; rfl
    have HS : Hid (fileK s = [(nEnsure, s), (nTarget, [])]) := by show _ = _; unfold fileK; rw [if_neg h1, if_neg h2, if_pos h3]
    clear h1 h2 h3 htl
    go_enter Tryz.func67, Tryz.ntmps67
    go_wp2_with fail
    refine (stold_any s _ hs).mono ?_
    rintro e w2 ⟨f, rfl, HF⟩
    obtain ⟨fi, fc, hfe, _⟩ := id HF.out.1
    subst hfe
    obtain ⟨w3, hw3⟩ : ∃ w3, w2.alloc (.cells #[.string ⟨#[101, 110, 115, 117, 114, 101]⟩, .string (strL s), .func (.func fi) #[] fc, .string ⟨#[116, 97, 114, 103, 101, 116]⟩, .string ⟨#[]⟩, .func (.func 80) #[] #[]] 108) = w3 := ⟨_, rfl⟩
    have HK2 : Hid (Kept [] w2 w3) := by rw [← hw3]; exact Kept.alloc _ _ _
    have HR : Hid (SlotsIs w3 (.slice (some ⟨w2.heap.size, 0, none⟩) 2 2) (takesB s) [(nEnsure, s), (nTarget, [])]) := by
      refine ⟨[((nEnsure, s), .func (.func fi) #[] fc), ((nTarget, []), .func (.func 80) #[] #[])], rfl, SlotRow.made w3 _ _ 2 _ (by rw [← hw3]; exact heap_alloc_last _ _) rfl rfl, fun x hx => ?_, fun x hx => ?_⟩
      · simp only [List.mem_cons, List.not_mem_nil, or_false] at hx
        rcases hx with rfl | rfl
        · exact HF.out.1.kept HK2.out
        · rw [takes_of (by decide), valB_target]; exact fn_path _
      · simp only [List.mem_cons, List.not_mem_nil, or_false] at hx
        rcases hx with rfl | rfl
        · exact ⟨(show nEnsure.length ≤ 140737488355328 by decide), hs⟩
        · exact ⟨by decide, by decide⟩
    go_wp2_with fail
    go_ret
    rw [HS.out]
    exact ⟨_, rfl, HR.out, HF.out.2.trans HK2.out⟩
  have q3 : ((strL s).toList == [108, 105, 110, 107]) = false := by rw [htl, beq_eq_false_iff_ne]; exact h3
  by_cases h4 : s = nAbsent
  · have q4 : ((strL s).toList == [97, 98, 115, 101, 110, 116]) = true := by rw [htl, h4]; rfl
    have HS : Hid (fileK s = [(nEnsure, s)]) := by show _ = _; unfold fileK; rw [if_neg h1, if_neg h2, if_neg h3, if_pos h4]
    clear h1 h2 h3 h4 htl
    go_enter Tryz.func67, Tryz.ntmps67
    go_wp2_with fail
    refine (stold_any s _ hs).mono ?_
    rintro e w2 ⟨f, rfl, HF⟩
    obtain ⟨fi, fc, hfe, _⟩ := id HF.out.1
    subst hfe
    have HK2 := Lib.hid (Kept.alloc [] w2 (.cells #[.string ⟨#[101, 110, 115, 117, 114, 101]⟩, .string (strL s), .func (.func fi) #[] fc] 108))
    have HR := Lib.hid (SlotsIs.told hs (heap_alloc_last w2 (.cells #[.string ⟨#[101, 110, 115, 117, 114, 101]⟩, .string (strL s), .func (.func fi) #[] fc] 108)) (HF.out.1.kept HK2.out))
    go_wp2_with fail
    go_ret
    rw [HS.out]
    exact ⟨_, rfl, HR.out, HF.out.2.trans HK2.out⟩
  have q4 : ((strL s).toList == [97, 98, 115, 101, 110, 116]) = false := by rw [htl, beq_eq_false_iff_ne]; exact h4
  have HS : Hid (fileK s = []) := by show _ = _; unfold fileK; rw [if_neg h1, if_neg h2, if_neg h3, if_neg h4]
  clear h1 h2 h3 h4 htl
  go_enter Tryz.func67, Tryz.ntmps67
  go_wp2_with fail
  go_ret
  rw [HS.out]
  exact SlotsOut.none s w w (Kept.refl _ _)

theorem elemSlot : ElemOk Tryz.prog 101 108 (.agg #[.string (strL []), .string (strL []), .nilFunc]) 3 40 := ⟨Tryz.underlying101, by kernel_rfl, rfl, by omega⟩
/-- 'append([]slot{x}, l...)' where l is not empty. -/
theorem slot_grow {w : World} {g b o cap : Nat} {x : Prm × Value} {L : List (Prm × Value)} (hg : w.heap[g]? = some (.cells (slv [x]).toArray 108)) (hl : 0 < L.length) (hn : L.length ≤ 1000) (hr : w.rangeAt b o (slv L)) :
    ∃ v' w', (Builtin.append_ #[101, 101] 101 #[.slice (some ⟨g, 0, none⟩) 1 1, .slice (some ⟨b, o, none⟩) L.length cap]).run Tryz.prog w = .ok v' w' ∧ SlotRow w' v' (x :: L) ∧ Kept [] w w' := by
  obtain ⟨i, hi, hz, hs, hb⟩ := info_parts elemSlot.info
  have hrun := run_append_grow (P := Tryz.prog) w 101 101 108 i _ Tryz.underlying101 hi hz ⟨g, 0, none⟩ 1 1 (slv [x]) (by rw [slv_length, hs]; rfl) (fun j v hv => by
      rw [Addr.add_mid, Nat.zero_add, cell_of_row w g j _ _ _ hg]; simpa using hv) ⟨b, o, none⟩ L.length cap (slv L) (by rw [slv_length, hs]; omega) (fun j v hv => by rw [Addr.add_mid]; exact hr j v hv) (by omega) (by omega)
      (by rw [hb]; exact growslice_fits (by omega) (by omega))
  refine ⟨_, _, hrun, .inr ⟨w.heap.size, 0, _, by rw [List.length_cons, Nat.add_comm], ?_, fun j u hu => ?_⟩, (Kept.drew [] w).trans (Kept.alloc [] _ _)⟩
  · rw [size_alloc]; exact Nat.lt_succ_self _
  · have hh := heap_alloc_last w.drew (.cells ((slv [x]).toArray ++ (slv L).toArray ++ Builtin.zeroCells (Value.agg #[.string (strL []), .string (strL []), .nilFunc]).cells (grownCap w (1 + L.length) 1 108 - (1 + L.length))) 108)
    rw [Nat.zero_add]
    refine (cell_of_row _ w.heap.size j _ _ _ hh).trans ?_
    have hj := (List.getElem?_eq_some_iff.1 hu).1
    rw [show slv (x :: L) = slv [x] ++ slv L from slv_append [x] L] at hu hj
    rw [Array.getElem?_append_left (by simp; simpa using hj)]
    simpa using hu

/-- The slots that stand behind ensure; their functions. -/
def Others (w : World) (ao : Option Addr) (len cap : Nat) (l : List Prm) : Prop :=
  ∃ L : List (Prm × Value), L.map (·.1) = l ∧ len = L.length ∧ 0 < L.length ∧ L.length ≤ 1000 ∧ (∃ b o, ao = some ⟨b, o, none⟩ ∧ b < w.heap.size ∧ w.rangeAt b o (slv L)) ∧ (∀ x ∈ L, x.1.1 ≠ nEnsure ∧ FnIs w x.2 (valB x.1.1)) ∧ (∀ s ∈ l, s.1.length ≤ 140737488355328 ∧ s.2.length ≤ 140737488355328) ∧ cap < 9223372036854775807
theorem Others.kept {w w' : World} {ao : Option Addr} {len cap : Nat} {l : List Prm} (h : Others w ao len cap l) (hk : Kept [] w w') : Others w' ao len cap l := by
  obtain ⟨L, h1, h2, h3, h4, ⟨b, o, h5, h6, h7⟩, h8, h9⟩ := h
  exact ⟨L, h1, h2, h3, h4, ⟨b, o, h5, Nat.lt_of_lt_of_le h6 hk.size, hk.range h6 (by simp) h7⟩, fun x hx => ⟨(h8 x hx).1, (h8 x hx).2.kept hk⟩, h9⟩

set_option maxRecDepth 100000 in
set_option maxHeartbeats 2000000 in
theorem record1_any (s : List UInt8) (g : Nat) (ao : Option Addr) (len cap : Nat) (l : List Prm) (w : World) (hs : s.length ≤ 140737488355328) (hg : w.heap[g]? = some (.cells #[.slice ao len cap] 101)) (ho : Others w ao len cap l) :
    Calls Tryz.prog 82 #[.string (strL s), .pointer (some ⟨g, 0, none⟩)] w (SlotsOut (recK s l) s w) := by
  have htl := strL_bytes s
  by_cases h1 : s = nPresent
  · have q1 : ((strL s).toList == [112, 114, 101, 115, 101, 110, 116]) = true := by rw [htl, h1]; rfl
    have HS : Hid (recK s l = (nEnsure, s) :: l) := by show _ = _; unfold recK; rw [if_pos h1]
    obtain ⟨L, o1, rfl, o3, o4, ⟨b, o, rfl, o5, o6⟩, o7, o8, o9⟩ := ho
    have O1 := Lib.hid o1
    have O5 := Lib.hid o5
    have O6 := Lib.hid o6
    have O7 := Lib.hid o7
    have O8 := Lib.hid o8
    have HG := Lib.hid hg
    have hgl : g < w.heap.size := (Array.getElem?_eq_some_iff.1 hg).1
    have c0 : ∀ w', Kept [] w.drew w' → w'.cell? ⟨g, 0, none⟩ = some (.slice (some ⟨b, o, none⟩) L.length cap) := fun w' hk => cell_of_row _ _ 0 _ _ _ (hk.heap (by simp) (show w.drew.heap[g]? = _ from HG.out))
    obtain ⟨n, hn⟩ : ∃ n, L.length = n := ⟨_, rfl⟩
    have HN := Lib.hid hn
    clear o1 o5 o6 o7 o8 hg h1 htl
    go_enter Tryz.func82, Tryz.ntmps82
    go_wp2_with fail
    refine wp_region_ord [(true, 0), (true, 3), (false, 1), (false, 2), (false, 4), (true, 5)] [] (by kernel_rfl) (fun _ _ d _ _ h => by cases d <;> exact h) (by kernel_rfl) rfl (by kernel_rfl) (by kernel_rfl) ?_
    simp only [named, List.getD_cons_zero, List.getD_cons_succ]
    repeat (first | (apply wpGrow_take; (case hw => rfl); (case hv => intro w' hk; go_simp; with_reducible rfl); simp only [Act.put, List.setIfInBounds_toArray, List.set_cons_zero, List.set_cons_succ]) | (refine wpGrow_pass (by rfl) ?_; simp only [Act.put, List.setIfInBounds_toArray, List.set_cons_zero, List.set_cons_succ]) | (refine wpGrow_skip (by rfl) ?_; simp only [Act.put, List.setIfInBounds_toArray, List.set_cons_zero, List.set_cons_succ]))
    clear c0
    refine wpGrow_force (by rfl) (fun K hK => ?_)
    go_simp
    refine (stold_any s _ hs).mono ?_
    rintro e w2 ⟨f, rfl, HF⟩
    obtain ⟨fi, fc, hfe, _⟩ := id HF.out.1
    subst hfe
    refine hK _ _ HF.out.2 ?_
    clear hK K
    refine wpGrow_force (by rfl) (fun K hK => ?_)
    go_simp
    refine hK _ _ (Kept.alloc _ _ _) ?_
    clear hK K
    obtain ⟨w3, hw3⟩ : ∃ w3, w2.alloc (.cells #[.string ⟨#[101, 110, 115, 117, 114, 101]⟩, .string (strL s), .func (.func fi) #[] fc] 108) = w3 := ⟨_, rfl⟩
    have HK3 : Hid (Kept [] w.drew w3) := by rw [← hw3]; exact HF.out.2.trans (Kept.alloc _ _ _)
    have HK23 : Hid (Kept [] w2 w3) := by rw [← hw3]; exact Kept.alloc _ _ _
    obtain ⟨v4, w4, hrun, hrow, hk4⟩ := slot_grow (w := w3) (g := w2.heap.size) (b := b) (o := o) (cap := cap) (x := ((nEnsure, s), .func (.func fi) #[] fc)) (L := L) (by rw [← hw3]; exact heap_alloc_last _ _) (by omega) (by omega) (HK3.out.range O5.out (by simp) (show w.drew.rangeAt b o (slv L) from O6.out))
    rw [HN.out] at hrun
    rw [hw3]
    have HRUN := Lib.hid hrun
    have HRW : Hid (SlotRow w4 v4 (((nEnsure, s), .func (.func fi) #[] fc) :: L) ∧ Kept [] w3 w4) := ⟨hrow, hk4⟩
    clear hrun hrow hk4 hw3
    refine wpGrow_force (by rfl) (fun K hK => ?_)
    refine wp_append_run _ _ _ rfl _ _ _ rfl rfl HRUN.out ?_
    refine hK _ _ HRW.out.2 ?_
    clear hK K
    repeat (first | (apply wpGrow_take; (case hw => rfl); (case hv => intro w' hk; go_simp; with_reducible rfl); simp only [Act.put, List.setIfInBounds_toArray, List.set_cons_zero, List.set_cons_succ]) | (refine wpGrow_pass (by rfl) ?_; simp only [Act.put, List.setIfInBounds_toArray, List.set_cons_zero, List.set_cons_succ]) | (refine wpGrow_skip (by rfl) ?_; simp only [Act.put, List.setIfInBounds_toArray, List.set_cons_zero, List.set_cons_succ]))
    refine wpGrow_nil ?_
    go_wp2_with fail
    have hsl := HRW.out.1.cell
    obtain ⟨ao4, cap4, rfl, _⟩ := hsl
    go_ret
    rw [HS.out]
    have hk24 : Kept [] w2 w4 := HK23.out.trans HRW.out.2
    have hk04 : Kept [] w w4 := (Kept.drew [] w).trans (HF.out.2.trans hk24)
    refine ⟨_, rfl, ⟨_, by rw [List.map_cons, O1.out], HRW.out.1, fun x hx => ?_, fun x hx => ?_⟩, hk04⟩
    · rcases List.mem_cons.1 hx with rfl | hx
      · exact HF.out.1.kept hk24
      · rw [takes_of (O7.out x hx).1]
        exact (O7.out x hx).2.kept hk04
    · rcases List.mem_cons.1 hx with rfl | hx
      · exact ⟨(show nEnsure.length ≤ 140737488355328 by decide), hs⟩
      · exact O8.out x hx
  have q1 : ((strL s).toList == [112, 114, 101, 115, 101, 110, 116]) = false := by rw [htl, beq_eq_false_iff_ne]; exact h1
  by_cases h2 : s = nAbsent
  · have q2 : ((strL s).toList == [97, 98, 115, 101, 110, 116]) = true := by rw [htl, h2]; rfl
    have HS : Hid (recK s l = [(nEnsure, s)]) := by show _ = _; unfold recK; rw [if_neg h1, if_pos h2]
    clear h1 h2 htl ho hg
    go_enter Tryz.func82, Tryz.ntmps82
    go_wp2_with fail
    refine (stold_any s _ hs).mono ?_
    rintro e w2 ⟨f, rfl, HF⟩
    obtain ⟨fi, fc, hfe, _⟩ := id HF.out.1
    subst hfe
    have HK2 := Lib.hid (Kept.alloc [] w2 (.cells #[.string ⟨#[101, 110, 115, 117, 114, 101]⟩, .string (strL s), .func (.func fi) #[] fc] 108))
    have HR := Lib.hid (SlotsIs.told hs (heap_alloc_last w2 (.cells #[.string ⟨#[101, 110, 115, 117, 114, 101]⟩, .string (strL s), .func (.func fi) #[] fc] 108)) (HF.out.1.kept HK2.out))
    go_wp2_with fail
    go_ret
    rw [HS.out]
    exact ⟨_, rfl, HR.out, HF.out.2.trans HK2.out⟩
  have q2 : ((strL s).toList == [97, 98, 115, 101, 110, 116]) = false := by rw [htl, beq_eq_false_iff_ne]; exact h2
  have HS : Hid (recK s l = []) := by show _ = _; unfold recK; rw [if_neg h1, if_neg h2]
  clear h1 h2 htl ho hg
  go_enter Tryz.func82, Tryz.ntmps82
  go_wp2_with fail
  go_ret
  rw [HS.out]
  exact SlotsOut.none s w w (Kept.refl _ _)

theorem enters_rec1 : Enters Tryz.prog 82 := enters_of Tryz.func82 (by kernel_rfl) rfl
theorem enters_file : Enters Tryz.prog 67 := enters_of Tryz.func67 (by kernel_rfl) rfl
theorem enters_serv : Enters Tryz.prog 73 := enters_of Tryz.func73 (by kernel_rfl) rfl
theorem st_file (w : World) : StFnIs w (.func (.func 67) #[] #[]) fileK := ⟨_, _, rfl, enters_file, fun w' _ s hs => fileSlots_any s w' hs⟩
theorem st_serv (w : World) : StFnIs w (.func (.func 73) #[] #[]) servK := ⟨_, _, rfl, enters_serv, fun w' _ s hs => serviceSlots_any s w' hs⟩
theorem st_rec {w : World} {g : Nat} {ao : Option Addr} {len cap : Nat} {l : List Prm} (hg : w.heap[g]? = some (.cells #[.slice ao len cap] 101)) (ho : Others w ao len cap l) : StFnIs w (.func (.func 82) #[] #[.pointer (some ⟨g, 0, none⟩)]) (fun s => recK s l) :=
  ⟨_, _, rfl, enters_rec1, fun w' hk s hs => record1_any s g ao len cap l w' hs (hk.heap (by simp) hg) (ho.kept hk)⟩
theorem record_any (ao : Option Addr) (len cap : Nat) (w : World) :
    Calls Tryz.prog 69 #[.slice ao len cap] w fun e w' => e = .returned (.func (.func 82) #[] #[.pointer (some ⟨w.heap.size, 0, none⟩)]) ∧ Hid (w'.heap[w.heap.size]? = some (.cells #[.slice ao len cap] 101) ∧ Kept [] w w') := by
  have hmf : ∀ (fn : Fn) (first cap : Array Value) (w : World), (Instr.makeFunc fn first cap).run Tryz.prog w = .ok (.func fn first cap) w := fun _ _ _ _ => rfl
  have HK : Hid ((w.alloc (.cells #[.slice ao len cap] 101)).heap[w.heap.size]? = some (.cells #[.slice ao len cap] 101) ∧ Kept [] w (w.alloc (.cells #[.slice ao len cap] 101))) := ⟨heap_alloc_last _ _, Kept.alloc [] w _⟩
  go_enter Tryz.func69, Tryz.ntmps69
  go_wp2_with fail
  go_ret
  exact ⟨rfl, HK.out⟩

/-- How an entry of a map reads: itself. -/
def heldR (v : Value) : Option (DataW Value × List MemPlace) := some (.held v, [])
/-- Block m of w is a map of texts to kinds. -/
def KdMap (w : World) (m n : Nat) (f : List UInt8 → Option Value) : Prop :=
  ∃ D : DataW Value, w.ownsMap Tryz.prog 9 heldR m n D ∧ IsMap D ∧ ∀ (s : List UInt8) (z : DataW Value), D.atKey (.string s) z = match f s with | some v => .held v | none => z
theorem KdMap.made (w : World) : KdMap (w.alloc (.map #[] 0)) w.heap.size 0 (fun _ => none) := ⟨.map [], World.ownsMap_made w _ _ _, isMap_empty, fun s z => by rfl⟩
theorem KdMap.kept {w w' : World} {m n : Nat} {f : List UInt8 → Option Value} {ex : List Nat} (h : KdMap w m n f) (hk : Kept ex w w') (hm : m ∉ ex) : KdMap w' m n f := by
  obtain ⟨D, ⟨es, clock, hb, r⟩, h2⟩ := h
  exact ⟨D, ⟨es, clock, hk.heap hm hb, r⟩, h2⟩
theorem KdMap.lt {w : World} {m n : Nat} {f : List UInt8 → Option Value} (h : KdMap w m n f) : m < w.heap.size := by
  obtain ⟨D, h1, _⟩ := h
  exact h1.lt
theorem zeroKind (w : World) : (zeroValue 95).run Tryz.prog w = .ok (.agg #[.nilFunc, .string ⟨#[]⟩, .nilFunc]) w := by kernel_rfl
theorem KdMap.look {w : World} {m n : Nat} {f : List UInt8 → Option Value} (h : KdMap w m n f) (s : List UInt8) (hs : s.length ≤ 9223372036854775807) :
    (Instr.lookup 97 (.map (some m)) (.string (strL s)) true).run Tryz.prog w = .ok (.tuple #[(f s).getD (.agg #[.nilFunc, .string ⟨#[]⟩, .nilFunc]), .bool (f s).isSome]) w := by
  obtain ⟨D, h1, h2, h3⟩ := h
  obtain ⟨v, ps, hrun, hv⟩ := h1.look_ok (string_keyed Tryz.underlying9) Tryz.underlying97 (z := .agg #[.nilFunc, .string ⟨#[]⟩, .nilFunc]) (zeroKind w) (zd := .held (.agg #[.nilFunc, .string ⟨#[]⟩, .nilFunc])) (zp := []) rfl (key := .string (strL s)) (kl := .string s) (WideMaps.keyOf_string_mk Tryz.underlying9 (by rw [strL_size]; unfold maxLen; omega))
  rw [hrun]
  have h4 := h3 s
  cases hf : f s with
  | none =>
    rw [h3 s, hf] at hv
    rw [Maps.has_false_of_atKey (fun z => by rw [h4 z, hf])]
    simp only [heldR, Option.some.injEq, Prod.mk.injEq, DataW.held.injEq] at hv
    rw [hv.1]; rfl
  | some x =>
    rw [h3 s, hf] at hv
    rw [Maps.has_true_of_atKey (fun z => by rw [h4 z, hf])]
    simp only [heldR, Option.some.injEq, Prod.mk.injEq, DataW.held.injEq] at hv
    rw [hv.1]; rfl
theorem KdMap.upd {w : World} {m n : Nat} {f : List UInt8 → Option Value} (h : KdMap w m n f) (hn : n < 1000) (s : List UInt8) (hs : s.length ≤ 1000) (x : Value) :
    ∃ w', (Instr.mapUpdate 97 (.map (some m)) (.string (strL s)) x).run Tryz.prog w = .ok () w' ∧ KdMap w' m (n + 1) (fun t => if t = s then some x else f t) ∧ Kept [m] w w' := by
  obtain ⟨D, h1, h2, h3⟩ := h
  obtain ⟨w', hrun, r1, r2⟩ := h1.update (string_keyed Tryz.underlying9) Tryz.underlying97 (by unfold maxLen; omega) (WideMaps.keyOf_string_mk (s := strL s) Tryz.underlying9 (by rw [strL_size]; unfold maxLen; omega)) (val := x) (d := .held x) (ps := []) rfl
  refine ⟨w', hrun, ⟨_, r1, h2.put _ _, fun t z => ?_⟩, Kept.grown r2 (fun k hk => by injection hk with hk; simp [hk])⟩
  by_cases e : t = s
  · subst e
    simp only [if_true]
    exact atKey_put_same (k := .string t) h2 (by simp [WideAt.IsKeyLit]) _ _
  · simp only [e, if_false]
    rw [← h3 t]
    exact atKey_put_other (fun hh => e (Lit.string.inj hh)) _ _
end Go.Proofs.YtfofhnbijjocfaaGreatDoor

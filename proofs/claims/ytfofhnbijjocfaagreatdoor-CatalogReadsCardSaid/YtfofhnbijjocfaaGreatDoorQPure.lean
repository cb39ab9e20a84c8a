/-
  Layer 6: the parameters that there are for a type in a state; a resource that is filled up. No program text.
  Conditions: those that each theorem states.
-/
import Derived.Test.YtfofhnbijjocfaaGreatDoorQVal
namespace Go.Proofs.YtfofhnbijjocfaaGreatDoor
open Go.RowKit Go.Maps
set_option maxRecDepth 100000

def nFile : List UInt8 := [102, 105, 108, 101]
def nAccount : List UInt8 := [97, 99, 99, 111, 117, 110, 116]
def nGroup : List UInt8 := [103, 114, 111, 117, 112]
def nPackage : List UInt8 := [112, 97, 99, 107, 97, 103, 101]
def nService : List UInt8 := [115, 101, 114, 118, 105, 99, 101]
def nEnsure : List UInt8 := [101, 110, 115, 117, 114, 101]
def nContent : List UInt8 := [99, 111, 110, 116, 101, 110, 116]
def nMode : List UInt8 := [109, 111, 100, 101]
def nPurge : List UInt8 := [112, 117, 114, 103, 101]
def nTarget : List UInt8 := [116, 97, 114, 103, 101, 116]
def nUid : List UInt8 := [117, 105, 100]
def nGid : List UInt8 := [103, 105, 100]
def nShell : List UInt8 := [115, 104, 101, 108, 108]
def nVersion : List UInt8 := [118, 101, 114, 115, 105, 111, 110]
def nDirectory : List UInt8 := [100, 105, 114, 101, 99, 116, 111, 114, 121]
def nLink : List UInt8 := [108, 105, 110, 107]
def nAbsent : List UInt8 := [97, 98, 115, 101, 110, 116]
def nPresent : List UInt8 := [112, 114, 101, 115, 101, 110, 116]
def nRunning : List UInt8 := [114, 117, 110, 110, 105, 110, 103]
def nStopped : List UInt8 := [115, 116, 111, 112, 112, 101, 100]
def nFalse : List UInt8 := [102, 97, 108, 115, 101]
def nTrue : List UInt8 := [116, 114, 117, 101]
def v0644 : List UInt8 := [48, 54, 52, 52]
def v0755 : List UInt8 := [48, 55, 53, 53]
def vUsers : List UInt8 := [117, 115, 101, 114, 115]
def vSh : List UInt8 := [47, 98, 105, 110, 47, 115, 104]
def v1000 : List UInt8 := [49, 48, 48, 48]
def vLatest : List UInt8 := [108, 97, 116, 101, 115, 116]

/-- Whether a parameter may have a value. -/
def valB (n v : List UInt8) : Bool :=
  if n = nContent then textB v else if n = nMode then modeB v else if n = nPurge then decide (v ∈ [nFalse, nTrue]) else if n = nTarget then pathB v
  else if n = nUid then idB v else if n = nGid then idB v else if n = nGroup then keyB v else if n = nShell then wdB v else if n = nVersion then fwB v else decide (n = nEnsure)
def takesB (st n v : List UInt8) : Bool := if n = nEnsure then decide (v ∈ [st]) else valB n v

/-- A type's number, 0 for none; its first state; its titles; the parameters that there are in a state. -/
def kindI (t : List UInt8) : Nat := if t = nFile then 1 else if t = nAccount then 2 else if t = nGroup then 3 else if t = nPackage then 4 else if t = nService then 5 else 0
def dfltK (k : Nat) : List UInt8 := if k = 0 then [] else if k = 1 then nFile else if k = 5 then nRunning else nPresent
def titleK (k : Nat) (s : List UInt8) : Bool := if k = 1 then titB s else keyB s
def recK (st : List UInt8) (l : List Prm) : List Prm := if st = nPresent then (nEnsure, st) :: l else if st = nAbsent then [(nEnsure, st)] else []
def fileK (st : List UInt8) : List Prm :=
  if st = nFile then [(nContent, []), (nEnsure, st), (nMode, v0644)] else if st = nDirectory then [(nEnsure, st), (nMode, v0755), (nPurge, nFalse)]
  else if st = nLink then [(nEnsure, st), (nTarget, [])] else if st = nAbsent then [(nEnsure, st)] else []
def servK (st : List UInt8) : List Prm := if st = nRunning then [(nEnsure, st)] else if st = nStopped then [(nEnsure, st)] else []
def lAccount : List Prm := [(nGroup, vUsers), (nShell, vSh), (nUid, v1000)]
def lGroup : List Prm := [(nGid, v1000)]
def lPackage : List Prm := [(nVersion, vLatest)]
def slotsK (k : Nat) (st : List UInt8) : List Prm :=
  if k = 1 then fileK st else if k = 2 then recK st lAccount else if k = 3 then recK st lGroup else if k = 4 then recK st lPackage else if k = 5 then servK st else []

/-- The program's way: a value for each parameter that there may be. -/
def fillA (T : List UInt8 → List UInt8 → Bool) : List Prm → List Prm → List Prm → Option (List Prm)
  | [], g, out => if g = [] then some out else none
  | s :: S, [], out => if T s.1 s.2 = true then fillA T S [] (out ++ [(s.1, s.2)]) else none
  | s :: S, p :: g, out => if p.1 = s.1 then (if T s.1 p.2 = true then fillA T S g (out ++ [(s.1, p.2)]) else none) else (if T s.1 s.2 = true then fillA T S (p :: g) (out ++ [(s.1, s.2)]) else none)

theorem less_asym {p q : List UInt8} (h : lessB p q = true) : lessB q p = false := by
  rw [less_tri q p, h]; simp
theorem less_irr (p : List UInt8) : lessB p p = false := by
  rw [less_tri p p]; simp
theorem less_ne {p q : List UInt8} (h : lessB p q = true) : p ≠ q := fun e => by subst e; rw [less_irr] at h; cases h
theorem less_tr : ∀ {p q r : List UInt8}, lessB p q = true → lessB q r = true → lessB p r = true
  | [], [], _, h, _ => by simp [lessB, Op.bytesLess] at h
  | [], _ :: _, [], _, h => by simp [lessB, Op.bytesLess] at h
  | [], _ :: _, _ :: _, _, _ => by simp [lessB, Op.bytesLess]
  | _ :: _, [], _, h, _ => by simp [lessB, Op.bytesLess] at h
  | _ :: _, _ :: _, [], _, h => by simp [lessB, Op.bytesLess] at h
  | a :: p, b :: q, c :: r, h, k => by
    have ih := @less_tr p q r
    unfold lessB at ih h k ⊢
    simp only [Op.bytesLess] at h k ⊢
    simp only [Bool.or_eq_true, decide_eq_true_eq, Bool.and_eq_true, UInt8.lt_iff_toNat_lt] at h k ⊢
    have e1 : ∀ x y : UInt8, (x == y) = true ↔ x.toNat = y.toNat := fun x y => by rw [beq_iff_eq, UInt8.toNat_inj]
    simp only [e1] at h k ⊢
    rcases h with h | ⟨h, h'⟩ <;> rcases k with k | ⟨k, k'⟩
    · left; omega
    · left; omega
    · left; omega
    · right; exact ⟨by omega, ih h' k'⟩

def rise (l : List Prm) : Prop := l.Pairwise fun p q => lessB p.1 q.1 = true
def goodP (T : List UInt8 → List UInt8 → Bool) (S P : List Prm) : Prop :=
  rise P ∧ (∀ p ∈ P, ∃ s ∈ S, s.1 = p.1 ∧ T p.1 p.2 = true) ∧ ∀ s ∈ S, T s.1 s.2 = true ∨ ∃ p ∈ P, p.1 = s.1
def outP (S P : List Prm) : List Prm := S.map fun s => (s.1, (getP P s.1).getD s.2)
theorem getP_cons_same (p : Prm) (g : List Prm) : getP (p :: g) p.1 = some p.2 := by simp [getP]
theorem getP_cons_ne {p : Prm} {g : List Prm} {n : List UInt8} (h : p.1 ≠ n) : getP (p :: g) n = getP g n := by simp [getP, h]
theorem getP_none_of {P : List Prm} {n : List UInt8} (h : ∀ p ∈ P, p.1 ≠ n) : getP P n = none := getP_no fun _ hj => h _ (List.getElem_mem hj)
theorem getP_mem {P : List Prm} (hr : rise P) {p : Prm} (hp : p ∈ P) : getP P p.1 = some p.2 := by
  induction P with
  | nil => cases hp
  | cons q g ih =>
    unfold rise at hr ih
    rw [List.pairwise_cons] at hr
    rcases List.mem_cons.1 hp with rfl | hp'
    · exact getP_cons_same p g
    · rw [getP_cons_ne (less_ne (hr.1 p hp'))]
      exact ih hr.2 hp'
theorem getP_some {P : List Prm} {n v : List UInt8} (h : getP P n = some v) : (n, v) ∈ P := by
  unfold getP at h
  cases hf : P.find? (fun p => decide (p.1 = n)) with
  | none => rw [hf] at h; cases h
  | some p =>
    rw [hf] at h
    have h1 := List.find?_some hf
    have h2 := List.mem_of_find?_eq_some hf
    have e1 : p.1 = n := by simpa using h1
    have e2 : p.2 = v := by simpa using h
    rw [← e1, ← e2]
    exact h2

open Classical in
theorem fill_iff (T : List UInt8 → List UInt8 → Bool) : ∀ (S P out : List Prm), rise S → fillA T S P out = if goodP T S P then some (out ++ outP S P) else none
  | [], P, out, _ => by
    unfold fillA
    by_cases h : P = []
    · subst h
      rw [if_pos rfl, if_pos ⟨List.Pairwise.nil, (fun p hp => by cases hp), (fun s hs => by cases hs)⟩]
      simp [outP]
    · rw [if_neg h, if_neg]
      rintro ⟨_, h2, _⟩
      cases P with
      | nil => exact h rfl
      | cons p g => obtain ⟨s, hs, _⟩ := h2 p (by simp); cases hs
  | s :: S, [], out, hS => by
    have hS' : rise S := (List.pairwise_cons.1 hS).2
    rw [fillA]
    by_cases ht : T s.1 s.2 = true
    · rw [if_pos ht, fill_iff T S [] _ hS']
      by_cases hg : goodP T S []
      · rw [if_pos hg, if_pos (show goodP T (s :: S) [] from ⟨List.Pairwise.nil, (fun p hp => by cases hp), (fun x hx => (List.mem_cons.1 hx).elim (fun e => .inl (by rw [e]; exact ht)) (hg.2.2 x))⟩)]
        simp [outP, getP]
      · rw [if_neg hg, if_neg]
        rintro ⟨_, _, h3⟩
        exact hg ⟨List.Pairwise.nil, (fun p hp => by cases hp), (fun x hx => h3 x (by simp [hx]))⟩
    · rw [if_neg ht, if_neg]
      rintro ⟨_, _, h3⟩
      rcases h3 s (by simp) with h | ⟨p, hp, _⟩
      · exact ht h
      · cases hp
  | s :: S, p :: g, out, hS => by
    obtain ⟨hs1, hS'⟩ := List.pairwise_cons.1 hS
    rw [fillA]
    by_cases he : p.1 = s.1
    · rw [if_pos he]
      have hiff : goodP T (s :: S) (p :: g) ↔ T s.1 p.2 = true ∧ goodP T S g := by
        constructor
        · rintro ⟨h1, h2, h3⟩
          obtain ⟨hp1, hg1⟩ := List.pairwise_cons.1 h1
          refine ⟨?_, hg1, fun q hq => ?_, fun x hx => ?_⟩
          · obtain ⟨_, _, _, h⟩ := h2 p (by simp)
            rwa [he] at h
          · obtain ⟨x, hx, hxe, hxt⟩ := h2 q (by simp [hq])
            rcases List.mem_cons.1 hx with rfl | hx
            · exact absurd (he.trans hxe) (less_ne (hp1 q hq))
            · exact ⟨x, hx, hxe, hxt⟩
          · rcases h3 x (by simp [hx]) with h | ⟨q, hq, hqe⟩
            · exact .inl h
            · rcases List.mem_cons.1 hq with rfl | hq
              · exact absurd (he.symm.trans hqe) (less_ne (hs1 x hx))
              · exact .inr ⟨q, hq, hqe⟩
        · rintro ⟨ht, h1, h2, h3⟩
          refine ⟨List.pairwise_cons.2 ⟨fun q hq => ?_, h1⟩, fun q hq => ?_, fun x hx => ?_⟩
          · obtain ⟨x, hx, hxe, _⟩ := h2 q hq
            rw [he, ← hxe]
            exact hs1 x hx
          · rcases List.mem_cons.1 hq with rfl | hq
            · exact ⟨s, by simp, he.symm, by rw [he]; exact ht⟩
            · obtain ⟨x, hx, hxe, hxt⟩ := h2 q hq
              exact ⟨x, by simp [hx], hxe, hxt⟩
          · rcases List.mem_cons.1 hx with rfl | hx
            · exact .inr ⟨p, by simp, he⟩
            · rcases h3 x hx with h | ⟨q, hq, hqe⟩
              · exact .inl h
              · exact .inr ⟨q, by simp [hq], hqe⟩
      by_cases ht : T s.1 p.2 = true
      · rw [if_pos ht, fill_iff T S g _ hS']
        by_cases hg : goodP T S g
        · rw [if_pos hg, if_pos (hiff.2 ⟨ht, hg⟩)]
          have e1 : outP (s :: S) (p :: g) = (s.1, p.2) :: outP S g := by
            unfold outP
            rw [List.map_cons, ← he, getP_cons_same]
            congr 1
            refine List.map_congr_left fun x hx => ?_
            rw [getP_cons_ne (by rw [he]; exact less_ne (hs1 x hx))]
          rw [e1]; simp
        · rw [if_neg hg, if_neg fun h => hg (hiff.1 h).2]
      · rw [if_neg ht, if_neg fun h => ht (hiff.1 h).1]
    · rw [if_neg he]
      have hne : ∀ (h1 : rise (p :: g)) (h2 : ∀ q ∈ p :: g, ∃ x ∈ s :: S, x.1 = q.1 ∧ T q.1 q.2 = true) (q : Prm), q ∈ p :: g → q.1 ≠ s.1 := by
        intro h1 h2 q hq hqe
        rcases List.mem_cons.1 hq with rfl | hq
        · exact he hqe
        · obtain ⟨x, hx, hxe, _⟩ := h2 p (by simp)
          rcases List.mem_cons.1 hx with rfl | hx
          · exact he hxe.symm
          · have l1 := (List.pairwise_cons.1 h1).1 q hq
            have l2 := hs1 x hx
            rw [hxe, ← hqe] at l2
            rw [less_asym l1] at l2
            cases l2
      have hiff : goodP T (s :: S) (p :: g) ↔ T s.1 s.2 = true ∧ goodP T S (p :: g) := by
        constructor
        · rintro ⟨h1, h2, h3⟩
          refine ⟨?_, h1, fun q hq => ?_, fun x hx => h3 x (by simp [hx])⟩
          · rcases h3 s (by simp) with h | ⟨q, hq, hqe⟩
            · exact h
            · exact absurd hqe (hne h1 h2 q hq)
          · obtain ⟨x, hx, hxe, hxt⟩ := h2 q hq
            rcases List.mem_cons.1 hx with rfl | hx
            · exact absurd hxe.symm (hne h1 h2 q hq)
            · exact ⟨x, hx, hxe, hxt⟩
        · rintro ⟨ht, h1, h2, h3⟩
          refine ⟨h1, fun q hq => ?_, fun x hx => ?_⟩
          · obtain ⟨x, hx, hxe, hxt⟩ := h2 q hq
            exact ⟨x, by simp [hx], hxe, hxt⟩
          · rcases List.mem_cons.1 hx with rfl | hx
            · exact .inl ht
            · exact h3 x hx
      by_cases ht : T s.1 s.2 = true
      · rw [if_pos ht, fill_iff T S (p :: g) _ hS']
        by_cases hg : goodP T S (p :: g)
        · rw [if_pos hg, if_pos (hiff.2 ⟨ht, hg⟩)]
          have hgg := hiff.2 ⟨ht, hg⟩
          have e1 : outP (s :: S) (p :: g) = (s.1, s.2) :: outP S (p :: g) := by
            unfold outP
            rw [List.map_cons, getP_none_of fun q hq => hne hgg.1 hgg.2.1 q hq]
            rfl
          rw [e1]; simp
        · rw [if_neg hg, if_neg fun h => hg (hiff.1 h).2]
      · rw [if_neg ht, if_neg fun h => ht (hiff.1 h).1]

theorem slots_rise (k : Nat) (st : List UInt8) : rise (slotsK k st) := by
  have h : ∀ l : List Prm, (l.map (·.1)).Pairwise (fun p q => lessB p q = true) → rise l := fun l h => by
    unfold rise
    rwa [List.pairwise_map] at h
  apply h
  unfold slotsK fileK recK servK
  repeat' split
  all_goals first | exact List.Pairwise.nil | (simp only [lAccount, lGroup, lPackage, List.map_cons, List.map_nil]; decide)

/-- The state that is told, or the type's first. -/
def stO (t : List UInt8) (P : List Prm) : List UInt8 := (getP P nEnsure).getD (dfltK (kindI t))
def fillO (t : List UInt8) (P : List Prm) : Option (List Prm) := fillA (takesB (stO t P)) (slotsK (kindI t) (stO t P)) P []
/-- What Full answers: an error's number. -/
def codeO (t ti : List UInt8) (P : List Prm) : Int :=
  if kindI t = 0 then 60 else if titleK (kindI t) ti = false then 61 else if fillO t P = none then 62 else 0
def outO (t ti : List UInt8) (P : List Prm) : List Prm := if codeO t ti P = 0 then (fillO t P).getD [] else []
def txO (t ti : List UInt8) (P : List Prm) (x : List UInt8) : List UInt8 := if codeO t ti P = 0 then x else []
theorem codeO_cases (t ti : List UInt8) (P : List Prm) : codeO t ti P = 60 ∨ codeO t ti P = 61 ∨ codeO t ti P = 62 ∨ codeO t ti P = 0 := by
  unfold codeO
  repeat' split
  all_goals simp
theorem codeO_ok {t ti : List UInt8} {P : List Prm} (h : codeO t ti P = 0) : kindI t ≠ 0 ∧ titleK (kindI t) ti = true ∧ goodP (takesB (stO t P)) (slotsK (kindI t) (stO t P)) P ∧ outO t ti P = outP (slotsK (kindI t) (stO t P)) P := by
  have h0 := h
  unfold codeO at h
  by_cases h1 : kindI t = 0
  · rw [if_pos h1] at h; cases h
  rw [if_neg h1] at h
  by_cases h2 : titleK (kindI t) ti = false
  · rw [if_pos h2] at h; cases h
  rw [if_neg h2] at h
  by_cases h3 : fillO t P = none
  · rw [if_pos h3] at h; cases h
  have hf := fill_iff (takesB (stO t P)) (slotsK (kindI t) (stO t P)) P [] (slots_rise _ _)
  classical
  by_cases hg : goodP (takesB (stO t P)) (slotsK (kindI t) (stO t P)) P
  · rw [if_pos hg] at hf
    refine ⟨h1, by simpa using h2, hg, ?_⟩
    unfold outO fillO
    rw [if_pos h0, hf]
    simp
  · rw [if_neg hg] at hf
    exact absurd hf h3
theorem codeO_of {t ti : List UInt8} {P : List Prm} (h1 : kindI t ≠ 0) (h2 : titleK (kindI t) ti = true) (h3 : goodP (takesB (stO t P)) (slotsK (kindI t) (stO t P)) P) : codeO t ti P = 0 := by
  unfold codeO
  rw [if_neg h1, if_neg (by rw [h2]; simp), if_neg]
  have hf := fill_iff (takesB (stO t P)) (slotsK (kindI t) (stO t P)) P [] (slots_rise _ _)
  classical
  rw [if_pos h3] at hf
  unfold fillO
  rw [hf]; simp
end Go.Proofs.YtfofhnbijjocfaaGreatDoor

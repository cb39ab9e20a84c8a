/-
  Layer 7: catalogs, what is wrong with one, its bytes, and bytes that are read. No program text.
  Conditions: those that each theorem states.
  Layer 7: bytes that are read as a catalog: what was written is read as it was, and what is cut, or longer, is not read. No program text.
  Conditions: those that each theorem states.
  Layer 7: catalogs in memory: slices of resources, slices of edges; what the call itself made; the list of types.
  Conditions: those that each theorem states.
-/
import Derived.Test.YtfofhnbijjocfaaGreatDoorGEdg
import Derived.Test.YtfofhnbijjocfaaGreatDoorQSame
import Derived.Test.YtfofhnbijjocfaaGreatDoorQPure2
import Derived.Test.YtfofhnbijjocfaaGreatDoorQVal
namespace Go.Proofs.YtfofhnbijjocfaaGreatDoor
open Go.RowKit Go.Maps
set_option maxRecDepth 100000

/-- A resource, a catalog. -/
structure Res where
  t : List UInt8
  ti : List UInt8
  P : List Prm
structure Cat where
  ver : Int
  node : List UInt8
  R : List Res
  E : List Edg
instance : DecidableEq Res := fun a b => decidable_of_iff (a.t = b.t ∧ a.ti = b.ti ∧ a.P = b.P) (by cases a; cases b; simp)
instance : DecidableEq Cat := fun a b => decidable_of_iff (a.ver = b.ver ∧ a.node = b.node ∧ a.R = b.R ∧ a.E = b.E) (by cases a; cases b; simp)

/-- What is wrong with a resource behind another one. -/
def resE (p : Option Res) (r : Res) : Int :=
  if codeO r.t r.ti r.P ≠ 0 then codeO r.t r.ti r.P else if outO r.t r.ti r.P ≠ r.P then 70 else
    match p with
    | none => 0
    | some q => if lessR r.t q.t r.ti q.ti = true then 70 else if lessR q.t r.t q.ti r.ti = true then 0 else 71
def resL : Option Res → List Res → Int
  | _, [] => 0
  | p, r :: l => if resE p r ≠ 0 then resE p r else resL (some r) l
/-- The one ahead of a place. -/
def ahead {α : Type} (p : Option α) (R : List α) (k : Nat) : Option α := if k = 0 then p else R[k - 1]?
theorem ahead_cons {α : Type} (p : Option α) (r : α) (R : List α) (k : Nat) : ahead p (r :: R) (k + 1) = ahead (some r) R k := by
  unfold ahead
  cases k with
  | zero => simp
  | succ k => simp
theorem resL_at : ∀ (p : Option Res) (R : List Res) (k : Nat) (hk : k < R.length) (_ : ∀ j (hj : j < R.length), j < k → resE (ahead p R j) R[j] = 0) (_ : resE (ahead p R k) R[k] ≠ 0), resL p R = resE (ahead p R k) R[k]
  | p, r :: R, 0, _, _, h => by
    have h' : resE p r ≠ 0 := h
    rw [resL, if_pos h']
    rfl
  | p, r :: R, k + 1, hk, h0, h => by
    have h1 : resE p r = 0 := h0 0 (by simp) (by omega)
    rw [ahead_cons] at h ⊢
    rw [resL, if_neg (by rw [h1]; simp)]
    exact resL_at (some r) R k (by simpa using hk) (fun j hj hjk => by
      have := h0 (j + 1) (by simpa using hj) (by omega)
      rwa [ahead_cons] at this) h
theorem resL_all : ∀ (p : Option Res) (R : List Res) (_ : ∀ j (hj : j < R.length), resE (ahead p R j) R[j] = 0), resL p R = 0
  | p, [], _ => rfl
  | p, r :: R, h0 => by
    have h1 : resE p r = 0 := h0 0 (by simp)
    rw [resL, if_neg (by rw [h1]; simp)]
    exact resL_all (some r) R fun j hj => by
      have := h0 (j + 1) (by simpa using hj)
      rwa [ahead_cons] at this
theorem resL_zero : ∀ (p : Option Res) (R : List Res) (_ : resL p R = 0) (j : Nat) (hj : j < R.length), resE (ahead p R j) R[j] = 0
  | p, r :: R, h, 0, _ => by
    rw [resL] at h
    by_cases h1 : resE p r = 0
    · exact h1
    · rw [if_pos h1] at h; exact absurd h h1
  | p, r :: R, h, j + 1, hj => by
    rw [resL] at h
    by_cases h1 : resE p r = 0
    · rw [if_neg (by rw [h1]; simp)] at h
      rw [ahead_cons]
      exact resL_zero (some r) R h j (by simpa using hj)
    · rw [if_pos h1] at h; exact absurd h h1

/-- A resource that can't be what it is to be, for another one. -/
def upB (a : Res) : Bool := decide (a.t = nFile) && decide (getV a.P nEnsure ≠ nDirectory)
def downB (a b : Res) : Bool := decide (b.t = nFile) && (decide (getV b.P nEnsure ≠ nAbsent) && decide ((a.ti ++ [47]) <+: b.ti))
def blkB (R : List Res) : Bool := R.any fun a => upB a && R.any fun b => downB a b
theorem blkB_yes {R : List Res} {i k : Nat} (hi : i < R.length) (hk : k < R.length) (h1 : upB R[i] = true) (h2 : downB R[i] R[k] = true) : blkB R = true := by
  unfold blkB
  rw [List.any_eq_true]
  refine ⟨_, List.getElem_mem hi, ?_⟩
  rw [Bool.and_eq_true]
  exact ⟨h1, List.any_eq_true.2 ⟨_, List.getElem_mem hk, h2⟩⟩
theorem blkB_no {R : List Res} (h : ∀ i (hi : i < R.length), upB R[i] = false ∨ ∀ k (hk : k < R.length), downB R[i] R[k] = false) : blkB R = false := by
  unfold blkB
  rw [List.any_eq_false]
  intro a ha
  obtain ⟨i, hi, rfl⟩ := List.getElem_of_mem ha
  rw [Bool.not_eq_true, Bool.and_eq_false_iff]
  rcases h i hi with h | h
  · exact .inl h
  · right
    rw [List.any_eq_false]
    intro b hb
    obtain ⟨k, hk, rfl⟩ := List.getElem_of_mem hb
    rw [h k hk]; simp

/-- Edges rise. -/
def riseB (a b : Edg) : Bool := if a.fr = b.fr then decide (a.tw < b.tw) else decide (a.fr < b.fr)
def edgE (n : Nat) (p : Option Edg) (x : Edg) : Bool :=
  decide (0 ≤ x.fr ∧ x.fr < n ∧ 0 ≤ x.tw ∧ x.tw < n ∧ x.fr ≠ x.tw) && (match p with
    | none => true
    | some q => riseB q x)
def edgB (n : Nat) (E : List Edg) : Bool := decide (∀ j, (hj : j < E.length) → edgE n (ahead none E j) E[j] = true)
theorem edgB_no {n : Nat} {E : List Edg} {j : Nat} (hj : j < E.length) (h : edgE n (ahead none E j) E[j] = false) : edgB n E = false := by
  unfold edgB
  rw [decide_eq_false]
  intro hh
  rw [hh j hj] at h
  cases h
theorem edgB_yes {n : Nat} {E : List Edg} (h : ∀ j (hj : j < E.length), edgE n (ahead none E j) E[j] = true) : edgB n E = true := decide_eq_true h

/-- Bytes. -/
def two (n : Nat) : List UInt8 := [hiB n, loB n]
def txt (s : List UInt8) : List UInt8 := two s.length ++ s
def tyN (t : List UInt8) : UInt8 := loB (kindI t)
def prmB (p : Prm) : List UInt8 := txt p.1 ++ txt p.2
def resB (r : Res) : List UInt8 := tyN r.t :: (txt r.ti ++ loB r.P.length :: r.P.flatMap prmB)
def ntB (b : Bool) : UInt8 := if b then 1 else 0
def edB (x : Edg) : List UInt8 := [loB x.fr.toNat, loB x.tw.toNat, ntB x.nt]
def catB (c : Cat) : List UInt8 := two c.ver.toNat ++ (txt c.node ++ (loB c.R.length :: (c.R.flatMap resB ++ loB c.E.length :: c.E.flatMap edB)))

/-- What is wrong with a catalog but for its length; what is wrong with it; what is written. -/
def partsO (c : Cat) : Int :=
  if ¬ (0 ≤ c.ver ∧ c.ver ≤ 65535 ∧ keyB c.node = true) then 70 else if 32 < c.R.length ∨ 96 < c.E.length then 5
  else if resL none c.R ≠ 0 then resL none c.R else if blkB c.R = true then 90 else if edgB c.R.length c.E = true then 0 else 72
def checkO (c : Cat) : Int := if partsO c ≠ 0 then partsO c else if 2432 < (catB c).length then 5 else 0
def encL (c : Cat) : List UInt8 := if checkO c = 0 then catB c else []
theorem checkO_ok {c : Cat} (h : checkO c = 0) : partsO c = 0 ∧ (catB c).length ≤ 2432 := by
  unfold checkO at h
  by_cases h1 : partsO c = 0
  · rw [if_neg (by rw [h1]; simp)] at h
    refine ⟨h1, ?_⟩
    by_cases h2 : 2432 < (catB c).length
    · rw [if_pos h2] at h; cases h
    · omega
  · rw [if_pos h1] at h; exact absurd h h1
theorem partsO_ok {c : Cat} (h : partsO c = 0) : (0 ≤ c.ver ∧ c.ver ≤ 65535 ∧ keyB c.node = true) ∧ c.R.length ≤ 32 ∧ c.E.length ≤ 96 ∧ resL none c.R = 0 ∧ blkB c.R = false ∧ edgB c.R.length c.E = true := by
  unfold partsO at h
  by_cases h1 : 0 ≤ c.ver ∧ c.ver ≤ 65535 ∧ keyB c.node = true
  case neg => rw [if_pos h1] at h; cases h
  rw [if_neg (fun hn => hn h1)] at h
  by_cases h2 : 32 < c.R.length ∨ 96 < c.E.length
  · rw [if_pos h2] at h; cases h
  rw [if_neg h2] at h
  by_cases h3 : resL none c.R = 0
  case neg => rw [if_pos h3] at h; exact absurd h h3
  rw [if_neg (by rw [h3]; simp)] at h
  by_cases h4 : blkB c.R = true
  · rw [if_pos h4] at h; cases h
  rw [if_neg h4] at h
  by_cases h5 : edgB c.R.length c.E = true
  case neg => rw [if_neg h5] at h; cases h
  exact ⟨h1, by omega, by omega, h3, by simpa using h4, h5⟩

theorem group_key (s : List UInt8) : codeO nGroup s [] = if keyB s = true then 0 else 61 := by
  have h1 : kindI nGroup = 3 := by decide
  have h2 : fillO nGroup [] ≠ none := by decide +kernel
  have h3 : titleK 3 s = keyB s := rfl
  unfold codeO
  rw [h1, if_neg (by decide), h3, if_neg h2]
  cases keyB s <;> simp

/-- How long what may be is. -/
theorem slots_stlen {k : Nat} {st : List UInt8} (h : slotsK k st ≠ []) : st.length ≤ 100 := by
  by_cases hl : st = nLink
  · subst hl; decide
  · have := slots_known h hl
    unfold knownB at this
    simp only [Bool.or_eq_true, decide_eq_true_eq] at this
    rcases this with rfl | rfl | rfl | rfl | rfl | rfl <;> decide
theorem slots_names (k : Nat) (st : List UInt8) : ∀ s ∈ slotsK k st, s.1.length ≤ 100 := by
  unfold slotsK fileK recK servK
  intro s hs
  repeat' split at hs
  all_goals
    simp [lAccount, lGroup, lPackage] at hs
    try (rcases hs with rfl | rfl | rfl | rfl)
    try (rcases hs with rfl | rfl | rfl)
    try (rcases hs with rfl | rfl)
    try subst hs
    all_goals (try exact (by decide : nEnsure.length ≤ 100))
    all_goals try decide
theorem wordB_len {l : List UInt8} {m : Int} (h : wordB l m = true) : (l.length : Int) ≤ m := by
  unfold wordB at h
  simp only [Bool.and_eq_true, decide_eq_true_eq] at h
  exact h.1
theorem pathO_len {s : List UInt8} (h : (pathO s).isSome = true) : s.length ≤ 120 := by
  unfold pathO at h
  by_cases h1 : s = [47]
  · subst h1; decide
  · rw [if_neg h1] at h
    by_cases h2 : s.length ≤ 120 ∧ s.head? = some 47 ∧ (cutL s.tail).length ≤ 8 ∧ (cutL s.tail).all nameB = true
    · exact h2.1
    · rw [if_neg h2] at h; cases h
theorem valB_len {n v : List UInt8} (h : valB n v = true) (hne : n ≠ nEnsure) : v.length ≤ 512 := by
  unfold valB at h
  have key : ∀ {s : List UInt8}, keyB s = true → s.length ≤ 512 := fun {s} h => by
    unfold keyB at h
    rw [Bool.and_eq_true] at h
    have := wordB_len h.2
    omega
  have id' : ∀ {s : List UInt8}, idB s = true → s.length ≤ 512 := fun {s} h => by
    unfold idB at h
    simp only [Bool.and_eq_true, decide_eq_true_eq] at h
    omega
  by_cases e1 : n = nContent
  · rw [if_pos e1] at h; unfold textB at h; simpa using h
  rw [if_neg e1] at h
  by_cases e2 : n = nMode
  · rw [if_pos e2] at h
    unfold modeB at h
    simp only [Bool.and_eq_true, decide_eq_true_eq] at h
    omega
  rw [if_neg e2] at h
  by_cases e3 : n = nPurge
  · rw [if_pos e3] at h
    have := of_decide_eq_true h
    simp at this
    rcases this with rfl | rfl <;> decide
  rw [if_neg e3] at h
  by_cases e4 : n = nTarget
  · rw [if_pos e4] at h
    have := pathO_len h
    omega
  rw [if_neg e4] at h
  by_cases e5 : n = nUid
  · rw [if_pos e5] at h; exact id' h
  rw [if_neg e5] at h
  by_cases e6 : n = nGid
  · rw [if_pos e6] at h; exact id' h
  rw [if_neg e6] at h
  by_cases e7 : n = nGroup
  · rw [if_pos e7] at h; exact key h
  rw [if_neg e7] at h
  by_cases e8 : n = nShell
  · rw [if_pos e8] at h
    have := wordB_len h
    omega
  rw [if_neg e8] at h
  by_cases e9 : n = nVersion
  · rw [if_pos e9] at h
    unfold fwB at h
    rw [Bool.and_eq_true] at h
    have := wordB_len h.2
    omega
  rw [if_neg e9] at h
  exact absurd (of_decide_eq_true h) hne
theorem titleK_len {k : Nat} {s : List UInt8} (h : titleK k s = true) : s.length ≤ 120 := by
  unfold titleK at h
  by_cases h1 : k = 1
  · rw [if_pos h1] at h
    refine pathO_len ?_
    unfold titB at h
    cases hp : pathO s with
    | none => rw [hp] at h; simp at h
    | some ps => rfl
  · rw [if_neg h1] at h
    unfold keyB at h
    rw [Bool.and_eq_true] at h
    have := wordB_len h.2
    omega
/-- A resource that may be, and is full. -/
structure ResOk (r : Res) : Prop where
  kind : kindI r.t ≠ 0
  title : r.ti.length ≤ 120
  count : r.P.length ≤ 100
  each : ∀ p ∈ r.P, p.1.length ≤ 100 ∧ p.2.length ≤ 512
theorem resOk_of {r : Res} (h : codeO r.t r.ti r.P = 0) (hf : outO r.t r.ti r.P = r.P) : ResOk r := by
  obtain ⟨h1, h2, h3, h4⟩ := codeO_ok h
  have hne := good_ne h1 h3
  refine ⟨h1, titleK_len h2, ?_, fun p hp => ?_⟩
  · rw [← hf, h4]
    unfold outP
    rw [List.length_map]
    exact slotsK_len _ _
  · obtain ⟨s, hs, he, ht⟩ := h3.2.1 p hp
    refine ⟨by rw [← he]; exact slots_names _ _ s hs, ?_⟩
    unfold takesB at ht
    by_cases hn : p.1 = nEnsure
    · rw [if_pos hn] at ht
      have := of_decide_eq_true ht
      simp at this
      rw [this]
      have := slots_stlen hne
      omega
    · rw [if_neg hn] at ht
      exact valB_len ht hn
theorem resE_ok {p : Option Res} {r : Res} (h : resE p r = 0) : codeO r.t r.ti r.P = 0 ∧ outO r.t r.ti r.P = r.P ∧ ∀ q, p = some q → lessR r.t q.t r.ti q.ti = false ∧ lessR q.t r.t q.ti r.ti = true := by
  unfold resE at h
  by_cases h1 : codeO r.t r.ti r.P = 0
  case neg => rw [if_pos h1] at h; exact absurd h h1
  rw [if_neg (by rw [h1]; simp)] at h
  by_cases h2 : outO r.t r.ti r.P = r.P
  case neg => rw [if_pos h2] at h; cases h
  rw [if_neg (by rw [h2]; simp)] at h
  refine ⟨h1, h2, ?_⟩
  rintro q rfl
  simp only at h
  by_cases h3 : lessR r.t q.t r.ti q.ti = true
  · rw [if_pos h3] at h; cases h
  rw [if_neg h3] at h
  by_cases h4 : lessR q.t r.t q.ti r.ti = true
  · exact ⟨by simpa using h3, h4⟩
  · rw [if_neg h4] at h; cases h
theorem resL_oks {R : List Res} (h : resL none R = 0) : ∀ r ∈ R, ResOk r := fun r hr => by
  obtain ⟨j, hj, rfl⟩ := List.getElem_of_mem hr
  obtain ⟨h1, h2, _⟩ := resE_ok (resL_zero none R h j hj)
  exact resOk_of h1 h2
theorem edgB_ok {n : Nat} {E : List Edg} (h : edgB n E = true) : ∀ x ∈ E, 0 ≤ x.fr ∧ x.fr < n ∧ 0 ≤ x.tw ∧ x.tw < n := fun x hx => by
  obtain ⟨j, hj, rfl⟩ := List.getElem_of_mem hx
  have := of_decide_eq_true h j hj
  unfold edgE at this
  rw [Bool.and_eq_true] at this
  have := of_decide_eq_true this.1
  omega

theorem txt_length (s : List UInt8) : (txt s).length = s.length + 2 := by simp [txt, two]
theorem prmB_len {p : Prm} (h : p.1.length ≤ 100 ∧ p.2.length ≤ 512) : (prmB p).length ≤ 616 := by
  unfold prmB
  rw [List.length_append, txt_length, txt_length]
  omega
theorem flat_len {α : Type} {f : α → List UInt8} {m : Nat} : ∀ {l : List α}, (∀ x ∈ l, (f x).length ≤ m) → (l.flatMap f).length ≤ l.length * m
  | [], _ => by simp
  | x :: l, h => by
    have h1 := h x (by simp)
    have h2 := flat_len (f := f) (m := m) (l := l) fun y hy => h y (by simp [hy])
    rw [List.flatMap_cons, List.length_append, List.length_cons, Nat.succ_mul]
    omega
theorem resB_len {r : Res} (h : ResOk r) : (resB r).length ≤ 62000 := by
  have h1 := flat_len (f := prmB) (m := 616) (l := r.P) fun p hp => prmB_len (h.each p hp)
  have h2 := h.count
  have h3 := h.title
  unfold resB
  rw [List.length_cons, List.length_append, txt_length, List.length_cons]
  omega
theorem catB_len {c : Cat} (h : partsO c = 0) : (catB c).length ≤ 2000000 := by
  obtain ⟨⟨_, _, hk⟩, h2, h3, h4, _, _⟩ := partsO_ok h
  have h5 := flat_len (f := resB) (m := 62000) (l := c.R) fun r hr => resB_len (resL_oks h4 r hr)
  have h6 := flat_len (f := edB) (m := 3) (l := c.E) fun x _ => by simp [edB]
  unfold keyB at hk
  rw [Bool.and_eq_true] at hk
  have h7 := wordB_len hk.2
  unfold catB
  rw [List.length_append, List.length_append, txt_length, List.length_cons, List.length_append, List.length_cons]
  simp only [two, List.length_cons, List.length_nil]
  omega
end Go.Proofs.YtfofhnbijjocfaaGreatDoor

namespace Go.Proofs.YtfofhnbijjocfaaGreatDoor
open Go.RowKit Go.Maps
set_option maxRecDepth 100000

def num1 : List UInt8 → Option (Nat × List UInt8)
  | x :: r => some (x.toNat, r)
  | [] => none
def num2 : List UInt8 → Option (Nat × List UInt8)
  | x :: y :: r => some (256 * x.toNat + y.toNat, r)
  | _ => none
def takeN (n : Nat) (b : List UInt8) : Option (List UInt8 × List UInt8) := if n ≤ b.length then some (b.take n, b.drop n) else none
def txtP (b : List UInt8) : Option (List UInt8 × List UInt8) := match num2 b with
  | none => none
  | some (n, r) => takeN n r
def prmP (b : List UInt8) : Option (Prm × List UInt8) := match txtP b with
  | none => none
  | some (s, r) => match txtP r with
    | none => none
    | some (v, r2) => some ((s, v), r2)
def repP {α : Type} (p : List UInt8 → Option (α × List UInt8)) : Nat → List UInt8 → Option (List α × List UInt8)
  | 0, b => some ([], b)
  | n + 1, b => match p b with
    | none => none
    | some (x, r) => match repP p n r with
      | none => none
      | some (l, r2) => some (x :: l, r2)
def tyOf (n : Nat) : List UInt8 := if n = 1 then nFile else if n = 2 then nAccount else if n = 3 then nGroup else if n = 4 then nPackage else if n = 5 then nService else []
def resP (b : List UInt8) : Option (Res × List UInt8) := match num1 b with
  | none => none
  | some (k, r) => match txtP r with
    | none => none
    | some (ti, r2) => match num1 r2 with
      | none => none
      | some (m, r3) => match repP prmP m r3 with
        | none => none
        | some (P, r4) => some (⟨tyOf k, ti, P⟩, r4)
def edgP (b : List UInt8) : Option (Edg × List UInt8) := match num1 b with
  | none => none
  | some (f, r) => match num1 r with
    | none => none
    | some (t, r2) => match num1 r2 with
      | none => none
      | some (n, r3) => some (⟨(f : Int), (t : Int), decide (n = 1)⟩, r3)
def catP (b : List UInt8) : Option (Cat × List UInt8) := match num2 b with
  | none => none
  | some (v, r) => match txtP r with
    | none => none
    | some (nd, r2) => match num1 r2 with
      | none => none
      | some (n, r3) => match repP resP n r3 with
        | none => none
        | some (R, r4) => match num1 r4 with
          | none => none
          | some (m, r5) => match repP edgP m r5 with
            | none => none
            | some (E, r6) => some (⟨(v : Int), nd, R, E⟩, r6)
/-- What is read. -/
def decO (b : List UInt8) : Option Cat := match catP b with
  | none => none
  | some (c, _) => if checkO c = 0 ∧ catB c = b then some c else none

theorem repP_snoc {α : Type} {p : List UInt8 → Option (α × List UInt8)} : ∀ {k : Nat} {b : List UInt8} {L : List α} {r : List UInt8} {x : α} {r2 : List UInt8}, repP p k b = some (L, r) → p r = some (x, r2) → repP p (k + 1) b = some (L ++ [x], r2)
  | 0, b, L, r, x, r2, h, hp => by
    simp only [repP, Option.some.injEq, Prod.mk.injEq] at h
    obtain ⟨rfl, rfl⟩ := h
    simp [repP, hp]
  | k + 1, b, L, r, x, r2, h, hp => by
    rw [repP] at h
    cases hb : p b with
    | none => rw [hb] at h; cases h
    | some y =>
      obtain ⟨y, q⟩ := y
      rw [hb] at h
      simp only at h
      cases hq : repP p k q with
      | none => rw [hq] at h; cases h
      | some z =>
        obtain ⟨l, q2⟩ := z
        rw [hq] at h
        simp only [Option.some.injEq, Prod.mk.injEq] at h
        obtain ⟨rfl, rfl⟩ := h
        have := repP_snoc hq hp
        rw [repP, hb]
        simp only [this, List.cons_append]
theorem repP_none {α : Type} {p : List UInt8 → Option (α × List UInt8)} : ∀ {k : Nat} {b : List UInt8} {L : List α} {r : List UInt8}, repP p k b = some (L, r) → p r = none → ∀ n, k < n → repP p n b = none
  | 0, b, L, r, h, hp, n, hn => by
    simp only [repP, Option.some.injEq, Prod.mk.injEq] at h
    obtain ⟨rfl, rfl⟩ := h
    obtain ⟨m, rfl⟩ : ∃ m, n = m + 1 := ⟨n - 1, by omega⟩
    rw [repP, hp]
  | k + 1, b, L, r, h, hp, n, hn => by
    obtain ⟨m, rfl⟩ : ∃ m, n = m + 1 := ⟨n - 1, by omega⟩
    rw [repP] at h
    cases hb : p b with
    | none => rw [hb] at h; cases h
    | some y =>
      obtain ⟨y, q⟩ := y
      rw [hb] at h
      simp only at h
      cases hq : repP p k q with
      | none => rw [hq] at h; cases h
      | some z =>
        obtain ⟨l, q2⟩ := z
        rw [hq] at h
        simp only [Option.some.injEq, Prod.mk.injEq] at h
        obtain ⟨rfl, rfl⟩ := h
        have := repP_none hq hp m (by omega)
        rw [repP, hb]
        simp only [this]
theorem repP_len {α : Type} {p : List UInt8 → Option (α × List UInt8)} : ∀ {k : Nat} {b : List UInt8} {L : List α} {r : List UInt8}, repP p k b = some (L, r) → L.length = k
  | 0, b, L, r, h => by
    simp only [repP, Option.some.injEq, Prod.mk.injEq] at h
    obtain ⟨rfl, rfl⟩ := h
    rfl
  | k + 1, b, L, r, h => by
    rw [repP] at h
    cases hb : p b with
    | none => rw [hb] at h; cases h
    | some y =>
      obtain ⟨y, q⟩ := y
      rw [hb] at h
      simp only at h
      cases hq : repP p k q with
      | none => rw [hq] at h; cases h
      | some z =>
        obtain ⟨l, q2⟩ := z
        rw [hq] at h
        simp only [Option.some.injEq, Prod.mk.injEq] at h
        obtain ⟨rfl, rfl⟩ := h
        have := repP_len hq
        simp [this]

/-- What is read stays so with more behind it. -/
def Ext {α : Type} (p : List UInt8 → Option (α × List UInt8)) : Prop := ∀ b x r s, p b = some (x, r) → p (b ++ s) = some (x, r ++ s)
theorem ext_num1 : Ext num1 := by
  intro b x r s h
  cases b with
  | nil => cases h
  | cons y b =>
    simp only [num1, Option.some.injEq, Prod.mk.injEq] at h
    obtain ⟨rfl, rfl⟩ := h
    rfl
theorem ext_num2 : Ext num2 := by
  intro b x r s h
  match b, h with
  | y :: z :: b, h =>
    simp only [num2, Option.some.injEq, Prod.mk.injEq] at h
    obtain ⟨rfl, rfl⟩ := h
    rfl
theorem ext_takeN (n : Nat) : Ext (takeN n) := by
  intro b x r s h
  unfold takeN at h ⊢
  by_cases hn : n ≤ b.length
  · rw [if_pos hn] at h
    rw [if_pos (by rw [List.length_append]; omega)]
    simp only [Option.some.injEq, Prod.mk.injEq] at h
    obtain ⟨rfl, rfl⟩ := h
    rw [List.take_append_of_le_length hn, List.drop_append_of_le_length hn]
  · rw [if_neg hn] at h; cases h
theorem ext_txtP : Ext txtP := by
  intro b x r s h
  unfold txtP at h ⊢
  cases h1 : num2 b with
  | none => rw [h1] at h; cases h
  | some y =>
    rw [h1] at h
    rw [ext_num2 b y.1 y.2 s h1]
    exact ext_takeN _ _ _ _ s h
theorem ext_prmP : Ext prmP := by
  intro b x r s h
  unfold prmP at h ⊢
  cases h1 : txtP b with
  | none => rw [h1] at h; cases h
  | some y =>
    rw [h1] at h
    rw [ext_txtP b y.1 y.2 s h1]
    simp only at h ⊢
    cases h2 : txtP y.2 with
    | none => rw [h2] at h; cases h
    | some z =>
      rw [h2] at h
      rw [ext_txtP y.2 z.1 z.2 s h2]
      simp only [Option.some.injEq, Prod.mk.injEq] at h ⊢
      obtain ⟨rfl, rfl⟩ := h
      exact ⟨rfl, rfl⟩
theorem ext_repP {α : Type} {p : List UInt8 → Option (α × List UInt8)} (hp : Ext p) : ∀ n, Ext (repP p n)
  | 0 => by
    intro b x r s h
    simp only [repP, Option.some.injEq, Prod.mk.injEq] at h ⊢
    obtain ⟨rfl, rfl⟩ := h
    exact ⟨rfl, rfl⟩
  | n + 1 => by
    intro b x r s h
    rw [repP] at h ⊢
    cases h1 : p b with
    | none => rw [h1] at h; cases h
    | some y =>
      rw [h1] at h
      rw [hp b y.1 y.2 s h1]
      simp only at h ⊢
      cases h2 : repP p n y.2 with
      | none => rw [h2] at h; cases h
      | some z =>
        rw [h2] at h
        rw [ext_repP hp n y.2 z.1 z.2 s h2]
        simp only [Option.some.injEq, Prod.mk.injEq] at h ⊢
        obtain ⟨rfl, rfl⟩ := h
        exact ⟨rfl, rfl⟩
theorem ext_resP : Ext resP := by
  intro b x r s h
  unfold resP at h ⊢
  cases h1 : num1 b with
  | none => rw [h1] at h; cases h
  | some y =>
    rw [h1] at h
    rw [ext_num1 b y.1 y.2 s h1]
    simp only at h ⊢
    cases h2 : txtP y.2 with
    | none => rw [h2] at h; cases h
    | some z =>
      rw [h2] at h
      rw [ext_txtP y.2 z.1 z.2 s h2]
      simp only at h ⊢
      cases h3 : num1 z.2 with
      | none => rw [h3] at h; cases h
      | some u =>
        rw [h3] at h
        rw [ext_num1 z.2 u.1 u.2 s h3]
        simp only at h ⊢
        cases h4 : repP prmP u.1 u.2 with
        | none => rw [h4] at h; cases h
        | some q =>
          rw [h4] at h
          rw [ext_repP ext_prmP u.1 u.2 q.1 q.2 s h4]
          simp only [Option.some.injEq, Prod.mk.injEq] at h ⊢
          obtain ⟨rfl, rfl⟩ := h
          exact ⟨rfl, rfl⟩
theorem ext_edgP : Ext edgP := by
  intro b x r s h
  unfold edgP at h ⊢
  cases h1 : num1 b with
  | none => rw [h1] at h; cases h
  | some y =>
    rw [h1] at h
    rw [ext_num1 b y.1 y.2 s h1]
    simp only at h ⊢
    cases h2 : num1 y.2 with
    | none => rw [h2] at h; cases h
    | some z =>
      rw [h2] at h
      rw [ext_num1 y.2 z.1 z.2 s h2]
      simp only at h ⊢
      cases h3 : num1 z.2 with
      | none => rw [h3] at h; cases h
      | some u =>
        rw [h3] at h
        rw [ext_num1 z.2 u.1 u.2 s h3]
        simp only [Option.some.injEq, Prod.mk.injEq] at h ⊢
        obtain ⟨rfl, rfl⟩ := h
        exact ⟨rfl, rfl⟩
theorem ext_catP : Ext catP := by
  intro b x r s h
  unfold catP at h ⊢
  cases h1 : num2 b with
  | none => rw [h1] at h; cases h
  | some y =>
    rw [h1] at h
    rw [ext_num2 b y.1 y.2 s h1]
    simp only at h ⊢
    cases h2 : txtP y.2 with
    | none => rw [h2] at h; cases h
    | some z =>
      rw [h2] at h
      rw [ext_txtP y.2 z.1 z.2 s h2]
      simp only at h ⊢
      cases h3 : num1 z.2 with
      | none => rw [h3] at h; cases h
      | some u =>
        rw [h3] at h
        rw [ext_num1 z.2 u.1 u.2 s h3]
        simp only at h ⊢
        cases h4 : repP resP u.1 u.2 with
        | none => rw [h4] at h; cases h
        | some q =>
          rw [h4] at h
          rw [ext_repP ext_resP u.1 u.2 q.1 q.2 s h4]
          simp only at h ⊢
          cases h5 : num1 q.2 with
          | none => rw [h5] at h; cases h
          | some e =>
            rw [h5] at h
            rw [ext_num1 q.2 e.1 e.2 s h5]
            simp only at h ⊢
            cases h6 : repP edgP e.1 e.2 with
            | none => rw [h6] at h; cases h
            | some g =>
              rw [h6] at h
              rw [ext_repP ext_edgP e.1 e.2 g.1 g.2 s h6]
              simp only [Option.some.injEq, Prod.mk.injEq] at h ⊢
              obtain ⟨rfl, rfl⟩ := h
              exact ⟨rfl, rfl⟩

/-- What was written is read as it was. -/
theorem num1_back (n : Nat) (s : List UInt8) (h : n < 256) : num1 (loB n :: s) = some (n, s) := by
  simp only [num1, loB, Option.some.injEq, Prod.mk.injEq, and_true]
  rw [UInt8.toNat_ofNat']
  omega
theorem num2_back (n : Nat) (s : List UInt8) (h : n < 65536) : num2 (two n ++ s) = some (n, s) := by
  simp only [two, hiB, loB, List.cons_append, List.nil_append, num2, Option.some.injEq, Prod.mk.injEq, and_true]
  rw [UInt8.toNat_ofNat', UInt8.toNat_ofNat']
  omega
theorem txtP_back (t s : List UInt8) (h : t.length < 65536) : txtP (txt t ++ s) = some (t, s) := by
  unfold txtP txt
  rw [List.append_assoc, num2_back _ _ h]
  simp [takeN]
theorem prmP_back (p : Prm) (s : List UInt8) (h : p.1.length ≤ 100 ∧ p.2.length ≤ 512) : prmP (prmB p ++ s) = some (p, s) := by
  unfold prmP prmB
  rw [List.append_assoc, txtP_back _ _ (by omega)]
  simp only
  rw [txtP_back _ _ (by omega)]
theorem repP_back {α : Type} {p : List UInt8 → Option (α × List UInt8)} {f : α → List UInt8} : ∀ (l : List α) (s : List UInt8), (∀ x ∈ l, ∀ s, p (f x ++ s) = some (x, s)) → repP p l.length (l.flatMap f ++ s) = some (l, s)
  | [], s, _ => rfl
  | x :: l, s, h => by
    rw [List.length_cons, List.flatMap_cons, List.append_assoc, repP, h x (by simp)]
    simp only
    rw [repP_back l s fun y hy => h y (by simp [hy])]
theorem tyOf_kind {t : List UInt8} (h : kindI t ≠ 0) : tyOf (kindI t) = t := by
  unfold kindI at h ⊢
  by_cases h1 : t = nFile
  · subst h1; rfl
  rw [if_neg h1] at h ⊢
  by_cases h2 : t = nAccount
  · subst h2; rfl
  rw [if_neg h2] at h ⊢
  by_cases h3 : t = nGroup
  · subst h3; rfl
  rw [if_neg h3] at h ⊢
  by_cases h4 : t = nPackage
  · subst h4; rfl
  rw [if_neg h4] at h ⊢
  by_cases h5 : t = nService
  · subst h5; rfl
  rw [if_neg h5] at h
  exact absurd rfl h
theorem resP_back (r : Res) (s : List UInt8) (h : ResOk r) : resP (resB r ++ s) = some (r, s) := by
  have hk := kindI_le r.t
  have h2 := h.title
  have h3 := h.count
  unfold resP resB tyN
  rw [List.cons_append, num1_back _ _ (by omega)]
  simp only
  rw [List.append_assoc, txtP_back _ _ (by omega)]
  simp only
  rw [List.cons_append, num1_back _ _ (by omega)]
  simp only
  rw [repP_back r.P s fun p hp s => prmP_back p s (h.each p hp)]
  simp only [tyOf_kind h.kind]
theorem edgP_back (x : Edg) (s : List UInt8) (h : 0 ≤ x.fr ∧ x.fr < 256 ∧ 0 ≤ x.tw ∧ x.tw < 256) : edgP (edB x ++ s) = some (x, s) := by
  have h1 : ((x.fr.toNat : Nat) : Int) = x.fr := by omega
  have h2 : ((x.tw.toNat : Nat) : Int) = x.tw := by omega
  unfold edgP edB
  rw [List.cons_append, num1_back _ _ (by omega)]
  simp only
  rw [List.cons_append, num1_back _ _ (by omega)]
  simp only [h1, h2, List.cons_append, List.nil_append, num1]
  obtain ⟨f, t, b⟩ := x
  cases b <;> rfl
theorem catP_back (c : Cat) (s : List UInt8) (h : partsO c = 0) : catP (catB c ++ s) = some (c, s) := by
  obtain ⟨⟨h1, h2, hk⟩, h3, h4, h5, _, h6⟩ := partsO_ok h
  unfold keyB at hk
  rw [Bool.and_eq_true] at hk
  have h7 := wordB_len hk.2
  have h8 := edgB_ok h6
  have h9 := resL_oks h5
  unfold catP catB
  rw [List.append_assoc, num2_back _ _ (by omega)]
  simp only
  rw [List.append_assoc, txtP_back _ _ (by omega)]
  simp only
  rw [List.cons_append, num1_back _ _ (by omega)]
  simp only
  rw [List.append_assoc, repP_back c.R _ fun r hr s => resP_back r s (h9 r hr)]
  simp only
  rw [List.cons_append, num1_back _ _ (by omega)]
  simp only
  rw [repP_back c.E s fun x hx s => edgP_back x s (by have := h8 x hx; omega)]
  have : ((c.ver.toNat : Nat) : Int) = c.ver := by omega
  simp only [this]

theorem decO_some {b : List UInt8} {c : Cat} (h : decO b = some c) : checkO c = 0 ∧ catB c = b := by
  unfold decO at h
  cases h1 : catP b with
  | none => rw [h1] at h; cases h
  | some x =>
    rw [h1] at h
    simp only at h
    by_cases h2 : checkO x.1 = 0 ∧ catB x.1 = b
    · rw [if_pos h2] at h
      injection h with h
      rw [← h]; exact h2
    · rw [if_neg h2] at h; cases h
theorem decO_back {c : Cat} (h : checkO c = 0) : decO (catB c) = some c := by
  have := catP_back c [] (checkO_ok h).1
  rw [List.append_nil] at this
  unfold decO
  rw [this]
  exact if_pos ⟨h, rfl⟩
theorem decO_long {b : List UInt8} (h : 2432 < b.length) : decO b = none := by
  cases hd : decO b with
  | none => rfl
  | some c =>
    obtain ⟨h1, h2⟩ := decO_some hd
    have := (checkO_ok h1).2
    rw [h2] at this
    omega
theorem decO_cut {c : Cat} (h : checkO c = 0) {k : Nat} (hk : k < (catB c).length) : decO ((catB c).take k) = none := by
  cases hd : decO ((catB c).take k) with
  | none => rfl
  | some d =>
    exfalso
    obtain ⟨h1, h2⟩ := decO_some hd
    have e1 := catP_back d [] (checkO_ok h1).1
    rw [List.append_nil, h2] at e1
    have e2 := ext_catP _ _ _ ((catB c).drop k) e1
    rw [List.take_append_drop, List.nil_append] at e2
    have e3 := catP_back c [] (checkO_ok h).1
    rw [List.append_nil, e2] at e3
    simp only [Option.some.injEq, Prod.mk.injEq, List.drop_eq_nil_iff] at e3
    omega
theorem decO_more {c : Cat} (h : checkO c = 0) {s : List UInt8} (hs : s ≠ []) : decO (catB c ++ s) = none := by
  cases hd : decO (catB c ++ s) with
  | none => rfl
  | some d =>
    exfalso
    obtain ⟨h1, h2⟩ := decO_some hd
    have e1 := catP_back d [] (checkO_ok h1).1
    rw [List.append_nil, h2, catP_back c s (checkO_ok h).1] at e1
    simp only [Option.some.injEq, Prod.mk.injEq] at e1
    exact hs e1.2
theorem catB_inj {a b : Cat} (ha : checkO a = 0) (hb : checkO b = 0) (h : catB a = catB b) : a = b := by
  have e1 := decO_back ha
  have e2 := decO_back hb
  rw [h, e2] at e1
  injection e1 with e1
  exact e1.symm

/-- What rises from each to the next rises throughout. -/
theorem adj_all {α : Type} {lt : α → α → Prop} (tr : ∀ a b c, lt a b → lt b c → lt a c) (R : List α) (h : ∀ j (hj : j + 1 < R.length), lt R[j] R[j + 1]) : ∀ (k : Nat) (hk : k < R.length) (i : Nat) (hi : i < k), lt (R[i]'(by omega)) R[k]
  | k + 1, hk, i, hi => by
    by_cases e : i = k
    · subst e; exact h i hk
    · exact tr _ _ _ (adj_all tr R h k (by omega) i (by omega)) (h k hk)
def ltR (a b : Res) : Prop := lessR a.t b.t a.ti b.ti = true
theorem ltR_asym {a b : Res} (h : ltR a b) : ¬ ltR b a := by
  unfold ltR lessR at *
  by_cases e : a.t = b.t
  · rw [if_pos e] at h
    rw [if_pos e.symm, less_asym h]; simp
  · rw [if_neg e] at h
    rw [if_neg (fun h => e h.symm), less_asym h]; simp
theorem ltR_tr (a b c : Res) (h : ltR a b) (k : ltR b c) : ltR a c := by
  unfold ltR lessR at *
  by_cases e : a.t = b.t
  · rw [if_pos e] at h
    by_cases g : b.t = c.t
    · rw [if_pos g] at k
      rw [if_pos (e.trans g)]; exact less_tr h k
    · rw [if_neg g] at k
      rw [if_neg (fun q => g (e.symm.trans q)), e]; exact k
  · rw [if_neg e] at h
    by_cases g : b.t = c.t
    · rw [if_neg (fun q => e (q.trans g.symm)), ← g]; exact h
    · rw [if_neg g] at k
      have := less_tr h k
      rw [if_neg (less_ne this)]; exact this
theorem resL_rise {R : List Res} (h : resL none R = 0) (k : Nat) (hk : k < R.length) (i : Nat) (hi : i < k) : ltR (R[i]'(by omega)) R[k] :=
  adj_all ltR_tr R (fun j hj => by
    obtain ⟨_, _, h3⟩ := resE_ok (resL_zero none R h (j + 1) hj)
    exact (h3 R[j] (by unfold ahead; rw [if_neg (by omega)]; simp)).2) k hk i hi
def ltE (a b : Edg) : Prop := riseB a b = true
theorem ltE_iff {a b : Edg} : ltE a b ↔ (a.fr < b.fr ∨ a.fr = b.fr ∧ a.tw < b.tw) := by
  unfold ltE riseB
  by_cases e : a.fr = b.fr
  · rw [if_pos e]; simp; omega
  · rw [if_neg e]; simp; omega
theorem edgB_rise {n : Nat} {E : List Edg} (h : edgB n E = true) (k : Nat) (hk : k < E.length) (i : Nat) (hi : i < k) : ltE (E[i]'(by omega)) E[k] :=
  adj_all (fun a b c h k => by rw [ltE_iff] at *; omega) E (fun j hj => by
    have := of_decide_eq_true h (j + 1) hj
    unfold edgE at this
    rw [Bool.and_eq_true] at this
    have h2 := this.2
    unfold ahead at h2
    rw [if_neg (by omega)] at h2
    rw [Nat.add_sub_cancel, List.getElem?_eq_getElem (by omega)] at h2
    exact h2) k hk i hi
/-- Two places changed. -/
def swapL {α : Type} (R : List α) (i k : Nat) (hi : i < R.length) (hk : k < R.length) : List α := (R.set i R[k]).set k R[i]
theorem swapL_len {α : Type} (R : List α) (i k : Nat) (hi : i < R.length) (hk : k < R.length) : (swapL R i k hi hk).length = R.length := by simp [swapL]
theorem swapL_i {α : Type} (R : List α) (i k : Nat) (hi : i < R.length) (hk : k < R.length) (hne : i ≠ k) (h : i < (swapL R i k hi hk).length) : (swapL R i k hi hk)[i] = R[k] := by
  simp only [swapL]
  rw [List.getElem_set_ne (by omega)]
  simp
theorem swapL_k {α : Type} (R : List α) (i k : Nat) (hi : i < R.length) (hk : k < R.length) (h : k < (swapL R i k hi hk).length) : (swapL R i k hi hk)[k] = R[i] := by
  simp [swapL]
theorem swap_rise {α : Type} {lt : α → α → Prop} (asy : ∀ a b, lt a b → ¬ lt b a) {R : List α} {i k : Nat} (hi : i < R.length) (hk : k < R.length) (hne : i ≠ k) (h1 : ∀ (k : Nat) (hk : k < R.length) (i : Nat) (hi : i < k), lt (R[i]'(by omega)) R[k])
    (h2 : ∀ (b : Nat) (hb : b < (swapL R i k hi hk).length) (a : Nat) (ha : a < b), lt ((swapL R i k hi hk)[a]'(by omega)) (swapL R i k hi hk)[b]) : False := by
  have hl := swapL_len R i k hi hk
  rcases (by omega : i < k ∨ k < i) with h | h
  · have e1 := h1 k hk i h
    have e2 := h2 k (by omega) i h
    rw [swapL_i R i k hi hk hne (by omega), swapL_k R i k hi hk (by omega)] at e2
    exact asy _ _ e1 e2
  · have e1 := h1 i hi k h
    have e2 := h2 i (by omega) k h
    rw [swapL_i R i k hi hk hne (by omega), swapL_k R i k hi hk (by omega)] at e2
    exact asy _ _ e1 e2
theorem swapR_bad {c : Cat} (h : checkO c = 0) {i k : Nat} (hi : i < c.R.length) (hk : k < c.R.length) (hne : i ≠ k) : checkO ⟨c.ver, c.node, swapL c.R i k hi hk, c.E⟩ ≠ 0 := by
  intro h'
  obtain ⟨_, _, _, h1, _, _⟩ := partsO_ok (checkO_ok h).1
  obtain ⟨_, _, _, h2, _, _⟩ := partsO_ok (checkO_ok h').1
  exact swap_rise (lt := ltR) (fun a b h => ltR_asym h) hi hk hne (resL_rise h1) (resL_rise h2)
theorem swapE_bad {c : Cat} (h : checkO c = 0) {i k : Nat} (hi : i < c.E.length) (hk : k < c.E.length) (hne : i ≠ k) : checkO ⟨c.ver, c.node, c.R, swapL c.E i k hi hk⟩ = 72 := by
  obtain ⟨h0, h1, h2, h3, h4, h5⟩ := partsO_ok (checkO_ok h).1
  have hb : ¬ edgB c.R.length (swapL c.E i k hi hk) = true := fun h' =>
    swap_rise (lt := ltE) (fun a b h1 h2 => by rw [ltE_iff] at h1 h2; omega) hi hk hne (edgB_rise h5) (edgB_rise h')
  have hp : partsO ⟨c.ver, c.node, c.R, swapL c.E i k hi hk⟩ = 72 := by
    unfold partsO
    simp only [swapL_len]
    rw [if_neg (fun hn => hn h0), if_neg (by omega), if_neg (by rw [h3]; simp), if_neg (by rw [h4]; simp), if_neg hb]
  unfold checkO
  rw [if_pos (by rw [hp]; decide), hp]

/-- Find. -/
def findO (R : List Res) (t ti : List UInt8) : Int := match R.findIdx? (fun r => decide (r.t = t ∧ r.ti = ti)) with
  | none => -1
  | some i => (i : Int)
theorem findO_yes {R : List Res} {t ti : List UInt8} (k : Nat) (hk : k < R.length) (h : R[k].t = t ∧ R[k].ti = ti) (hn : ∀ j (hj : j < R.length), j < k → ¬ (R[j].t = t ∧ R[j].ti = ti)) : findO R t ti = k := by
  have : R.findIdx? (fun r => decide (r.t = t ∧ r.ti = ti)) = some k := by
    rw [List.findIdx?_eq_some_iff_getElem]
    refine ⟨hk, decide_eq_true h, fun j hj => ?_⟩
    rw [Bool.not_eq_true, decide_eq_false_iff_not]
    exact hn j (by omega) hj
  unfold findO
  rw [this]
theorem findO_no {R : List Res} {t ti : List UInt8} (hn : ∀ j (hj : j < R.length), ¬ (R[j].t = t ∧ R[j].ti = ti)) : findO R t ti = -1 := by
  have : R.findIdx? (fun r => decide (r.t = t ∧ r.ti = ti)) = none := by
    rw [List.findIdx?_eq_none_iff]
    intro x hx
    obtain ⟨i, hi, rfl⟩ := List.getElem_of_mem hx
    exact decide_eq_false (hn i hi)
  unfold findO
  rw [this]
theorem findO_at {c : Cat} (h : checkO c = 0) (k : Nat) (hk : k < c.R.length) : findO c.R c.R[k].t c.R[k].ti = k := by
  obtain ⟨_, _, _, h1, _, _⟩ := partsO_ok (checkO_ok h).1
  refine findO_yes k hk ⟨rfl, rfl⟩ fun j hj hjk => ?_
  rintro ⟨e1, e2⟩
  have := resL_rise h1 k hk j hjk
  unfold ltR lessR at this
  rw [e1, if_pos rfl, e2, less_irr] at this
  cases this
end Go.Proofs.YtfofhnbijjocfaaGreatDoor

namespace Go.Proofs.YtfofhnbijjocfaaGreatDoor
open Go.RowKit Go.Maps
set_option maxRecDepth 100000

theorem PsIs.one {w : World} {v : Value} {l : List Prm} (h : PsIs w v l) : v.oneCell' = true := by
  obtain ⟨⟨ao, cap, rfl, _⟩, _, _⟩ := h
  rfl
theorem PsIs.slice {w : World} {v : Value} {l : List Prm} (h : PsIs w v l) : ∃ ao cap, v = .slice ao l.length cap := by
  obtain ⟨⟨ao, cap, h1, _⟩, _, _⟩ := h
  exact ⟨ao, cap, h1⟩

/-- The cells of resources. -/
def rcv : List Res → List Value → List Value
  | r :: l, v :: vs => .string (strL r.t) :: .string (strL r.ti) :: v :: rcv l vs
  | _, _ => []
theorem rcv_length : ∀ (l : List Res) (vs : List Value), vs.length = l.length → (rcv l vs).length = 3 * l.length
  | [], [], _ => rfl
  | r :: l, v :: vs, h => by
    have := rcv_length l vs (by simpa using h)
    simp [rcv, this]; omega
theorem rcv_get0 : ∀ (l : List Res) (vs : List Value) (_ : vs.length = l.length) (i : Nat) (hi : i < l.length), (rcv l vs)[3 * i]? = some (.string (strL l[i].t))
  | r :: l, v :: vs, _, 0, _ => rfl
  | r :: l, v :: vs, h, i + 1, hi => by
    have := rcv_get0 l vs (by simpa using h) i (by simpa using hi)
    rw [show 3 * (i + 1) = 3 * i + 3 by omega]
    simpa [rcv] using this
theorem rcv_get1 : ∀ (l : List Res) (vs : List Value) (_ : vs.length = l.length) (i : Nat) (hi : i < l.length), (rcv l vs)[3 * i + 1]? = some (.string (strL l[i].ti))
  | r :: l, v :: vs, _, 0, _ => rfl
  | r :: l, v :: vs, h, i + 1, hi => by
    have := rcv_get1 l vs (by simpa using h) i (by simpa using hi)
    rw [show 3 * (i + 1) + 1 = 3 * i + 1 + 3 by omega]
    simpa [rcv] using this
theorem rcv_get2 : ∀ (l : List Res) (vs : List Value) (_ : vs.length = l.length) (i : Nat) (_ : i < l.length), (rcv l vs)[3 * i + 2]? = vs[i]?
  | r :: l, v :: vs, _, 0, _ => rfl
  | r :: l, v :: vs, h, i + 1, hi => by
    have := rcv_get2 l vs (by simpa using h) i (by simpa using hi)
    rw [show 3 * (i + 1) + 2 = 3 * i + 2 + 3 by omega]
    simpa [rcv] using this
theorem rcv_append : ∀ (l : List Res) (vs : List Value) (_ : vs.length = l.length) (l' : List Res) (vs' : List Value), rcv (l ++ l') (vs ++ vs') = rcv l vs ++ rcv l' vs'
  | [], [], _, _, _ => rfl
  | r :: l, v :: vs, h, l', vs' => by
    have := rcv_append l vs (by simpa using h) l' vs'
    simp [rcv, this]
theorem rcv_one : ∀ (l : List Res) (vs : List Value), (∀ v ∈ vs, v.oneCell' = true) → ∀ u ∈ rcv l vs, u.oneCell' = true
  | [], _, _, u, hu => by simp [rcv] at hu
  | r :: l, [], _, u, hu => by simp [rcv] at hu
  | r :: l, v :: vs, h, u, hu => by
    simp only [rcv, List.mem_cons] at hu
    rcases hu with rfl | rfl | rfl | hu
    · rfl
    · rfl
    · exact h _ (by simp)
    · exact rcv_one l vs (fun x hx => h x (by simp [hx])) u hu

/-- The slices of the resources' parameters read as they are to. -/
def AllP (w : World) (vs : List Value) (l : List Res) : Prop := vs.length = l.length ∧ ∀ i (hi : i < l.length) (hv : i < vs.length), PsIs w vs[i] l[i].P
theorem AllP.kept {w w' : World} {vs : List Value} {l : List Res} (h : AllP w vs l) (hk : Kept [] w w') : AllP w' vs l := ⟨h.1, fun i hi hv => (h.2 i hi hv).kept hk⟩
/-- A slice that does not lie in these blocks. -/
def OffP (ex : List Nat) (v : Value) : Prop := ∀ b o n c, v = .slice (some ⟨b, o, none⟩) n c → n ≠ 0 → b ∉ ex
theorem AllP.keptX {w w' : World} {vs : List Value} {l : List Res} {ex : List Nat} (h : AllP w vs l) (hk : Kept ex w w') (hx : ∀ v ∈ vs, OffP ex v) : AllP w' vs l :=
  ⟨h.1, fun i hi hv => (h.2 i hi hv).keptX hk (hx _ (List.getElem_mem hv))⟩
theorem AllP.one {w : World} {vs : List Value} {l : List Res} (h : AllP w vs l) : ∀ v ∈ vs, v.oneCell' = true := fun v hv => by
  obtain ⟨i, hi, rfl⟩ := List.getElem_of_mem hv
  exact (h.2 i (by rw [← h.1]; exact hi) hi).one
theorem AllP.snoc {w : World} {vs : List Value} {l : List Res} (h : AllP w vs l) {v : Value} {r : Res} (hv : PsIs w v r.P) : AllP w (vs ++ [v]) (l ++ [r]) := by
  refine ⟨by simp [h.1], fun i hi hv' => ?_⟩
  by_cases e : i < l.length
  · have e2 : i < vs.length := by rw [h.1]; exact e
    rw [List.getElem_append_left e2, List.getElem_append_left e]
    exact h.2 i e e2
  · have e1 : i = l.length := by rw [List.length_append, List.length_singleton] at hi; omega
    subst e1
    rw [List.getElem_append_right (by have := h.1; omega), List.getElem_append_right (by omega)]
    simpa [h.1] using hv

/-- A slice of resources: what it reads as. -/
structure RsIs (w : World) (v : Value) (l : List Res) : Prop where
  val : ∃ ao cap vs, v = .slice ao l.length cap ∧ l.length ≤ cap ∧ cap ≤ 9223372036854775807 ∧ (ao = none → cap = 0) ∧ AllP w vs l ∧ (l.length = 0 ∨ ∃ b o, ao = some ⟨b, o, none⟩ ∧ b < w.heap.size ∧ w.rangeAt b o (rcv l vs))
  len : l.length * 56 ≤ 140737488355328
  txt : ∀ r ∈ l, r.t.length ≤ 140737488355328 ∧ r.ti.length ≤ 140737488355328
theorem RsIs.kept {w w' : World} {v : Value} {l : List Res} (h : RsIs w v l) (hk : Kept [] w w') : RsIs w' v l := by
  obtain ⟨⟨ao, cap, vs, h1, h2, h3, h4, hp, h5⟩, h6, h7⟩ := h
  refine ⟨⟨ao, cap, vs, h1, h2, h3, h4, hp.kept hk, ?_⟩, h6, h7⟩
  rcases h5 with h5 | ⟨b, o, rfl, hb, hr⟩
  · exact .inl h5
  · exact .inr ⟨b, o, rfl, Nat.lt_of_lt_of_le hb hk.size, hk.range hb (by simp) hr⟩
theorem RsIs.open {w : World} {v : Value} {l : List Res} (h : RsIs w v l) : ∃ ao cap, v = .slice ao l.length cap ∧ l.length ≤ cap ∧ cap ≤ 9223372036854775807 ∧ (ao = none → cap = 0) ∧
    (0 < l.length → ∃ b o, ao = some ⟨b, o, none⟩ ∧ b < w.heap.size ∧ ∀ k (hk : k < l.length), ∃ u, w.cell? ⟨b, o + k * 3, none⟩ = some (.string (strL l[k].t)) ∧ w.cell? ⟨b, o + k * 3 + 1, none⟩ = some (.string (strL l[k].ti)) ∧ w.cell? ⟨b, o + k * 3 + 2, none⟩ = some u ∧ PsIs w u l[k].P) := by
  obtain ⟨ao, cap, vs, h1, h2, h3, h4, hp, h5⟩ := h.val
  refine ⟨ao, cap, h1, h2, h3, h4, fun h0 => ?_⟩
  rcases h5 with h5 | ⟨b, o, rfl, hb, hr⟩
  · omega
  · refine ⟨b, o, rfl, hb, fun k hk => ?_⟩
    have hv : k < vs.length := by rw [hp.1]; exact hk
    refine ⟨vs[k], ?_, ?_, ?_, hp.2 k hk hv⟩
    · have := hr (3 * k) _ (rcv_get0 l vs hp.1 k hk)
      rw [show k * 3 = 3 * k by omega]; exact this
    · have := hr (3 * k + 1) _ (rcv_get1 l vs hp.1 k hk)
      rw [show o + k * 3 + 1 = o + (3 * k + 1) by omega]; exact this
    · have := hr (3 * k + 2) vs[k] (by rw [rcv_get2 l vs hp.1 k hk]; simp [hv])
      rw [show o + k * 3 + 2 = o + (3 * k + 2) by omega]; exact this
theorem RsIs.nil (w : World) : RsIs w (.slice none 0 0) [] := ⟨⟨none, 0, [], rfl, by simp, by omega, fun _ => rfl, ⟨rfl, fun i hi => by cases hi⟩, .inl rfl⟩, by simp, fun x hx => by cases hx⟩

/-- A catalog as a value. -/
def catV (ver : Int) (node : List UInt8) (vr ve : Value) : Value := .agg #[.int .i64 ver, .string (strL node), vr, ve]
structure CatIs (w : World) (v : Value) (c : Cat) : Prop where
  val : ∃ vr ve, v = catV c.ver c.node vr ve ∧ RsIs w vr c.R ∧ EsIs w ve c.E
  node : c.node.length ≤ 140737488355328
theorem CatIs.kept {w w' : World} {v : Value} {c : Cat} (h : CatIs w v c) (hk : Kept [] w w') : CatIs w' v c := by
  obtain ⟨⟨vr, ve, h1, h2, h3⟩, h4⟩ := h
  exact ⟨⟨vr, ve, h1, h2.kept hk, h3.kept hk⟩, h4⟩

theorem elemRes : ElemOk Tryz.prog 22 40 (.agg #[.string (strL []), .string (strL []), .slice none 0 0]) 3 56 := ⟨Tryz.underlying22, by kernel_rfl, rfl, by omega⟩
/-- A slice that lies no lower. -/
def LowP (base : Nat) (v : Value) : Prop := ∀ b o n c, v = .slice (some ⟨b, o, none⟩) n c → n ≠ 0 → base ≤ b
/-- Resources of the call's own: the row is, and the parameters are, but not in that row. -/
structure OwnR (base : Nat) (w : World) (v : Value) (l : List Res) : Prop where
  own : ∃ vs, w.ownsRow base 40 3 v l.length (rcv l vs) ∧ AllP w vs l ∧ (∀ x ∈ vs, OffP v.ownBlock.toList x) ∧ ∀ x ∈ vs, LowP base x
  bytes : l.length * 56 ≤ 140737488355328
  txt : ∀ r ∈ l, r.t.length ≤ 140737488355328 ∧ r.ti.length ≤ 140737488355328
theorem OwnR.rs {base : Nat} {w : World} {v : Value} {l : List Res} (h : OwnR base w v l) : RsIs w v l := by
  obtain ⟨⟨vs, h1, h3, _⟩, h4, h5⟩ := h
  obtain ⟨h1, ⟨rfl, h2⟩ | ⟨g, cap, cur, rfl, hb, hg, hc1, hc2, hcs, htk⟩⟩ := h1
  · exact ⟨⟨none, 0, vs, by rw [h2], by omega, by omega, fun _ => rfl, h3, .inl h2⟩, h4, h5⟩
  · refine ⟨⟨_, _, vs, rfl, hc1, by unfold maxLen at hc2; omega, fun e => (by cases e), h3, .inr ⟨g, 0, rfl, (Array.getElem?_eq_some_iff.1 hg).1, fun q u hu => ?_⟩⟩, h4, h5⟩
    rw [← htk] at hu
    have hq : q < l.length * 3 := by
      have := (List.getElem?_eq_some_iff.1 hu).1
      simp at this; omega
    rw [List.getElem?_take_of_lt hq] at hu
    rw [Nat.zero_add, cell_of_row w g q _ _ _ hg]
    simpa using hu
theorem OwnR.nil (base : Nat) (w : World) : OwnR base w (.slice none 0 0) [] := ⟨⟨[], World.ownsRow_nil w base _ 3, ⟨rfl, fun i hi => by cases hi⟩, (fun x hx => by cases hx), fun x hx => by cases hx⟩, by simp, fun r hr => by cases hr⟩
theorem OwnR.blk {base : Nat} {w : World} {v : Value} {l : List Res} (h : OwnR base w v l) : ∀ q, v.ownBlock = some q → base ≤ q ∧ q < w.heap.size := by
  obtain ⟨vs, h1, _⟩ := h.own
  exact h1.lt
theorem OwnR.keptX {base : Nat} {w w' : World} {v : Value} {l : List Res} (h : OwnR base w v l) {ex : List Nat} (hk : Kept ex w w') (hx : ∀ q ∈ ex, q < base) : OwnR base w' v l := by
  have hb := h.blk
  obtain ⟨⟨vs, h1, h3, h6, h7⟩, h4, h5⟩ := h
  exact ⟨⟨vs, owns_kept h1 hk (fun q hq hm => by have := (hb q hq).1; have := hx q hm; omega), h3.keptX hk (fun x hx2 b o n c he hn hm => by have := h7 x hx2 b o n c he hn; have := hx b hm; omega), h6, h7⟩, h4, h5⟩
theorem OwnR.kept {base : Nat} {w w' : World} {v : Value} {l : List Res} (h : OwnR base w v l) (hk : Kept [] w w') : OwnR base w' v l := h.keptX hk (by simp)
theorem OwnR.mono {base base' : Nat} {w : World} {v : Value} {l : List Res} (h : OwnR base w v l) (hb : base' ≤ base) : OwnR base' w v l := by
  obtain ⟨⟨vs, ⟨h1, h2⟩, h3, h6, h7⟩, h4, h5⟩ := h
  refine ⟨⟨vs, ⟨h1, ?_⟩, h3, h6, fun x hx b o n c he hn => Nat.le_trans hb (h7 x hx b o n c he hn)⟩, h4, h5⟩
  rcases h2 with h2 | ⟨g, cap, cur, e, hbg, r⟩
  · exact .inl h2
  · exact .inr ⟨g, cap, cur, e, by omega, r⟩
theorem OwnR.slice {base : Nat} {w : World} {v : Value} {l : List Res} (h : OwnR base w v l) : ∃ ao cap, v = .slice ao l.length cap := by
  obtain ⟨ao, cap, h1, _⟩ := h.rs.open
  exact ⟨ao, cap, h1⟩
/-- A resource that lies in a new block is appended. -/
theorem OwnR.app {base : Nat} {w : World} {v : Value} {l : List Res} (h : OwnR base w v l) (hb : base ≤ w.heap.size) (r : Res) (cv : Value) (hc : PsIs w cv r.P) (hoff : OffP v.ownBlock.toList cv) (hlow : LowP base cv)
    (hl : (l.length + 1) * 56 ≤ 140737488355328) (hr : r.t.length ≤ 140737488355328 ∧ r.ti.length ≤ 140737488355328) :
    ∃ v' w', (Builtin.append_ #[22, 22] 22 #[v, .slice (some ⟨w.heap.size, 0, none⟩) 1 1]).run Tryz.prog (w.alloc (.cells #[.string (strL r.t), .string (strL r.ti), cv] 40)) = .ok v' w' ∧
      OwnR base w' v' (l ++ [r]) ∧ AppB w v w' v' ∧ Kept v.ownBlock.toList (w.alloc (.cells #[.string (strL r.t), .string (strL r.ti), cv] 40)) w' := by
  obtain ⟨⟨vs, h1, h3, h6, h7⟩, h4, h5⟩ := h
  have hs0 : base ≤ (w.alloc (.cells #[.string (strL r.t), .string (strL r.ti), cv] 40)).heap.size := by rw [size_alloc]; omega
  obtain ⟨v', w', hrun, ho, hk, hor⟩ := own_app elemRes 22 (w.alloc (.cells #[.string (strL r.t), .string (strL r.ti), cv] 40)) base v l.length (rcv l vs) (World.ownsRow.alloc h1 _) ⟨w.heap.size, 0, none⟩ 1 1 (rcv [r] [cv]) rfl
    (fun j u hu => by
      rw [Addr.add_mid, Nat.zero_add, cell_of_row _ _ j _ _ _ (heap_alloc_last w _)]
      simpa [rcv] using hu) (rcv_one _ _ (by simpa using hc.one)) (by unfold maxLen; omega) hl hs0
  refine ⟨v', w', hrun, ⟨⟨vs ++ [cv], ?_, ?_, ?_, ?_⟩, by simpa using hl, ?_⟩, ?_, hk⟩
  · rw [rcv_append l vs h3.1, List.length_append]
    exact ho
  · refine (((h3.kept (Kept.alloc _ _ _)).keptX hk h6).snoc ?_)
    exact (hc.kept (Kept.alloc _ _ _)).keptX hk hoff
  · intro x hx b o n c he hn hm
    have hlt : b < w.heap.size := by
      simp only [List.mem_append, List.mem_singleton] at hx
      rcases hx with hx | rfl
      · obtain ⟨i, hi, rfl⟩ := List.getElem_of_mem hx
        exact (h3.2 i (by rw [← h3.1]; exact hi) hi).lt b o n c he hn
      · exact hc.lt b o n c he hn
    rcases hor with e | e
    · rw [e] at hm
      simp only [List.mem_append, List.mem_singleton] at hx
      rcases hx with hx | rfl
      · exact h6 x hx b o n c he hn hm
      · exact hoff b o n c he hn hm
    · rw [e, size_alloc] at hm
      simp at hm
      omega
  · intro x hx
    simp only [List.mem_append, List.mem_singleton] at hx
    rcases hx with hx | rfl
    · exact h7 x hx
    · exact hlow
  · intro x hx
    simp only [List.mem_append, List.mem_singleton] at hx
    rcases hx with hx | rfl
    · exact h5 x hx
    · exact hr
  · refine AppB.pre (Kept.alloc [] w _) ⟨hk, ?_⟩
    rcases hor with e | e
    · exact .inl e
    · exact .inr ⟨_, e, Nat.le_refl _⟩

end Go.Proofs.YtfofhnbijjocfaaGreatDoor

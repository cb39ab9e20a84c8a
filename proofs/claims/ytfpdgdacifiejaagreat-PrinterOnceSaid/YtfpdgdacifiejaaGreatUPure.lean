/-
  Layer 11: words, by plain lists of bytes: what is cut off a text, the words of a text, the document's way of cutting. No program text.
  Conditions: those that each theorem states.
-/
import Derived.Test.YtfpdgdacifiejaaGreatTKit
namespace Go.Proofs.YtfpdgdacifiejaaGreat

def smB (c : UInt8) : Bool := decide (97 ≤ c.toNat ∧ c.toNat ≤ 122)
def dgB (c : UInt8) : Bool := decide (48 ≤ c.toNat ∧ c.toNat ≤ 57)
def grB (c : UInt8) : Bool := decide (65 ≤ c.toNat ∧ c.toNat ≤ 90)
def tlB (c : UInt8) : Bool := smB c || dgB c || decide (c.toNat = 95)
/-- Of what class a rune is. -/
def clsN (r : Nat) : Nat :=
  if 97 ≤ r ∧ r ≤ 122 then 3 else if 65 ≤ r ∧ r ≤ 90 then 4 else if 48 ≤ r ∧ r ≤ 57 then 5
  else if r = 9 ∨ r = 10 ∨ r = 13 ∨ r = 32 then 1 else if r = 35 then 2 else if r = 95 then 6 else if r = 36 then 7 else if r = 39 then 8 else if r = 34 then 9 else 0
/-- How many bytes of a text, from its beginning, are such. -/
def spanN (p : UInt8 → Bool) : List UInt8 → Nat
  | [] => 0
  | c :: r => if p c then spanN p r + 1 else 0
def partN (p : UInt8 → Bool) : List UInt8 → Nat
  | [] => 0
  | c :: r => if p c then 1 + spanN tlB r else 0
theorem spanN_le (p : UInt8 → Bool) : ∀ l, spanN p l ≤ l.length
  | [] => Nat.le_refl _
  | c :: r => by have := spanN_le p r; simp only [spanN]; split <;> simp <;> omega
theorem partN_le (p : UInt8 → Bool) : ∀ l, partN p l ≤ l.length
  | [] => Nat.le_refl _
  | c :: r => by have := spanN_le tlB r; simp only [partN]; split <;> simp <;> omega
def moreN (l : List UInt8) : Nat :=
  if l.take 2 = [58, 58] ∧ 0 < partN smB (l.drop 2) then 2 + partN smB (l.drop 2) + moreN (l.drop (2 + partN smB (l.drop 2))) else 0
termination_by l.length
decreasing_by
  rename_i h
  have := congrArg List.length h.1
  simp at this ⊢
  omega
def nameN (l : List UInt8) : Nat := if partN smB l = 0 then 0 else partN smB l + moreN (l.drop (partN smB l))
def numN (l : List UInt8) : Nat := if spanN dgB l ≤ 9 then spanN dgB l else 0
def varN (l : List UInt8) : Nat := if partN smB l.tail = 0 then 0 else 1 + partN smB l.tail
def notB (c : UInt8) (x : UInt8) : Bool := !decide (x = c)
def quoN (l : List UInt8) : Nat := if spanN (notB (l.headD 0)) l.tail = l.tail.length then 0 else spanN (notB (l.headD 0)) l.tail + 2
def sgn2 : List (List UInt8) := [[61, 62], [61, 61], [33, 61], [45, 62], [126, 62]]
def sgn1 : List (List UInt8) := [[123], [125], [40], [41], [91], [93], [44], [58], [61], [33]]
def signN (l : List UInt8) : Nat := if l.take 2 ∈ sgn2 then 2 else if l.take 1 ∈ sgn1 then 1 else 0
structure Pc where
  kd : Nat
  sz : Nat
  ah : Nat
  bh : Nat
def cutO (l : List UInt8) (c : Nat) : Pc :=
  if c = 1 then ⟨0, 1, 0, 0⟩ else if c = 2 then ⟨0, spanN (notB 10) l, 0, 0⟩ else if c = 3 then ⟨1, nameN l, 0, 0⟩ else if c = 4 then ⟨2, partN grB l, 0, 0⟩
  else if c = 5 then ⟨6, numN l, 0, 0⟩ else if c = 7 then ⟨3, varN l, 1, 0⟩ else if c = 8 then ⟨4, quoN l, 1, 1⟩ else if c = 9 then ⟨5, quoN l, 1, 1⟩ else ⟨7, signN l, 0, 0⟩
structure Wd where
  kd : Nat
  tx : List UInt8
  at' : Nat
def hdC (l : List UInt8) : Nat := clsN (l.headD 0).toNat
def pcO (l : List UInt8) : Pc := cutO l (hdC l)
def txO (l : List UInt8) (p : Pc) : List UInt8 := (l.drop p.ah).take (p.sz - p.bh - p.ah)
def lexL (l : List UInt8) (at' : Nat) : List Wd × Option Nat :=
  if l = [] then ([], none)
  else if (pcO l).sz = 0 then ([], some at')
  else if (pcO l).kd = 0 then lexL (l.drop (pcO l).sz) (at' + (pcO l).sz)
  else (⟨(pcO l).kd, txO l (pcO l), at'⟩ :: (lexL (l.drop (pcO l).sz) (at' + (pcO l).sz)).1, (lexL (l.drop (pcO l).sz) (at' + (pcO l).sz)).2)
termination_by l.length
decreasing_by
  all_goals
    have : l.length ≠ 0 := by simpa using ‹¬ l = []›
    simp
    omega

theorem moreN_le (l : List UInt8) : moreN l ≤ l.length := by
  rw [moreN]
  split
  · rename_i h
    have h2 := congrArg List.length h.1
    have h3 := partN_le smB (l.drop 2)
    have ih := moreN_le (l.drop (2 + partN smB (l.drop 2)))
    simp at h2 h3 ih
    omega
  · omega
termination_by l.length
decreasing_by
  have := congrArg List.length (by assumption : l.take 2 = [58, 58] ∧ _).1
  simp at this ⊢
  omega
theorem nameN_le (l : List UInt8) : nameN l ≤ l.length := by
  unfold nameN
  have h1 := partN_le smB l
  have h2 := moreN_le (l.drop (partN smB l))
  simp at h2
  split <;> omega
theorem spanN_all (p : UInt8 → Bool) : ∀ (l : List UInt8) (j : Nat) (h : j < l.length), j < spanN p l → p l[j] = true
  | c :: r, j, h, hj => by
    simp only [spanN] at hj
    split at hj
    · cases j with
      | zero => assumption
      | succ j => exact spanN_all p r j (by simpa using h) (by omega)
    · omega
theorem spanN_stop (p : UInt8 → Bool) : ∀ (l : List UInt8) (h : spanN p l < l.length), p l[spanN p l] = false
  | c :: r, h => by
    by_cases hc : p c = true
    · have e : spanN p (c :: r) = spanN p r + 1 := by simp [spanN, hc]
      have hr : spanN p r < r.length := by rw [e] at h; simpa using h
      have := spanN_stop p r hr
      simp only [e, List.getElem_cons_succ]
      exact this
    · have e : spanN p (c :: r) = 0 := by simp [spanN, hc]
      simp only [e, List.getElem_cons_zero]
      simpa using hc
theorem spanN_is {p : UInt8 → Bool} : ∀ {l : List UInt8} {n : Nat}, n ≤ l.length → (∀ j (h : j < l.length), j < n → p l[j] = true) → (∀ h : n < l.length, p l[n] = false) → spanN p l = n
  | [], n, h, _, _ => by simp at h; subst h; rfl
  | c :: r, 0, _, _, h => by have := h (by simp); simp at this; simp [spanN, this]
  | c :: r, n + 1, h, h1, h2 => by
    have hc : p c = true := h1 0 (by simp) (by omega)
    have := spanN_is (p := p) (l := r) (n := n) (by simpa using h) (fun j hj hn => by have := h1 (j + 1) (by simpa using hj) (by omega); simpa using this) (fun hh => by have := h2 (by simpa using hh); simpa using this)
    simp [spanN, hc, this]
theorem spanN_app (p : UInt8 → Bool) (x r : List UInt8) (h : spanN p (x ++ r) ≤ x.length) : spanN p x = spanN p (x ++ r) := by
  refine spanN_is h (fun j hj hn => ?_) (fun hh => ?_)
  · have := spanN_all p (x ++ r) j (by simp; omega) hn
    rwa [List.getElem_append_left hj] at this
  · have := spanN_stop p (x ++ r) (by simp; omega)
    rwa [List.getElem_append_left hh] at this
theorem spanN_sep (p : UInt8 → Bool) (s : UInt8) (hs : p s = false) : ∀ (a b : List UInt8), spanN p (a ++ s :: b) = spanN p a
  | [], b => by simp [spanN, hs]
  | c :: r, b => by simp [spanN, spanN_sep p s hs r b]
theorem partN_app (p : UInt8 → Bool) (x r : List UInt8) (h : partN p (x ++ r) ≤ x.length) : partN p x = partN p (x ++ r) := by
  cases x with
  | nil =>
    have h0 : partN p r = 0 := by simpa using h
    rw [List.nil_append, h0]
    rfl
  | cons c x =>
    simp only [List.cons_append, partN] at h ⊢
    split
    · rename_i hc
      rw [if_pos hc] at h
      rw [spanN_app tlB x r (by simp at h; omega)]
    · rfl
theorem partN_pos (p : UInt8 → Bool) (x r : List UInt8) (h : 0 < partN p x) : 0 < partN p (x ++ r) := by
  cases x with
  | nil => simp [partN] at h
  | cons c x =>
    simp only [List.cons_append, partN] at h ⊢
    split
    · omega
    · rename_i hc; simp [hc] at h
theorem partN_sep (p : UInt8 → Bool) (s : UInt8) (hs : p s = false) (ht : tlB s = false) (a b : List UInt8) : partN p (a ++ s :: b) = partN p a := by
  cases a with
  | nil => simp [partN, hs]
  | cons c r => simp only [List.cons_append, partN, spanN_sep tlB s ht]
theorem take2_app {x r : List UInt8} (h : x.take 2 = [58, 58]) : (x ++ r).take 2 = [58, 58] := by
  have := congrArg List.length h
  simp at this
  rw [List.take_append_of_le_length (by omega), h]
theorem moreN_app (x r : List UInt8) (h : moreN (x ++ r) ≤ x.length) : moreN x = moreN (x ++ r) := by
  rw [moreN.eq_def x, moreN.eq_def (x ++ r)]
  by_cases hc : (x ++ r).take 2 = [58, 58] ∧ 0 < partN smB ((x ++ r).drop 2)
  · rw [moreN, if_pos hc] at h
    have hx : 2 ≤ x.length := by omega
    have e1 : (x ++ r).take 2 = x.take 2 := List.take_append_of_le_length hx
    have e2 : (x ++ r).drop 2 = x.drop 2 ++ r := List.drop_append_of_le_length hx
    rw [e1, e2] at hc
    rw [e2] at h
    have hp : partN smB (x.drop 2) = partN smB (x.drop 2 ++ r) := partN_app smB _ _ (by simp; omega)
    have e3 : (x ++ r).drop (2 + partN smB (x.drop 2 ++ r)) = x.drop (2 + partN smB (x.drop 2)) ++ r := by
      rw [← hp]
      exact List.drop_append_of_le_length (by rw [hp]; omega)
    rw [e3] at h
    have ih := moreN_app (x.drop (2 + partN smB (x.drop 2))) r (by simp; omega)
    rw [if_pos ⟨hc.1, by rw [hp]; exact hc.2⟩, if_pos (by rw [e1, e2]; exact hc), e2, e3, ih, hp]
  · rw [if_neg hc, if_neg]
    rintro ⟨h1, h2⟩
    refine hc ⟨take2_app h1, ?_⟩
    have := congrArg List.length h1
    rw [List.drop_append_of_le_length (by simp at this; omega)]
    exact partN_pos _ _ _ h2
termination_by x.length
decreasing_by
  simp
  omega
theorem nameN_app (x r : List UInt8) (h : nameN (x ++ r) ≤ x.length) : nameN x = nameN (x ++ r) := by
  unfold nameN at h ⊢
  by_cases h0 : partN smB (x ++ r) = 0
  · have := partN_app smB x r (by omega)
    rw [if_pos h0, if_pos (by omega)]
  · rw [if_neg h0] at h ⊢
    have e := partN_app smB x r (by omega)
    rw [if_neg (by omega), e]
    rw [← e] at h ⊢
    have e2 : (x ++ r).drop (partN smB x) = x.drop (partN smB x) ++ r := List.drop_append_of_le_length (partN_le _ _)
    rw [e2] at h ⊢
    rw [moreN_app (x.drop (partN smB x)) r (by simp; omega)]
theorem moreN_sep (s : UInt8) (h1 : smB s = false) (h2 : tlB s = false) (h3 : s ≠ 58) (a b : List UInt8) : moreN (a ++ s :: b) = moreN a := by
  rw [moreN.eq_def a, moreN.eq_def (a ++ s :: b)]
  by_cases hc : a.take 2 = [58, 58]
  · have hl := congrArg List.length hc
    have hx : 2 ≤ a.length := by simp at hl; omega
    have e2 : (a ++ s :: b).drop 2 = a.drop 2 ++ s :: b := List.drop_append_of_le_length hx
    have e3 := partN_sep smB s h1 h2 (a.drop 2) b
    have hle := partN_le smB (a.drop 2)
    simp at hle
    have e4 : (a ++ s :: b).drop (2 + partN smB (a.drop 2)) = a.drop (2 + partN smB (a.drop 2)) ++ s :: b := List.drop_append_of_le_length (by omega)
    rw [e2, e3, e4]
    have e5 : (a ++ s :: b).take 2 = [58, 58] := take2_app hc
    by_cases hp : 0 < partN smB (a.drop 2)
    · rw [if_pos ⟨e5, hp⟩, if_pos ⟨hc, hp⟩, moreN_sep s h1 h2 h3 (a.drop (2 + partN smB (a.drop 2))) b]
    · rw [if_neg (fun h => hp h.2), if_neg (fun h => hp h.2)]
  · rw [if_neg (c := a.take 2 = [58, 58] ∧ _) (fun h => hc h.1), if_neg]
    rintro ⟨h, _⟩
    match a, hc, h with
    | [], _, h => simp at h; exact h3 h.1
    | [c], _, h => simp at h; exact h3 h.2
    | c :: d :: a, hc, h => exact hc (by simpa using h)
termination_by a.length
decreasing_by
  simp
  omega
theorem nameN_sep (s : UInt8) (h1 : smB s = false) (h2 : tlB s = false) (h3 : s ≠ 58) (a b : List UInt8) : nameN (a ++ s :: b) = nameN a := by
  unfold nameN
  rw [partN_sep smB s h1 h2]
  have e4 : (a ++ s :: b).drop (partN smB a) = a.drop (partN smB a) ++ s :: b := List.drop_append_of_le_length (partN_le _ _)
  rw [e4, moreN_sep s h1 h2 h3]

theorem signN_le (l : List UInt8) : signN l ≤ l.length := by
  unfold signN
  split
  · rename_i h
    have : (l.take 2).length = 2 := by
      generalize l.take 2 = t at h
      simp [sgn2] at h
      rcases h with rfl | rfl | rfl | rfl | rfl <;> rfl
    simp at this; omega
  · split
    · rename_i h
      have : (l.take 1).length = 1 := by
        generalize l.take 1 = t at h
        simp [sgn1] at h
        rcases h with rfl | rfl | rfl | rfl | rfl | rfl | rfl | rfl | rfl | rfl <;> rfl
      simp at this; omega
    · omega
theorem quoN_le (l : List UInt8) : quoN l ≤ l.length := by
  unfold quoN
  have := spanN_le (notB (l.headD 0)) l.tail
  simp at this
  split
  · omega
  · rename_i h
    simp at h ⊢
    omega
theorem varN_le (l : List UInt8) (h : l ≠ []) : varN l ≤ l.length := by
  unfold varN
  have := partN_le smB l.tail
  have h0 : l.length ≠ 0 := by simpa using h
  simp at this
  split <;> omega
theorem numN_le (l : List UInt8) : numN l ≤ l.length := by
  unfold numN
  have := spanN_le dgB l
  split <;> omega
theorem pc_le (l : List UInt8) (h : l ≠ []) : (pcO l).sz ≤ l.length := by
  have h0 : l.length ≠ 0 := by simpa using h
  unfold pcO cutO
  have h1 := spanN_le (notB 10) l
  have h2 := nameN_le l
  have h3 := partN_le grB l
  have h4 := numN_le l
  have h5 := varN_le l h
  have h6 := quoN_le l
  have h7 := signN_le l
  repeat' split
  all_goals (simp only; omega)
theorem small_of {c : UInt8} (h : smB c = true) : 97 ≤ c.toNat ∧ c.toNat ≤ 122 := by simpa [smB] using h
theorem tl_of {c : UInt8} (h : tlB c = true) : (97 ≤ c.toNat ∧ c.toNat ≤ 122) ∨ (48 ≤ c.toNat ∧ c.toNat ≤ 57) ∨ c.toNat = 95 := by
  simp [tlB, smB, dgB] at h
  omega
theorem partN_lt (p : UInt8 → Bool) (hp : ∀ c, p c = true → c.toNat < 128) (l : List UInt8) (j : Nat) (h : j < l.length) (hj : j < partN p l) : l[j].toNat < 128 := by
  cases l with
  | nil => simp at h
  | cons c r =>
    simp only [partN] at hj
    split at hj
    · rename_i hc
      cases j with
      | zero => exact hp _ hc
      | succ j =>
        have := spanN_all tlB r j (by simpa using h) (by omega)
        have := tl_of this
        simp only [List.getElem_cons_succ]
        omega
    · omega
theorem moreN_lt (l : List UInt8) (j : Nat) (h : j < l.length) (hj : j < moreN l) : l[j].toNat < 128 := by
  rw [moreN] at hj
  split at hj
  · rename_i hc
    have hlen := congrArg List.length hc.1
    simp at hlen
    by_cases h2 : j < 2
    · match l, hc.1, j, h2, h with
      | c :: d :: r, h1, 0, _, _ => simp at h1; simp [h1.1]
      | c :: d :: r, h1, 1, _, _ => simp at h1; simp [h1.2]
    · by_cases h3 : j - 2 < partN smB (l.drop 2)
      · have := partN_lt smB (fun c hc => by have := small_of hc; omega) (l.drop 2) (j - 2) (by simp; omega) h3
        rw [List.getElem_drop] at this
        simpa [show 2 + (j - 2) = j by omega] using this
      · have := moreN_lt (l.drop (2 + partN smB (l.drop 2))) (j - (2 + partN smB (l.drop 2))) (by simp; omega) (by omega)
        rw [List.getElem_drop] at this
        simpa [show 2 + partN smB (l.drop 2) + (j - (2 + partN smB (l.drop 2))) = j by omega] using this
  · omega
termination_by l.length
decreasing_by
  simp
  omega
theorem nameN_lt (l : List UInt8) (j : Nat) (h : j < l.length) (hj : j < nameN l) : l[j].toNat < 128 := by
  unfold nameN at hj
  split at hj
  · omega
  · by_cases h3 : j < partN smB l
    · exact partN_lt smB (fun c hc => by have := small_of hc; omega) l j h h3
    · have := moreN_lt (l.drop (partN smB l)) (j - partN smB l) (by simp; omega) (by omega)
      rw [List.getElem_drop] at this
      simpa [show partN smB l + (j - partN smB l) = j by omega] using this
theorem cls_ascii {c : UInt8} (h : clsN c.toNat ≠ 0) : c.toNat < 128 := by
  unfold clsN at h
  repeat' split at h
  all_goals omega
theorem hd_get {l : List UInt8} (h : 0 < l.length) : l.headD 0 = l[0] := by
  cases l with
  | nil => simp at h
  | cons c r => rfl
theorem quo_end (l : List UInt8) (h : 0 < quoN l) : ∃ h1 : quoN l - 1 < l.length, 2 ≤ quoN l ∧ l[quoN l - 1] = l.headD 0 := by
  unfold quoN at h ⊢
  split at h
  · omega
  · rename_i hn
    have hle := spanN_le (notB (l.headD 0)) l.tail
    have hlt : spanN (notB (l.headD 0)) l.tail < l.tail.length := by omega
    have hs := spanN_stop _ _ hlt
    rw [if_neg hn]
    generalize spanN (notB (l.headD 0)) l.tail = q at *
    have hl2 : q + 2 - 1 < l.length := by simp at hlt; omega
    refine ⟨hl2, by omega, ?_⟩
    cases l with
    | nil => simp at hlt
    | cons c r =>
      simp only [List.tail_cons, notB] at hs
      simpa using hs
theorem sign_byte (l : List UInt8) (h : 0 < signN l) : ∃ h1 : signN l - 1 < l.length, l[signN l - 1].toNat < 128 := by
  have hle := signN_le l
  refine ⟨by omega, ?_⟩
  unfold signN at h hle ⊢
  split
  · rename_i h2
    rw [if_pos h2] at hle
    match l, h2 with
    | [], h2 => simp [sgn2] at h2
    | [c], h2 => simp [sgn2] at h2
    | c :: d :: r, h2 =>
      simp [sgn2] at h2
      simp
      rcases h2 with ⟨_, rfl⟩ | ⟨_, rfl⟩ | ⟨_, rfl⟩ | ⟨_, rfl⟩ | ⟨_, rfl⟩ <;> decide
  · rename_i h2
    split
    · rename_i h1
      match l, h1 with
      | [], h1 => simp [sgn1] at h1
      | c :: r, h1 =>
        simp [sgn1] at h1
        simp
        rcases h1 with rfl | rfl | rfl | rfl | rfl | rfl | rfl | rfl | rfl | rfl <;> decide
    · rename_i h1
      rw [if_neg h2, if_neg h1] at h
      omega
/-- A piece ends ahead of a byte below 128, or behind one. -/
theorem pc_edge (l : List UInt8) (h : l ≠ []) (h0 : 0 < (pcO l).sz) : (pcO l).sz = l.length ∨ (∃ h1 : (pcO l).sz - 1 < l.length, l[(pcO l).sz - 1].toNat < 128) ∨ (∃ h1 : (pcO l).sz < l.length, l[(pcO l).sz].toNat < 128) := by
  have hl : 0 < l.length := by have : l.length ≠ 0 := by simpa using h
                               omega
  have hhd : hdC l = clsN l[0].toNat := by unfold hdC; rw [hd_get hl]
  have hle := pc_le l h
  have hasc : hdC l ≠ 0 → l[0].toNat < 128 := fun e => cls_ascii (by rw [← hhd]; exact e)
  unfold pcO cutO at h0 hle ⊢
  by_cases c1 : hdC l = 1
  · simp only [c1, if_true] at h0 hle ⊢
    exact .inr (.inl ⟨by omega, hasc (by omega)⟩)
  by_cases c2 : hdC l = 2
  · simp only [c2, if_true, if_neg (show ¬ 2 = 1 by omega)] at h0 hle ⊢
    by_cases e : spanN (notB 10) l = l.length
    · exact .inl e
    · have hlt : spanN (notB 10) l < l.length := by omega
      have := spanN_stop _ _ hlt
      simp [notB] at this
      exact .inr (.inr ⟨hlt, by rw [this]; decide⟩)
  by_cases c3 : hdC l = 3
  · simp only [c3, if_true, if_neg (show ¬ 3 = 1 by omega), if_neg (show ¬ 3 = 2 by omega)] at h0 hle ⊢
    exact .inr (.inl ⟨by omega, nameN_lt l _ (by omega) (by omega)⟩)
  by_cases c4 : hdC l = 4
  · simp only [c4, if_true, if_neg (show ¬ 4 = 1 by omega), if_neg (show ¬ 4 = 2 by omega), if_neg (show ¬ 4 = 3 by omega)] at h0 hle ⊢
    exact .inr (.inl ⟨by omega, partN_lt grB (fun c hc => by simp [grB] at hc; omega) l _ (by omega) (by omega)⟩)
  by_cases c5 : hdC l = 5
  · simp only [c5, if_true, if_neg (show ¬ 5 = 1 by omega), if_neg (show ¬ 5 = 2 by omega), if_neg (show ¬ 5 = 3 by omega), if_neg (show ¬ 5 = 4 by omega)] at h0 hle ⊢
    have hn : numN l ≤ spanN dgB l := by unfold numN; split <;> omega
    have := spanN_all dgB l (numN l - 1) (by omega) (by omega)
    simp [dgB] at this
    exact .inr (.inl ⟨by omega, by omega⟩)
  by_cases c7 : hdC l = 7
  · simp only [c7, if_true, if_neg (show ¬ 7 = 1 by omega), if_neg (show ¬ 7 = 2 by omega), if_neg (show ¬ 7 = 3 by omega), if_neg (show ¬ 7 = 4 by omega), if_neg (show ¬ 7 = 5 by omega)] at h0 hle ⊢
    unfold varN at h0 hle ⊢
    split at h0
    · omega
    · rename_i hp
      rw [if_neg hp] at hle ⊢
      have hple := partN_le smB l.tail
      refine .inr (.inl ⟨by omega, ?_⟩)
      have := partN_lt smB (fun c hc => by have := small_of hc; omega) l.tail (partN smB l.tail - 1) (by omega) (by omega)
      cases l with
      | nil => simp at hl
      | cons c r =>
        simp only [List.tail_cons] at this hp ⊢
        simp only [show 1 + partN smB r - 1 = (partN smB r - 1) + 1 by omega, List.getElem_cons_succ]
        exact this
  by_cases c8 : hdC l = 8
  · simp only [c8, if_true, if_neg (show ¬ 8 = 1 by omega), if_neg (show ¬ 8 = 2 by omega), if_neg (show ¬ 8 = 3 by omega), if_neg (show ¬ 8 = 4 by omega), if_neg (show ¬ 8 = 5 by omega), if_neg (show ¬ 8 = 7 by omega)] at h0 hle ⊢
    obtain ⟨h1, _, h2⟩ := quo_end l h0
    exact .inr (.inl ⟨h1, by rw [h2, hd_get hl]; exact hasc (by omega)⟩)
  by_cases c9 : hdC l = 9
  · simp only [c9, if_true, if_neg (show ¬ 9 = 1 by omega), if_neg (show ¬ 9 = 2 by omega), if_neg (show ¬ 9 = 3 by omega), if_neg (show ¬ 9 = 4 by omega), if_neg (show ¬ 9 = 5 by omega), if_neg (show ¬ 9 = 7 by omega), if_neg (show ¬ 9 = 8 by omega)] at h0 hle ⊢
    obtain ⟨h1, _, h2⟩ := quo_end l h0
    exact .inr (.inl ⟨h1, by rw [h2, hd_get hl]; exact hasc (by omega)⟩)
  · simp only [c1, c2, c3, c4, c5, c7, c8, c9, if_false] at h0 hle ⊢
    obtain ⟨h1, h2⟩ := sign_byte l h0
    exact .inr (.inl ⟨h1, h2⟩)
theorem hdC_app {a b : List UInt8} (h : a ≠ []) : hdC (a ++ b) = hdC a := by
  cases a with
  | nil => exact absurd rfl h
  | cons c r => rfl
theorem tail_app' {a b : List UInt8} (h : a ≠ []) : (a ++ b).tail = a.tail ++ b := by
  cases a with
  | nil => exact absurd rfl h
  | cons c r => rfl
theorem hd_app {a b : List UInt8} (h : a ≠ []) : (a ++ b).headD 0 = a.headD 0 := by
  cases a with
  | nil => exact absurd rfl h
  | cons c r => rfl
/-- What may stand behind a word and is no part of it. -/
structure Sep (s : UInt8) : Prop where
  sm : smB s = false
  tl : tlB s = false
  dg : dgB s = false
  col : s ≠ 58
  eq : s ≠ 61
  gt : s ≠ 62
theorem sep10 : Sep 10 := ⟨by decide, by decide, by decide, by decide, by decide, by decide⟩
theorem sep32 : Sep 32 := ⟨by decide, by decide, by decide, by decide, by decide, by decide⟩
theorem sign_sep {s : UInt8} (hs : Sep s) (a b : List UInt8) (h : a ≠ []) : signN (a ++ s :: b) = signN a := by
  match a, h with
  | [c], _ =>
    have h1 := hs.eq
    have h2 := hs.gt
    have : ([c] ++ s :: b).take 2 ∉ sgn2 := by simp [sgn2, h1, h2]
    have t2 : ([c] : List UInt8).take 2 ∉ sgn2 := by simp [sgn2]
    unfold signN
    rw [if_neg this, if_neg t2]
    rfl
  | c :: d :: r, _ => rfl
theorem quo_sep {s : UInt8} (a b : List UInt8) (h : a ≠ []) (h0 : 0 < quoN a) : quoN (a ++ s :: b) = quoN a := by
  unfold quoN at h0 ⊢
  rw [hd_app h, tail_app' h]
  split at h0
  · omega
  · rename_i hn
    rw [if_neg hn]
    generalize a.headD 0 = q at *
    have hle := spanN_le (notB q) a.tail
    have e : spanN (notB q) (a.tail ++ s :: b) = spanN (notB q) a.tail := by
      refine spanN_is (by simp only [List.length_append]; omega) (fun j hj hn2 => ?_) (fun hh => ?_)
      · rw [List.getElem_append_left (by omega)]
        exact spanN_all _ _ _ _ hn2
      · rw [List.getElem_append_left (by omega)]
        exact spanN_stop _ _ _
    rw [e, if_neg (by simp only [List.length_append, List.length_cons]; omega)]
theorem pc_sep {s : UInt8} (hs : Sep s) (a b : List UInt8) (h : a ≠ []) (h0 : 0 < (pcO a).sz) (hk : s = 10 ∨ (pcO a).kd ≠ 0) : pcO (a ++ s :: b) = pcO a := by
  unfold pcO at h0 hk ⊢
  rw [hdC_app h]
  unfold cutO at h0 hk ⊢
  by_cases c1 : hdC a = 1
  · simp only [c1, if_true]
  by_cases c2 : hdC a = 2
  · simp only [c2, if_true, if_neg (show ¬ 2 = 1 by omega)] at h0 hk ⊢
    have : s = 10 := by rcases hk with h | h
                        · exact h
                        · exact absurd rfl h
    subst this
    rw [spanN_sep _ 10 (by decide)]
  by_cases c3 : hdC a = 3
  · simp only [c3, if_true, if_neg (show ¬ 3 = 1 by omega), if_neg (show ¬ 3 = 2 by omega)]
    rw [nameN_sep s hs.sm hs.tl hs.col]
  by_cases c4 : hdC a = 4
  · simp only [c4, if_true, if_neg (show ¬ 4 = 1 by omega), if_neg (show ¬ 4 = 2 by omega), if_neg (show ¬ 4 = 3 by omega)]
    have : partN grB (a ++ s :: b) = partN grB a := by
      cases a with
      | nil => exact absurd rfl h
      | cons c r => simp only [List.cons_append, partN, spanN_sep tlB s hs.tl]
    rw [this]
  by_cases c5 : hdC a = 5
  · simp only [c5, if_true, if_neg (show ¬ 5 = 1 by omega), if_neg (show ¬ 5 = 2 by omega), if_neg (show ¬ 5 = 3 by omega), if_neg (show ¬ 5 = 4 by omega)]
    unfold numN
    rw [spanN_sep dgB s hs.dg]
  by_cases c7 : hdC a = 7
  · simp only [c7, if_true, if_neg (show ¬ 7 = 1 by omega), if_neg (show ¬ 7 = 2 by omega), if_neg (show ¬ 7 = 3 by omega), if_neg (show ¬ 7 = 4 by omega), if_neg (show ¬ 7 = 5 by omega)]
    unfold varN
    rw [tail_app' h, partN_sep smB s hs.sm hs.tl]
  by_cases c8 : hdC a = 8
  · simp only [c8, if_true, if_neg (show ¬ 8 = 1 by omega), if_neg (show ¬ 8 = 2 by omega), if_neg (show ¬ 8 = 3 by omega), if_neg (show ¬ 8 = 4 by omega), if_neg (show ¬ 8 = 5 by omega), if_neg (show ¬ 8 = 7 by omega)] at h0 ⊢
    rw [quo_sep a b h h0]
  by_cases c9 : hdC a = 9
  · simp only [c9, if_true, if_neg (show ¬ 9 = 1 by omega), if_neg (show ¬ 9 = 2 by omega), if_neg (show ¬ 9 = 3 by omega), if_neg (show ¬ 9 = 4 by omega), if_neg (show ¬ 9 = 5 by omega), if_neg (show ¬ 9 = 7 by omega), if_neg (show ¬ 9 = 8 by omega)] at h0 ⊢
    rw [quo_sep a b h h0]
  · simp only [c1, c2, c3, c4, c5, c7, c8, c9, if_false]
    rw [sign_sep hs a b h]
theorem quo_self (x r : List UInt8) (hx : x ≠ []) (h0 : 0 < quoN (x ++ r)) (h : quoN (x ++ r) ≤ x.length) : quoN x = quoN (x ++ r) := by
  unfold quoN at h0 h ⊢
  rw [hd_app hx, tail_app' hx] at h0 h ⊢
  split at h0
  · omega
  · rename_i hn
    rw [if_neg hn] at h ⊢
    have hl : x.length = x.tail.length + 1 := by cases x with
      | nil => exact absurd rfl hx
      | cons c x => simp
    have e := spanN_app (notB (x.headD 0)) x.tail r (by omega)
    rw [e, if_neg (by omega)]
theorem sign_self (x r : List UInt8) (hx : x ≠ []) (h : signN (x ++ r) ≤ x.length) : signN x = signN (x ++ r) := by
  match x, hx with
  | [c], _ =>
    have t2 : ([c] : List UInt8).take 2 ∉ sgn2 := by simp [sgn2]
    unfold signN at h ⊢
    by_cases h2 : ([c] ++ r).take 2 ∈ sgn2
    · rw [if_pos h2] at h; simp at h
    · rw [if_neg h2, if_neg t2]; rfl
  | c :: d :: r, _ => rfl
/-- A word that is cut out is that word. -/
theorem pc_self (l : List UInt8) (h : l ≠ []) (h0 : 0 < (pcO l).sz) (hk : (pcO l).kd ≠ 0) : l.take (pcO l).sz ≠ [] ∧ (l.take (pcO l).sz).length = (pcO l).sz ∧ pcO (l.take (pcO l).sz) = pcO l := by
  have hle := pc_le l h
  obtain ⟨n, hn⟩ : ∃ n, (pcO l).sz = n := ⟨_, rfl⟩
  obtain ⟨x, r, hl, hx⟩ : ∃ x r, l = x ++ r ∧ x.length = n := ⟨l.take n, l.drop n, (List.take_append_drop _ _).symm, by rw [List.length_take]; omega⟩
  have hx0 : x ≠ [] := by intro e; rw [e] at hx; simp at hx; omega
  have ht : l.take n = x := by rw [hl, ← hx]; simp
  rw [hn, ht]
  refine ⟨hx0, hx, ?_⟩
  clear ht
  subst hl
  unfold pcO at hn h0 hk ⊢
  rw [hdC_app hx0] at hn h0 hk ⊢
  unfold cutO at hn h0 hk ⊢
  by_cases c1 : hdC x = 1
  · simp only [c1, if_true]
  by_cases c2 : hdC x = 2
  · simp only [c2, if_true, if_neg (show ¬ 2 = 1 by omega)] at hk
    exact absurd rfl hk
  by_cases c3 : hdC x = 3
  · simp only [c3, if_true, if_neg (show ¬ 3 = 1 by omega), if_neg (show ¬ 3 = 2 by omega)] at hn ⊢
    rw [nameN_app x r (by omega)]
  by_cases c4 : hdC x = 4
  · simp only [c4, if_true, if_neg (show ¬ 4 = 1 by omega), if_neg (show ¬ 4 = 2 by omega), if_neg (show ¬ 4 = 3 by omega)] at hn ⊢
    rw [partN_app grB x r (by omega)]
  by_cases c5 : hdC x = 5
  · simp only [c5, if_true, if_neg (show ¬ 5 = 1 by omega), if_neg (show ¬ 5 = 2 by omega), if_neg (show ¬ 5 = 3 by omega), if_neg (show ¬ 5 = 4 by omega)] at h0 hn ⊢
    have e : spanN dgB x = spanN dgB (x ++ r) := spanN_app dgB x r (by unfold numN at h0 hn; split at h0 <;> simp_all)
    unfold numN
    rw [e]
  by_cases c7 : hdC x = 7
  · simp only [c7, if_true, if_neg (show ¬ 7 = 1 by omega), if_neg (show ¬ 7 = 2 by omega), if_neg (show ¬ 7 = 3 by omega), if_neg (show ¬ 7 = 4 by omega), if_neg (show ¬ 7 = 5 by omega)] at h0 hn ⊢
    have hl : x.length = x.tail.length + 1 := by cases x with
      | nil => exact absurd rfl hx0
      | cons c x => simp
    unfold varN at h0 hn ⊢
    rw [tail_app' hx0] at h0 hn ⊢
    rw [partN_app smB x.tail r (by split at hn <;> omega)]
  by_cases c8 : hdC x = 8
  · simp only [c8, if_true, if_neg (show ¬ 8 = 1 by omega), if_neg (show ¬ 8 = 2 by omega), if_neg (show ¬ 8 = 3 by omega), if_neg (show ¬ 8 = 4 by omega), if_neg (show ¬ 8 = 5 by omega), if_neg (show ¬ 8 = 7 by omega)] at h0 hn ⊢
    rw [quo_self x r hx0 h0 (by omega)]
  by_cases c9 : hdC x = 9
  · simp only [c9, if_true, if_neg (show ¬ 9 = 1 by omega), if_neg (show ¬ 9 = 2 by omega), if_neg (show ¬ 9 = 3 by omega), if_neg (show ¬ 9 = 4 by omega), if_neg (show ¬ 9 = 5 by omega), if_neg (show ¬ 9 = 7 by omega), if_neg (show ¬ 9 = 8 by omega)] at h0 hn ⊢
    rw [quo_self x r hx0 h0 (by omega)]
  · simp only [c1, c2, c3, c4, c5, c7, c8, c9, if_false] at hn ⊢
    rw [sign_self x r hx0 (by omega)]
/-- A word as it stands in a text. -/
def covO (w : Wd) : List UInt8 := if w.kd = 3 then 36 :: w.tx else if w.kd = 4 then 39 :: (w.tx ++ [39]) else if w.kd = 5 then 34 :: (w.tx ++ [34]) else w.tx
theorem cls_is {c : UInt8} {n : Nat} (h : clsN c.toNat = n) (hn : n = 7 ∨ n = 8 ∨ n = 9) : c = if n = 7 then 36 else if n = 8 then 39 else 34 := by
  apply UInt8.toNat_inj.1
  unfold clsN at h
  repeat' split at h
  all_goals (first | omega | (subst h; simp_all))
theorem quo_cov (l : List UInt8) (h : 0 < quoN l) (p : Pc) (hp : p.sz = quoN l ∧ p.ah = 1 ∧ p.bh = 1) : l.headD 0 :: (txO l p ++ [l.headD 0]) = l.take (quoN l) := by
  obtain ⟨h1, h2, h3⟩ := quo_end l h
  unfold txO
  rw [hp.1, hp.2.1, hp.2.2]
  generalize quoN l = q at *
  cases l with
  | nil => simp at h1
  | cons c r =>
    simp only [List.headD_cons] at h3 ⊢
    obtain ⟨m, rfl⟩ : ∃ m, q = m + 2 := ⟨q - 2, by omega⟩
    simp only [List.drop_succ_cons, List.drop_zero, List.take_succ_cons, List.cons.injEq, true_and]
    simp only [show m + 2 - 1 = m + 1 by omega, List.getElem_cons_succ] at h3 h1 ⊢
    rw [show m + 1 - 1 = m by omega, List.take_add_one, List.getElem?_eq_getElem (by simpa using h1), h3]
    rfl
theorem cov_take (l : List UInt8) (h : l ≠ []) (h0 : 0 < (pcO l).sz) (hk : (pcO l).kd ≠ 0) (n : Nat) : covO ⟨(pcO l).kd, txO l (pcO l), n⟩ = l.take (pcO l).sz := by
  have hl : 0 < l.length := by have : l.length ≠ 0 := by simpa using h
                               omega
  have hle := pc_le l h
  unfold pcO at h0 hk hle ⊢
  have hcl : hdC l = clsN (l.headD 0).toNat := rfl
  unfold cutO at h0 hk hle ⊢
  by_cases c1 : hdC l = 1
  · simp only [c1, if_true] at hk
    exact absurd rfl hk
  by_cases c2 : hdC l = 2
  · simp only [c2, if_true, if_neg (show ¬ 2 = 1 by omega)] at hk
    exact absurd rfl hk
  by_cases c3 : hdC l = 3
  · simp only [c3, if_true, if_neg (show ¬ 3 = 1 by omega), if_neg (show ¬ 3 = 2 by omega)]
    simp [covO, txO]
  by_cases c4 : hdC l = 4
  · simp only [c4, if_true, if_neg (show ¬ 4 = 1 by omega), if_neg (show ¬ 4 = 2 by omega), if_neg (show ¬ 4 = 3 by omega)]
    simp [covO, txO]
  by_cases c5 : hdC l = 5
  · simp only [c5, if_true, if_neg (show ¬ 5 = 1 by omega), if_neg (show ¬ 5 = 2 by omega), if_neg (show ¬ 5 = 3 by omega), if_neg (show ¬ 5 = 4 by omega)]
    simp [covO, txO]
  by_cases c7 : hdC l = 7
  · simp only [c7, if_true, if_neg (show ¬ 7 = 1 by omega), if_neg (show ¬ 7 = 2 by omega), if_neg (show ¬ 7 = 3 by omega), if_neg (show ¬ 7 = 4 by omega), if_neg (show ¬ 7 = 5 by omega)] at h0 hle ⊢
    have hc := cls_is (hcl.symm.trans c7) (by omega)
    cases l with
    | nil => exact absurd rfl h
    | cons c r =>
      simp at hc
      subst hc
      obtain ⟨m, hm⟩ : ∃ m, varN (36 :: r) = m + 1 := ⟨varN (36 :: r) - 1, by omega⟩
      rw [hm]
      simp [covO, txO]
  by_cases c8 : hdC l = 8
  · simp only [c8, if_true, if_neg (show ¬ 8 = 1 by omega), if_neg (show ¬ 8 = 2 by omega), if_neg (show ¬ 8 = 3 by omega), if_neg (show ¬ 8 = 4 by omega), if_neg (show ¬ 8 = 5 by omega), if_neg (show ¬ 8 = 7 by omega)] at h0 hle ⊢
    have hc := cls_is (hcl.symm.trans c8) (by omega)
    simp at hc
    have := quo_cov l h0 ⟨4, quoN l, 1, 1⟩ ⟨rfl, rfl, rfl⟩
    rw [List.headD_eq_head?_getD, hc] at this
    simpa [covO] using this
  by_cases c9 : hdC l = 9
  · simp only [c9, if_true, if_neg (show ¬ 9 = 1 by omega), if_neg (show ¬ 9 = 2 by omega), if_neg (show ¬ 9 = 3 by omega), if_neg (show ¬ 9 = 4 by omega), if_neg (show ¬ 9 = 5 by omega), if_neg (show ¬ 9 = 7 by omega), if_neg (show ¬ 9 = 8 by omega)] at h0 hle ⊢
    have hc := cls_is (hcl.symm.trans c9) (by omega)
    simp at hc
    have := quo_cov l h0 ⟨5, quoN l, 1, 1⟩ ⟨rfl, rfl, rfl⟩
    rw [List.headD_eq_head?_getD, hc] at this
    simpa [covO] using this
  · simp only [c1, c2, c3, c4, c5, c7, c8, c9, if_false]
    simp [covO, txO]
/-- A word that, cut out, is itself. -/
def WOk (w : Wd) : Prop := covO w ≠ [] ∧ w.kd ≠ 0 ∧ (pcO (covO w)).kd = w.kd ∧ (pcO (covO w)).sz = (covO w).length ∧ txO (covO w) (pcO (covO w)) = w.tx
theorem txO_take (l : List UInt8) (p : Pc) : txO (l.take p.sz) p = txO l p := by
  unfold txO
  rw [List.drop_take, List.take_take, Nat.min_eq_left (by omega)]
theorem wok_of (l : List UInt8) (h : l ≠ []) (h0 : 0 < (pcO l).sz) (hk : (pcO l).kd ≠ 0) (n : Nat) : WOk ⟨(pcO l).kd, txO l (pcO l), n⟩ := by
  unfold WOk
  rw [cov_take l h h0 hk n]
  obtain ⟨h1, h2, h3⟩ := pc_self l h h0 hk
  exact ⟨h1, hk, by rw [h3], by rw [h3, h2], by rw [h3, txO_take]⟩
theorem lexL_nil (n : Nat) : lexL [] n = ([], none) := by rw [lexL]; simp
theorem lexL_err {l : List UInt8} (h : l ≠ []) (h0 : (pcO l).sz = 0) (n : Nat) : lexL l n = ([], some n) := by rw [lexL, if_neg h, if_pos h0]
theorem lexL_skip {l : List UInt8} (h : l ≠ []) (h0 : 0 < (pcO l).sz) (hk : (pcO l).kd = 0) (n : Nat) : lexL l n = lexL (l.drop (pcO l).sz) (n + (pcO l).sz) := by
  rw [lexL, if_neg h, if_neg (by omega), if_pos hk]
theorem lexL_word {l : List UInt8} (h : l ≠ []) (h0 : 0 < (pcO l).sz) (hk : (pcO l).kd ≠ 0) (n : Nat) :
    lexL l n = (⟨(pcO l).kd, txO l (pcO l), n⟩ :: (lexL (l.drop (pcO l).sz) (n + (pcO l).sz)).1, (lexL (l.drop (pcO l).sz) (n + (pcO l).sz)).2) := by
  rw [lexL, if_neg h, if_neg (by omega), if_neg hk]
theorem lex_alone {w : Wd} (h : WOk w) : lexL (covO w) 0 = ([⟨w.kd, w.tx, 0⟩], none) := by
  obtain ⟨h1, h2, h3, h4, h5⟩ := h
  have : (covO w).length ≠ 0 := by simpa using h1
  rw [lexL_word h1 (by omega) (by omega), h3, h4, h5, List.drop_length, lexL_nil]
def shW (k : Nat) (w : Wd) : Wd := ⟨w.kd, w.tx, w.at' + k⟩
theorem lex_shift (l : List UInt8) (n k : Nat) : lexL l (n + k) = ((lexL l n).1.map (shW k), (lexL l n).2.map (· + k)) := by
  by_cases h : l = []
  · subst h; simp [lexL_nil]
  by_cases h0 : (pcO l).sz = 0
  · simp [lexL_err h h0]
  · have hl : l.length ≠ 0 := by simpa using h
    have ih := lex_shift (l.drop (pcO l).sz) (n + (pcO l).sz) k
    rw [show n + (pcO l).sz + k = n + k + (pcO l).sz by omega] at ih
    by_cases hk : (pcO l).kd = 0
    · rw [lexL_skip h (by omega) hk, lexL_skip h (by omega) hk, ih]
    · rw [lexL_word h (by omega) hk, lexL_word h (by omega) hk, ih]
      rfl
termination_by l.length
decreasing_by simp; omega
theorem lex_app (a b : List UInt8) (n : Nat) (h : (lexL a n).2 = none) : lexL (a ++ 10 :: b) n = ((lexL a n).1 ++ (lexL (10 :: b) (n + a.length)).1, (lexL (10 :: b) (n + a.length)).2) := by
  by_cases ha : a = []
  · subst ha; simp [lexL_nil]
  · have hl : a.length ≠ 0 := by simpa using ha
    by_cases h0 : (pcO a).sz = 0
    · rw [lexL_err ha h0] at h; cases h
    · have e := pc_sep sep10 a b ha (by omega) (.inl rfl)
      have hle := pc_le a ha
      have hd : (a ++ 10 :: b).drop (pcO a).sz = a.drop (pcO a).sz ++ 10 :: b := List.drop_append_of_le_length hle
      have hne : a ++ 10 :: b ≠ [] := by simp
      have hn : n + (pcO a).sz + (a.drop (pcO a).sz).length = n + a.length := by simp; omega
      by_cases hk : (pcO a).kd = 0
      · rw [lexL_skip ha (by omega) hk] at h
        have ih := lex_app (a.drop (pcO a).sz) b (n + (pcO a).sz) h
        rw [hn] at ih
        rw [lexL_skip hne (by rw [e]; omega) (by rw [e]; exact hk), lexL_skip ha (by omega) hk, e, hd, ih]
      · rw [lexL_word ha (by omega) hk] at h
        have ih := lex_app (a.drop (pcO a).sz) b (n + (pcO a).sz) h
        rw [hn] at ih
        have et : txO (a ++ 10 :: b) (pcO a) = txO a (pcO a) := by
          rw [← txO_take, ← txO_take a, List.take_append_of_le_length hle]
        rw [lexL_word hne (by rw [e]; omega) (by rw [e]; exact hk), lexL_word ha (by omega) hk, e, hd, ih, et]
        rfl
termination_by a.length
decreasing_by
  all_goals (simp; omega)
theorem lex_lf (b : List UInt8) (n : Nat) : lexL (10 :: b) n = lexL b (n + 1) := by
  have : pcO (10 :: b) = ⟨0, 1, 0, 0⟩ := rfl
  rw [lexL_skip (by simp) (by rw [this]; decide) (by rw [this])]
  simp [this]
theorem lex_wh (c : UInt8) (hc : clsN c.toNat = 1) (b : List UInt8) (n : Nat) : lexL (c :: b) n = lexL b (n + 1) := by
  have : pcO (c :: b) = ⟨0, 1, 0, 0⟩ := by
    unfold pcO hdC cutO
    simp [hc]
  rw [lexL_skip (by simp) (by rw [this]; decide) (by rw [this])]
  simp [this]
/-- Words on two lines. -/
theorem lex_halves (a b : List UInt8) (ha : (lexL a 0).2 = none) (hb : (lexL b 0).2 = none) : lexL (a ++ 10 :: b) 0 = ((lexL a 0).1 ++ (lexL b 0).1.map (shW (a.length + 1)), none) := by
  rw [lex_app a b 0 ha, lex_lf, show 0 + a.length + 1 = 0 + (a.length + 1) by omega, lex_shift b 0 (a.length + 1), hb]
  rfl
theorem spanN_full (p : UInt8 → Bool) (l : List UInt8) (h : ∀ c ∈ l, p c = true) : spanN p l = l.length :=
  spanN_is (Nat.le_refl _) (fun _ hj _ => h _ (List.getElem_mem hj)) (fun hh => absurd hh (Nat.lt_irrefl _))
theorem lex_note (c : List UInt8) (hc : ∀ x ∈ c, x ≠ 10) (n : Nat) : lexL (35 :: c) n = ([], none) := by
  have hs : spanN (notB 10) (35 :: c) = c.length + 1 := by
    rw [spanN_full]
    · simp
    · intro x hx
      simp at hx
      rcases hx with rfl | hx
      · decide
      · simpa [notB] using hc x hx
  have : pcO (35 :: c) = ⟨0, c.length + 1, 0, 0⟩ := by
    unfold pcO
    rw [show hdC (35 :: c) = 2 from rfl]
    unfold cutO
    simp [hs]
  rw [lexL_skip (by simp) (by rw [this]; simp) (by rw [this])]
  simp [this, lexL_nil]
theorem lex_comments (a c : List UInt8) (ha : (lexL a 0).2 = none) (hc : ∀ x ∈ c, x ≠ 10) : lexL ([10, 32, 9, 13, 10] ++ a ++ [10, 35] ++ c) 0 = ((lexL a 0).1.map (shW 5), none) := by
  have e : [10, 32, 9, 13, 10] ++ a ++ [10, 35] ++ c = 10 :: 32 :: 9 :: 13 :: 10 :: (a ++ 10 :: 35 :: c) := by simp
  have h5 := lex_shift a 0 5
  have ha5 : (lexL a (0 + 5)).2 = none := by rw [h5, ha]; rfl
  rw [e, lex_wh 10 rfl, lex_wh 32 rfl, lex_wh 9 rfl, lex_wh 13 rfl, lex_wh 10 rfl]
  show lexL (a ++ 10 :: 35 :: c) (0 + 5) = _
  rw [lex_app a _ _ ha5, lex_lf, lex_note c hc, List.append_nil, h5]
/-- What is joined of words. -/
def joinO : List Wd → List UInt8
  | [] => []
  | w :: l => covO w ++ 32 :: joinO l
theorem lex_wok (l : List UInt8) (n : Nat) : ∀ w ∈ (lexL l n).1, WOk w := by
  by_cases h : l = []
  · subst h; simp [lexL_nil]
  by_cases h0 : (pcO l).sz = 0
  · simp [lexL_err h h0]
  · have hl : l.length ≠ 0 := by simpa using h
    have ih := lex_wok (l.drop (pcO l).sz) (n + (pcO l).sz)
    by_cases hk : (pcO l).kd = 0
    · rw [lexL_skip h (by omega) hk]; exact ih
    · rw [lexL_word h (by omega) hk]
      intro w hw
      rcases List.mem_cons.1 hw with rfl | hw
      · exact wok_of l h (by omega) hk n
      · exact ih w hw
termination_by l.length
decreasing_by simp; omega
/-- Words alike but for their places. -/
def AlikeW : List Wd → List Wd → Prop
  | [], [] => True
  | a :: x, b :: y => a.kd = b.kd ∧ a.tx = b.tx ∧ AlikeW x y
  | _, _ => False
theorem AlikeW.len : ∀ {x y : List Wd}, AlikeW x y → x.length = y.length
  | [], [], _ => rfl
  | a :: x, b :: y, h => by simp [AlikeW.len h.2.2]
theorem AlikeW.get : ∀ {x y : List Wd}, AlikeW x y → ∀ (k : Nat) (h1 : k < x.length) (h2 : k < y.length), x[k].kd = y[k].kd ∧ x[k].tx = y[k].tx
  | a :: x, b :: y, h, 0, _, _ => ⟨h.1, h.2.1⟩
  | a :: x, b :: y, h, k + 1, h1, h2 => AlikeW.get h.2.2 k (by simpa using h1) (by simpa using h2)
theorem lex_joins : ∀ (l : List Wd) (n : Nat), (∀ w ∈ l, WOk w) → (lexL (joinO l) n).2 = none ∧ AlikeW (lexL (joinO l) n).1 l
  | [], n, _ => by simp [joinO, lexL_nil, AlikeW]
  | w :: l, n, h => by
    obtain ⟨h1, h2, h3, h4, h5⟩ := h w (by simp)
    have h0 : (covO w).length ≠ 0 := by simpa using h1
    have e := pc_sep sep32 (covO w) (joinO l) h1 (by omega) (.inr (by omega))
    have et : txO (covO w ++ 32 :: joinO l) (pcO (covO w)) = w.tx := by
      rw [← h5, ← txO_take, ← txO_take (covO w), List.take_append_of_le_length (by omega)]
    have ih := lex_joins l (n + (covO w).length + 1) (fun x hx => h x (by simp [hx]))
    unfold joinO
    rw [lexL_word (by simp) (by rw [e]; omega) (by rw [e]; omega), e, et, h4, h3, List.drop_left, lex_wh 32 rfl]
    exact ⟨ih.1, rfl, rfl, ih.2⟩
/-- Blanks and comments. -/
def blkB : Bool → List UInt8 → Bool
  | _, [] => true
  | com, c :: r => if c = 10 then blkB false r else if com then blkB true r else if c = 35 then blkB true r else if c = 9 ∨ c = 13 ∨ c = 32 then blkB false r else false
theorem blkB_com (x r : List UInt8) (h : ∀ c ∈ x, c ≠ 10) (hr : r = [] ∨ ∃ t, r = 10 :: t) : blkB true (x ++ r) = blkB false r := by
  induction x with
  | nil =>
    rcases hr with rfl | ⟨t, rfl⟩
    · rfl
    · simp [blkB]
  | cons c x ih =>
    have hc := h c (by simp)
    simp only [List.cons_append, blkB, if_neg hc, if_true]
    exact ih (fun d hd => h d (by simp [hd]))
theorem skip_blk (l : List UInt8) (h : l ≠ []) (h0 : 0 < (pcO l).sz) (hk : (pcO l).kd = 0) (g : Nat) (hg : blkB false ((l.drop (pcO l).sz).take g) = true) : blkB false (l.take ((pcO l).sz + g)) = true := by
  have hle := pc_le l h
  rw [List.take_add]
  unfold pcO at h0 hk hg hle ⊢
  cases l with
  | nil => exact absurd rfl h
  | cons c r =>
    have hcl : hdC (c :: r) = clsN c.toNat := rfl
    have hkk : hdC (c :: r) = 1 ∨ hdC (c :: r) = 2 := by
      unfold cutO at hk
      repeat' split at hk
      all_goals first | omega | (simp at hk)
    rcases hkk with c1 | c2
    · have : cutO (c :: r) (hdC (c :: r)) = ⟨0, 1, 0, 0⟩ := by rw [c1]; rfl
      rw [this] at hg ⊢
      have hw : c.toNat = 9 ∨ c.toNat = 10 ∨ c.toNat = 13 ∨ c.toNat = 32 := by
        rw [hcl] at c1
        unfold clsN at c1
        repeat' split at c1
        all_goals first | omega | assumption
      simp only [List.drop_succ_cons, List.drop_zero, List.take_succ_cons, List.take_zero, List.cons_append, List.nil_append, blkB, Bool.false_eq_true, if_false] at hg ⊢
      rcases hw with e | e | e | e
      · have : c = 9 := UInt8.toNat_inj.1 e
        subst this; simpa using hg
      · have : c = 10 := UInt8.toNat_inj.1 e
        subst this; simpa using hg
      · have : c = 13 := UInt8.toNat_inj.1 e
        subst this; simpa using hg
      · have : c = 32 := UInt8.toNat_inj.1 e
        subst this; simpa using hg
    · have : cutO (c :: r) (hdC (c :: r)) = ⟨0, spanN (notB 10) (c :: r), 0, 0⟩ := by rw [c2]; rfl
      rw [this] at hg h0 hle ⊢
      have hw : c = 35 := by
        rw [hcl] at c2
        unfold clsN at c2
        repeat' split at c2
        all_goals first | omega | (apply UInt8.toNat_inj.1; assumption)
      subst hw
      have es : spanN (notB 10) (35 :: r) = spanN (notB 10) r + 1 := by simp [spanN, notB]
      simp only at hg ⊢
      rw [es] at hg hle ⊢
      simp only [List.take_succ_cons, List.drop_succ_cons, List.cons_append, blkB] at hg ⊢
      have hlr : spanN (notB 10) r ≤ r.length := spanN_le _ _
      simp only [show ¬ (35 : UInt8) = 10 by decide, if_false, Bool.false_eq_true, if_true]
      rw [blkB_com]
      · exact hg
      · intro x hx
        obtain ⟨k, hk, rfl⟩ := List.getElem_of_mem hx
        simp at hk
        have := spanN_all (notB 10) r k (by omega) (by omega)
        simpa [notB] using this
      · by_cases e : spanN (notB 10) r = r.length
        · left; rw [e]; simp
        · have hlt : spanN (notB 10) r < r.length := by omega
          have hst := spanN_stop (notB 10) r hlt
          have h10 : r[spanN (notB 10) r] = 10 := by simpa [notB] using hst
          rw [List.drop_eq_getElem_cons hlt, h10]
          cases g with
          | zero => left; rfl
          | succ g => right; exact ⟨_, by rw [List.take_succ_cons]⟩
theorem lex_end (l : List UInt8) (n : Nat) (h : lexL l n = ([], none)) : blkB false l = true := by
  by_cases hl : l = []
  · subst hl; rfl
  by_cases h0 : (pcO l).sz = 0
  · rw [lexL_err hl h0] at h; simp at h
  · have hlen : l.length ≠ 0 := by simpa using hl
    have hle := pc_le l hl
    by_cases hk : (pcO l).kd = 0
    · rw [lexL_skip hl (by omega) hk] at h
      have ih := lex_end _ _ h
      have := skip_blk l hl (by omega) hk (l.length - (pcO l).sz) (by rw [List.take_of_length_le (by simp)]; exact ih)
      rwa [List.take_of_length_le (by omega)] at this
    · rw [lexL_word hl (by omega) hk] at h
      simp at h
termination_by l.length
decreasing_by simp; omega
/-- Ahead of the first word there are only blanks and comments; the word stands where it is told. -/
theorem lex_gap (l : List UInt8) (n : Nat) (w : Wd) (ws : List Wd) (h : lexL l n = (w :: ws, none)) :
    ∃ g, w.at' = n + g ∧ blkB false (l.take g) = true ∧ (l.drop g).take (covO w).length = covO w ∧ g + (covO w).length ≤ l.length ∧ WOk w ∧ lexL (l.drop (g + (covO w).length)) (n + (g + (covO w).length)) = (ws, none) := by
  by_cases hl : l = []
  · subst hl; rw [lexL_nil] at h; simp at h
  by_cases h0 : (pcO l).sz = 0
  · rw [lexL_err hl h0] at h; simp at h
  · have hlen : l.length ≠ 0 := by simpa using hl
    have hle := pc_le l hl
    by_cases hk : (pcO l).kd = 0
    · rw [lexL_skip hl (by omega) hk] at h
      obtain ⟨g, h1, h2, h3, h4, h5, h6⟩ := lex_gap _ _ _ _ h
      refine ⟨(pcO l).sz + g, by omega, skip_blk l hl (by omega) hk g h2, ?_, ?_, h5, ?_⟩
      · rw [← List.drop_drop]; exact h3
      · simp at h4; omega
      · rw [List.drop_drop] at h6
        rw [show (pcO l).sz + g + (covO w).length = (pcO l).sz + (g + (covO w).length) by omega, show n + ((pcO l).sz + (g + (covO w).length)) = n + (pcO l).sz + (g + (covO w).length) by omega]
        exact h6
    · rw [lexL_word hl (by omega) hk] at h
      simp only [Prod.mk.injEq, List.cons.injEq] at h
      obtain ⟨⟨rfl, h1⟩, h2⟩ := h
      have hc := cov_take l hl (by omega) hk n
      have hcl : (covO ⟨(pcO l).kd, txO l (pcO l), n⟩).length = (pcO l).sz := by rw [hc, List.length_take]; omega
      refine ⟨0, rfl, rfl, ?_, by omega, wok_of l hl (by omega) hk n, ?_⟩
      · rw [hcl, hc]; rfl
      · rw [hcl, Nat.zero_add, ← h1, ← h2]
termination_by l.length
decreasing_by simp; omega
/-- The document's words. -/
def partB (l : List UInt8) : Bool := decide (0 < l.length ∧ partN smB l = l.length)
def nameB (l : List UInt8) : Bool := decide (0 < l.length ∧ nameN l = l.length)
def typeB (l : List UInt8) : Bool := decide (0 < l.length ∧ partN grB l = l.length)
/-- Nowhere from i on two ':' before k. -/
def NoCol (l : List UInt8) (k : Nat) : Prop := ∀ j, j < k → ¬ (l[j]? = some 58 ∧ l[j + 1]? = some 58)
theorem NoCol.drop {l : List UInt8} {k : Nat} (h : NoCol l k) (m : Nat) (hm : m ≤ k) : NoCol (l.drop m) (k - m) := by
  intro j hj
  have := h (m + j) (by omega)
  simp only [List.getElem?_drop]
  rw [← Nat.add_assoc]
  exact this
theorem take2_get (l : List UInt8) : l.take 2 = [58, 58] ↔ l[0]? = some 58 ∧ l[1]? = some 58 := by
  match l with
  | [] => simp
  | [c] => simp
  | c :: d :: r => simp
theorem nameB_none {l : List UInt8} (h : NoCol l (l.length - 1)) : nameB l = partB l := by
  unfold nameB partB
  have hle := partN_le smB l
  have : nameN l = partN smB l := by
    unfold nameN
    split
    · omega
    · rw [moreN, if_neg]
      · omega
      · rintro ⟨h1, h2⟩
        have hl := partN_le smB ((l.drop (partN smB l)).drop 2)
        simp at hl
        have := congrArg List.length h1
        simp at this
        refine h (partN smB l) (by omega) ?_
        rw [take2_get] at h1
        simp only [List.getElem?_drop] at h1
        simpa using h1
  rw [this]
theorem partN_get {l : List UInt8} {i : Nat} (h : l[i]? = some 58) : partN smB l ≤ i := by
  apply Nat.le_of_not_lt
  intro hlt
  have hi : i < l.length := (List.getElem?_eq_some_iff.1 h).1
  have he : l[i] = 58 := (List.getElem?_eq_some_iff.1 h).2
  cases l with
  | nil => simp at hi
  | cons c r =>
    simp only [partN] at hlt
    split at hlt
    · rename_i hc
      cases i with
      | zero => simp at he; rw [he] at hc; exact absurd hc (by decide)
      | succ i =>
        have := spanN_all tlB r i (by simpa using hi) (by omega)
        simp at he
        rw [he] at this
        exact absurd this (by decide)
    · omega
theorem nameB_first {l : List UInt8} {i : Nat} (h : NoCol l i) (h1 : l[i]? = some 58) (h2 : l[i + 1]? = some 58) : nameB l = (partB (l.take i) && nameB (l.drop (i + 2))) := by
  have hi : i + 1 < l.length := (List.getElem?_eq_some_iff.1 h2).1
  have hn := partN_get h1
  obtain ⟨n, hnn⟩ : ∃ n, partN smB l = n := ⟨_, rfl⟩
  rw [hnn] at hn
  have htk : partN smB (l.take i) = n := by
    have := partN_app smB (l.take i) (l.drop i) (by rw [List.take_append_drop, hnn]; simp; omega)
    rw [this, List.take_append_drop, hnn]
  have hlen : (l.take i).length = i := by rw [List.length_take]; omega
  rw [Bool.eq_iff_iff]
  simp only [nameB, partB, Bool.and_eq_true, decide_eq_true_eq, htk, hlen, List.length_drop]
  unfold nameN
  rw [hnn]
  by_cases h0 : n = 0
  · rw [if_pos h0]
    constructor <;> intro hh <;> omega
  · rw [if_neg h0]
    by_cases hni : n = i
    · subst hni
      have ht : (l.drop n).take 2 = [58, 58] := by rw [take2_get]; simp only [List.getElem?_drop]; exact ⟨by simpa using h1, h2⟩
      rw [moreN, List.drop_drop]
      by_cases hp : 0 < partN smB (l.drop (n + 2))
      · rw [if_pos ⟨ht, hp⟩, if_neg (by omega), List.drop_drop, List.drop_drop, show n + 2 + partN smB (l.drop (n + 2)) = n + (2 + partN smB (l.drop (n + 2))) by omega]
        have := partN_le smB (l.drop (n + 2))
        simp at this
        constructor <;> intro hh <;> omega
      · rw [if_neg (fun hh => hp hh.2), if_pos (by omega)]
        constructor <;> intro hh <;> omega
    · have : moreN (l.drop n) = 0 := by
        rw [moreN, if_neg]
        rintro ⟨hh, _⟩
        rw [take2_get] at hh
        simp only [List.getElem?_drop] at hh
        exact h n (by omega) (by simpa using hh)
      rw [this]
      constructor <;> intro hh <;> omega
def allDg (l : List UInt8) : Bool := l.all dgB
def sgnB (l : List UInt8) : Bool := decide (l ∈ sgn1 ++ sgn2)
/-- What a text is as a word. -/
def wordO (l : List UInt8) : Nat × List UInt8 :=
  if nameB l then (1, l) else if typeB l then (2, l)
  else if 1 < l.length ∧ l.headD 0 = 36 ∧ partB l.tail then (3, l.tail)
  else if 1 < l.length ∧ l.headD 0 = 39 ∧ l.getD (l.length - 1) 0 = 39 then (4, (l.drop 1).take (l.length - 1 - 1))
  else if 1 < l.length ∧ l.headD 0 = 34 ∧ l.getD (l.length - 1) 0 = 34 then (5, (l.drop 1).take (l.length - 1 - 1))
  else if sgnB l then (7, l) else if allDg l = false then (0, []) else if 0 < l.length then (6, l) else (0, [])
def reachO (l : List UInt8) : Nat :=
  let c := l.headD 0
  if c = 39 ∨ c = 34 then quoN l
  else if c = 36 ∧ partN smB l.tail = 0 then 0
  else if dgB c then spanN dgB l
  else if smB c then nameN l
  else if grB c then partN grB l
  else if c = 36 then varN l
  else min 2 l.length
theorem nameB_hd {l : List UInt8} (h : smB (l.headD 0) = false) : nameB l = false := by
  cases l with
  | nil => rfl
  | cons c r =>
    simp at h
    simp [nameB, nameN, partN, h]
theorem typeB_hd {l : List UInt8} (h : grB (l.headD 0) = false) : typeB l = false := by
  cases l with
  | nil => rfl
  | cons c r =>
    simp at h
    simp [typeB, partN, h]
theorem cls_sm (c : UInt8) : smB c = decide (clsN c.toNat = 3) := by
  unfold smB clsN
  rw [Bool.eq_iff_iff]
  simp only [decide_eq_true_eq]
  repeat' split
  all_goals omega
theorem cls_gr (c : UInt8) : grB c = decide (clsN c.toNat = 4) := by
  unfold grB clsN
  rw [Bool.eq_iff_iff]
  simp only [decide_eq_true_eq]
  repeat' split
  all_goals omega
theorem cls_dg (c : UInt8) : dgB c = decide (clsN c.toNat = 5) := by
  unfold dgB clsN
  rw [Bool.eq_iff_iff]
  simp only [decide_eq_true_eq]
  repeat' split
  all_goals omega
theorem cls_eq (c : UInt8) (n : Nat) (d : UInt8) (h : (n = 7 ∧ d = 36) ∨ (n = 8 ∧ d = 39) ∨ (n = 9 ∧ d = 34) ∨ (n = 2 ∧ d = 35) ∨ (n = 6 ∧ d = 95)) : (c = d) ↔ clsN c.toNat = n := by
  rw [← UInt8.toNat_inj]
  unfold clsN
  rcases h with ⟨rfl, rfl⟩ | ⟨rfl, rfl⟩ | ⟨rfl, rfl⟩ | ⟨rfl, rfl⟩ | ⟨rfl, rfl⟩
  all_goals
    simp only [show (36 : UInt8).toNat = 36 from rfl, show (39 : UInt8).toNat = 39 from rfl, show (34 : UInt8).toNat = 34 from rfl, show (35 : UInt8).toNat = 35 from rfl, show (95 : UInt8).toNat = 95 from rfl]
    repeat' split
    all_goals omega
/-- From n down, to the first beginning that is a word. -/
def dnO (l : List UInt8) : Nat → Nat
  | 0 => 0
  | n + 1 => if (wordO (l.take (n + 1))).1 = 0 then dnO l n else n + 1
theorem dnO_is {l : List UInt8} {n : Nat} (h : n = 0 ∨ (wordO (l.take n)).1 ≠ 0) : dnO l n = n := by
  cases n with
  | zero => rfl
  | succ n => unfold dnO; rw [if_neg (by omega)]
/-- The document's way of cutting comes to the same piece. -/
structure RefOk (l : List UInt8) : Prop where
  le : reachO l ≤ l.length
  bad : (pcO l).sz = 0 → dnO l (reachO l) = 0 ∨ ((wordO (l.take (dnO l (reachO l)))).1 = 6 ∧ 9 < dnO l (reachO l))
  good : (pcO l).sz ≠ 0 → dnO l (reachO l) = (pcO l).sz ∧ wordO (l.take (pcO l).sz) = ((pcO l).kd, txO l (pcO l)) ∧ ((pcO l).kd = 6 → (pcO l).sz ≤ 9)
theorem sgn_hd {l : List UInt8} (h : l ∈ sgn1 ++ sgn2) : clsN (l.headD 0).toNat = 0 ∧ 0 < l.length ∧ l.length ≤ 2 := by
  simp [sgn1, sgn2] at h
  rcases h with rfl | rfl | rfl | rfl | rfl | rfl | rfl | rfl | rfl | rfl | rfl | rfl | rfl | rfl | rfl <;> exact ⟨rfl, by decide, by decide⟩
theorem wordO_low {l : List UInt8} (h : clsN (l.headD 0).toNat = 0 ∨ clsN (l.headD 0).toNat = 6) : wordO l = if sgnB l then (7, l) else (0, []) := by
  have a1 : smB (l.headD 0) = false := by rw [cls_sm]; exact decide_eq_false (by omega)
  have a2 : grB (l.headD 0) = false := by rw [cls_gr]; exact decide_eq_false (by omega)
  have a3 : dgB (l.headD 0) = false := by rw [cls_dg]; exact decide_eq_false (by omega)
  have b1 : ¬ l.headD 0 = 36 := by rw [cls_eq _ 7 36 (by simp)]; omega
  have b2 : ¬ l.headD 0 = 39 := by rw [cls_eq _ 8 39 (by simp)]; omega
  have b3 : ¬ l.headD 0 = 34 := by rw [cls_eq _ 9 34 (by simp)]; omega
  unfold wordO
  rw [nameB_hd a1, typeB_hd a2, if_neg (by simp), if_neg (by simp), if_neg (fun h => b1 h.2.1), if_neg (fun h => b2 h.2.1), if_neg (fun h => b3 h.2.1)]
  split
  · rfl
  · cases l with
    | nil => rfl
    | cons c r =>
      simp at a3
      simp [allDg, a3]
theorem ref_ok (l : List UInt8) (hl : l ≠ []) (h1 : hdC l ≠ 1) (h2 : hdC l ≠ 2) : RefOk l := by
  have hlen : 0 < l.length := by have : l.length ≠ 0 := by simpa using hl
                                 omega
  have hcl : hdC l = clsN (l.headD 0).toNat := rfl
  have hle := pc_le l hl
  have hs : smB (l.headD 0) = decide (hdC l = 3) := cls_sm _
  have hg : grB (l.headD 0) = decide (hdC l = 4) := cls_gr _
  have hd : dgB (l.headD 0) = decide (hdC l = 5) := cls_dg _
  have e36 : l.headD 0 = 36 ↔ hdC l = 7 := cls_eq _ 7 36 (by simp)
  have e39 : l.headD 0 = 39 ↔ hdC l = 8 := cls_eq _ 8 39 (by simp)
  have e34 : l.headD 0 = 34 ↔ hdC l = 9 := cls_eq _ 9 34 (by simp)
  have hdt : ∀ n, 0 < n → (l.take n).headD 0 = l.headD 0 := by
    intro n hn
    cases l with
    | nil => exact absurd rfl hl
    | cons c r =>
      obtain ⟨m, rfl⟩ : ∃ m, n = m + 1 := ⟨n - 1, by omega⟩
      rfl
  -- it is enough to know the whole beginning
  have key : ∀ (k : Nat) (t : List UInt8), reachO l = (pcO l).sz → 0 < (pcO l).sz → wordO (l.take (pcO l).sz) = (k, t) → k = (pcO l).kd → t = txO l (pcO l) → k ≠ 0 → ((pcO l).kd = 6 → (pcO l).sz ≤ 9) → RefOk l := by
    intro k t hr h0 hw hk ht hk0 h6
    subst hk ht
    have hdn : dnO l (reachO l) = (pcO l).sz := by rw [hr]; exact dnO_is (.inr (by rw [hw]; exact hk0))
    exact ⟨by rw [hr]; exact hle, fun h => absurd h (by omega), fun _ => ⟨hdn, hw, h6⟩⟩
  have zero : reachO l = 0 → (pcO l).sz = 0 → RefOk l := by
    intro hr h0
    exact ⟨by omega, fun _ => .inl (by rw [hr]; rfl), fun h => absurd h0 h⟩
  by_cases c3 : hdC l = 3
  · have hp : pcO l = ⟨1, nameN l, 0, 0⟩ := by unfold pcO; rw [c3]; rfl
    have hr : reachO l = nameN l := by
      unfold reachO
      simp only [e39, e34, e36, hd, hs, c3]
      simp
    have hn0 : 0 < nameN l := by
      have : smB (l.headD 0) = true := by rw [hs]; simpa using c3
      cases l with
      | nil => exact absurd rfl hl
      | cons c r =>
        simp at this
        have hpp : partN smB (c :: r) = 1 + spanN tlB r := by simp [partN, this]
        unfold nameN
        rw [if_neg (by omega)]
        omega
    have hself := pc_self l hl (by rw [hp]; exact hn0) (by rw [hp]; simp)
    rw [hp] at hself
    simp only at hself
    have hpt : pcO (l.take (nameN l)) = ⟨1, nameN (l.take (nameN l)), 0, 0⟩ := by
      unfold pcO
      have : hdC (l.take (nameN l)) = 3 := by unfold hdC; rw [hdt _ hn0]; exact c3
      rw [this]; rfl
    rw [hpt] at hself
    have hnn : nameN (l.take (nameN l)) = nameN l := congrArg Pc.sz hself.2.2
    refine key 1 (l.take (nameN l)) (by rw [hr, hp]) (by rw [hp]; exact hn0) ?_ (by rw [hp]) (by rw [hp]; simp [txO]) (by omega) (by rw [hp]; intro h; simp at h)
    rw [hp]
    unfold wordO
    rw [if_pos]
    simp only [nameB, decide_eq_true_eq]
    rw [hself.2.1, hnn]
    exact ⟨hn0, rfl⟩
  by_cases c4 : hdC l = 4
  · have hp : pcO l = ⟨2, partN grB l, 0, 0⟩ := by unfold pcO; rw [c4]; rfl
    have hr : reachO l = partN grB l := by
      unfold reachO
      simp only [e39, e34, e36, hd, hs, hg, c4]
      simp
    have hn0 : 0 < partN grB l := by
      have : grB (l.headD 0) = true := by rw [hg]; simpa using c4
      cases l with
      | nil => exact absurd rfl hl
      | cons c r =>
        simp at this
        simp [partN, this]
        omega
    have hself := pc_self l hl (by rw [hp]; exact hn0) (by rw [hp]; simp)
    rw [hp] at hself
    simp only at hself
    have hct : hdC (l.take (partN grB l)) = 4 := by unfold hdC; rw [hdt _ hn0]; exact c4
    have hpt : pcO (l.take (partN grB l)) = ⟨2, partN grB (l.take (partN grB l)), 0, 0⟩ := by unfold pcO; rw [hct]; rfl
    rw [hpt] at hself
    have hnn : partN grB (l.take (partN grB l)) = partN grB l := congrArg Pc.sz hself.2.2
    refine key 2 (l.take (partN grB l)) (by rw [hr, hp]) (by rw [hp]; exact hn0) ?_ (by rw [hp]) (by rw [hp]; simp [txO]) (by omega) (by rw [hp]; intro h; simp at h)
    rw [hp]
    unfold wordO
    rw [if_neg, if_pos]
    · simp only [typeB, decide_eq_true_eq]
      rw [hself.2.1, hnn]
      exact ⟨hn0, rfl⟩
    · rw [nameB_hd]
      · simp
      · rw [hdt _ hn0, hs]; simp [c4]
  by_cases c5 : hdC l = 5
  · have hp : pcO l = ⟨6, numN l, 0, 0⟩ := by unfold pcO; rw [c5]; rfl
    have hr : reachO l = spanN dgB l := by
      unfold reachO
      simp only [e39, e34, e36, hd, hs, hg, c5]
      simp
    have hn0 : 0 < spanN dgB l := by
      have : dgB (l.headD 0) = true := by rw [hd]; simpa using c5
      cases l with
      | nil => exact absurd rfl hl
      | cons c r =>
        simp at this
        simp [spanN, this]
    have hsl := spanN_le dgB l
    have hw : wordO (l.take (spanN dgB l)) = (6, l.take (spanN dgB l)) := by
      have hh := hdt _ hn0
      have hln : (l.take (spanN dgB l)).length = spanN dgB l := by rw [List.length_take]; omega
      have b1 : ¬ l.headD 0 = 36 := by rw [e36]; omega
      have b2 : ¬ l.headD 0 = 39 := by rw [e39]; omega
      have b3 : ¬ l.headD 0 = 34 := by rw [e34]; omega
      have hall : allDg (l.take (spanN dgB l)) = true := by
        unfold allDg
        rw [List.all_eq_true]
        intro x hx
        obtain ⟨k, hk, rfl⟩ := List.getElem_of_mem hx
        simp at hk
        simp only [List.getElem_take]
        exact spanN_all dgB l k (by omega) (by omega)
      have hsg : sgnB (l.take (spanN dgB l)) = false := by
        unfold sgnB
        rw [decide_eq_false_iff_not]
        intro hm
        have := (sgn_hd hm).1
        rw [hh, ← hcl] at this
        omega
      unfold wordO
      rw [nameB_hd (by rw [hh, hs]; simp [c5]), typeB_hd (by rw [hh, hg]; simp [c5]), if_neg (by simp), if_neg (by simp), hh, if_neg (fun h => b1 h.2.1), if_neg (fun h => b2 h.2.1), if_neg (fun h => b3 h.2.1), hsg, if_neg (by simp), hall, if_neg (by simp), hln, if_pos hn0]
    by_cases h9 : spanN dgB l ≤ 9
    · have hnu : numN l = spanN dgB l := by unfold numN; rw [if_pos h9]
      refine key 6 (l.take (spanN dgB l)) (by rw [hr, hp, hnu]) (by rw [hp, hnu]; exact hn0) ?_ (by rw [hp]) (by rw [hp, hnu]; simp [txO]) (by omega) (by rw [hp, hnu]; intro _; exact h9)
      rw [hp, hnu]
      exact hw
    · have hnu : numN l = 0 := by unfold numN; rw [if_neg h9]
      have hdn : dnO l (reachO l) = spanN dgB l := by rw [hr]; exact dnO_is (.inr (by rw [hw]; simp))
      exact ⟨by rw [hr]; exact hsl, fun _ => .inr (by rw [hdn, hw]; exact ⟨rfl, by omega⟩), fun h => absurd (by rw [hp]; exact hnu) h⟩
  by_cases c7 : hdC l = 7
  · have hp : pcO l = ⟨3, varN l, 1, 0⟩ := by unfold pcO; rw [c7]; rfl
    by_cases hz : partN smB l.tail = 0
    · refine zero ?_ ?_
      · unfold reachO
        simp only [e39, e34, e36, hz, c7]
        simp
      · rw [hp]; simp [varN, hz]
    · have hr : reachO l = varN l := by
        unfold reachO
        simp only [e39, e34, e36, hd, hs, hg, hz, c7]
        simp
      have hv : varN l = 1 + partN smB l.tail := by simp [varN, hz]
      have hple := partN_le smB l.tail
      refine key 3 (l.tail.take (partN smB l.tail)) (by rw [hr, hp]) (by rw [hp]; simp only; omega) ?_ (by rw [hp]) ?_ (by omega) (by rw [hp]; intro h; simp at h)
      · rw [hp]
        simp only
        have hh := hdt (varN l) (by omega)
        unfold wordO
        rw [nameB_hd (by rw [hh, hs]; simp [c7]), typeB_hd (by rw [hh, hg]; simp [c7]), if_neg (by simp), if_neg (by simp), hh, hv]
        have ht : (l.take (1 + partN smB l.tail)).tail = l.tail.take (partN smB l.tail) := by
          cases l with
          | nil => exact absurd rfl hl
          | cons c r => rw [Nat.add_comm]; rfl
        have hln : (l.take (1 + partN smB l.tail)).length = 1 + partN smB l.tail := by
          rw [List.length_take]
          have : l.tail.length = l.length - 1 := by simp
          omega
        have hpb : partB (l.tail.take (partN smB l.tail)) = true := by
          unfold partB
          rw [decide_eq_true_eq, List.length_take, Nat.min_eq_left hple]
          refine ⟨by omega, ?_⟩
          have := partN_app smB (l.tail.take (partN smB l.tail)) (l.tail.drop (partN smB l.tail)) (by rw [List.take_append_drop, List.length_take]; omega)
          rwa [List.take_append_drop] at this
        rw [if_pos ⟨by rw [hln]; omega, e36.2 c7, by rw [ht]; exact hpb⟩, ht]
      · rw [hp]
        cases l with
        | nil => exact absurd rfl hl
        | cons c r => simp [txO, hv]
  have quo : ∀ (k : Nat) (d : UInt8), l.headD 0 = d → hdC l ≠ 3 → hdC l ≠ 4 → hdC l ≠ 7 → (k = 4 ∧ d = 39 ∨ k = 5 ∧ d = 34) → pcO l = ⟨k, quoN l, 1, 1⟩ → RefOk l := by
    intro k d hdd n3 n4 n7 hkd hp
    have hr : reachO l = quoN l := by
      unfold reachO
      rcases hkd with ⟨_, rfl⟩ | ⟨_, rfl⟩ <;> simp only [hdd] <;> simp
    by_cases h0 : quoN l = 0
    · exact zero (by rw [hr, h0]) (by rw [hp]; exact h0)
    · obtain ⟨q1, q2, q3⟩ := quo_end l (by omega)
      have hql := quoN_le l
      have hh := hdt (quoN l) (by omega)
      have hln : (l.take (quoN l)).length = quoN l := by rw [List.length_take]; omega
      have hlast : (l.take (quoN l)).getD (quoN l - 1) 0 = d := by
        rw [List.getD_eq_getElem?_getD, List.getElem?_take_of_lt (by omega), List.getElem?_eq_getElem q1, q3, hdd]
        rfl
      have htx : (List.drop 1 (l.take (quoN l))).take (quoN l - 1 - 1) = txO l (pcO l) := by
        rw [← txO_take, hp]
        rfl
      refine key k (txO l (pcO l)) (by rw [hr, hp]) (by rw [hp]; simp only; omega) ?_ (by rw [hp]) rfl (by omega) (by rw [hp]; intro h; simp only at h; omega)
      rw [hp]
      simp only
      unfold wordO
      have m7 : ¬ d = 36 := by rw [← hdd, e36]; exact n7
      rw [nameB_hd (by rw [hh, hs]; simp [n3]), typeB_hd (by rw [hh, hg]; simp [n4]), if_neg (by simp), if_neg (by simp), hh, hln, hlast, hdd, if_neg (fun h => m7 h.2.1), htx, hp]
      rcases hkd with ⟨rfl, rfl⟩ | ⟨rfl, rfl⟩
      · rw [if_pos ⟨by omega, rfl, rfl⟩]
      · rw [if_neg (fun h => absurd h.2.1 (by decide)), if_pos ⟨by omega, rfl, rfl⟩]
  by_cases c8 : hdC l = 8
  · exact quo 4 39 (e39.2 c8) c3 c4 c7 (.inl ⟨rfl, rfl⟩) (by unfold pcO; rw [c8]; rfl)
  by_cases c9 : hdC l = 9
  · exact quo 5 34 (e34.2 c9) c3 c4 c7 (.inr ⟨rfl, rfl⟩) (by unfold pcO; rw [c9]; rfl)
  · have hp : pcO l = ⟨7, signN l, 0, 0⟩ := by
      unfold pcO cutO
      simp only [h1, h2, c3, c4, c5, c7, c8, c9, if_false]
    have hr : reachO l = min 2 l.length := by
      unfold reachO
      simp only [e39, e34, e36, hd, hs, hg, c3, c4, c5, c7, c8, c9]
      simp
    have hcl06 : hdC l = 0 ∨ hdC l = 6 := by
      have : hdC l ≤ 9 := by rw [hcl]; unfold clsN; repeat' split
                             all_goals omega
      omega
    have hw : ∀ n, 0 < n → wordO (l.take n) = if sgnB (l.take n) then (7, l.take n) else (0, []) := fun n hn => wordO_low (by rw [hdt n hn, ← hcl]; exact hcl06)
    have s1 : ∀ t : List UInt8, t.length = 1 → sgnB t = decide (t ∈ sgn1) := by
      intro t ht
      unfold sgnB
      rw [Bool.eq_iff_iff]
      simp only [decide_eq_true_eq, List.mem_append]
      constructor
      · rintro (h | h)
        · exact h
        · simp [sgn2] at h
          rcases h with rfl | rfl | rfl | rfl | rfl <;> simp at ht
      · exact .inl
    have s2 : ∀ t : List UInt8, t.length = 2 → sgnB t = decide (t ∈ sgn2) := by
      intro t ht
      unfold sgnB
      rw [Bool.eq_iff_iff]
      simp only [decide_eq_true_eq, List.mem_append]
      constructor
      · rintro (h | h)
        · simp [sgn1] at h
          rcases h with rfl | rfl | rfl | rfl | rfl | rfl | rfl | rfl | rfl | rfl <;> simp at ht
        · exact h
      · exact .inr
    have w1 : wordO (l.take 1) = if l.take 1 ∈ sgn1 then (7, l.take 1) else (0, []) := by
      rw [hw 1 (by omega), s1 _ (by rw [List.length_take]; omega)]
      simp only [decide_eq_true_eq]
    by_cases h22 : l.take 2 ∈ sgn2
    · have hl2 : 2 ≤ l.length := by
        have := (sgn_hd (l := l.take 2) (by simp [h22])).2
        have h3 : (l.take 2).length = 2 := by
          generalize l.take 2 = t at h22
          simp [sgn2] at h22
          rcases h22 with rfl | rfl | rfl | rfl | rfl <;> rfl
        rw [List.length_take] at h3
        omega
      have hsn : signN l = 2 := by unfold signN; rw [if_pos h22]
      refine key 7 (l.take 2) (by rw [hr, hp, hsn]; simp only; omega) (by rw [hp, hsn]; decide) ?_ (by rw [hp]) (by rw [hp, hsn]; simp [txO]) (by omega) (by rw [hp]; intro h; simp at h)
      rw [hp, hsn]
      simp only
      rw [hw 2 (by omega), s2 _ (by rw [List.length_take]; omega), if_pos (by simpa using h22)]
    · have hd1 : dnO l (min 2 l.length) = dnO l 1 := by
        by_cases hl1 : l.length = 1
        · rw [hl1]; rfl
        · rw [show min 2 l.length = 1 + 1 by omega]
          conv => lhs; unfold dnO
          rw [if_pos]
          rw [hw 2 (by omega), s2 _ (by rw [List.length_take]; omega), if_neg (by simpa using h22)]
      by_cases h11 : l.take 1 ∈ sgn1
      · have hsn : signN l = 1 := by unfold signN; rw [if_neg h22, if_pos h11]
        have hw1 : wordO (l.take 1) = (7, l.take 1) := by rw [w1, if_pos h11]
        have hdd : dnO l 1 = 1 := dnO_is (.inr (by rw [hw1]; simp))
        refine ⟨by rw [hr]; omega, fun h => absurd h (by rw [hp, hsn]; simp), fun _ => ⟨by rw [hr, hd1, hdd, hp, hsn], ?_, by rw [hp]; intro h; simp at h⟩⟩
        rw [hp, hsn]
        simp only
        rw [hw1]
        simp [txO]
      · have hsn : signN l = 0 := by unfold signN; rw [if_neg h22, if_neg h11]
        have hdd : dnO l 1 = 0 := by
          unfold dnO
          rw [if_pos (by rw [show 0 + 1 = 1 from rfl, w1, if_neg h11])]
          rfl
        exact ⟨by rw [hr]; omega, fun _ => .inl (by rw [hr, hd1, hdd]), fun h => absurd (by rw [hp]; exact hsn) h⟩
end Go.Proofs.YtfpdgdacifiejaaGreat

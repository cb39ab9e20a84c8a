/-
  Layer 12: parsing, by plain lists of words: the grammar as functions of words and nodes; what they hang on; a statement ahead; whole trees. No program text.
  Conditions: those that each theorem states.
-/
import Derived.Test.YtfpdgdacifiejaaGreatTKit
namespace Go.Proofs.YtfpdgdacifiejaaGreat

/-- A word as a parser sees it. -/
structure Tok where
  kd : Int
  tx : List UInt8
structure Nod where
  kd : Nat
  tx : List UInt8
  ks : List Nat
/-- What is left of the words, and the nodes so far. -/
structure PSt where
  r : List Tok
  ns : List Nod
inductive POut (α : Type) where
  | ok (s : PSt) (a : α)
  | err (r : List Tok)
def Prs (α : Type) := PSt → POut α
def prt {α : Type} (a : α) : Prs α := fun s => .ok s a
def pfail {α : Type} : Prs α := fun s => .err s.r
def pbind {α β : Type} (f : Prs α) (g : α → Prs β) : Prs β := fun s => match f s with
  | .ok s' a => g a s'
  | .err r => .err r
/-- The next word must be such. -/
def must (p : Tok → Bool) : Prs (List UInt8) := fun s => match s.r with
  | t :: r => if p t then .ok ⟨r, s.ns⟩ t.tx else .err s.r
  | [] => .err s.r
/-- If the next word is such it is taken, and the one way is gone; else the other. -/
def ifT {α : Type} (p : Tok → Bool) (f : List UInt8 → Prs α) (g : Prs α) : Prs α := fun s => match s.r with
  | t :: r => if p t then f t.tx ⟨r, s.ns⟩ else g s
  | [] => g s
def pnode (k : Nat) (tx : List UInt8) (l : List Nat) : Prs Nat := fun s => .ok ⟨s.r, s.ns ++ [⟨k, tx, l⟩]⟩ s.ns.length

/-- What a parser does hangs on what it takes and the next word; and where it stops at the next word it stops at the end, too. -/
structure Lc {α : Type} (f : Prs α) : Prop where
  ok : ∀ s s' a, f s = .ok s' a → ∃ c, s.r = c ++ s'.r ∧ (∀ y, y.head? = s'.r.head? → f ⟨c ++ y, s.ns⟩ = .ok ⟨y, s'.ns⟩ a) ∧ f ⟨c, s.ns⟩ = .ok ⟨[], s'.ns⟩ a
  err : ∀ s r, f s = .err r → ∃ c, s.r = c ++ r ∧ (∀ y, y.head? = r.head? → f ⟨c ++ y, s.ns⟩ = .err y) ∧ f ⟨c, s.ns⟩ = .err []
theorem Lc.prt {α : Type} (a : α) : Lc (prt a) := by
  refine ⟨fun s s' b h => ?_, fun s r h => ?_⟩
  · unfold Go.Proofs.YtfpdgdacifiejaaGreat.prt at h
    injection h with h1 h2
    subst h1 h2
    exact ⟨[], rfl, fun y _ => rfl, rfl⟩
  · cases h
theorem Lc.fail {α : Type} : Lc (pfail (α := α)) := by
  refine ⟨fun s s' b h => ?_, fun s r h => ?_⟩
  · cases h
  · unfold pfail at h
    injection h with h1
    subst h1
    exact ⟨[], rfl, fun y _ => rfl, rfl⟩
theorem Lc.node (k : Nat) (tx : List UInt8) (l : List Nat) : Lc (pnode k tx l) := by
  refine ⟨fun s s' b h => ?_, fun s r h => ?_⟩
  · unfold pnode at h
    injection h with h1 h2
    subst h1 h2
    exact ⟨[], rfl, fun y _ => rfl, rfl⟩
  · cases h
theorem head_app {α : Type} {c y r : List α} (h : y.head? = r.head?) : (c ++ y).head? = (c ++ r).head? := by
  cases c with
  | nil => exact h
  | cons a c => rfl
theorem Lc.bind {α β : Type} {f : Prs α} {g : α → Prs β} (hf : Lc f) (hg : ∀ a, Lc (g a)) : Lc (pbind f g) := by
  have key : ∀ s s1 a c1 c2, f s = .ok s1 a → s.r = c1 ++ s1.r → (∀ y, y.head? = s1.r.head? → f ⟨c1 ++ y, s.ns⟩ = .ok ⟨y, s1.ns⟩ a) → f ⟨c1, s.ns⟩ = .ok ⟨[], s1.ns⟩ a → (∃ r, s1.r = c2 ++ r) → f ⟨c1 ++ c2, s.ns⟩ = .ok ⟨c2, s1.ns⟩ a := by
    intro s s1 a c1 c2 _ _ h1 h2 ⟨r, hr⟩
    cases c2 with
    | nil => rw [List.append_nil]; exact h2
    | cons t c2 => exact h1 _ (by rw [hr]; rfl)
  refine ⟨fun s s2 b h => ?_, fun s r h => ?_⟩
  · unfold pbind at h
    cases hfs : f s with
    | err r => rw [hfs] at h; cases h
    | ok s1 a =>
      rw [hfs] at h
      simp only at h
      obtain ⟨c1, e1, h1, h1'⟩ := hf.ok s s1 a hfs
      obtain ⟨c2, e2, h2, h2'⟩ := (hg a).ok s1 s2 b h
      refine ⟨c1 ++ c2, by rw [e1, e2, List.append_assoc], fun y hy => ?_, ?_⟩
      · unfold pbind
        rw [List.append_assoc, h1 (c2 ++ y) (by rw [e2]; exact head_app hy)]
        exact h2 y hy
      · unfold pbind
        rw [key s s1 a c1 c2 hfs e1 h1 h1' ⟨_, e2⟩]
        exact h2'
  · unfold pbind at h
    cases hfs : f s with
    | err r1 =>
      rw [hfs] at h
      simp only at h
      injection h with h
      subst h
      obtain ⟨c1, e1, h1, h1'⟩ := hf.err s _ hfs
      refine ⟨c1, e1, fun y hy => ?_, ?_⟩
      · unfold pbind; rw [h1 y hy]
      · unfold pbind; rw [h1']
    | ok s1 a =>
      rw [hfs] at h
      simp only at h
      obtain ⟨c1, e1, h1, h1'⟩ := hf.ok s s1 a hfs
      obtain ⟨c2, e2, h2, h2'⟩ := (hg a).err s1 r h
      refine ⟨c1 ++ c2, by rw [e1, e2, List.append_assoc], fun y hy => ?_, ?_⟩
      · unfold pbind
        rw [List.append_assoc, h1 (c2 ++ y) (by rw [e2]; exact head_app hy)]
        exact h2 y hy
      · unfold pbind
        rw [key s s1 a c1 c2 hfs e1 h1 h1' ⟨_, e2⟩]
        exact h2'
theorem Lc.must (p : Tok → Bool) : Lc (must p) := by
  refine ⟨fun s s' a h => ?_, fun s r h => ?_⟩
  · obtain ⟨r, ns⟩ := s
    cases r with
    | nil => cases h
    | cons t r =>
      unfold Go.Proofs.YtfpdgdacifiejaaGreat.must at h
      simp only at h
      split at h
      · rename_i hp
        injection h with h1 h2
        subst h1 h2
        exact ⟨[t], rfl, fun y _ => by simp [Go.Proofs.YtfpdgdacifiejaaGreat.must, hp], by simp [Go.Proofs.YtfpdgdacifiejaaGreat.must, hp]⟩
      · cases h
  · obtain ⟨r', ns⟩ := s
    cases r' with
    | nil =>
      injection h with h
      subst h
      refine ⟨[], rfl, fun y hy => ?_, rfl⟩
      cases y with
      | nil => rfl
      | cons a y => cases hy
    | cons t r' =>
      unfold Go.Proofs.YtfpdgdacifiejaaGreat.must at h
      simp only at h
      split at h
      · cases h
      · rename_i hp
        injection h with h
        subst h
        refine ⟨[], rfl, fun y hy => ?_, rfl⟩
        cases y with
        | nil => cases hy
        | cons a y =>
          simp at hy
          subst hy
          simp [Go.Proofs.YtfpdgdacifiejaaGreat.must, hp]
theorem Lc.ifT {α : Type} {p : Tok → Bool} {f : List UInt8 → Prs α} {g : Prs α} (hf : ∀ t, Lc (f t)) (hg : Lc g) : Lc (ifT p f g) := by
  have skip : ∀ (r : List Tok) (ns : List Nod), (∀ t, r.head? = some t → p t = false) → Go.Proofs.YtfpdgdacifiejaaGreat.ifT p f g ⟨r, ns⟩ = g ⟨r, ns⟩ := by
    intro r ns h
    cases r with
    | nil => rfl
    | cons t r =>
      unfold Go.Proofs.YtfpdgdacifiejaaGreat.ifT
      simp only
      rw [if_neg (by rw [h t rfl]; simp)]
  have take : ∀ (t : Tok) (r : List Tok) (ns : List Nod), p t = true → Go.Proofs.YtfpdgdacifiejaaGreat.ifT p f g ⟨t :: r, ns⟩ = f t.tx ⟨r, ns⟩ := by
    intro t r ns h
    unfold Go.Proofs.YtfpdgdacifiejaaGreat.ifT
    simp only
    rw [if_pos h]
  have way : ∀ s : PSt, (∃ t r, s.r = t :: r ∧ p t = true) ∨ (∀ t, s.r.head? = some t → p t = false) := by
    intro s
    cases hr : s.r with
    | nil => right; intro t ht; cases ht
    | cons t r =>
      cases hp : p t
      · right; intro u hu; simp at hu; subst hu; exact hp
      · left; exact ⟨t, r, rfl, hp⟩
  have cutH : ∀ (c r : List Tok), (∀ t, (c ++ r).head? = some t → p t = false) → ∀ t, c.head? = some t → p t = false := by
    intro c r h t ht
    refine h t ?_
    cases c with
    | nil => cases ht
    | cons a c => exact ht
  have sameH : ∀ (c y r : List Tok), y.head? = r.head? → (∀ t, (c ++ r).head? = some t → p t = false) → ∀ t, (c ++ y).head? = some t → p t = false := by
    intro c y r hy h t ht
    exact h t (by rw [← head_app hy]; exact ht)
  refine ⟨fun s s' a h => ?_, fun s r h => ?_⟩
  · rcases way s with ⟨t, r, hr, hp⟩ | hn
    · obtain ⟨sr, ns⟩ := s
      simp only at hr
      subst hr
      rw [take t r ns hp] at h
      obtain ⟨c, e, h1, h2⟩ := (hf t.tx).ok _ _ _ h
      simp only at e
      refine ⟨t :: c, by rw [e]; rfl, fun y hy => ?_, ?_⟩
      · rw [List.cons_append, take t _ ns hp]; exact h1 y hy
      · rw [take t _ ns hp]; exact h2
    · obtain ⟨sr, ns⟩ := s
      rw [skip sr ns hn] at h
      obtain ⟨c, e, h1, h2⟩ := hg.ok _ _ _ h
      simp only at e hn
      rw [e] at hn
      refine ⟨c, e, fun y hy => ?_, ?_⟩
      · rw [skip _ ns (sameH c y _ hy hn)]; exact h1 y hy
      · rw [skip _ ns (cutH c _ hn)]; exact h2
  · rcases way s with ⟨t, r', hr, hp⟩ | hn
    · obtain ⟨sr, ns⟩ := s
      simp only at hr
      subst hr
      rw [take t r' ns hp] at h
      obtain ⟨c, e, h1, h2⟩ := (hf t.tx).err _ _ h
      simp only at e
      refine ⟨t :: c, by rw [e]; rfl, fun y hy => ?_, ?_⟩
      · rw [List.cons_append, take t _ ns hp]; exact h1 y hy
      · rw [take t _ ns hp]; exact h2
    · obtain ⟨sr, ns⟩ := s
      rw [skip sr ns hn] at h
      obtain ⟨c, e, h1, h2⟩ := hg.err _ _ h
      simp only at e hn
      rw [e] at hn
      refine ⟨c, e, fun y hy => ?_, ?_⟩
      · rw [skip _ ns (sameH c y _ hy hn)]; exact h1 y hy
      · rw [skip _ ns (cutH c _ hn)]; exact h2

/- The grammar. -/
def keys12 : List (List UInt8) := [[99, 108, 97, 115, 115], [100, 101, 102, 105, 110, 101], [105, 110, 99, 108, 117, 100, 101], [105, 102], [101, 108, 115, 101], [116, 114, 117, 101], [102, 97, 108, 115, 101], [97, 110, 100], [111, 114]]
def isKd (k : Int) (t : Tok) : Bool := decide (t.kd = k)
def isSg (s : List UInt8) (t : Tok) : Bool := decide (t.kd = 7) && decide (t.tx = s)
def isKy (s : List UInt8) (t : Tok) : Bool := decide (t.kd = 1) && decide (t.tx = s)
def isNm (t : Tok) : Bool := decide (t.kd = 1) && !decide (t.tx ∈ keys12)
def isPl (t : Tok) : Bool := decide (t.kd = 1) && !decide ((58 : UInt8) ∈ t.tx)
def isEq (t : Tok) : Bool := isSg [61, 61] t || isSg [33, 61] t
def isAw (t : Tok) : Bool := isSg [45, 62] t || isSg [126, 62] t
def opLoop (sub : Prs Nat) (p : Tok → Bool) : Nat → Nat → Prs Nat
  | 0, _ => pfail
  | k + 1, x => ifT p (fun t => pbind sub fun y => pbind (pnode 19 t [x, y]) fun z => opLoop sub p k z) (prt x)
def equalOf (n : Nat) (pl : Prs Nat) : Prs Nat := pbind pl fun x => opLoop pl isEq n x
def bothOf (n : Nat) (pl : Prs Nat) : Prs Nat := pbind (equalOf n pl) fun x => opLoop (equalOf n pl) (isKy [97, 110, 100]) n x
def valueOf (n : Nat) (pl : Prs Nat) : Prs Nat := pbind (bothOf n pl) fun x => opLoop (bothOf n pl) (isKy [111, 114]) n x
def plainF : Nat → Prs Nat
  | 0 => pfail
  | n + 1 => ifT (isSg [33]) (fun _ => pbind (plainF n) fun x => pnode 20 [] [x]) <|
    ifT (isSg [40]) (fun _ => pbind (valueOf n (plainF n)) fun x => pbind (must (isSg [41])) fun _ => prt x) <|
    ifT (isKd 4) (fun t => pnode 13 t []) <| ifT (isKd 5) (fun t => pnode 14 t []) <| ifT (isKd 6) (fun t => pnode 15 t []) <| ifT (isKd 3) (fun t => pnode 16 t []) <|
    ifT (isKy [116, 114, 117, 101]) (fun _ => pnode 17 [] []) <| ifT (isKy [102, 97, 108, 115, 101]) (fun _ => pnode 18 [] []) pfail
def value (n : Nat) : Prs Nat := valueOf n (plainF n)
def stmts (st : Prs Nat) : Nat → List Nat → Prs (List Nat)
  | 0, _ => pfail
  | k + 1, l => ifT (isSg [125]) (fun _ => prt l) (pbind st fun x => stmts st k (l ++ [x]))
def blockOf (n : Nat) (st : Prs Nat) : Prs Nat := pbind (must (isSg [123])) fun _ => pbind (stmts st n []) fun l => pnode 1 [] l
def parLoop (n : Nat) : Nat → List Nat → Prs (List Nat)
  | 0, _ => pfail
  | k + 1, l => pbind (must (isKd 3)) fun t => pbind (ifT (isSg [61]) (fun _ => pbind (value n) fun v => prt [v]) (prt [])) fun v => pbind (pnode 4 t v) fun x =>
    ifT (isSg [44]) (fun _ => parLoop n k (l ++ [x])) (pbind (must (isSg [41])) fun _ => prt (l ++ [x]))
def params (n : Nat) : Prs (List Nat) := ifT (isSg [40]) (fun _ => ifT (isSg [41]) (fun _ => prt []) (parLoop n n [])) (prt [])
def classy (n : Nat) (st : Prs Nat) (k : Nat) : Prs Nat := pbind (must isNm) fun t => pbind (params n) fun l => pbind (blockOf n st) fun b => pnode k t (l ++ [b])
def refOf (n : Nat) (t : List UInt8) : Prs Nat := pbind (must (isSg [91])) fun _ => pbind (value n) fun x => pbind (must (isSg [93])) fun _ => pnode 11 t [x]
def attLoop (n : Nat) (t : List UInt8) : Nat → List Nat → Prs Nat
  | 0, _ => pfail
  | k + 1, l => pbind (must isPl) fun a => pbind (must (isSg [61, 62])) fun _ => pbind (value n) fun v => pbind (pnode 9 a [v]) fun x =>
    ifT (isSg [44]) (fun _ => attLoop n t k (l ++ [x])) (pbind (must (isSg [125])) fun _ => pnode 8 t (l ++ [x]))
def resOf (n : Nat) (t : List UInt8) : Prs Nat := pbind (must (isSg [123])) fun _ => pbind (value n) fun v => pbind (must (isSg [58])) fun _ => ifT (isSg [125]) (fun _ => pnode 8 t [v]) (attLoop n t n [v])
def chLoop (n : Nat) : Nat → List Nat → List UInt8 → Prs Nat
  | 0, _, _ => pfail
  | k + 1, l, s => pbind (pnode 12 s []) fun x => pbind (must (isKd 2)) fun t => pbind (refOf n t) fun r => ifT isAw (fun s2 => chLoop n k (l ++ [x, r]) s2) (pnode 10 [] (l ++ [x, r]))
def chain (n : Nat) (t : List UInt8) : Prs Nat := pbind (refOf n t) fun r => pbind (must isAw) fun s => chLoop n n [r] s
def ifOf (n : Nat) (st : Prs Nat) : Prs Nat := pbind (value n) fun v => pbind (blockOf n st) fun b => ifT (isKy [101, 108, 115, 101]) (fun _ => pbind (blockOf n st) fun c => pnode 7 [] [v, b, c]) (pnode 7 [] [v, b])
def stmtF : Nat → Prs Nat
  | 0 => pfail
  | n + 1 => ifT (isKy [99, 108, 97, 115, 115]) (fun _ => classy n (stmtF n) 2) <| ifT (isKy [100, 101, 102, 105, 110, 101]) (fun _ => classy n (stmtF n) 3) <|
    ifT (isKy [105, 110, 99, 108, 117, 100, 101]) (fun _ => pbind (must isNm) fun t => pnode 5 t []) <|
    ifT (isKd 3) (fun t => pbind (must (isSg [61])) fun _ => pbind (value n) fun v => pnode 6 t [v]) <|
    ifT (isKy [105, 102]) (fun _ => ifOf n (stmtF n)) <| ifT isNm (fun t => resOf n t) <| ifT (isKd 2) (fun t => chain n t) pfail
def topF (st : Prs Nat) : Nat → List Nat → Prs Nat
  | 0, _ => pfail
  | k + 1, l => fun s => if s.r.isEmpty then pnode 1 [] l s else pbind st (fun x => topF st k (l ++ [x])) s

theorem Lc.opLoop {sub : Prs Nat} (h : Lc sub) (p : Tok → Bool) : ∀ k x, Lc (opLoop sub p k x)
  | 0, _ => Lc.fail
  | k + 1, _ => Lc.ifT (fun _ => h.bind fun _ => (Lc.node _ _ _).bind fun z => Lc.opLoop h p k z) (Lc.prt _)
theorem Lc.valueOf (n : Nat) {pl : Prs Nat} (h : Lc pl) : Lc (valueOf n pl) := by
  have h1 : Lc (equalOf n pl) := h.bind fun x => Lc.opLoop h _ n x
  have h2 : Lc (bothOf n pl) := h1.bind fun x => Lc.opLoop h1 _ n x
  exact h2.bind fun x => Lc.opLoop h2 _ n x
theorem Lc.plain : ∀ n, Lc (plainF n)
  | 0 => Lc.fail
  | n + 1 => Lc.ifT (fun _ => (Lc.plain n).bind fun _ => Lc.node _ _ _) <| Lc.ifT (fun _ => (Lc.valueOf n (Lc.plain n)).bind fun _ => (Lc.must _).bind fun _ => Lc.prt _) <|
    Lc.ifT (fun _ => Lc.node _ _ _) <| Lc.ifT (fun _ => Lc.node _ _ _) <| Lc.ifT (fun _ => Lc.node _ _ _) <| Lc.ifT (fun _ => Lc.node _ _ _) <| Lc.ifT (fun _ => Lc.node _ _ _) <| Lc.ifT (fun _ => Lc.node _ _ _) Lc.fail
theorem Lc.value (n : Nat) : Lc (value n) := Lc.valueOf n (Lc.plain n)
theorem Lc.stmts {st : Prs Nat} (h : Lc st) : ∀ k l, Lc (stmts st k l)
  | 0, _ => Lc.fail
  | k + 1, _ => Lc.ifT (fun _ => Lc.prt _) (h.bind fun _ => Lc.stmts h k _)
theorem Lc.blockOf (n : Nat) {st : Prs Nat} (h : Lc st) : Lc (blockOf n st) := (Lc.must _).bind fun _ => (Lc.stmts h n _).bind fun _ => Lc.node _ _ _
theorem Lc.parLoop (n : Nat) : ∀ k l, Lc (parLoop n k l)
  | 0, _ => Lc.fail
  | k + 1, _ => (Lc.must _).bind fun _ => (Lc.ifT (fun _ => (Lc.value n).bind fun _ => Lc.prt _) (Lc.prt _)).bind fun _ => (Lc.node _ _ _).bind fun _ => Lc.ifT (fun _ => Lc.parLoop n k _) ((Lc.must _).bind fun _ => Lc.prt _)
theorem Lc.params (n : Nat) : Lc (params n) := Lc.ifT (fun _ => Lc.ifT (fun _ => Lc.prt _) (Lc.parLoop n n _)) (Lc.prt _)
theorem Lc.classy (n : Nat) {st : Prs Nat} (h : Lc st) (k : Nat) : Lc (classy n st k) := (Lc.must _).bind fun _ => (Lc.params n).bind fun _ => (Lc.blockOf n h).bind fun _ => Lc.node _ _ _
theorem Lc.refOf (n : Nat) (t : List UInt8) : Lc (refOf n t) := (Lc.must _).bind fun _ => (Lc.value n).bind fun _ => (Lc.must _).bind fun _ => Lc.node _ _ _
theorem Lc.attLoop (n : Nat) (t : List UInt8) : ∀ k l, Lc (attLoop n t k l)
  | 0, _ => Lc.fail
  | k + 1, _ => (Lc.must _).bind fun _ => (Lc.must _).bind fun _ => (Lc.value n).bind fun _ => (Lc.node _ _ _).bind fun _ => Lc.ifT (fun _ => Lc.attLoop n t k _) ((Lc.must _).bind fun _ => Lc.node _ _ _)
theorem Lc.resOf (n : Nat) (t : List UInt8) : Lc (resOf n t) := (Lc.must _).bind fun _ => (Lc.value n).bind fun _ => (Lc.must _).bind fun _ => Lc.ifT (fun _ => Lc.node _ _ _) (Lc.attLoop n t n _)
theorem Lc.chLoop (n : Nat) : ∀ k l s, Lc (chLoop n k l s)
  | 0, _, _ => Lc.fail
  | k + 1, _, _ => (Lc.node _ _ _).bind fun _ => (Lc.must _).bind fun _ => (Lc.refOf n _).bind fun _ => Lc.ifT (fun _ => Lc.chLoop n k _ _) (Lc.node _ _ _)
theorem Lc.chain (n : Nat) (t : List UInt8) : Lc (chain n t) := (Lc.refOf n t).bind fun _ => (Lc.must _).bind fun _ => Lc.chLoop n n _ _
theorem Lc.ifOf (n : Nat) {st : Prs Nat} (h : Lc st) : Lc (ifOf n st) := (Lc.value n).bind fun _ => (Lc.blockOf n h).bind fun _ => Lc.ifT (fun _ => (Lc.blockOf n h).bind fun _ => Lc.node _ _ _) (Lc.node _ _ _)
theorem Lc.stmt : ∀ n, Lc (stmtF n)
  | 0 => Lc.fail
  | n + 1 => Lc.ifT (fun _ => Lc.classy n (Lc.stmt n) 2) <| Lc.ifT (fun _ => Lc.classy n (Lc.stmt n) 3) <| Lc.ifT (fun _ => (Lc.must _).bind fun _ => Lc.node _ _ _) <|
    Lc.ifT (fun _ => (Lc.must _).bind fun _ => (Lc.value n).bind fun _ => Lc.node _ _ _) <| Lc.ifT (fun _ => Lc.ifOf n (Lc.stmt n)) <| Lc.ifT (fun _ => Lc.resOf n _) <| Lc.ifT (fun _ => Lc.chain n _) Lc.fail
theorem Lc.le {α : Type} {f : Prs α} (h : Lc f) {s s' : PSt} {a : α} (e : f s = .ok s' a) : s'.r.length ≤ s.r.length := by
  obtain ⟨c, h1, _⟩ := h.ok s s' a e
  rw [h1, List.length_append]
  omega
/-- A parser that takes a word where it does not fail. -/
def Eats {α : Type} (f : Prs α) : Prop := ∀ s s' a, f s = .ok s' a → s'.r.length < s.r.length
theorem Eats.fail {α : Type} : Eats (pfail (α := α)) := fun s s' a h => by cases h
theorem Eats.ifT {α : Type} {p : Tok → Bool} {f : List UInt8 → Prs α} {g : Prs α} (hf : ∀ t, Lc (f t)) (hg : Eats g) : Eats (ifT p f g) := by
  intro s s' a h
  obtain ⟨sr, ns⟩ := s
  cases sr with
  | nil => exact hg _ _ _ h
  | cons t r =>
    unfold Go.Proofs.YtfpdgdacifiejaaGreat.ifT at h
    simp only at h
    split at h
    · have := (hf t.tx).le h
      simp at this ⊢
      omega
    · exact hg _ _ _ h
theorem Eats.stmt : ∀ n, Eats (stmtF n)
  | 0 => Eats.fail
  | n + 1 => Eats.ifT (fun _ => Lc.classy n (Lc.stmt n) 2) <| Eats.ifT (fun _ => Lc.classy n (Lc.stmt n) 3) <| Eats.ifT (fun _ => (Lc.must _).bind fun _ => Lc.node _ _ _) <|
    Eats.ifT (fun _ => (Lc.must _).bind fun _ => (Lc.value n).bind fun _ => Lc.node _ _ _) <| Eats.ifT (fun _ => Lc.ifOf n (Lc.stmt n)) <| Eats.ifT (fun _ => Lc.resOf n _) <| Eats.ifT (fun _ => Lc.chain n _) Eats.fail
theorem topF_nil (st : Prs Nat) (k : Nat) (l : List Nat) (ns : List Nod) : topF st (k + 1) l ⟨[], ns⟩ = pnode 1 [] l ⟨[], ns⟩ := rfl
theorem topF_cons (st : Prs Nat) (k : Nat) (l : List Nat) (r : List Tok) (ns : List Nod) (h : r ≠ []) : topF st (k + 1) l ⟨r, ns⟩ = pbind st (fun x => topF st k (l ++ [x])) ⟨r, ns⟩ := by
  cases r with
  | nil => exact absurd rfl h
  | cons t r => rfl
theorem topF_more {st : Prs Nat} (he : Eats st) : ∀ (k : Nat) (l : List Nat) (s : PSt), s.r.length < k → topF st (k + 1) l s = topF st k l s
  | 0, _, s, h => by omega
  | k + 1, l, s, h => by
    obtain ⟨sr, ns⟩ := s
    cases sr with
    | nil => rfl
    | cons t r =>
      rw [topF_cons _ _ _ _ _ (by simp), topF_cons _ _ _ _ _ (by simp)]
      unfold pbind
      cases hs : st ⟨t :: r, ns⟩ with
      | err r1 => rfl
      | ok s1 x =>
        simp only
        have := he _ _ _ hs
        exact topF_more he k _ s1 (by simp at h this; omega)
/-- Where the whole fails it fails at a word; with whatever stands behind that; and what is ahead of it is a whole, or ends too early. -/
theorem top_err {st : Prs Nat} (hl : Lc st) (he : Eats st) : ∀ (k : Nat) (l : List Nat) (s : PSt) (r : List Tok), topF st k l s = .err r → s.r.length < k →
    ∃ c, s.r = c ++ r ∧ (∀ y, y.head? = r.head? → topF st k l ⟨c ++ y, s.ns⟩ = .err y) ∧ (topF st k l ⟨c, s.ns⟩ = .err [] ∨ ∃ s' a, topF st k l ⟨c, s.ns⟩ = .ok s' a)
  | 0, l, s, r, _, h2 => by omega
  | k + 1, l, s, r, h, hk => by
    obtain ⟨sr, ns⟩ := s
    cases hsr : sr with
    | nil => subst hsr; rw [topF_nil] at h; cases h
    | cons t0 r0 =>
      have hne : sr ≠ [] := by rw [hsr]; simp
      rw [← hsr]
      rw [topF_cons _ _ _ _ _ hne] at h
      unfold pbind at h
      cases hs : st ⟨sr, ns⟩ with
      | err r1 =>
        rw [hs] at h
        simp only at h
        injection h with h
        subst h
        obtain ⟨c, e, h1, h2⟩ := hl.err _ _ hs
        simp only at e
        refine ⟨c, e, fun y hy => ?_, ?_⟩
        · have hcy : c ++ y ≠ [] := by
            intro hh
            have h3 := head_app (c := c) hy
            rw [hh, ← e, hsr] at h3
            cases h3
          rw [topF_cons _ _ _ _ _ hcy]
          unfold pbind
          rw [h1 y hy]
        · by_cases hc : c = []
          · subst hc; right; exact ⟨_, _, topF_nil st k l ns⟩
          · left
            rw [topF_cons _ _ _ _ _ hc]
            unfold pbind
            rw [h2]
      | ok s1 x =>
        rw [hs] at h
        simp only at h
        have hlt := he _ _ _ hs
        obtain ⟨c1, e1, h1, h1'⟩ := hl.ok _ _ _ hs
        simp only at e1 hlt hk
        obtain ⟨c2, e2, h2, h2'⟩ := top_err hl he k (l ++ [x]) s1 r h (by omega)
        have hc1 : c1 ≠ [] := by
          intro hh
          rw [hh, List.nil_append] at e1
          rw [e1] at hlt
          omega
        refine ⟨c1 ++ c2, by simp only; rw [e1, e2, List.append_assoc], fun y hy => ?_, ?_⟩
        · rw [topF_cons _ _ _ _ _ (by simp [hc1])]
          unfold pbind
          rw [List.append_assoc, h1 (c2 ++ y) (by rw [e2]; exact head_app hy)]
          exact h2 y hy
        · rw [topF_cons _ _ _ _ _ (by simp [hc1])]
          have : st ⟨c1 ++ c2, ns⟩ = .ok ⟨c2, s1.ns⟩ x := by
            cases c2 with
            | nil => rw [List.append_nil]; exact h1'
            | cons t c2 => exact h1 _ (by rw [e2]; rfl)
          unfold pbind
          rw [this]
          exact h2'

/- What stands behind an include: all nodes one further. -/
def upN (d : Nod) : Nod := ⟨d.kd, d.tx, d.ks.map (· + 1)⟩
def upS (e : Nod) (s : PSt) : PSt := ⟨s.r, e :: s.ns.map upN⟩
def upO {α : Type} (e : Nod) (u : α → α) : POut α → POut α
  | .ok s a => .ok (upS e s) (u a)
  | .err r => .err r
def Sh {α : Type} (e : Nod) (u : α → α) (f g : Prs α) : Prop := ∀ s, g (upS e s) = upO e u (f s)
abbrev u1 : Nat → Nat := (· + 1)
abbrev uL : List Nat → List Nat := List.map (· + 1)
section
variable {e : Nod}
theorem Sh.prt {α : Type} {u : α → α} (a : α) : Sh e u (prt a) (prt (u a)) := fun _ => rfl
theorem Sh.fail {α : Type} {u : α → α} : Sh e u (pfail (α := α)) pfail := fun _ => rfl
theorem Sh.node (k : Nat) (t : List UInt8) (l : List Nat) : Sh e u1 (pnode k t l) (pnode k t (uL l)) := fun s => by
  simp [pnode, upS, upO, upN]
theorem Sh.bind {α β : Type} {u : α → α} {v : β → β} {f f' : Prs α} {g g' : α → Prs β} (hf : Sh e u f f') (hg : ∀ a, Sh e v (g a) (g' (u a))) : Sh e v (pbind f g) (pbind f' g') := fun s => by
  unfold pbind
  rw [hf s]
  cases f s with
  | err r => rfl
  | ok s1 a => exact hg a s1
theorem Sh.must (p : Tok → Bool) : Sh e id (must p) (must p) := fun s => by
  obtain ⟨r, ns⟩ := s
  cases r with
  | nil => rfl
  | cons t r =>
    simp only [Go.Proofs.YtfpdgdacifiejaaGreat.must, upS, upO]
    split <;> rfl
theorem Sh.ifT {α : Type} {u : α → α} {p : Tok → Bool} {f f' : List UInt8 → Prs α} {g g' : Prs α} (hf : ∀ t, Sh e u (f t) (f' t)) (hg : Sh e u g g') : Sh e u (ifT p f g) (ifT p f' g') := fun s => by
  obtain ⟨r, ns⟩ := s
  cases r with
  | nil => exact hg ⟨[], ns⟩
  | cons t r =>
    simp only [Go.Proofs.YtfpdgdacifiejaaGreat.ifT, upS]
    split
    · exact hf t.tx ⟨r, ns⟩
    · exact hg ⟨t :: r, ns⟩
theorem Sh.opLoop {sub : Prs Nat} (h : Sh e u1 sub sub) (p : Tok → Bool) : ∀ k x, Sh e u1 (opLoop sub p k x) (opLoop sub p k (x + 1))
  | 0, _ => Sh.fail
  | k + 1, _ => Sh.ifT (fun _ => h.bind fun _ => (Sh.node _ _ _).bind fun z => Sh.opLoop h p k z) (Sh.prt _)
theorem Sh.valueOf (n : Nat) {pl : Prs Nat} (h : Sh e u1 pl pl) : Sh e u1 (valueOf n pl) (valueOf n pl) := by
  have h1 : Sh e u1 (equalOf n pl) (equalOf n pl) := h.bind fun x => Sh.opLoop h _ n x
  have h2 : Sh e u1 (bothOf n pl) (bothOf n pl) := h1.bind fun x => Sh.opLoop h1 _ n x
  exact h2.bind fun x => Sh.opLoop h2 _ n x
theorem Sh.plain : ∀ n, Sh e u1 (plainF n) (plainF n)
  | 0 => Sh.fail
  | n + 1 => Sh.ifT (fun _ => (Sh.plain n).bind fun _ => Sh.node _ _ _) <| Sh.ifT (fun _ => (Sh.valueOf n (Sh.plain n)).bind fun _ => (Sh.must _).bind fun _ => Sh.prt _) <|
    Sh.ifT (fun _ => Sh.node _ _ _) <| Sh.ifT (fun _ => Sh.node _ _ _) <| Sh.ifT (fun _ => Sh.node _ _ _) <| Sh.ifT (fun _ => Sh.node _ _ _) <| Sh.ifT (fun _ => Sh.node _ _ _) <| Sh.ifT (fun _ => Sh.node _ _ _) Sh.fail
theorem Sh.value (n : Nat) : Sh e u1 (value n) (value n) := Sh.valueOf n (Sh.plain n)
theorem uL_snoc (l : List Nat) (x : Nat) : uL (l ++ [x]) = uL l ++ [u1 x] := by simp
theorem Sh.stmts {st : Prs Nat} (h : Sh e u1 st st) : ∀ k l, Sh e uL (stmts st k l) (stmts st k (uL l))
  | 0, _ => Sh.fail
  | k + 1, l => Sh.ifT (fun _ => Sh.prt _) (h.bind fun x => by rw [← uL_snoc]; exact Sh.stmts h k (l ++ [x]))
theorem Sh.blockOf (n : Nat) {st : Prs Nat} (h : Sh e u1 st st) : Sh e u1 (blockOf n st) (blockOf n st) := (Sh.must _).bind fun _ => (Sh.stmts h n []).bind fun _ => Sh.node _ _ _
theorem Sh.parLoop (n : Nat) : ∀ k l, Sh e uL (parLoop n k l) (parLoop n k (uL l))
  | 0, _ => Sh.fail
  | k + 1, l => (Sh.must _).bind fun _ => (Sh.ifT (u := uL) (fun _ => (Sh.value n).bind fun v => Sh.prt [v]) (Sh.prt [])).bind fun _ => (Sh.node _ _ _).bind fun x => by
      rw [← uL_snoc]
      exact Sh.ifT (fun _ => Sh.parLoop n k _) ((Sh.must _).bind fun _ => Sh.prt _)
theorem Sh.params (n : Nat) : Sh e uL (params n) (params n) := Sh.ifT (fun _ => Sh.ifT (fun _ => Sh.prt []) (Sh.parLoop n n [])) (Sh.prt [])
theorem Sh.classy (n : Nat) {st : Prs Nat} (h : Sh e u1 st st) (k : Nat) : Sh e u1 (classy n st k) (classy n st k) := (Sh.must _).bind fun _ => (Sh.params n).bind fun l => (Sh.blockOf n h).bind fun b => by
  rw [← uL_snoc]
  exact Sh.node _ _ _
theorem Sh.refOf (n : Nat) (t : List UInt8) : Sh e u1 (refOf n t) (refOf n t) := (Sh.must _).bind fun _ => (Sh.value n).bind fun x => (Sh.must _).bind fun _ => Sh.node _ _ [x]
theorem Sh.attLoop (n : Nat) (t : List UInt8) : ∀ k l, Sh e u1 (attLoop n t k l) (attLoop n t k (uL l))
  | 0, _ => Sh.fail
  | k + 1, l => (Sh.must _).bind fun _ => (Sh.must _).bind fun _ => (Sh.value n).bind fun v => (Sh.node _ _ [v]).bind fun x => by
      rw [← uL_snoc]
      exact Sh.ifT (fun _ => Sh.attLoop n t k _) ((Sh.must _).bind fun _ => Sh.node _ _ _)
theorem Sh.resOf (n : Nat) (t : List UInt8) : Sh e u1 (resOf n t) (resOf n t) := (Sh.must _).bind fun _ => (Sh.value n).bind fun v => (Sh.must _).bind fun _ => Sh.ifT (fun _ => Sh.node _ _ [v]) (Sh.attLoop n t n [v])
theorem Sh.chLoop (n : Nat) : ∀ k l s, Sh e u1 (chLoop n k l s) (chLoop n k (uL l) s)
  | 0, _, _ => Sh.fail
  | k + 1, l, _ => (Sh.node _ _ []).bind fun x => (Sh.must _).bind fun _ => (Sh.refOf n _).bind fun r => by
      have : uL l ++ [u1 x, u1 r] = uL (l ++ [x, r]) := by simp
      rw [this]
      exact Sh.ifT (fun _ => Sh.chLoop n k _ _) (Sh.node _ _ _)
theorem Sh.chain (n : Nat) (t : List UInt8) : Sh e u1 (chain n t) (chain n t) := (Sh.refOf n t).bind fun r => (Sh.must _).bind fun _ => Sh.chLoop n n [r] _
theorem Sh.ifOf (n : Nat) {st : Prs Nat} (h : Sh e u1 st st) : Sh e u1 (ifOf n st) (ifOf n st) := (Sh.value n).bind fun v => (Sh.blockOf n h).bind fun b => Sh.ifT (fun _ => (Sh.blockOf n h).bind fun c => Sh.node _ _ [v, b, c]) (Sh.node _ _ [v, b])
theorem Sh.stmt : ∀ n, Sh e u1 (stmtF n) (stmtF n)
  | 0 => Sh.fail
  | n + 1 => Sh.ifT (fun _ => Sh.classy n (Sh.stmt n) 2) <| Sh.ifT (fun _ => Sh.classy n (Sh.stmt n) 3) <| Sh.ifT (fun _ => (Sh.must _).bind fun _ => Sh.node _ _ []) <|
    Sh.ifT (fun _ => (Sh.must _).bind fun _ => (Sh.value n).bind fun v => Sh.node _ _ [v]) <| Sh.ifT (fun _ => Sh.ifOf n (Sh.stmt n)) <| Sh.ifT (fun _ => Sh.resOf n _) <| Sh.ifT (fun _ => Sh.chain n _) Sh.fail
theorem Sh.top {st : Prs Nat} (h : Sh e u1 st st) : ∀ (k : Nat) (l : List Nat) (s : PSt), (∀ s' x, topF st k l s = .ok s' x → ∃ ns1 l1, s'.ns = ns1 ++ [⟨1, [], l1⟩] ∧ s'.r = [] ∧ topF st k (0 :: uL l) (upS e s) = .ok ⟨[], (e :: ns1.map upN) ++ [⟨1, [], 0 :: uL l1⟩]⟩ (ns1.length + 1)) ∧
    (∀ r, topF st k l s = .err r → topF st k (0 :: uL l) (upS e s) = .err r)
  | 0, l, s => ⟨fun s' x hh => (by cases hh), fun r hh => hh⟩
  | k + 1, l, s => by
    obtain ⟨sr, ns⟩ := s
    cases hsr : sr with
    | nil =>
      subst hsr
      refine ⟨fun s' x hh => ?_, fun r hh => by cases hh⟩
      rw [topF_nil] at hh
      unfold pnode at hh
      injection hh with h1 h2
      subst h1
      refine ⟨ns, l, rfl, rfl, ?_⟩
      show topF st (k + 1) (0 :: uL l) ⟨[], e :: ns.map upN⟩ = _
      rw [topF_nil]
      simp [pnode]
    | cons t0 r0 =>
      have hne : sr ≠ [] := by rw [hsr]; simp
      rw [← hsr, topF_cons _ _ _ _ _ hne]
      have hu : topF st (k + 1) (0 :: uL l) (upS e ⟨sr, ns⟩) = pbind st (fun x => topF st k ((0 :: uL l) ++ [x])) (upS e ⟨sr, ns⟩) := topF_cons _ _ _ _ _ hne
      rw [hu]
      unfold pbind
      rw [h ⟨sr, ns⟩]
      cases hs : st ⟨sr, ns⟩ with
      | err r => exact ⟨fun s' x hh => (by cases hh), fun r hh => hh⟩
      | ok s1 x =>
        have hl : (0 :: uL l) ++ [u1 x] = 0 :: uL (l ++ [x]) := by simp
        simp only [upO]
        rw [hl]
        exact Sh.top h k (l ++ [x]) s1
end

/- Trees, one behind the other. -/
/-- The nodes from a to b are whole trees with these roots. -/
inductive Seg (ns : List Nod) : Nat → Nat → List Nat → Prop
  | nil (a : Nat) : Seg ns a a []
  | snoc {a c b : Nat} {l ks : List Nat} {nd : Nod} : Seg ns a c l → Seg ns c b ks → ns[b]? = some nd → nd.ks = ks → Seg ns a (b + 1) (l ++ [b])
theorem Seg.le {ns : List Nod} {a b : Nat} {l : List Nat} (h : Seg ns a b l) : a ≤ b := by
  induction h with
  | nil a => exact Nat.le_refl _
  | snoc _ _ _ _ h1 h2 => omega
theorem Seg.more {ns : List Nod} {a b : Nat} {l : List Nat} (h : Seg ns a b l) (x : List Nod) : Seg (ns ++ x) a b l := by
  induction h with
  | nil a => exact .nil a
  | snoc _ _ h3 h4 h1 h2 => exact .snoc h1 h2 (by rw [List.getElem?_append_left (List.getElem?_eq_some_iff.1 h3).1]; exact h3) h4
theorem Seg.app {ns : List Nod} {a b c : Nat} {l m : List Nat} (h : Seg ns a b l) (k : Seg ns b c m) : Seg ns a c (l ++ m) := by
  induction k with
  | nil => rw [List.append_nil]; exact h
  | snoc _ h2 h3 h4 h1 _ => rw [← List.append_assoc]; exact .snoc (h1 h) h2 h3 h4
theorem Seg.tree {ns : List Nod} {a b : Nat} {ks : List Nat} {nd : Nod} (h : Seg ns a b ks) (h1 : ns[b]? = some nd) (h2 : nd.ks = ks) : Seg ns a (b + 1) [b] := Seg.snoc (.nil a) h h1 h2
/-- A parser lays whole trees. -/
def Tr {α : Type} (v : α → List Nat) (f : Prs α) : Prop := ∀ s s' x, f s = .ok s' x → ∃ new, s'.ns = s.ns ++ new ∧ Seg s'.ns s.ns.length s'.ns.length (v x)
abbrev v1 (x : Nat) : List Nat := [x]
theorem Tr.fail {α : Type} {v : α → List Nat} : Tr v (pfail (α := α)) := fun s s' a h => by cases h
theorem Tr.ifT {α : Type} {v : α → List Nat} {p : Tok → Bool} {f : List UInt8 → Prs α} {g : Prs α} (hf : ∀ t, Tr v (f t)) (hg : Tr v g) : Tr v (ifT p f g) := by
  intro s s' a h
  obtain ⟨sr, ns⟩ := s
  cases sr with
  | nil => exact hg _ _ _ h
  | cons t r =>
    unfold Go.Proofs.YtfpdgdacifiejaaGreat.ifT at h
    simp only at h
    split at h
    · exact hf t.tx ⟨r, ns⟩ _ _ h
    · exact hg _ _ _ h
/-- Parsers that go on from trees that are laid already: those from a on have the roots l. -/
def Tl (l : List Nat) {α : Type} (v : α → List Nat) (f : Prs α) : Prop := ∀ s s' x a, Seg s.ns a s.ns.length l → f s = .ok s' x → (∃ new, s'.ns = s.ns ++ new) ∧ Seg s'.ns a s'.ns.length (v x)
theorem Tl.tr {α : Type} {v : α → List Nat} {f : Prs α} (h : Tl [] v f) : Tr v f := fun s s' x e => by
  obtain ⟨⟨new, h1⟩, h2⟩ := h s s' x _ (Seg.nil _) e
  exact ⟨new, h1, h2⟩
theorem Tl.fail {l : List Nat} {α : Type} {v : α → List Nat} : Tl l v (pfail (α := α)) := fun s s' x a _ h => by cases h
theorem Tl.prt {l : List Nat} {α : Type} {v : α → List Nat} {x : α} (h : v x = l) : Tl l v (prt x) := fun s s' y a hs e => by
  unfold Go.Proofs.YtfpdgdacifiejaaGreat.prt at e
  injection e with e1 e2
  subst e1 e2
  exact ⟨⟨[], (List.append_nil _).symm⟩, by rw [h]; exact hs⟩
theorem Tl.node (l : List Nat) (k : Nat) (t : List UInt8) : Tl l v1 (pnode k t l) := fun s s' y a hs e => by
  unfold pnode at e
  injection e with e1 e2
  subst e1 e2
  refine ⟨⟨_, rfl⟩, ?_⟩
  rw [List.length_append]
  exact Seg.tree (hs.more _) (by rw [List.getElem?_append_right (Nat.le_refl _), Nat.sub_self]; rfl) rfl
theorem Tl.ifT {l : List Nat} {α : Type} {v : α → List Nat} {p : Tok → Bool} {f : List UInt8 → Prs α} {g : Prs α} (hf : ∀ t, Tl l v (f t)) (hg : Tl l v g) : Tl l v (ifT p f g) := by
  intro s s' x a hs h
  obtain ⟨sr, ns⟩ := s
  cases sr with
  | nil => exact hg _ _ _ _ hs h
  | cons t r =>
    unfold Go.Proofs.YtfpdgdacifiejaaGreat.ifT at h
    simp only at h
    split at h
    · exact hf t.tx ⟨r, ns⟩ _ _ _ hs h
    · exact hg _ _ _ _ hs h
theorem Tl.bind {l : List Nat} {α β : Type} {v : α → List Nat} {u : β → List Nat} {f : Prs α} {g : α → Prs β} (hf : Tr v f) (hg : ∀ x, Tl (l ++ v x) u (g x)) : Tl l u (pbind f g) := by
  intro s s' x a hs h
  unfold pbind at h
  cases hfs : f s with
  | err r => rw [hfs] at h; cases h
  | ok s1 y =>
    rw [hfs] at h
    simp only at h
    obtain ⟨n1, e1, h1⟩ := hf s s1 y hfs
    have hs1 : Seg s1.ns a s1.ns.length (l ++ v y) := by
      have := hs.more n1
      rw [← e1] at this
      exact this.app h1
    obtain ⟨⟨n2, e2⟩, h2⟩ := hg y s1 s' x a hs1 h
    exact ⟨⟨n1 ++ n2, by rw [e2, e1, List.append_assoc]⟩, h2⟩
/-- First a parser that goes on from these, then one that goes on from what comes of it. -/
theorem Tl.then {l : List Nat} {α β : Type} {v : α → List Nat} {u : β → List Nat} {f : Prs α} {g : α → Prs β} (hf : Tl l v f) (hg : ∀ x, Tl (v x) u (g x)) : Tl l u (pbind f g) := by
  intro s s' x a hs h
  unfold pbind at h
  cases hfs : f s with
  | err r => rw [hfs] at h; cases h
  | ok s1 y =>
    rw [hfs] at h
    simp only at h
    obtain ⟨⟨n1, e1⟩, h1⟩ := hf s s1 y a hs hfs
    obtain ⟨⟨n2, e2⟩, h2⟩ := hg y s1 s' x a h1 h
    exact ⟨⟨n1 ++ n2, by rw [e2, e1, List.append_assoc]⟩, h2⟩
abbrev v0 {α : Type} (_ : α) : List Nat := []
theorem Tr.must (p : Tok → Bool) : Tr v0 (must p) := fun s s' x h => by
  obtain ⟨sr, ns⟩ := s
  cases sr with
  | nil => cases h
  | cons t r =>
    unfold Go.Proofs.YtfpdgdacifiejaaGreat.must at h
    simp only at h
    split at h
    · injection h with h1 h2
      subst h1
      exact ⟨[], (List.append_nil _).symm, Seg.nil _⟩
    · cases h
theorem Tl.must {l : List Nat} {β : Type} {u : β → List Nat} (p : Tok → Bool) {g : List UInt8 → Prs β} (h : ∀ t, Tl l u (g t)) : Tl l u (pbind (must p) g) := Tl.bind (Tr.must p) fun t => by rw [List.append_nil]; exact h t
theorem Tl.opLoop {sub : Prs Nat} (h : Tr v1 sub) (p : Tok → Bool) : ∀ k x, Tl [x] v1 (opLoop sub p k x)
  | 0, _ => Tl.fail
  | k + 1, x => Tl.ifT (fun t => Tl.bind h fun y => Tl.then (Tl.node [x, y] 19 t) fun z => Tl.opLoop h p k z) (Tl.prt rfl)
theorem Tr.valueOf (n : Nat) {pl : Prs Nat} (h : Tr v1 pl) : Tr v1 (valueOf n pl) := by
  have h1 : Tr v1 (equalOf n pl) := Tl.tr (Tl.bind h fun x => Tl.opLoop h _ n x)
  have h2 : Tr v1 (bothOf n pl) := Tl.tr (Tl.bind h1 fun x => Tl.opLoop h1 _ n x)
  exact Tl.tr (Tl.bind h2 fun x => Tl.opLoop h2 _ n x)
theorem Tr.leaf (k : Nat) (t : List UInt8) : Tr v1 (pnode k t []) := Tl.tr (Tl.node [] k t)
theorem Tr.plain : ∀ n, Tr v1 (plainF n)
  | 0 => Tr.fail
  | n + 1 => Tr.ifT (fun _ => Tl.tr (Tl.bind (Tr.plain n) fun x => Tl.node [x] _ _)) <| Tr.ifT (fun _ => Tl.tr (Tl.bind (Tr.valueOf n (Tr.plain n)) fun x => Tl.must (l := [x]) _ fun _ => Tl.prt rfl)) <|
    Tr.ifT (fun _ => Tr.leaf _ _) <| Tr.ifT (fun _ => Tr.leaf _ _) <| Tr.ifT (fun _ => Tr.leaf _ _) <| Tr.ifT (fun _ => Tr.leaf _ _) <| Tr.ifT (fun _ => Tr.leaf _ _) <| Tr.ifT (fun _ => Tr.leaf _ _) Tr.fail
theorem Tr.value (n : Nat) : Tr v1 (value n) := Tr.valueOf n (Tr.plain n)
theorem Tl.stmts {st : Prs Nat} (h : Tr v1 st) : ∀ k l, Tl l id (stmts st k l)
  | 0, _ => Tl.fail
  | k + 1, l => Tl.ifT (fun _ => Tl.prt rfl) (Tl.bind h fun x => Tl.stmts h k (l ++ [x]))
theorem Tr.blockOf (n : Nat) {st : Prs Nat} (h : Tr v1 st) : Tr v1 (blockOf n st) := Tl.tr (Tl.must _ fun _ => Tl.then (Tl.stmts h n []) fun l => Tl.node l _ _)
theorem tl_parLoop (n : Nat) : ∀ k l, Tl l id (parLoop n k l)
  | 0, _ => Tl.fail
  | k + 1, l => Tl.must _ fun t => by
    have hv : Tr id (ifT (isSg [61]) (fun _ => pbind (value n) fun v => prt [v]) (prt [])) := Tl.tr (Tl.ifT (fun _ => Tl.bind (Tr.value n) fun v => Tl.prt rfl) (Tl.prt rfl))
    have hx : Tr v1 (pbind (ifT (isSg [61]) (fun _ => pbind (value n) fun v => prt [v]) (prt [])) fun v => pnode 4 t v) := Tl.tr (Tl.bind hv fun v => Tl.node ([] ++ v) 4 t)
    have := Tl.bind (l := l) (u := id) hx (g := fun x => ifT (isSg [44]) (fun _ => parLoop n k (l ++ [x])) (pbind (must (isSg [41])) fun _ => prt (l ++ [x]))) (fun x => Tl.ifT (fun _ => tl_parLoop n k (l ++ [x])) (Tl.must _ fun _ => Tl.prt rfl))
    intro s s' x b hs e
    refine this s s' x b hs ?_
    rw [← e]
    generalize ifT (isSg [61]) (fun _ => pbind (value n) fun v => prt [v]) (prt []) = f
    unfold pbind
    cases f s <;> rfl
theorem Tr.params (n : Nat) : Tr id (params n) := Tl.tr (Tl.ifT (fun _ => Tl.ifT (fun _ => Tl.prt rfl) (tl_parLoop n n [])) (Tl.prt rfl))
theorem Tr.classy (n : Nat) {st : Prs Nat} (h : Tr v1 st) (k : Nat) : Tr v1 (classy n st k) := Tl.tr (Tl.must _ fun t => Tl.bind (Tr.params n) fun l => Tl.bind (l := [] ++ l) (Tr.blockOf n h) fun b => Tl.node (l ++ [b]) k t)
theorem Tr.refOf (n : Nat) (t : List UInt8) : Tr v1 (refOf n t) := Tl.tr (Tl.must _ fun _ => Tl.bind (Tr.value n) fun x => Tl.must (l := [x]) _ fun _ => Tl.node [x] _ _)
theorem tl_attLoop (n : Nat) (t : List UInt8) : ∀ k l, Tl l v1 (attLoop n t k l)
  | 0, _ => Tl.fail
  | k + 1, l => Tl.must _ fun a => Tl.must _ fun _ => by
    have hx : Tr v1 (pbind (value n) fun v => pnode 9 a [v]) := Tl.tr (Tl.bind (Tr.value n) fun v => Tl.node [v] 9 a)
    have := Tl.bind (l := l) (u := v1) hx (g := fun x => ifT (isSg [44]) (fun _ => attLoop n t k (l ++ [x])) (pbind (must (isSg [125])) fun _ => pnode 8 t (l ++ [x]))) (fun x => Tl.ifT (fun _ => tl_attLoop n t k (l ++ [x])) (Tl.must _ fun _ => Tl.node (l ++ [x]) 8 t))
    intro s s' x b hs e
    refine this s s' x b hs ?_
    rw [← e]
    unfold pbind
    cases value n s <;> rfl
theorem Tr.resOf (n : Nat) (t : List UInt8) : Tr v1 (resOf n t) := Tl.tr (Tl.must _ fun _ => Tl.bind (Tr.value n) fun v => Tl.must (l := [v]) _ fun _ => Tl.ifT (fun _ => Tl.node [v] 8 t) (tl_attLoop n t n [v]))
theorem Tl.chLoop (n : Nat) : ∀ k l s, Tl l v1 (chLoop n k l s)
  | 0, _, _ => Tl.fail
  | k + 1, l, s => Tl.bind (Tr.leaf 12 s) fun x => Tl.must _ fun t => Tl.bind (Tr.refOf n t) fun r => by
    have e : l ++ v1 x ++ v1 r = l ++ [x, r] := by simp
    rw [e]
    exact Tl.ifT (fun s2 => Tl.chLoop n k (l ++ [x, r]) s2) (Tl.node (l ++ [x, r]) 10 [])
theorem Tr.chain (n : Nat) (t : List UInt8) : Tr v1 (chain n t) := Tl.tr (Tl.bind (Tr.refOf n t) fun r => Tl.must (l := [r]) _ fun s => Tl.chLoop n n [r] s)
theorem Tr.ifOf (n : Nat) {st : Prs Nat} (h : Tr v1 st) : Tr v1 (ifOf n st) := Tl.tr (Tl.bind (Tr.value n) fun v => Tl.bind (l := [v]) (Tr.blockOf n h) fun b => Tl.ifT (fun _ => Tl.bind (Tr.blockOf n h) fun c => Tl.node [v, b, c] 7 []) (Tl.node [v, b] 7 []))
theorem Tr.stmt : ∀ n, Tr v1 (stmtF n)
  | 0 => Tr.fail
  | n + 1 => Tr.ifT (fun _ => Tr.classy n (Tr.stmt n) 2) <| Tr.ifT (fun _ => Tr.classy n (Tr.stmt n) 3) <| Tr.ifT (fun _ => Tl.tr (Tl.must _ fun t => Tl.node [] 5 t)) <|
    Tr.ifT (fun t => Tl.tr (Tl.must _ fun _ => Tl.bind (Tr.value n) fun v => Tl.node [v] 6 t)) <| Tr.ifT (fun _ => Tr.ifOf n (Tr.stmt n)) <| Tr.ifT (fun t => Tr.resOf n t) <| Tr.ifT (fun t => Tr.chain n t) Tr.fail
theorem Tl.top {st : Prs Nat} (h : Tr v1 st) : ∀ k l, Tl l v1 (topF st k l)
  | 0, _ => Tl.fail
  | k + 1, l => by
    intro s s' x a hs e
    obtain ⟨sr, ns⟩ := s
    cases sr with
    | nil => exact Tl.node l 1 [] ⟨[], ns⟩ s' x a hs e
    | cons t r =>
      rw [topF_cons _ _ _ _ _ (by simp)] at e
      exact Tl.bind h (fun x => Tl.top h k (l ++ [x])) _ _ _ _ hs e
/- What SyntaxTree counts. -/
def kidsN (ns : List Nod) (i : Nat) : List Nat := match ns[i]? with
  | some d => d.ks
  | none => []
/-- Where a node's tree begins. -/
def stN (ns : List Nod) (i : Nat) : Nat := match kidsN ns i with
  | [] => i
  | k :: _ => if k < i then stN ns k else i
termination_by i
/-- Going back over trees that stand side by side ahead of 'next': where the first begins. -/
def bk (ns : List Nod) (next : Nat) : List Nat → Option Nat
  | [] => some next
  | k :: r => if k + 1 = next then bk ns (stN ns k) r else none
theorem Seg.mem {ns : List Nod} {a b : Nat} {l : List Nat} (h : Seg ns a b l) : ∀ x ∈ l, a ≤ x ∧ x < b := by
  induction h with
  | nil => intro x hx; cases hx
  | @snoc a c b l ks nd h1 h2 _ _ ih1 _ =>
    intro x hx
    have := h1.le
    have := h2.le
    rcases List.mem_append.1 hx with hx | hx
    · have := ih1 x hx; omega
    · simp at hx; omega
theorem Seg.begins {ns : List Nod} {a b : Nat} {l : List Nat} (h : Seg ns a b l) :
    (∀ i, a ≤ i → i < b → bk ns i (kidsN ns i).reverse = some (stN ns i) ∧ a ≤ stN ns i) ∧ bk ns b l.reverse = some a ∧ (∀ k r, l = k :: r → stN ns k = a) ∧ (l = [] → a = b) := by
  induction h with
  | nil a => exact ⟨fun i h1 h2 => absurd h2 (by omega), rfl, fun k r h => (by cases h), fun _ => rfl⟩
  | @snoc a c b l ks nd h1 h2 h3 h4 ih1 ih2 =>
    obtain ⟨p1, p2, p3, p4⟩ := ih1
    obtain ⟨q1, q2, q3, q4⟩ := ih2
    have l1 := h1.le
    have l2 := h2.le
    have hk : kidsN ns b = ks := by unfold kidsN; rw [h3]; exact h4
    have hst : stN ns b = c := by
      unfold stN
      rw [hk]
      cases ks with
      | nil => exact (q4 rfl).symm
      | cons k r =>
        simp only
        have hkb : k < b := by
          exact (h2.mem k (by simp)).2
        rw [if_pos hkb]
        exact q3 k r rfl
    refine ⟨fun i hi1 hi2 => ?_, ?_, fun k r hh => ?_, fun hh => by simp at hh⟩
    · by_cases hc : i < c
      · exact p1 i hi1 hc
      · by_cases hb : i < b
        · obtain ⟨x, y⟩ := q1 i (by omega) hb
          exact ⟨x, by omega⟩
        · obtain rfl : i = b := by omega
          rw [hk, hst]
          exact ⟨q2, l1⟩
    · rw [List.reverse_append]
      show bk ns (b + 1) (b :: l.reverse) = some a
      unfold bk
      rw [if_pos rfl, hst]
      exact p2
    · cases l with
      | nil =>
        simp at hh
        rw [← hh.1, hst]
        exact (p4 rfl).symm
      | cons k' r' =>
        simp at hh
        rw [← hh.1]
        exact p3 k' r' rfl
theorem Seg.nodup {ns : List Nod} {a b : Nat} {l : List Nat} (h : Seg ns a b l) : ∀ x, l.count x ≤ 1 := by
  induction h with
  | nil => intro x; simp
  | @snoc a c b l ks nd h1 h2 _ _ ih1 _ =>
    intro x
    rw [List.count_append]
    have h3 := ih1 x
    have h4 := h2.le
    by_cases e : x = b
    · subst e
      have : l.count x = 0 := List.count_eq_zero.2 (fun hm => by have := h1.mem x hm; omega)
      rw [this]
      simp
    · have : [b].count x = 0 := List.count_eq_zero.2 (fun hm => by simp at hm; exact e hm)
      omega
/-- How often j is below one of the nodes from a on, m of them. -/
def cntN (ns : List Nod) (a : Nat) : Nat → Nat → Nat
  | 0, _ => 0
  | m + 1, j => cntN ns a m j + (kidsN ns (a + m)).count j
theorem cntN_add (ns : List Nod) (a m n j : Nat) : cntN ns a (m + n) j = cntN ns a m j + cntN ns (a + m) n j := by
  induction n with
  | zero => rfl
  | succ n ih =>
    rw [← Nat.add_assoc]
    simp only [cntN]
    rw [ih, Nat.add_assoc a m n]
    omega
theorem cntN_out (ns : List Nod) (a m j : Nat) (h : ∀ i, a ≤ i → i < a + m → j ∉ kidsN ns i) : cntN ns a m j = 0 := by
  induction m with
  | zero => rfl
  | succ m ih =>
    simp only [cntN]
    rw [ih (fun i h1 h2 => h i h1 (by omega)), List.count_eq_zero.2 (h (a + m) (by omega) (by omega))]
theorem Seg.kids {ns : List Nod} {a b : Nat} {l : List Nat} (h : Seg ns a b l) : ∀ i, a ≤ i → i < b → ∀ x ∈ kidsN ns i, a ≤ x ∧ x < i := by
  induction h with
  | nil a => intro i h1 h2; omega
  | @snoc a c b l ks nd h1 h2 h3 h4 ih1 ih2 =>
    have l1 := h1.le
    intro i hi1 hi2 x hx
    by_cases hc : i < c
    · exact ih1 i hi1 hc x hx
    · by_cases hb : i < b
      · have := ih2 i (by omega) hb x hx
        omega
      · obtain rfl : i = b := by omega
        have hk : kidsN ns i = ks := by unfold kidsN; rw [h3]; exact h4
        rw [hk] at hx
        have := h2.mem x hx
        omega
theorem Seg.count {ns : List Nod} {a b : Nat} {l : List Nat} (h : Seg ns a b l) : ∀ j, a ≤ j → j < b → cntN ns a (b - a) j + l.count j = 1 := by
  induction h with
  | nil a => intro j h1 h2; omega
  | @snoc a c b l ks nd h1 h2 h3 h4 ih1 ih2 =>
    have l1 := h1.le
    have l2 := h2.le
    have hk : kidsN ns b = ks := by unfold kidsN; rw [h3]; exact h4
    intro j hj1 hj2
    rw [show b + 1 - a = (c - a) + ((b - c) + 1) by omega, cntN_add, show a + (c - a) = c by omega]
    simp only [cntN]
    rw [show c + (b - c) = b by omega, hk, List.count_append]
    by_cases hc : j < c
    · have e1 := ih1 j hj1 hc
      have e2 : cntN ns c (b - c) j = 0 := cntN_out ns c (b - c) j (fun i hi1 hi2 hm => by have := h2.kids i hi1 (by omega) j hm; omega)
      have e3 : ks.count j = 0 := List.count_eq_zero.2 (fun hm => by have := h2.mem j hm; omega)
      have e4 : [b].count j = 0 := List.count_eq_zero.2 (fun hm => by simp at hm; omega)
      omega
    · have e1 : cntN ns a (c - a) j = 0 := cntN_out ns a (c - a) j (fun i hi1 hi2 hm => by have := h1.kids i hi1 (by omega) j hm; omega)
      have e2 : l.count j = 0 := List.count_eq_zero.2 (fun hm => by have := h1.mem j hm; omega)
      by_cases hb : j < b
      · have e3 := ih2 j (by omega) hb
        have e4 : [b].count j = 0 := List.count_eq_zero.2 (fun hm => by simp at hm; omega)
        omega
      · obtain rfl : j = b := by omega
        have e3 : cntN ns c (j - c) j = 0 := cntN_out ns c (j - c) j (fun i hi1 hi2 hm => by have := h2.kids i hi1 (by omega) j hm; omega)
        have e4 : ks.count j = 0 := List.count_eq_zero.2 (fun hm => by have := h2.mem j hm; omega)
        simp [e1, e2, e3, e4]
def depsN : List Nod → List Nat → List Nat
  | [], d => d
  | x :: r, d => depsN r (d ++ [(x.ks.map fun k => d.getD k 0).foldl max 0 + 1])
/-- The depth of a row of nodes. -/
def depN (ns : List Nod) : Nat := (depsN ns []).foldl max 0
/-- What words are read as: the nodes, where they are refused, the error. -/
def parO (l : List Tok) : List Nod × Nat × Nat :=
  if 4096 < l.length then ([], 0, 5) else match topF (stmtF 5000) 5000 [] ⟨l, []⟩ with
  | .err r => ([], l.length - r.length, 120)
  | .ok s _ => if 1024 < s.ns.length ∨ 32 < depN s.ns then ([], 0, 5) else (s.ns, 0, 0)
theorem Seg.last {ns : List Nod} {a b x : Nat} (h : Seg ns a b [x]) : b = x + 1 := by
  generalize hl : [x] = l at h
  cases h with
  | nil => cases hl
  | @snoc _ c b l ks nd h1 h2 h3 h4 =>
    have := List.append_inj_right' (s₁ := []) (t₁ := [x]) (s₂ := l) (t₂ := [b]) hl rfl
    simp at this
    omega
theorem top_last {st : Prs Nat} : ∀ (k : Nat) (l : List Nat) (s s' : PSt) (x : Nat), topF st k l s = .ok s' x → s'.r = [] ∧ ∃ ns1 l1, s'.ns = ns1 ++ [⟨1, [], l1⟩]
  | 0, _, _, _, _, h => by cases h
  | k + 1, l, s, s', x, h => by
    obtain ⟨sr, ns⟩ := s
    cases sr with
    | nil =>
      rw [topF_nil] at h
      unfold pnode at h
      injection h with h1 h2
      subst h1
      exact ⟨rfl, ns, l, rfl⟩
    | cons t r =>
      rw [topF_cons _ _ _ _ _ (by simp)] at h
      unfold pbind at h
      cases hs : st ⟨t :: r, ns⟩ with
      | err r => rw [hs] at h; cases h
      | ok s1 y =>
        rw [hs] at h
        exact top_last k _ s1 s' x h
/-- What is known of a tree that was read. -/
structure ArOk (ns : List Nod) : Prop where
  pos : 0 < ns.length
  few : ns.length ≤ 1024
  seg : Seg ns 0 ns.length [ns.length - 1]
  top : ∀ h : ns.length - 1 < ns.length, ns[ns.length - 1].kd = 1
theorem par_ok {l : List Tok} (h : (parO l).2.2 = 0) : ArOk (parO l).1 := by
  unfold parO at h ⊢
  split at h
  · cases h
  · rename_i hlen
    rw [if_neg hlen]
    cases ht : topF (stmtF 5000) 5000 [] ⟨l, []⟩ with
    | err r => rw [ht] at h; cases h
    | ok s x =>
      rw [ht] at h
      simp only at h ⊢
      split at h
      · cases h
      · rename_i hb
        rw [if_neg hb]
        simp only
        obtain ⟨_, ns1, l1, hns⟩ := top_last _ _ _ _ _ ht
        have hseg := (Tl.top (Tr.stmt 5000) 5000 [] ⟨l, []⟩ s x 0 (Seg.nil 0) ht).2
        have hx := hseg.last
        have hlen : s.ns.length = ns1.length + 1 := by rw [hns]; simp
        refine ⟨by omega, by omega, ?_, fun hh => ?_⟩
        · have : x = s.ns.length - 1 := by omega
          rw [← this]
          exact hseg
        · have e : s.ns[s.ns.length - 1]? = some ⟨1, [], l1⟩ := by
            rw [hns]
            simp
          rw [List.getElem?_eq_getElem hh] at e
          rw [Option.some.inj e]
theorem par_no {l : List Tok} (h : (parO l).2.2 ≠ 0) : (parO l).1 = [] := by
  unfold parO at h ⊢
  split
  · rfl
  · rename_i hlen
    rw [if_neg hlen] at h
    cases ht : topF (stmtF 5000) 5000 [] ⟨l, []⟩ with
    | err r => rfl
    | ok s x =>
      rw [ht] at h
      simp only at h ⊢
      split
      · rfl
      · rename_i hb
        rw [if_neg hb] at h
        exact absurd rfl h
theorem mx_le {l : List Nat} {a b : Nat} : l.foldl max a ≤ b ↔ a ≤ b ∧ ∀ x ∈ l, x ≤ b := by
  induction l generalizing a with
  | nil => simp
  | cons x l ih =>
    rw [List.foldl_cons, ih]
    constructor
    · rintro ⟨h1, h2⟩
      refine ⟨by omega, fun y hy => ?_⟩
      rcases List.mem_cons.1 hy with rfl | hy
      · omega
      · exact h2 y hy
    · rintro ⟨h1, h2⟩
      have := h2 x (by simp)
      exact ⟨by omega, fun y hy => h2 y (by simp [hy])⟩
theorem mx_mem {l : List Nat} {x : Nat} (h : x ∈ l) : x ≤ l.foldl max 0 := (mx_le.1 (Nat.le_refl _)).2 x h
theorem depsN_app : ∀ (x y : List Nod) (d : List Nat), depsN (x ++ y) d = depsN y (depsN x d)
  | [], _, _ => rfl
  | a :: x, y, d => by simp only [List.cons_append, depsN]; exact depsN_app x y _
theorem depsN_up : ∀ (x : List Nod) (d : List Nat), depsN (x.map upN) (1 :: d) = 1 :: depsN x d
  | [], _ => rfl
  | a :: x, d => by
    have : ((upN a).ks.map fun k => (1 :: d).getD k 0) = a.ks.map fun k => d.getD k 0 := by simp [upN]
    simp only [List.map_cons, depsN, this]
    exact depsN_up x _
def incT : Tok := ⟨1, [105, 110, 99, 108, 117, 100, 101]⟩
def abT : Tok := ⟨1, [97, 58, 58, 98]⟩
def incN : Nod := ⟨5, [97, 58, 58, 98], []⟩
theorem dep_up (ns1 : List Nod) (l1 : List Nat) : depN (ns1 ++ [⟨1, [], l1⟩]) ≤ depN ((incN :: ns1.map upN) ++ [⟨1, [], 0 :: uL l1⟩]) := by
  have h1 : depsN (ns1 ++ [⟨1, [], l1⟩]) [] = depsN ns1 [] ++ [(l1.map fun k => (depsN ns1 []).getD k 0).foldl max 0 + 1] := by rw [depsN_app]; rfl
  have h2 : depsN ((incN :: ns1.map upN) ++ [⟨1, [], 0 :: uL l1⟩]) [] = (1 :: depsN ns1 []) ++ [((0 :: uL l1).map fun k => (1 :: depsN ns1 []).getD k 0).foldl max 0 + 1] := by
    rw [depsN_app]
    have : depsN (incN :: ns1.map upN) [] = 1 :: depsN ns1 [] := depsN_up ns1 []
    rw [this]
    rfl
  unfold depN
  rw [h1, h2, mx_le]
  refine ⟨Nat.zero_le _, fun x hx => ?_⟩
  rcases List.mem_append.1 hx with hx | hx
  · exact mx_mem (by simp [hx])
  · simp only [List.mem_singleton] at hx
    have h3 : (l1.map fun k => (depsN ns1 []).getD k 0).foldl max 0 ≤ ((0 :: uL l1).map fun k => (1 :: depsN ns1 []).getD k 0).foldl max 0 := by
      rw [mx_le]
      refine ⟨Nat.zero_le _, fun y hy => mx_mem ?_⟩
      simp at hy ⊢
      right
      exact hy
    have h4 := mx_mem (l := (1 :: depsN ns1 []) ++ [((0 :: uL l1).map fun k => (1 :: depsN ns1 []).getD k 0).foldl max 0 + 1]) (x := ((0 :: uL l1).map fun k => (1 :: depsN ns1 []).getD k 0).foldl max 0 + 1) (List.mem_append_right _ (List.mem_singleton.2 rfl))
    omega
theorem stmt_inc (x : List Tok) (ns : List Nod) : stmtF 5000 ⟨incT :: abT :: x, ns⟩ = .ok ⟨x, ns ++ [incN]⟩ ns.length := by
  have e : stmtF 5000 = stmtF (4999 + 1) := rfl
  rw [e]
  unfold stmtF
  have k1 : isKy [99, 108, 97, 115, 115] incT = false := by decide
  have k2 : isKy [100, 101, 102, 105, 110, 101] incT = false := by decide
  have k3 : isKy [105, 110, 99, 108, 117, 100, 101] incT = true := by decide
  have k4 : isNm abT = true := by decide
  simp only [ifT, k1, k2, k3, if_true, if_false, Bool.false_eq_true, pbind, must, k4, pnode]
  rfl
/-- A manifest behind an include. -/
theorem join_par (x : List Tok) (hx : x.length ≤ 4094) :
    ((parO x).2.2 = 120 ∧ (parO (incT :: abT :: x)).2.2 = 120 ∧ (parO (incT :: abT :: x)).2.1 = (parO x).2.1 + 2) ∨
    ((parO x).2.2 = 5 ∧ (parO (incT :: abT :: x)).2.2 = 5) ∨
    ((parO x).2.2 = 0 ∧ (parO (incT :: abT :: x)).2.2 = 5) ∨
    ((parO x).2.2 = 0 ∧ (parO (incT :: abT :: x)).2.2 = 0 ∧ ∃ ns1 l1, (parO x).1 = ns1 ++ [⟨1, [], l1⟩] ∧ (parO (incT :: abT :: x)).1 = (incN :: ns1.map upN) ++ [⟨1, [], 0 :: uL l1⟩]) := by
  have hJ : topF (stmtF 5000) 5000 [] ⟨incT :: abT :: x, []⟩ = topF (stmtF 5000) 4999 (0 :: uL []) (upS incN ⟨x, []⟩) := by
    have e : topF (stmtF 5000) 5000 [] ⟨incT :: abT :: x, []⟩ = topF (stmtF 5000) (4999 + 1) [] ⟨incT :: abT :: x, []⟩ := rfl
    rw [e, topF_cons _ _ _ _ _ (by simp)]
    unfold pbind
    rw [stmt_inc]
    rfl
  have hX : topF (stmtF 5000) 5000 [] ⟨x, []⟩ = topF (stmtF 5000) 4999 [] ⟨x, []⟩ := topF_more (Eats.stmt 5000) 4999 [] ⟨x, []⟩ (by show x.length < 4999; omega)
  obtain ⟨hok, herr⟩ := Sh.top (Sh.stmt (e := incN) 5000) 4999 [] ⟨x, []⟩
  unfold parO
  rw [if_neg (by omega), if_neg (by simp; omega), hJ, hX]
  cases ht : topF (stmtF 5000) 4999 [] ⟨x, []⟩ with
  | err r =>
    left
    rw [herr r ht]
    refine ⟨rfl, rfl, ?_⟩
    obtain ⟨c, e, _⟩ := top_err (Lc.stmt 5000) (Eats.stmt 5000) 4999 [] ⟨x, []⟩ r ht (by show x.length < 4999; omega)
    have := congrArg List.length e
    simp at this ⊢
    omega
  | ok s y =>
    obtain ⟨ns1, l1, h1, _, h3⟩ := hok s y ht
    rw [h3]
    simp only
    have hd := dep_up ns1 l1
    have hl1 : s.ns.length = ns1.length + 1 := by rw [h1]; simp
    have hl2 : ((incN :: ns1.map upN) ++ [⟨1, [], 0 :: uL l1⟩] : List Nod).length = ns1.length + 2 := by simp
    rw [hl2, hl1, h1]
    by_cases hb : 1024 < ns1.length + 1 ∨ 32 < depN (ns1 ++ [⟨1, [], l1⟩])
    · right; left
      rw [if_pos hb, if_pos (by rcases hb with h | h; exact .inl (by omega); exact .inr (by omega))]
      exact ⟨rfl, rfl⟩
    · rw [if_neg hb]
      by_cases hb2 : 1024 < ns1.length + 2 ∨ 32 < depN ((incN :: ns1.map upN) ++ [⟨1, [], 0 :: uL l1⟩])
      · right; right; left
        rw [if_pos hb2]
        exact ⟨rfl, rfl⟩
      · right; right; right
        rw [if_neg hb2]
        exact ⟨rfl, rfl, ns1, l1, rfl, rfl⟩
/-- Where words are refused. -/
theorem begin_par (l y : List Tok) (h : (parO l).2.2 = 120) : (parO l).2.1 ≤ l.length ∧ ((parO l).2.1 < l.length → ((l.take ((parO l).2.1 + 1)) ++ y).length ≤ 4096 →
    (parO (l.take ((parO l).2.1 + 1) ++ y)).2.2 = 120 ∧ (parO (l.take ((parO l).2.1 + 1) ++ y)).2.1 = (parO l).2.1 ∧
    ((parO (l.take (parO l).2.1)).2.2 = 0 ∨ (parO (l.take (parO l).2.1)).2.2 = 5 ∨ ((parO (l.take (parO l).2.1)).2.2 = 120 ∧ (parO (l.take (parO l).2.1)).2.1 = (parO l).2.1))) := by
  have hl : ¬ 4096 < l.length := by
    intro hh
    unfold parO at h
    rw [if_pos hh] at h
    cases h
  cases ht : topF (stmtF 5000) 5000 [] ⟨l, []⟩ with
  | ok s x =>
    exfalso
    unfold parO at h
    rw [if_neg hl, ht] at h
    simp only at h
    split at h <;> cases h
  | err r =>
    obtain ⟨c, e, h1, h2⟩ := top_err (Lc.stmt 5000) (Eats.stmt 5000) 5000 [] ⟨l, []⟩ r ht (by show l.length < 5000; omega)
    simp only at e h1 h2
    have hat : (parO l).2.1 = c.length := by
      unfold parO
      rw [if_neg hl, ht]
      simp only
      rw [e, List.length_append]
      omega
    rw [hat]
    have hlen : l.length = c.length + r.length := by rw [e, List.length_append]
    refine ⟨by omega, fun hlt hlen2 => ?_⟩
    cases r with
    | nil => simp at hlen; omega
    | cons t r =>
      have htk1 : l.take (c.length + 1) = c ++ [t] := by rw [e, List.take_append, List.take_of_length_le (by omega), Nat.add_sub_cancel_left]; rfl
      have htk : l.take c.length = c := by rw [e]; simp
      rw [htk1] at hlen2 ⊢
      rw [htk]
      have hy := h1 (t :: y) rfl
      have hassoc : c ++ [t] ++ y = c ++ t :: y := by simp
      rw [hassoc] at hlen2 ⊢
      refine ⟨?_, ?_, ?_⟩
      · unfold parO
        rw [if_neg (by omega), hy]
      · unfold parO
        rw [if_neg (by omega), hy]
        simp
      · unfold parO
        rw [if_neg (by omega)]
        rcases h2 with h2 | ⟨s', a, h2⟩
        · rw [h2]
          right; right
          simp
        · rw [h2]
          simp only
          split
          · right; left; rfl
          · left; rfl
end Go.Proofs.YtfpdgdacifiejaaGreat

/-
  Layer 12: the grammar in the form in which the program reads it. No program text.
  Conditions: those that each theorem states.
  Layer 13: values as trees: how their nodes stand, their words as they are printed; what is read is a tree; a tree's words are read as that tree. No program text.
  Conditions: those that each theorem states.
-/
import Derived.Test.YtfpdgdacifiejaaGreatVPar
namespace Go.Proofs.YtfpdgdacifiejaaGreat

theorem bind_bind {α β γ : Type} (f : Prs α) (g : α → Prs β) (h : β → Prs γ) : pbind (pbind f g) h = pbind f fun a => pbind (g a) h := by
  funext s
  unfold pbind
  cases f s <;> rfl
theorem bind_prt {α β : Type} (a : α) (g : α → Prs β) : pbind (prt a) g = g a := rfl
theorem ifT_bind {α β : Type} (p : Tok → Bool) (f : List UInt8 → Prs α) (g : Prs α) (h : α → Prs β) : pbind (ifT p f g) h = ifT p (fun t => pbind (f t) h) (pbind g h) := by
  funext s
  unfold pbind ifT
  obtain ⟨sr, ns⟩ := s
  cases sr with
  | nil => rfl
  | cons t r =>
    simp only
    cases p t <;> rfl
/-- A param, an attr, a ref, an arrow. -/
def paramF (n : Nat) : Prs Nat := pbind (must (isKd 3)) fun t => ifT (isSg [61]) (fun _ => pbind (value n) fun v => pnode 4 t [v]) (pnode 4 t [])
def attrF (n : Nat) : Prs Nat := pbind (must isPl) fun a => pbind (must (isSg [61, 62])) fun _ => pbind (value n) fun v => pnode 9 a [v]
def refF (n : Nat) : Prs Nat := pbind (must (isKd 2)) fun t => refOf n t
def arrowF : Prs Nat := pbind (must isAw) fun t => pnode 12 t []
/-- Parts with commas between them, the sign e behind. -/
def listR (part : Prs Nat) (e : List UInt8) : Nat → List Nat → Prs (List Nat)
  | 0, _ => pfail
  | k + 1, l => pbind part fun x => ifT (isSg [44]) (fun _ => listR part e k (l ++ [x])) (pbind (must (isSg e)) fun _ => prt (l ++ [x]))
def listF (part : Prs Nat) (e : List UInt8) (n : Nat) : Prs (List Nat) := ifT (isSg e) (fun _ => prt []) (listR part e n [])
theorem parLoop_eq (n : Nat) : ∀ k l, parLoop n k l = listR (paramF n) [41] k l
  | 0, _ => rfl
  | k + 1, l => by
    unfold parLoop listR paramF
    rw [bind_bind]
    congr 1
    funext t
    rw [ifT_bind, ifT_bind]
    congr 1
    · funext _
      rw [bind_bind, bind_bind]
      congr 1
      funext v
      rw [bind_prt]
      congr 1
      funext x
      rw [parLoop_eq n k]
      rfl
    · rw [bind_prt]
      congr 1
      funext x
      rw [parLoop_eq n k]
      rfl
theorem params_eq (n : Nat) : params n = ifT (isSg [40]) (fun _ => listF (paramF n) [41] n) (prt []) := by
  unfold params listF
  rw [parLoop_eq]
theorem listR_shift (part : Prs Nat) (e : List UInt8) (a : List Nat) (K : List Nat → Prs Nat) : ∀ k l, pbind (listR part e k (a ++ l)) K = pbind (listR part e k l) fun r => K (a ++ r)
  | 0, _ => rfl
  | k + 1, l => by
    unfold listR
    rw [bind_bind, bind_bind]
    congr 1
    funext x
    rw [ifT_bind, ifT_bind, List.append_assoc, listR_shift part e a K k (l ++ [x]), bind_bind, bind_bind]
    rfl
theorem attLoop_eq (n : Nat) (t : List UInt8) : ∀ k l, attLoop n t k l = pbind (listR (attrF n) [125] k l) fun r => pnode 8 t r
  | 0, _ => rfl
  | k + 1, l => by
    unfold attLoop listR attrF
    rw [bind_bind, bind_bind]
    congr 1
    funext a
    rw [bind_bind]
    congr 1
    funext _
    rw [bind_bind]
    congr 1
    funext v
    congr 1
    funext x
    rw [ifT_bind, bind_bind, attLoop_eq n t k]
    rfl
theorem resOf_eq (n : Nat) (t : List UInt8) : resOf n t = pbind (must (isSg [123])) fun _ => pbind (value n) fun v => pbind (must (isSg [58])) fun _ => pbind (listF (attrF n) [125] n) fun r => pnode 8 t ([v] ++ r) := by
  unfold resOf
  congr 1
  funext _
  congr 1
  funext v
  congr 1
  funext _
  unfold listF
  rw [ifT_bind, attLoop_eq, ← listR_shift]
  rfl
/-- Behind two refs and an arrow. -/
def chR (n k : Nat) (l : List Nat) : Prs Nat := ifT isAw (fun s2 => chLoop n k l s2) (pnode 10 [] l)
theorem ifT_must {α : Type} {p : Tok → Bool} {f : List UInt8 → Prs α} {s : PSt} (h : tkB p s.r = true) : (pbind (must p) f) s = f (hdT s.r) ⟨s.r.tail, s.ns⟩ := bind_ok (must_t h)
theorem chLoop_eq (n k : Nat) (l : List Nat) (t : List UInt8) : chLoop n (k + 1) l t = pbind (pnode 12 t []) fun x => pbind (refF n) fun r => chR n k (l ++ [x, r]) := by
  unfold refF
  conv => lhs; unfold chLoop
  congr 1
  funext x
  rw [bind_bind]
  rfl
theorem chR_yes {n k : Nat} {l : List Nat} {s : PSt} (h : tkB isAw s.r = true) : chR n (k + 1) l s = (pbind arrowF fun x => pbind (refF n) fun r => chR n k (l ++ [x, r])) s := by
  unfold arrowF
  rw [bind_bind, ifT_must h]
  unfold chR
  rw [ifT_t h, chLoop_eq]
  rfl
theorem chain_eq (n k : Nat) (hk : n = k + 1) : (pbind (must (isKd 2)) fun t => chain n t) = pbind (refF n) fun r => pbind arrowF fun x => pbind (refF n) fun q => chR n k [r, x, q] := by
  subst hk
  unfold arrowF
  rw [show refF (k + 1) = pbind (must (isKd 2)) fun t => refOf (k + 1) t from rfl]
  rw [bind_bind]
  congr 1
  funext t
  unfold chain
  congr 1
  funext r
  rw [bind_bind]
  congr 1
  funext t2
  rw [chLoop_eq]
  rfl
/- Statements. -/
def setF (n : Nat) : Prs Nat := pbind (must (isKd 3)) fun t => pbind (must (isSg [61])) fun _ => pbind (value n) fun v => pnode 6 t [v]
def incF : Prs Nat := pbind (must isNm) fun t => pnode 5 t []
def resF (n : Nat) : Prs Nat := pbind (must isNm) fun t => resOf n t
def chainF (n : Nat) : Prs Nat := pbind (must (isKd 2)) fun t => chain n t
theorem no_ky {x : List UInt8} {r : List Tok} (h : hdK r ≠ 1) : tkB (isKy x) r = false := by
  cases r with
  | nil => rfl
  | cons t r => show isKy x t = false; unfold isKy; simp only [hdK] at h; simp [h]
theorem no_nm {r : List Tok} (h : hdK r ≠ 1) : tkB isNm r = false := by
  cases r with
  | nil => rfl
  | cons t r => show isNm t = false; unfold isNm; simp only [hdK] at h; simp [h]
theorem is_ky {x : List UInt8} {r : List Tok} (h : hdK r = 1) : tkB (isKy x) r = decide (hdT r = x) := by
  cases r with
  | nil => simp [hdK] at h
  | cons t r =>
    show isKy x t = _
    unfold isKy
    simp only [hdK] at h
    simp only [hdT, h]
    by_cases hx : t.tx = x <;> simp [hx]
theorem is_kd {k : Int} {r : List Tok} (hk : k ≠ 0) : tkB (isKd k) r = decide (hdK r = k) := by
  cases r with
  | nil => simp [tkB, hdK, Ne.symm hk]
  | cons t r => rfl
theorem stmt_var {n : Nat} {s : PSt} (h : hdK s.r = 3) : stmtF (n + 1) s = setF n s := by
  have h1 : hdK s.r ≠ 1 := by omega
  have hb : tkB (isKd 3) s.r = true := by rw [is_kd (by decide)]; simpa using h
  unfold stmtF setF
  rw [ifT_f (no_ky h1), ifT_f (no_ky h1), ifT_f (no_ky h1), ifT_t hb, ifT_must hb]
theorem stmt_type {n : Nat} {s : PSt} (h : hdK s.r = 2) : stmtF (n + 1) s = chainF n s := by
  have h1 : hdK s.r ≠ 1 := by omega
  have hb : tkB (isKd 2) s.r = true := by rw [is_kd (by decide)]; simpa using h
  have hb3 : tkB (isKd 3) s.r = false := by rw [is_kd (by decide)]; simp; omega
  unfold stmtF chainF
  rw [ifT_f (no_ky h1), ifT_f (no_ky h1), ifT_f (no_ky h1), ifT_f hb3, ifT_f (no_ky h1), ifT_f (no_nm h1), ifT_t hb, ifT_must hb]
theorem stmt_none {n : Nat} {s : PSt} (h1 : hdK s.r ≠ 1) (h2 : hdK s.r ≠ 2) (h3 : hdK s.r ≠ 3) : stmtF (n + 1) s = .err s.r := by
  have hb : tkB (isKd 2) s.r = false := by rw [is_kd (by decide)]; simpa using h2
  have hb3 : tkB (isKd 3) s.r = false := by rw [is_kd (by decide)]; simpa using h3
  unfold stmtF
  rw [ifT_f (no_ky h1), ifT_f (no_ky h1), ifT_f (no_ky h1), ifT_f hb3, ifT_f (no_ky h1), ifT_f (no_nm h1), ifT_f hb]
  rfl
theorem stmt_class {n : Nat} {s : PSt} (h : hdK s.r = 1) (ht : hdT s.r = [99, 108, 97, 115, 115]) : stmtF (n + 1) s = classy n (stmtF n) 2 ⟨s.r.tail, s.ns⟩ := by
  conv => lhs; unfold stmtF
  rw [ifT_t (by rw [is_ky h, ht]; rfl)]
theorem stmt_define {n : Nat} {s : PSt} (h : hdK s.r = 1) (ht : hdT s.r = [100, 101, 102, 105, 110, 101]) : stmtF (n + 1) s = classy n (stmtF n) 3 ⟨s.r.tail, s.ns⟩ := by
  conv => lhs; unfold stmtF
  rw [ifT_f (by rw [is_ky h, ht]; rfl), ifT_t (by rw [is_ky h, ht]; rfl)]
theorem stmt_include {n : Nat} {s : PSt} (h : hdK s.r = 1) (ht : hdT s.r = [105, 110, 99, 108, 117, 100, 101]) : stmtF (n + 1) s = incF ⟨s.r.tail, s.ns⟩ := by
  conv => lhs; unfold stmtF
  rw [ifT_f (by rw [is_ky h, ht]; rfl), ifT_f (by rw [is_ky h, ht]; rfl), ifT_t (by rw [is_ky h, ht]; rfl)]
  rfl
theorem stmt_if {n : Nat} {s : PSt} (h : hdK s.r = 1) (ht : hdT s.r = [105, 102]) : stmtF (n + 1) s = ifOf n (stmtF n) ⟨s.r.tail, s.ns⟩ := by
  conv => lhs; unfold stmtF
  rw [ifT_f (by rw [is_ky h, ht]; rfl), ifT_f (by rw [is_ky h, ht]; rfl), ifT_f (by rw [is_ky h, ht]; rfl), ifT_f (by rw [is_kd (by decide)]; simp; omega), ifT_t (by rw [is_ky h, ht]; rfl)]
theorem stmt_res {n : Nat} {s : PSt} (h : hdK s.r = 1) (h1 : hdT s.r ≠ [99, 108, 97, 115, 115]) (h2 : hdT s.r ≠ [100, 101, 102, 105, 110, 101]) (h3 : hdT s.r ≠ [105, 110, 99, 108, 117, 100, 101]) (h4 : hdT s.r ≠ [105, 102]) : stmtF (n + 1) s = resF n s := by
  conv => lhs; unfold stmtF
  rw [ifT_f (by rw [is_ky h]; simpa using h1), ifT_f (by rw [is_ky h]; simpa using h2), ifT_f (by rw [is_ky h]; simpa using h3), ifT_f (by rw [is_kd (by decide)]; simp; omega), ifT_f (by rw [is_ky h]; simpa using h4)]
  unfold resF
  cases hb : tkB isNm s.r with
  | true => rw [ifT_t hb, ifT_must hb]
  | false =>
    rw [ifT_f hb, ifT_f (by rw [is_kd (by decide)]; simp; omega), bind_err (must_f hb)]
    rfl
theorem plain_kd {n : Nat} {s : PSt} {K : Int} {k : Nat} (h : hdK s.r = K) (hK : (K = 4 ∧ k = 13) ∨ (K = 5 ∧ k = 14) ∨ (K = 6 ∧ k = 15) ∨ (K = 3 ∧ k = 16)) : plainF (n + 1) s = pnode k (hdT s.r) [] ⟨s.r.tail, s.ns⟩ := by
  have hs : ∀ x, tkB (isSg x) s.r = false := fun x => by
    cases hr : s.r with
    | nil => rfl
    | cons t r =>
      rw [hr] at h
      simp only [hdK] at h
      show isSg x t = false
      unfold isSg
      rw [decide_eq_false (by omega)]
      rfl
  conv => lhs; unfold plainF
  rw [ifT_f (hs _), ifT_f (hs _)]
  rcases hK with ⟨h1, rfl⟩ | ⟨h1, rfl⟩ | ⟨h1, rfl⟩ | ⟨h1, rfl⟩
  · rw [ifT_t (by rw [is_kd (by decide)]; simp; omega)]
  · rw [ifT_f (by rw [is_kd (by decide)]; simp; omega), ifT_t (by rw [is_kd (by decide)]; simp; omega)]
  · rw [ifT_f (by rw [is_kd (by decide)]; simp; omega), ifT_f (by rw [is_kd (by decide)]; simp; omega), ifT_t (by rw [is_kd (by decide)]; simp; omega)]
  · rw [ifT_f (by rw [is_kd (by decide)]; simp; omega), ifT_f (by rw [is_kd (by decide)]; simp; omega), ifT_f (by rw [is_kd (by decide)]; simp; omega), ifT_t (by rw [is_kd (by decide)]; simp; omega)]
/-- The plain that begins with a sign or a keyword. -/
def otherF (n : Nat) : Prs Nat := ifT (isSg [33]) (fun _ => pbind (plainF n) fun x => pnode 20 [] [x]) <|
    ifT (isSg [40]) (fun _ => pbind (value n) fun x => pbind (must (isSg [41])) fun _ => prt x) <|
    ifT (isKy [116, 114, 117, 101]) (fun _ => pnode 17 [] []) <| ifT (isKy [102, 97, 108, 115, 101]) (fun _ => pnode 18 [] []) pfail
theorem ifT_alt {α : Type} {p : Tok → Bool} {f : List UInt8 → Prs α} {g g' : Prs α} {s : PSt} (h : g s = g' s) : ifT p f g s = ifT p f g' s := by
  cases hb : tkB p s.r with
  | true => rw [ifT_t hb, ifT_t hb]
  | false => rw [ifT_f hb, ifT_f hb, h]
theorem plain_other {n : Nat} {s : PSt} (h3 : hdK s.r ≠ 3) (h4 : hdK s.r ≠ 4) (h5 : hdK s.r ≠ 5) (h6 : hdK s.r ≠ 6) : plainF (n + 1) s = otherF n s := by
  conv => lhs; unfold plainF
  unfold otherF
  refine ifT_alt (ifT_alt ?_)
  rw [ifT_f (by rw [is_kd (by decide)]; simpa using h4), ifT_f (by rw [is_kd (by decide)]; simpa using h5), ifT_f (by rw [is_kd (by decide)]; simpa using h6), ifT_f (by rw [is_kd (by decide)]; simpa using h3)]
end Go.Proofs.YtfpdgdacifiejaaGreat

namespace Go.Proofs.YtfpdgdacifiejaaGreat

/-- A value. -/
inductive VT where
  | leaf (k : Nat) (tx : List UInt8)
  | tf (b : Bool)
  | neg (v : VT)
  | op (tx : List UInt8) (a b : VT)
def VT.size : VT → Nat
  | .leaf _ _ => 1
  | .tf _ => 1
  | .neg v => v.size + 1
  | .op _ a b => a.size + b.size + 1
/-- Its nodes, n of them being ahead. -/
def VT.lay : VT → Nat → List Nod
  | .leaf k tx, _ => [⟨k, tx, []⟩]
  | .tf b, _ => [⟨if b then 17 else 18, [], []⟩]
  | .neg v, n => v.lay n ++ [⟨20, [], [n + v.size - 1]⟩]
  | .op tx a b, n => a.lay n ++ (b.lay (n + a.size) ++ [⟨19, tx, [n + a.size - 1, n + a.size + b.size - 1]⟩])
theorem VT.pos : ∀ t : VT, 0 < t.size
  | .leaf _ _ => by simp [VT.size]
  | .tf _ => by simp [VT.size]
  | .neg _ => by simp [VT.size]
  | .op _ _ _ => by simp [VT.size]
theorem VT.len : ∀ (t : VT) (n : Nat), (t.lay n).length = t.size
  | .leaf _ _, _ => rfl
  | .tf _, _ => rfl
  | .neg v, n => by simp [VT.lay, VT.size, v.len n]
  | .op _ a b, n => by simp [VT.lay, VT.size, a.len n, b.len (n + a.size)]; omega
/-- The kind of the word that a leaf is. -/
def leafK (k : Nat) : Int := if k = 13 then 4 else if k = 14 then 5 else if k = 15 then 6 else 3
def opsT : List (List UInt8) := [[61, 61], [33, 61], [97, 110, 100], [111, 114]]
def opW (tx : List UInt8) : Tok := if tx = [61, 61] ∨ tx = [33, 61] then ⟨7, tx⟩ else ⟨1, tx⟩
def sgT (c : UInt8) : Tok := ⟨7, [c]⟩
/-- Its words, as they are printed. -/
def VT.ws : VT → List Tok
  | .leaf k tx => [⟨leafK k, tx⟩]
  | .tf b => [⟨1, if b then [116, 114, 117, 101] else [102, 97, 108, 115, 101]⟩]
  | .neg v => sgT 33 :: v.ws
  | .op tx a b => sgT 40 :: (a.ws ++ (opW tx :: (b.ws ++ [sgT 41])))
/-- All its texts may be. -/
def VT.Ok (P : Tok → Prop) : VT → Prop
  | .leaf k tx => (k = 13 ∨ k = 14 ∨ k = 15 ∨ k = 16) ∧ P ⟨leafK k, tx⟩
  | .tf _ => True
  | .neg v => v.Ok P
  | .op tx a b => tx ∈ opsT ∧ a.Ok P ∧ b.Ok P

/- What is read is a tree. -/
def RdV (P : Tok → Prop) (f : Prs Nat) : Prop := ∀ s s' x, f s = .ok s' x → (∀ w ∈ s.r, P w) → ∃ t : VT, t.Ok P ∧ s'.ns = s.ns ++ t.lay s.ns.length ∧ x + 1 = s.ns.length + t.size
theorem Lc.sub {α : Type} {f : Prs α} (h : Lc f) {P : Tok → Prop} {s s' : PSt} {a : α} (e : f s = .ok s' a) (hp : ∀ w ∈ s.r, P w) : ∀ w ∈ s'.r, P w := by
  obtain ⟨c, h1, _⟩ := h.ok s s' a e
  intro w hw
  exact hp w (by rw [h1]; simp [hw])
theorem ifT_ok {α : Type} {p : Tok → Bool} {f : List UInt8 → Prs α} {g : Prs α} {s s' : PSt} {a : α} (h : ifT p f g s = .ok s' a) :
    (∃ t r, s.r = t :: r ∧ p t = true ∧ f t.tx ⟨r, s.ns⟩ = .ok s' a) ∨ (tkB p s.r = false ∧ g s = .ok s' a) := by
  cases hb : tkB p s.r with
  | true =>
    obtain ⟨t, r, h1, h2, h3, h4⟩ := tk_split hb
    rw [ifT_t hb, h3, h4] at h
    exact .inl ⟨t, r, h1, h2, h⟩
  | false =>
    rw [ifT_f hb] at h
    exact .inr ⟨rfl, h⟩
theorem bind_get {α β : Type} {f : Prs α} {g : α → Prs β} {s s' : PSt} {b : β} (h : pbind f g s = .ok s' b) : ∃ s1 a, f s = .ok s1 a ∧ g a s1 = .ok s' b := by
  unfold pbind at h
  cases hf : f s with
  | err r => rw [hf] at h; cases h
  | ok s1 a => rw [hf] at h; exact ⟨s1, a, rfl, h⟩
theorem must_get {p : Tok → Bool} {s s' : PSt} {tx : List UInt8} (h : must p s = .ok s' tx) : ∃ t r, s.r = t :: r ∧ p t = true ∧ tx = t.tx ∧ s' = ⟨r, s.ns⟩ := by
  obtain ⟨sr, ns⟩ := s
  unfold must at h
  cases sr with
  | nil => cases h
  | cons t r =>
    simp only at h
    split at h
    · rename_i hp
      injection h with h1 h2
      exact ⟨t, r, rfl, hp, h2.symm, h1.symm⟩
    · cases h
theorem node_get {k : Nat} {tx : List UInt8} {l : List Nat} {s s' : PSt} {x : Nat} (h : pnode k tx l s = .ok s' x) : s' = ⟨s.r, s.ns ++ [⟨k, tx, l⟩]⟩ ∧ x = s.ns.length := by
  unfold pnode at h
  injection h with h1 h2
  exact ⟨h1.symm, h2.symm⟩
theorem opLoop_rd {P : Tok → Prop} {sub : Prs Nat} (hs : RdV P sub) (hl : Lc sub) (p : Tok → Bool) (hp : ∀ t, p t = true → t.tx ∈ opsT) : ∀ (k x : Nat) (s s' : PSt) (x' : Nat) (ns0 : List Nod) (t0 : VT), opLoop sub p k x s = .ok s' x' → (∀ w ∈ s.r, P w) → t0.Ok P → s.ns = ns0 ++ t0.lay ns0.length → x + 1 = ns0.length + t0.size →
      ∃ t : VT, t.Ok P ∧ s'.ns = ns0 ++ t.lay ns0.length ∧ x' + 1 = ns0.length + t.size
  | 0, _, _, _, _, _, _, h, _, _, _, _ => by cases h
  | k + 1, x, s, s', x', ns0, t0, h, hw, h0, hn, hx => by
    rcases ifT_ok h with ⟨t, r, h1, h2, h3⟩ | ⟨_, h3⟩
    · obtain ⟨s1, y, h4, h5⟩ := bind_get h3
      obtain ⟨s2, z, h6, h7⟩ := bind_get h5
      obtain ⟨rfl, rfl⟩ := node_get h6
      have hw1 : ∀ w ∈ r, P w := fun w hm => hw w (by rw [h1]; simp [hm])
      obtain ⟨tb, g1, g2, g3⟩ := hs _ _ _ h4 hw1
      simp only at g2 g3
      have hlen : s.ns.length = ns0.length + t0.size := by rw [hn, List.length_append, t0.len]
      have hl1 : s1.ns.length = ns0.length + t0.size + tb.size := by rw [g2, List.length_append, tb.len, hlen]
      refine opLoop_rd hs hl p hp k _ _ s' x' ns0 (.op t.tx t0 tb) h7 (fun w hm => Lc.sub (s := ⟨r, s.ns⟩) (s' := s1) hl h4 hw1 w hm) ⟨hp t h2, h0, g1⟩ ?_ ?_
      · show s1.ns ++ [⟨19, t.tx, [x, y]⟩] = _
        rw [g2, hlen, hn]
        simp only [VT.lay, List.append_assoc]
        congr 3
        have e1 : x = ns0.length + t0.size - 1 := by omega
        have e2 : y = ns0.length + t0.size + tb.size - 1 := by omega
        rw [e1, e2]
      · rw [hl1]
        simp only [VT.size]
        omega
    · unfold prt at h3
      injection h3 with h4 h5
      subst h4 h5
      exact ⟨t0, h0, hn, hx⟩
theorem joined_rd {P : Tok → Prop} {sub : Prs Nat} (hs : RdV P sub) (hl : Lc sub) (p : Tok → Bool) (hp : ∀ t, p t = true → t.tx ∈ opsT) (n : Nat) : RdV P (pbind sub fun x => opLoop sub p n x) := by
  intro s s' x h hw
  obtain ⟨s1, y, h1, h2⟩ := bind_get h
  obtain ⟨t, g1, g2, g3⟩ := hs _ _ _ h1 hw
  exact opLoop_rd hs hl p hp n y s1 s' x s.ns t h2 (hl.sub h1 hw) g1 g2 g3
theorem eq_ops : ∀ t, isEq t = true → t.tx ∈ opsT := fun t h => by
  unfold isEq isSg at h
  simp at h
  rcases h with ⟨_, h⟩ | ⟨_, h⟩ <;> rw [h] <;> decide
theorem and_ops : ∀ t, isKy [97, 110, 100] t = true → t.tx ∈ opsT := fun t h => by
  unfold isKy at h
  simp at h
  rw [h.2]; decide
theorem or_ops : ∀ t, isKy [111, 114] t = true → t.tx ∈ opsT := fun t h => by
  unfold isKy at h
  simp at h
  rw [h.2]; decide
theorem Lc.equalOf12 (n : Nat) : Lc (equalOf n (plainF n)) := (Lc.plain n).bind fun x => Lc.opLoop (Lc.plain n) _ n x
theorem Lc.bothOf12 (n : Nat) : Lc (bothOf n (plainF n)) := (Lc.equalOf12 n).bind fun x => Lc.opLoop (Lc.equalOf12 n) _ n x
theorem valueOf_rd {P : Tok → Prop} {n : Nat} (hs : RdV P (plainF n)) : RdV P (value n) :=
  joined_rd (joined_rd (joined_rd hs (Lc.plain n) isEq eq_ops n) (Lc.equalOf12 n) (isKy [97, 110, 100]) and_ops n) (Lc.bothOf12 n) (isKy [111, 114]) or_ops n
theorem plain_rd (P : Tok → Prop) : ∀ n, RdV P (plainF n)
  | 0 => fun s s' x h => by cases h
  | n + 1 => fun s s' x h hw => by
    have hv := valueOf_rd (plain_rd P n)
    have leaf : ∀ (k : Nat) (K : Int) (t : Tok) (r : List Tok), s.r = t :: r → isKd K t = true → leafK k = K → (k = 13 ∨ k = 14 ∨ k = 15 ∨ k = 16) → pnode k t.tx [] ⟨r, s.ns⟩ = .ok s' x → ∃ t : VT, t.Ok P ∧ s'.ns = s.ns ++ t.lay s.ns.length ∧ x + 1 = s.ns.length + t.size := by
      intro k K t r h1 h2 h3 hk h4
      obtain ⟨rfl, rfl⟩ := node_get h4
      have ht := hw t (by rw [h1]; simp)
      refine ⟨.leaf k t.tx, ⟨hk, ?_⟩, rfl, rfl⟩
      unfold isKd at h2
      have hkd : t.kd = K := of_decide_eq_true h2
      rw [h3, ← hkd]
      exact ht
    have tf : ∀ (b : Bool) (r : List Tok), pnode (if b then 17 else 18) [] [] ⟨r, s.ns⟩ = .ok s' x → ∃ t : VT, t.Ok P ∧ s'.ns = s.ns ++ t.lay s.ns.length ∧ x + 1 = s.ns.length + t.size := by
      intro b r h4
      obtain ⟨rfl, rfl⟩ := node_get h4
      exact ⟨.tf b, trivial, rfl, rfl⟩
    unfold plainF at h
    rcases ifT_ok h with ⟨t, r, h1, h2, h3⟩ | ⟨_, h⟩
    · obtain ⟨s1, y, h4, h5⟩ := bind_get h3
      obtain ⟨rfl, rfl⟩ := node_get h5
      obtain ⟨tv, g1, g2, g3⟩ := plain_rd P n _ _ _ h4 (fun w hm => hw w (by rw [h1]; simp [hm]))
      simp only at g2 g3
      refine ⟨.neg tv, g1, ?_, ?_⟩
      · show s1.ns ++ _ = _
        rw [g2, List.append_assoc]
        have : y = s.ns.length + tv.size - 1 := by omega
        rw [this]
        rfl
      · rw [g2, List.length_append, tv.len]
        rfl
    rcases ifT_ok h with ⟨t, r, h1, h2, h3⟩ | ⟨_, h⟩
    · obtain ⟨s1, y, h4, h5⟩ := bind_get h3
      obtain ⟨s2, _, h6, h7⟩ := bind_get h5
      obtain ⟨u, r2, _, _, _, rfl⟩ := must_get h6
      unfold prt at h7
      injection h7 with h8 h9
      subst h8 h9
      obtain ⟨tv, g1, g2, g3⟩ := hv _ _ _ h4 (fun w hm => hw w (by rw [h1]; simp [hm]))
      exact ⟨tv, g1, g2, g3⟩
    rcases ifT_ok h with ⟨t, r, h1, h2, h3⟩ | ⟨_, h⟩
    · exact leaf 13 4 t r h1 h2 rfl (by omega) h3
    rcases ifT_ok h with ⟨t, r, h1, h2, h3⟩ | ⟨_, h⟩
    · exact leaf 14 5 t r h1 h2 rfl (by omega) h3
    rcases ifT_ok h with ⟨t, r, h1, h2, h3⟩ | ⟨_, h⟩
    · exact leaf 15 6 t r h1 h2 rfl (by omega) h3
    rcases ifT_ok h with ⟨t, r, h1, h2, h3⟩ | ⟨_, h⟩
    · exact leaf 16 3 t r h1 h2 rfl (by omega) h3
    rcases ifT_ok h with ⟨t, r, h1, h2, h3⟩ | ⟨_, h⟩
    · exact tf true r h3
    rcases ifT_ok h with ⟨t, r, h1, h2, h3⟩ | ⟨_, h⟩
    · exact tf false r h3
    cases h
theorem value_rd (P : Tok → Prop) (n : Nat) : RdV P (value n) := valueOf_rd (plain_rd P n)

/- A tree's words are read as that tree. -/
theorem loop_stop {sub : Prs Nat} {p : Tok → Bool} {k x : Nat} {s : PSt} (h : tkB p s.r = false) : opLoop sub p (k + 1) x s = .ok s x := by
  unfold opLoop
  rw [ifT_f h]
  rfl
theorem loop_step {sub : Prs Nat} {p : Tok → Bool} {k x y : Nat} {w : Tok} {r r' : List Tok} {ns ns' : List Nod} (h : p w = true) (hs : sub ⟨r, ns⟩ = .ok ⟨r', ns'⟩ y) (h2 : tkB p r' = false) :
    opLoop sub p (k + 2) x ⟨w :: r, ns⟩ = .ok ⟨r', ns' ++ [⟨19, w.tx, [x, y]⟩]⟩ ns'.length := by
  show ifT p _ _ _ = _
  rw [ifT_t (show tkB p (w :: r) = true from h)]
  show pbind sub _ ⟨r, ns⟩ = _
  rw [bind_ok hs]
  show pbind (pnode 19 w.tx [x, y]) _ _ = _
  unfold pbind pnode
  exact loop_stop h2
/-- No operator is ahead. -/
def NoOp (r : List Tok) : Prop := tkB isEq r = false ∧ tkB (isKy [97, 110, 100]) r = false ∧ tkB (isKy [111, 114]) r = false
theorem value_ok {n x : Nat} {s s' : PSt} (hn : 0 < n) (h : plainF n s = .ok s' x) (ho : NoOp s'.r) : value n s = .ok s' x ∧ bothOf n (plainF n) s = .ok s' x ∧ equalOf n (plainF n) s = .ok s' x := by
  obtain ⟨k, rfl⟩ : ∃ k, n = k + 1 := ⟨n - 1, by omega⟩
  have h1 : equalOf (k + 1) (plainF (k + 1)) s = .ok s' x := by
    unfold equalOf
    rw [bind_ok h]
    exact loop_stop ho.1
  have h2 : bothOf (k + 1) (plainF (k + 1)) s = .ok s' x := by
    unfold bothOf
    rw [bind_ok h1]
    exact loop_stop ho.2.1
  have h3 : value (k + 1) s = .ok s' x := by
    unfold value valueOf
    rw [bind_ok h2]
    exact loop_stop ho.2.2
  exact ⟨h3, h2, h1⟩
theorem noOp_sg (c : UInt8) (r : List Tok) : NoOp (sgT c :: r) := by
  refine ⟨?_, ?_, ?_⟩ <;> show _ = false
  · show isEq (sgT c) = false
    simp [isEq, isSg, sgT]
  · rfl
  · rfl
theorem plain_back {P : Tok → Prop} : ∀ (t : VT) (n : Nat) (rest : List Tok) (ns : List Nod), t.Ok P → (t.ws ++ rest).length < n → plainF n ⟨t.ws ++ rest, ns⟩ = .ok ⟨rest, ns ++ t.lay ns.length⟩ (ns.length + t.size - 1)
  | _, 0, _, _, _, h => absurd h (Nat.not_lt_zero _)
  | .leaf k tx, n + 1, rest, ns, ho, _ => by
    rw [plain_kd (K := leafK k) (k := k) rfl (by rcases ho.1 with rfl | rfl | rfl | rfl <;> simp [leafK])]
    rfl
  | .tf b, n + 1, rest, ns, _, _ => by
    rw [plain_other (by simp [VT.ws, hdK]) (by simp [VT.ws, hdK]) (by simp [VT.ws, hdK]) (by simp [VT.ws, hdK])]
    cases b
    · rfl
    · rfl
  | .neg v, n + 1, rest, ns, ho, hl => by
    have ih := plain_back v n rest ns ho (by simp [VT.ws] at hl ⊢; omega)
    unfold plainF
    rw [ifT_t (show tkB (isSg [33]) (sgT 33 :: (v.ws ++ rest)) = true from rfl)]
    show pbind (plainF n) _ ⟨v.ws ++ rest, ns⟩ = _
    rw [bind_ok ih]
    unfold pnode
    simp only [VT.lay, VT.size, List.append_assoc, List.length_append, v.len]
    rfl
  | .op tx a b, n + 1, rest, ns, ho, hl => by
    have hla : (VT.op tx a b).ws ++ rest = sgT 40 :: (a.ws ++ (opW tx :: (b.ws ++ (sgT 41 :: rest)))) := by simp [VT.ws]
    have hlen : (a.ws ++ (opW tx :: (b.ws ++ (sgT 41 :: rest)))).length < n := by
      have := congrArg List.length hla
      rw [List.length_cons] at this
      omega
    obtain ⟨m, rfl⟩ : ∃ m, n = m + 2 := ⟨n - 2, by simp at hlen; omega⟩
    have iha := plain_back a (m + 2) (opW tx :: (b.ws ++ (sgT 41 :: rest))) ns ho.2.1 hlen
    have ihb := plain_back b (m + 2) (sgT 41 :: rest) (ns ++ a.lay ns.length) ho.2.2 (by simp at hlen ⊢; omega)
    have hb3 := value_ok (s := ⟨b.ws ++ (sgT 41 :: rest), ns ++ a.lay ns.length⟩) (by omega) ihb (noOp_sg 41 rest)
    have hno := noOp_sg 41 rest
    have hll : (ns ++ a.lay ns.length).length = ns.length + a.size := by rw [List.length_append, a.len]
    rw [hll] at ihb hb3
    have hfin : value (m + 2) ⟨a.ws ++ (opW tx :: (b.ws ++ (sgT 41 :: rest))), ns⟩ = .ok ⟨sgT 41 :: rest, ns ++ (VT.op tx a b).lay ns.length⟩ (ns.length + (VT.op tx a b).size - 1) := by
      have hns : ((ns ++ a.lay ns.length) ++ b.lay (ns.length + a.size)) ++ [⟨19, tx, [ns.length + a.size - 1, ns.length + a.size + b.size - 1]⟩] = ns ++ (VT.op tx a b).lay ns.length := by simp [VT.lay]
      have hx : ((ns ++ a.lay ns.length) ++ b.lay (ns.length + a.size)).length = ns.length + (VT.op tx a b).size - 1 := by
        rw [List.length_append, hll, b.len]
        simp only [VT.size]
        omega
      have hopx : (opW tx).tx = tx := by unfold opW; split <;> rfl
      have cases4 : tx = [61, 61] ∨ tx = [33, 61] ∨ tx = [97, 110, 100] ∨ tx = [111, 114] := by
        have := ho.1
        simp [opsT] at this
        exact this
      rw [← hns, ← hx]
      rcases cases4 with e | e | e | e
      · have hp : isEq (opW tx) = true := by rw [e]; rfl
        have h1 := loop_step (sub := plainF (m + 2)) (p := isEq) (k := m) (x := ns.length + a.size - 1) hp ihb hno.1
        rw [hopx] at h1
        have h2 : equalOf (m + 2) (plainF (m + 2)) ⟨a.ws ++ (opW tx :: (b.ws ++ (sgT 41 :: rest))), ns⟩ = _ := (bind_ok iha).trans h1
        have h3 : bothOf (m + 2) (plainF (m + 2)) ⟨a.ws ++ (opW tx :: (b.ws ++ (sgT 41 :: rest))), ns⟩ = _ := (bind_ok h2).trans (loop_stop hno.2.1)
        exact (bind_ok h3).trans (loop_stop hno.2.2)
      · have hp : isEq (opW tx) = true := by rw [e]; rfl
        have h1 := loop_step (sub := plainF (m + 2)) (p := isEq) (k := m) (x := ns.length + a.size - 1) hp ihb hno.1
        rw [hopx] at h1
        have h2 : equalOf (m + 2) (plainF (m + 2)) ⟨a.ws ++ (opW tx :: (b.ws ++ (sgT 41 :: rest))), ns⟩ = _ := (bind_ok iha).trans h1
        have h3 : bothOf (m + 2) (plainF (m + 2)) ⟨a.ws ++ (opW tx :: (b.ws ++ (sgT 41 :: rest))), ns⟩ = _ := (bind_ok h2).trans (loop_stop hno.2.1)
        exact (bind_ok h3).trans (loop_stop hno.2.2)
      · have hp : isKy [97, 110, 100] (opW tx) = true := by rw [e]; rfl
        have hq : isEq (opW tx) = false := by rw [e]; rfl
        have h0 : equalOf (m + 2) (plainF (m + 2)) ⟨a.ws ++ (opW tx :: (b.ws ++ (sgT 41 :: rest))), ns⟩ = _ := (bind_ok iha).trans (loop_stop hq)
        have h1 := loop_step (sub := equalOf (m + 2) (plainF (m + 2))) (p := isKy [97, 110, 100]) (k := m) (x := ns.length + a.size - 1) hp hb3.2.2 hno.2.1
        rw [hopx] at h1
        have h3 : bothOf (m + 2) (plainF (m + 2)) ⟨a.ws ++ (opW tx :: (b.ws ++ (sgT 41 :: rest))), ns⟩ = _ := (bind_ok h0).trans h1
        exact (bind_ok h3).trans (loop_stop hno.2.2)
      · have hp : isKy [111, 114] (opW tx) = true := by rw [e]; rfl
        have hq : isEq (opW tx) = false := by rw [e]; rfl
        have hq2 : isKy [97, 110, 100] (opW tx) = false := by rw [e]; rfl
        have h0 : equalOf (m + 2) (plainF (m + 2)) ⟨a.ws ++ (opW tx :: (b.ws ++ (sgT 41 :: rest))), ns⟩ = _ := (bind_ok iha).trans (loop_stop hq)
        have h3 : bothOf (m + 2) (plainF (m + 2)) ⟨a.ws ++ (opW tx :: (b.ws ++ (sgT 41 :: rest))), ns⟩ = _ := (bind_ok h0).trans (loop_stop hq2)
        have h1 := loop_step (sub := bothOf (m + 2) (plainF (m + 2))) (p := isKy [111, 114]) (k := m) (x := ns.length + a.size - 1) hp hb3.2.1 hno.2.2
        rw [hopx] at h1
        exact (bind_ok h3).trans h1
    rw [hla]
    unfold plainF
    rw [ifT_f (show tkB (isSg [33]) (sgT 40 :: _) = false from rfl), ifT_t (show tkB (isSg [40]) (sgT 40 :: _) = true from rfl)]
    show pbind (value (m + 2)) _ ⟨a.ws ++ (opW tx :: (b.ws ++ (sgT 41 :: rest))), ns⟩ = _
    rw [bind_ok hfin]
    rfl
theorem value_back {P : Tok → Prop} (t : VT) (n : Nat) (rest : List Tok) (ns : List Nod) (ho : t.Ok P) (hl : (t.ws ++ rest).length < n) (hr : NoOp rest) : value n ⟨t.ws ++ rest, ns⟩ = .ok ⟨rest, ns ++ t.lay ns.length⟩ (ns.length + t.size - 1) :=
  (value_ok (by omega) (plain_back t n rest ns ho hl) hr).1
theorem VT.wpos : ∀ t : VT, 0 < t.ws.length
  | .leaf _ _ => by simp [VT.ws]
  | .tf _ => by simp [VT.ws]
  | .neg _ => by simp [VT.ws]
  | .op _ _ _ => by simp [VT.ws]
/-- A value has few words. -/
theorem VT.few : ∀ t : VT, t.ws.length ≤ 3 * t.size
  | .leaf _ _ => by simp [VT.ws, VT.size]
  | .tf _ => by simp [VT.ws, VT.size]
  | .neg v => by have := v.few; simp [VT.ws, VT.size]; omega
  | .op _ a b => by have := a.few; have := b.few; simp [VT.ws, VT.size]; omega
end Go.Proofs.YtfpdgdacifiejaaGreat

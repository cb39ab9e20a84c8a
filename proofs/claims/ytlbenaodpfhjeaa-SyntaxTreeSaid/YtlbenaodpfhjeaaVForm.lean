/-
  Layer 12: the grammar in the form in which the program reads it. No program text.
  Conditions: those that each theorem states.
-/
import Derived.Test.YtlbenaodpfhjeaaVPar
namespace Go.Proofs.Ytlbenaodpfhjeaa

theorem bind_bind {α β γ : Type} (f : Prs α) (g : α → Prs β) (h : β → Prs γ) : pbind (pbind f g) h = pbind f fun a => pbind (g a) h := by
  funext s
  unfold pbind
  cases f s <;> rfl
theorem bind_prt {α β : Type} (a : α) (g : α → Prs β) : pbind (prt a) g = g a := rfl
theorem ifT_bind {α β : Type} (p : Tok → Bool) (f : List UInt8 → Prs α) (g : Prs α) (h : α → Prs β) : pbind (ifT p f g) h = ifT p (fun t => pbind (f t) h) (pbind g h) := by
  funext s
  unfold pbind ifT
  obtain ⟨sr, ns⟩ := s
  cases sr with
  | nil => rfl
  | cons t r =>
    simp only
    cases p t <;> rfl
/-- A param, an attr, a ref, an arrow. -/
def paramF (n : Nat) : Prs Nat := pbind (must (isKd 3)) fun t => ifT (isSg [61]) (fun _ => pbind (value n) fun v => pnode 4 t [v]) (pnode 4 t [])
def attrF (n : Nat) : Prs Nat := pbind (must isPl) fun a => pbind (must (isSg [61, 62])) fun _ => pbind (value n) fun v => pnode 9 a [v]
def refF (n : Nat) : Prs Nat := pbind (must (isKd 2)) fun t => refOf n t
def arrowF : Prs Nat := pbind (must isAw) fun t => pnode 12 t []
/-- Parts with commas between them, the sign e behind. -/
def listR (part : Prs Nat) (e : List UInt8) : Nat → List Nat → Prs (List Nat)
  | 0, _ => pfail
  | k + 1, l => pbind part fun x => ifT (isSg [44]) (fun _ => listR part e k (l ++ [x])) (pbind (must (isSg e)) fun _ => prt (l ++ [x]))
def listF (part : Prs Nat) (e : List UInt8) (n : Nat) : Prs (List Nat) := ifT (isSg e) (fun _ => prt []) (listR part e n [])
theorem parLoop_eq (n : Nat) : ∀ k l, parLoop n k l = listR (paramF n) [41] k l
  | 0, _ => rfl
  | k + 1, l => by
    unfold parLoop listR paramF
    rw [bind_bind]
    congr 1
    funext t
    rw [ifT_bind, ifT_bind]
    congr 1
    · funext _
      rw [bind_bind, bind_bind]
      congr 1
      funext v
      rw [bind_prt]
      congr 1
      funext x
      rw [parLoop_eq n k]
      rfl
    · rw [bind_prt]
      congr 1
      funext x
      rw [parLoop_eq n k]
      rfl
theorem params_eq (n : Nat) : params n = ifT (isSg [40]) (fun _ => listF (paramF n) [41] n) (prt []) := by
  unfold params listF
  rw [parLoop_eq]
theorem listR_shift (part : Prs Nat) (e : List UInt8) (a : List Nat) (K : List Nat → Prs Nat) : ∀ k l, pbind (listR part e k (a ++ l)) K = pbind (listR part e k l) fun r => K (a ++ r)
  | 0, _ => rfl
  | k + 1, l => by
    unfold listR
    rw [bind_bind, bind_bind]
    congr 1
    funext x
    rw [ifT_bind, ifT_bind, List.append_assoc, listR_shift part e a K k (l ++ [x]), bind_bind, bind_bind]
    rfl
theorem attLoop_eq (n : Nat) (t : List UInt8) : ∀ k l, attLoop n t k l = pbind (listR (attrF n) [125] k l) fun r => pnode 8 t r
  | 0, _ => rfl
  | k + 1, l => by
    unfold attLoop listR attrF
    rw [bind_bind, bind_bind]
    congr 1
    funext a
    rw [bind_bind]
    congr 1
    funext _
    rw [bind_bind]
    congr 1
    funext v
    congr 1
    funext x
    rw [ifT_bind, bind_bind, attLoop_eq n t k]
    rfl
theorem resOf_eq (n : Nat) (t : List UInt8) : resOf n t = pbind (must (isSg [123])) fun _ => pbind (value n) fun v => pbind (must (isSg [58])) fun _ => pbind (listF (attrF n) [125] n) fun r => pnode 8 t ([v] ++ r) := by
  unfold resOf
  congr 1
  funext _
  congr 1
  funext v
  congr 1
  funext _
  unfold listF
  rw [ifT_bind, attLoop_eq, ← listR_shift]
  rfl
/-- Behind two refs and an arrow. -/
def chR (n k : Nat) (l : List Nat) : Prs Nat := ifT isAw (fun s2 => chLoop n k l s2) (pnode 10 [] l)
theorem ifT_must {α : Type} {p : Tok → Bool} {f : List UInt8 → Prs α} {s : PSt} (h : tkB p s.r = true) : (pbind (must p) f) s = f (hdT s.r) ⟨s.r.tail, s.ns⟩ := bind_ok (must_t h)
theorem chLoop_eq (n k : Nat) (l : List Nat) (t : List UInt8) : chLoop n (k + 1) l t = pbind (pnode 12 t []) fun x => pbind (refF n) fun r => chR n k (l ++ [x, r]) := by
  unfold refF
  conv => lhs; unfold chLoop
  congr 1
  funext x
  rw [bind_bind]
  rfl
theorem chR_yes {n k : Nat} {l : List Nat} {s : PSt} (h : tkB isAw s.r = true) : chR n (k + 1) l s = (pbind arrowF fun x => pbind (refF n) fun r => chR n k (l ++ [x, r])) s := by
  unfold arrowF
  rw [bind_bind, ifT_must h]
  unfold chR
  rw [ifT_t h, chLoop_eq]
  rfl
theorem chain_eq (n k : Nat) (hk : n = k + 1) : (pbind (must (isKd 2)) fun t => chain n t) = pbind (refF n) fun r => pbind arrowF fun x => pbind (refF n) fun q => chR n k [r, x, q] := by
  subst hk
  unfold arrowF
  rw [show refF (k + 1) = pbind (must (isKd 2)) fun t => refOf (k + 1) t from rfl]
  rw [bind_bind]
  congr 1
  funext t
  unfold chain
  congr 1
  funext r
  rw [bind_bind]
  congr 1
  funext t2
  rw [chLoop_eq]
  rfl
/- Statements. -/
def setF (n : Nat) : Prs Nat := pbind (must (isKd 3)) fun t => pbind (must (isSg [61])) fun _ => pbind (value n) fun v => pnode 6 t [v]
def incF : Prs Nat := pbind (must isNm) fun t => pnode 5 t []
def resF (n : Nat) : Prs Nat := pbind (must isNm) fun t => resOf n t
def chainF (n : Nat) : Prs Nat := pbind (must (isKd 2)) fun t => chain n t
theorem no_ky {x : List UInt8} {r : List Tok} (h : hdK r ≠ 1) : tkB (isKy x) r = false := by
  cases r with
  | nil => rfl
  | cons t r => show isKy x t = false; unfold isKy; simp only [hdK] at h; simp [h]
theorem no_nm {r : List Tok} (h : hdK r ≠ 1) : tkB isNm r = false := by
  cases r with
  | nil => rfl
  | cons t r => show isNm t = false; unfold isNm; simp only [hdK] at h; simp [h]
theorem is_ky {x : List UInt8} {r : List Tok} (h : hdK r = 1) : tkB (isKy x) r = decide (hdT r = x) := by
  cases r with
  | nil => simp [hdK] at h
  | cons t r =>
    show isKy x t = _
    unfold isKy
    simp only [hdK] at h
    simp only [hdT, h]
    by_cases hx : t.tx = x <;> simp [hx]
theorem is_kd {k : Int} {r : List Tok} (hk : k ≠ 0) : tkB (isKd k) r = decide (hdK r = k) := by
  cases r with
  | nil => simp [tkB, hdK, Ne.symm hk]
  | cons t r => rfl
theorem stmt_var {n : Nat} {s : PSt} (h : hdK s.r = 3) : stmtF (n + 1) s = setF n s := by
  have h1 : hdK s.r ≠ 1 := by omega
  have hb : tkB (isKd 3) s.r = true := by rw [is_kd (by decide)]; simpa using h
  unfold stmtF setF
  rw [ifT_f (no_ky h1), ifT_f (no_ky h1), ifT_f (no_ky h1), ifT_t hb, ifT_must hb]
theorem stmt_type {n : Nat} {s : PSt} (h : hdK s.r = 2) : stmtF (n + 1) s = chainF n s := by
  have h1 : hdK s.r ≠ 1 := by omega
  have hb : tkB (isKd 2) s.r = true := by rw [is_kd (by decide)]; simpa using h
  have hb3 : tkB (isKd 3) s.r = false := by rw [is_kd (by decide)]; simp; omega
  unfold stmtF chainF
  rw [ifT_f (no_ky h1), ifT_f (no_ky h1), ifT_f (no_ky h1), ifT_f hb3, ifT_f (no_ky h1), ifT_f (no_nm h1), ifT_t hb, ifT_must hb]
theorem stmt_none {n : Nat} {s : PSt} (h1 : hdK s.r ≠ 1) (h2 : hdK s.r ≠ 2) (h3 : hdK s.r ≠ 3) : stmtF (n + 1) s = .err s.r := by
  have hb : tkB (isKd 2) s.r = false := by rw [is_kd (by decide)]; simpa using h2
  have hb3 : tkB (isKd 3) s.r = false := by rw [is_kd (by decide)]; simpa using h3
  unfold stmtF
  rw [ifT_f (no_ky h1), ifT_f (no_ky h1), ifT_f (no_ky h1), ifT_f hb3, ifT_f (no_ky h1), ifT_f (no_nm h1), ifT_f hb]
  rfl
theorem stmt_class {n : Nat} {s : PSt} (h : hdK s.r = 1) (ht : hdT s.r = [99, 108, 97, 115, 115]) : stmtF (n + 1) s = classy n (stmtF n) 2 ⟨s.r.tail, s.ns⟩ := by
  conv => lhs; unfold stmtF
  rw [ifT_t (by rw [is_ky h, ht]; rfl)]
theorem stmt_define {n : Nat} {s : PSt} (h : hdK s.r = 1) (ht : hdT s.r = [100, 101, 102, 105, 110, 101]) : stmtF (n + 1) s = classy n (stmtF n) 3 ⟨s.r.tail, s.ns⟩ := by
  conv => lhs; unfold stmtF
  rw [ifT_f (by rw [is_ky h, ht]; rfl), ifT_t (by rw [is_ky h, ht]; rfl)]
theorem stmt_include {n : Nat} {s : PSt} (h : hdK s.r = 1) (ht : hdT s.r = [105, 110, 99, 108, 117, 100, 101]) : stmtF (n + 1) s = incF ⟨s.r.tail, s.ns⟩ := by
  conv => lhs; unfold stmtF
  rw [ifT_f (by rw [is_ky h, ht]; rfl), ifT_f (by rw [is_ky h, ht]; rfl), ifT_t (by rw [is_ky h, ht]; rfl)]
  rfl
theorem stmt_if {n : Nat} {s : PSt} (h : hdK s.r = 1) (ht : hdT s.r = [105, 102]) : stmtF (n + 1) s = ifOf n (stmtF n) ⟨s.r.tail, s.ns⟩ := by
  conv => lhs; unfold stmtF
  rw [ifT_f (by rw [is_ky h, ht]; rfl), ifT_f (by rw [is_ky h, ht]; rfl), ifT_f (by rw [is_ky h, ht]; rfl), ifT_f (by rw [is_kd (by decide)]; simp; omega), ifT_t (by rw [is_ky h, ht]; rfl)]
theorem stmt_res {n : Nat} {s : PSt} (h : hdK s.r = 1) (h1 : hdT s.r ≠ [99, 108, 97, 115, 115]) (h2 : hdT s.r ≠ [100, 101, 102, 105, 110, 101]) (h3 : hdT s.r ≠ [105, 110, 99, 108, 117, 100, 101]) (h4 : hdT s.r ≠ [105, 102]) : stmtF (n + 1) s = resF n s := by
  conv => lhs; unfold stmtF
  rw [ifT_f (by rw [is_ky h]; simpa using h1), ifT_f (by rw [is_ky h]; simpa using h2), ifT_f (by rw [is_ky h]; simpa using h3), ifT_f (by rw [is_kd (by decide)]; simp; omega), ifT_f (by rw [is_ky h]; simpa using h4)]
  unfold resF
  cases hb : tkB isNm s.r with
  | true => rw [ifT_t hb, ifT_must hb]
  | false =>
    rw [ifT_f hb, ifT_f (by rw [is_kd (by decide)]; simp; omega), bind_err (must_f hb)]
    rfl
theorem plain_kd {n : Nat} {s : PSt} {K : Int} {k : Nat} (h : hdK s.r = K) (hK : (K = 4 ∧ k = 13) ∨ (K = 5 ∧ k = 14) ∨ (K = 6 ∧ k = 15) ∨ (K = 3 ∧ k = 16)) : plainF (n + 1) s = pnode k (hdT s.r) [] ⟨s.r.tail, s.ns⟩ := by
  have hs : ∀ x, tkB (isSg x) s.r = false := fun x => by
    cases hr : s.r with
    | nil => rfl
    | cons t r =>
      rw [hr] at h
      simp only [hdK] at h
      show isSg x t = false
      unfold isSg
      rw [decide_eq_false (by omega)]
      rfl
  conv => lhs; unfold plainF
  rw [ifT_f (hs _), ifT_f (hs _)]
  rcases hK with ⟨h1, rfl⟩ | ⟨h1, rfl⟩ | ⟨h1, rfl⟩ | ⟨h1, rfl⟩
  · rw [ifT_t (by rw [is_kd (by decide)]; simp; omega)]
  · rw [ifT_f (by rw [is_kd (by decide)]; simp; omega), ifT_t (by rw [is_kd (by decide)]; simp; omega)]
  · rw [ifT_f (by rw [is_kd (by decide)]; simp; omega), ifT_f (by rw [is_kd (by decide)]; simp; omega), ifT_t (by rw [is_kd (by decide)]; simp; omega)]
  · rw [ifT_f (by rw [is_kd (by decide)]; simp; omega), ifT_f (by rw [is_kd (by decide)]; simp; omega), ifT_f (by rw [is_kd (by decide)]; simp; omega), ifT_t (by rw [is_kd (by decide)]; simp; omega)]
/-- The plain that begins with a sign or a keyword. -/
def otherF (n : Nat) : Prs Nat := ifT (isSg [33]) (fun _ => pbind (plainF n) fun x => pnode 20 [] [x]) <|
    ifT (isSg [40]) (fun _ => pbind (value n) fun x => pbind (must (isSg [41])) fun _ => prt x) <|
    ifT (isKy [116, 114, 117, 101]) (fun _ => pnode 17 [] []) <| ifT (isKy [102, 97, 108, 115, 101]) (fun _ => pnode 18 [] []) pfail
theorem ifT_alt {α : Type} {p : Tok → Bool} {f : List UInt8 → Prs α} {g g' : Prs α} {s : PSt} (h : g s = g' s) : ifT p f g s = ifT p f g' s := by
  cases hb : tkB p s.r with
  | true => rw [ifT_t hb, ifT_t hb]
  | false => rw [ifT_f hb, ifT_f hb, h]
theorem plain_other {n : Nat} {s : PSt} (h3 : hdK s.r ≠ 3) (h4 : hdK s.r ≠ 4) (h5 : hdK s.r ≠ 5) (h6 : hdK s.r ≠ 6) : plainF (n + 1) s = otherF n s := by
  conv => lhs; unfold plainF
  unfold otherF
  refine ifT_alt (ifT_alt ?_)
  rw [ifT_f (by rw [is_kd (by decide)]; simpa using h4), ifT_f (by rw [is_kd (by decide)]; simpa using h5), ifT_f (by rw [is_kd (by decide)]; simpa using h6), ifT_f (by rw [is_kd (by decide)]; simpa using h3)]
end Go.Proofs.Ytlbenaodpfhjeaa

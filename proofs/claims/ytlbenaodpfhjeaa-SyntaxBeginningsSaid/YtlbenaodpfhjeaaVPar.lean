/-
  Layer 12: the program's parser in memory: its words, its place, its nodes, and rows of numbers of the call's own; what a call may change.
  Conditions: those that each theorem states.
-/
import Derived.Test.YtlbenaodpfhjeaaVMem
import Derived.Test.YtlbenaodpfhjeaaUName
import Derived.Laws.AppendOwnNone
namespace Go.Proofs.Ytlbenaodpfhjeaa
open Go.RowKit Go.Maps

/- Rows of numbers. -/
def nJ (l : List Nat) : List Int := l.map fun (k : Nat) => (k : Int)
theorem nJ_length (l : List Nat) : (nJ l).length = l.length := by simp [nJ]
theorem elemJ : ElemOk Try.prog 31 3 (.int .i64 0) 1 8 := ⟨Try.underlying31, by kernel_rfl, rfl, by omega⟩
/-- Numbers of the call's own. -/
def OwnJ (base : Nat) (w : World) (v : Value) (l : List Nat) : Prop := w.ownsRow base 3 1 v l.length (iv (nJ l))
theorem OwnJ.nil (base : Nat) (w : World) : OwnJ base w (.slice none 0 0) [] := World.ownsRow_nil w base _ 1
theorem OwnJ.keptX {base : Nat} {w w' : World} {v : Value} {l : List Nat} (h : OwnJ base w v l) {ex : List Nat} (hk : Kept ex w w') (hne : ∀ k, v.ownBlock = some k → k ∉ ex) : OwnJ base w' v l := owns_kept h hk hne
theorem OwnJ.kept {base : Nat} {w w' : World} {v : Value} {l : List Nat} (h : OwnJ base w v l) (hk : Kept [] w w') : OwnJ base w' v l := h.keptX hk (by simp)
theorem OwnJ.blk {base : Nat} {w : World} {v : Value} {l : List Nat} (h : OwnJ base w v l) : ∀ q, v.ownBlock = some q → base ≤ q ∧ q < w.heap.size := World.ownsRow.lt h
theorem OwnJ.lower {base b2 : Nat} {w : World} {v : Value} {l : List Nat} (h : OwnJ base w v l) (hb : b2 ≤ base) : OwnJ b2 w v l := by
  obtain ⟨h1, h2 | ⟨g, cap, cur, e, hb', r⟩⟩ := h
  · exact ⟨h1, .inl h2⟩
  · exact ⟨h1, .inr ⟨g, cap, cur, e, Nat.le_trans hb hb', r⟩⟩
theorem OwnJ.ks {base : Nat} {w : World} {v : Value} {l : List Nat} (h : OwnJ base w v l) : KsIs w v l := by
  rcases owns_range h with ⟨g, cap, rfl, _, hg, hc, hm, hr⟩ | ⟨rfl, hn, _⟩
  · exact ⟨_, _, rfl, hc, by unfold maxLen at hm; omega, fun _ => ⟨g, 0, rfl, hg, fun j hj => hr j _ (by simp [iv, nJ, hj])⟩⟩
  · have : l = [] := List.eq_nil_of_length_eq_zero hn
    subst this
    exact ⟨none, 0, rfl, by simp, by omega, fun h0 => by simp at h0⟩
theorem OwnJ.slice {base : Nat} {w : World} {v : Value} {l : List Nat} (h : OwnJ base w v l) : ∃ ao cap, v = .slice ao l.length cap := by
  obtain ⟨ao, cap, h1, _⟩ := h.ks
  exact ⟨ao, cap, h1⟩
theorem OwnJ.made (w : World) (l : List Nat) (n : Nat) (hn : l.length = n) (base : Nat) (hb : base ≤ w.heap.size) (hl : n ≤ 10000) : OwnJ base (w.alloc (.cells (nvA l) 3)) (.slice (some ⟨w.heap.size, 0, none⟩) n n) l := by
  subst hn
  refine ⟨by simp [iv, nJ], .inr ⟨w.heap.size, l.length, nvA l, rfl, hb, heap_alloc_last _ _, Nat.le_refl _, by unfold maxLen; omega, by simp [nvA, ivA, iv], ?_⟩⟩
  rw [Nat.mul_one]
  exact List.take_of_length_le (by simp [nvA, ivA, iv])
/-- Numbers are appended. -/
theorem OwnJ.app {base b2 : Nat} {w : World} {v s : Value} {l B : List Nat} (h : OwnJ base w v l) (hb : base ≤ w.heap.size) (hs : OwnJ b2 w s B) (hl : l.length + B.length ≤ 20000) :
    ∃ v' w', (Builtin.append_ #[31, 31] 31 #[v, s]).run Try.prog w = .ok v' w' ∧ OwnJ base w' v' (l ++ B) ∧ Kept v.ownBlock.toList w w' ∧ (v'.ownBlock = v.ownBlock ∨ v'.ownBlock = some w.heap.size) := by
  rcases owns_range hs with ⟨g, cap, rfl, _, hg, hc, hm, hr⟩ | ⟨rfl, hn, _⟩
  · obtain ⟨v', w', hrun, ho, hk, hor⟩ := own_app elemJ 31 w base v l.length (iv (nJ l)) h ⟨g, 0, none⟩ B.length cap (iv (nJ B)) (by simp [iv, nJ])
      (fun j u hu => by rw [Addr.add_mid]; exact hr j u hu) (iv_one _) (by unfold maxLen; omega) (by omega) hb
    refine ⟨v', w', hrun, ?_, hk, hor⟩
    unfold OwnJ
    rw [List.length_append, show iv (nJ (l ++ B)) = iv (nJ l) ++ iv (nJ B) by simp [iv, nJ]]
    exact ho
  · have hB : B = [] := List.eq_nil_of_length_eq_zero hn
    obtain ⟨i, hi, _, hsz, _⟩ := info_parts elemJ.info
    have hrun := run_append_owned_none (P := Try.prog) (w := w) base 31 31 3 i 1 Try.underlying31 hi v l.length (iv (nJ l)) h
    rw [hB, List.append_nil]
    exact ⟨_, _, hrun, h, Kept.refl _ _, .inl rfl⟩
theorem own_apart {w : World} {b1 b2 : Nat} {e1 e2 : TypeId} {s1 s2 n1 n2 : Nat} {v1 v2 : Value} {x1 x2 : List Value} (h1 : w.ownsRow b1 e1 s1 v1 n1 x1) (h2 : w.ownsRow b2 e2 s2 v2 n2 x2) (he : e1 ≠ e2) : ∀ q, v1.ownBlock = some q → v2.ownBlock ≠ some q := by
  intro q hq1 hq2
  obtain ⟨_, ⟨rfl, _⟩ | ⟨g, cap, cur, rfl, _, hg, _⟩⟩ := h1
  · cases hq1
  obtain ⟨_, ⟨rfl, _⟩ | ⟨g2, cap2, cur2, rfl, _, hg2, _⟩⟩ := h2
  · cases hq2
  injection hq1 with e1'
  injection hq2 with e2'
  subst e1' e2'
  rw [hg] at hg2
  injection hg2 with hg2
  injection hg2 with _ hg2
  exact he hg2

theorem row_setJ {w : World} {b : Nat} {cs : Array Value} {t : TypeId} (h : w.heap[b]? = some (.cells cs t)) (i : Nat) (v : Value) : (w.setCell ⟨b, i, none⟩ v).heap[b]? = some (.cells (cs.setIfInBounds i v) t) := by
  simp only [World.setCell]
  rw [Array.getElem?_modify, if_pos rfl, h]
  rfl
/- Nodes. -/
def ndcv : List (Nod × Value) → List Value
  | [] => []
  | x :: r => .int .i64 (x.1.kd : Int) :: .string (strL x.1.tx) :: x.2 :: ndcv r
theorem ndcv_length : ∀ l : List (Nod × Value), (ndcv l).length = 3 * l.length
  | [] => rfl
  | x :: l => by have := ndcv_length l; simp [ndcv, this]; omega
theorem ndcv_get : ∀ (l : List (Nod × Value)) (k : Nat) (hk : k < l.length), (ndcv l)[3 * k]? = some (.int .i64 (l[k].1.kd : Int)) ∧ (ndcv l)[3 * k + 1]? = some (.string (strL l[k].1.tx)) ∧ (ndcv l)[3 * k + 2]? = some l[k].2
  | x :: l, 0, _ => ⟨rfl, rfl, rfl⟩
  | x :: l, k + 1, hk => by
    have := ndcv_get l k (by simpa using hk)
    rw [show 3 * (k + 1) = 3 * k + 3 by omega, show 3 * k + 3 + 1 = 3 * k + 1 + 3 by omega, show 3 * k + 3 + 2 = 3 * k + 2 + 3 by omega]
    simpa [ndcv] using this
theorem ndcv_append : ∀ l m : List (Nod × Value), ndcv (l ++ m) = ndcv l ++ ndcv m
  | [], _ => rfl
  | x :: l, m => by simp [ndcv, ndcv_append l m]
theorem elemNd : ElemOk Try.prog 23 33 (.agg #[.int .i64 0, .string ⟨#[]⟩, .slice none 0 0]) 3 48 := ⟨Try.underlying23, by kernel_rfl, rfl, by omega⟩

/-- What a parser is of: the world in which the words lie, the parser's block, the words. -/
structure PCx where
  W : World
  g : Nat
  va : Value
  l : List Tok
/-- Nodes of the parser's own; A: blocks that are others'. -/
structure NdsIs (c : PCx) (A : List Nat) (w : World) (v : Value) (ns : List Nod) : Prop where
  out : ∃ L : List (Nod × Value), L.map (·.1) = ns ∧ w.ownsRow (c.g + 1) 33 3 v L.length (ndcv L) ∧ (∀ q, v.ownBlock = some q → q ∉ A) ∧ ∀ x ∈ L, OwnJ (c.g + 1) w x.2 x.1.ks ∧ ∀ q, x.2.ownBlock = some q → q ∉ A
theorem NdsIs.go {c : PCx} {A1 A2 ex : List Nat} {w w' : World} {v : Value} {ns : List Nod} (h : NdsIs c A1 w v ns) (hk : Kept ex w w') (hx : ∀ q ∈ ex, q ∈ A1) (h2 : ∀ q ∈ A2, q ∈ A1 ∨ w.heap.size ≤ q) : NdsIs c A2 w' v ns := by
  obtain ⟨L, hL, ho, hv, hl⟩ := h.out
  have key : ∀ q, q < w.heap.size → q ∉ A1 → q ∉ A2 := fun q hq hn hm => by
    rcases h2 q hm with h | h
    · exact hn h
    · omega
  refine ⟨L, hL, owns_kept ho hk (fun q hq hm => hv q hq (hx q hm)), fun q hq => key q (ho.lt q hq).2 (hv q hq), fun x hxL => ?_⟩
  obtain ⟨h3, h4⟩ := hl x hxL
  exact ⟨h3.keptX hk (fun q hq hm => h4 q hq (hx q hm)), fun q hq => key q (h3.blk q hq).2 (h4 q hq)⟩
/-- A parser in memory. -/
structure PrSt (c : PCx) (A : List Nat) (m : Nat) (s : PSt) (w : World) : Prop where
  hg : c.W.heap.size ≤ c.g
  hA : ∀ q ∈ A, c.g < q ∧ q < w.heap.size
  row : ∃ v, w.heap[c.g]? = some (.cells #[c.va, .int .i64 ((c.l.length - s.r.length : Nat) : Int), v] 41) ∧ NdsIs c A w v s.ns
  suf : c.l.drop (c.l.length - s.r.length) = s.r
  le : s.r.length ≤ c.l.length
  few : s.ns.length + s.r.length ≤ m
  tk : TkIs c.W c.va c.l
  kept : Kept [] c.W w
theorem PrSt.lt {c : PCx} {A : List Nat} {m : Nat} {s : PSt} {w : World} (h : PrSt c A m s w) : c.g < w.heap.size := by
  obtain ⟨v, h1, _⟩ := h.row
  exact (Array.getElem?_eq_some_iff.1 h1).1
theorem PrSt.go {c : PCx} {A1 A2 ex : List Nat} {m : Nat} {s : PSt} {w w' : World} (h : PrSt c A1 m s w) (hk : Kept ex w w') (hx : ∀ q ∈ ex, q ∈ A1) (h2 : ∀ q ∈ A2, (q ∈ A1 ∨ w.heap.size ≤ q) ∧ q < w'.heap.size) : PrSt c A2 m s w' := by
  have hlt := h.lt
  obtain ⟨v, h3, h4⟩ := h.row
  refine ⟨h.hg, fun q hq => ⟨?_, (h2 q hq).2⟩, ⟨v, hk.heap (fun hm => ?_) h3, h4.go hk hx (fun q hq => (h2 q hq).1)⟩, h.suf, h.le, h.few, h.tk, h.kept.into hk (fun q hq => ?_)⟩
  · rcases (h2 q hq).1 with h5 | h5
    · exact (h.hA q h5).1
    · omega
  · have := (h.hA _ (hx _ hm)).1
    omega
  · have := (h.hA _ (hx _ hq)).1
    have := h.hg
    omega
theorem PrSt.keep {c : PCx} {A : List Nat} {m : Nat} {s : PSt} {w w' : World} (h : PrSt c A m s w) (hk : Kept [] w w') : PrSt c A m s w' :=
  h.go hk (by simp) (fun q hq => ⟨.inl hq, Nat.lt_of_lt_of_le (h.hA q hq).2 hk.size⟩)
theorem PrSt.less {c : PCx} {A A2 : List Nat} {m : Nat} {s : PSt} {w : World} (h : PrSt c A m s w) (h2 : ∀ q ∈ A2, q ∈ A) : PrSt c A2 m s w :=
  h.go (Kept.refl [] w) (by simp) (fun q hq => ⟨.inl (h2 q hq), (h.hA q (h2 q hq)).2⟩)
theorem PrSt.more {c : PCx} {A : List Nat} {m n : Nat} {s : PSt} {w : World} (h : PrSt c A m s w) (hn : m ≤ n) : PrSt c A n s w :=
  ⟨h.hg, h.hA, h.row, h.suf, h.le, Nat.le_trans h.few hn, h.tk, h.kept⟩

/-- What a call leaves: all but blocks that are not in A. -/
def KA (c : PCx) (A : List Nat) (w w' : World) : Prop := ∃ ex, Kept ex w w' ∧ ∀ q ∈ ex, q ∉ A ∧ c.g ≤ q
theorem KA.of {c : PCx} {A : List Nat} {w w' : World} (h : Kept [] w w') : KA c A w w' := ⟨[], h, by simp⟩
theorem KA.trans {c : PCx} {A A2 : List Nat} {w w1 w2 : World} (h : KA c A w w1) (k : KA c A2 w1 w2) (hA : ∀ q ∈ A, q ∈ A2) : KA c A w w2 := by
  obtain ⟨e1, h1, h2⟩ := h
  obtain ⟨e2, k1, k2⟩ := k
  refine ⟨e1 ++ e2, (h1.mono (by intro q hq _; simp [hq])).trans (k1.mono (by intro q hq _; simp [hq])), fun q hq => ?_⟩
  rcases List.mem_append.1 hq with hq | hq
  · exact h2 q hq
  · exact ⟨fun hm => (k2 q hq).1 (hA q hm), (k2 q hq).2⟩
theorem KA.own {c : PCx} {A : List Nat} {base : Nat} {w w' : World} {v : Value} {l : List Nat} (h : KA c A w w') (ho : OwnJ base w v l) (hv : ∀ q, v.ownBlock = some q → q ∈ A) : OwnJ base w' v l := by
  obtain ⟨ex, h1, h2⟩ := h
  exact ho.keptX h1 (fun q hq hm => (h2 q hm).1 (hv q hq))
theorem KA.heap {c : PCx} {A : List Nat} {w w' : World} {b : Nat} {o : Obj} (h : KA c A w w') (hb : w.heap[b]? = some o) (hA : b ∈ A) : w'.heap[b]? = some o := by
  obtain ⟨ex, h1, h2⟩ := h
  exact h1.heap (fun hm => (h2 b hm).1 hA) hb
theorem KA.size {c : PCx} {A : List Nat} {w w' : World} (h : KA c A w w') : w.heap.size ≤ w'.heap.size := by
  obtain ⟨ex, h1, _⟩ := h
  exact h1.size

/-- What the parser panics with. -/
def refP (at' : Nat) : List PanicEntry := [{ v := .iface 47 (.agg #[.int .i64 (at' : Int)]), recovered := false }]
/-- What a call that reads a part of the grammar answers. -/
def PRes {α : Type} (c : PCx) (o : POut α) (val : α → Value) (A : List Nat) (m : Nat) (w : World) (e : Ending) (w' : World) : Prop := match o with
  | .ok s a => e = .returned (val a) ∧ PrSt c A m s w' ∧ KA c A w w'
  | .err r => e = .panicked (refP (c.l.length - r.length)) ∧ Kept [] c.W w' ∧ r.length ≤ c.l.length
theorem PRes.ok {α : Type} {c : PCx} {o : POut α} {val : α → Value} {A : List Nat} {m : Nat} {w : World} {e : Ending} {w' : World} {s : PSt} {a : α} (h : o = .ok s a) (he : e = .returned (val a)) (hs : PrSt c A m s w') (hk : KA c A w w') : PRes c o val A m w e w' := by subst h; exact ⟨he, hs, hk⟩
theorem PRes.err {α : Type} {c : PCx} {o : POut α} {val : α → Value} {A : List Nat} {m : Nat} {w : World} {e : Ending} {w' : World} {r : List Tok} (h : o = .err r) (he : e = .panicked (refP (c.l.length - r.length))) (hk : Kept [] c.W w') (hr : r.length ≤ c.l.length) : PRes c o val A m w e w' := by subst h; exact ⟨he, hk, hr⟩
theorem PRes.way {α : Type} {c : PCx} {o : POut α} {val : α → Value} {A : List Nat} {m : Nat} {w : World} {e : Ending} {w' : World} (h : PRes c o val A m w e w') :
    (∃ r, o = .err r ∧ e = .panicked (refP (c.l.length - r.length)) ∧ Kept [] c.W w' ∧ r.length ≤ c.l.length) ∨ (∃ s a, o = .ok s a ∧ e = .returned (val a) ∧ PrSt c A m s w' ∧ KA c A w w') := by
  cases o with
  | ok s a => exact .inr ⟨s, a, rfl, h⟩
  | err r => exact .inl ⟨r, rfl, h⟩
def nV (x : Nat) : Value := .int .i64 (x : Int)
def tV (x : List UInt8) : Value := .string (strL x)
def uV {α : Type} (_ : α) : Value := .tuple #[]
/-- A call that reads a part. -/
def PC (c : PCx) (fid : FuncId) (f : Prs Nat) (n : Nat) : Prop := ∀ A m s w, m ≤ 5000 → s.r.length < n → PrSt c A m s w → Calls Try.prog fid #[.pointer (some ⟨c.g, 0, none⟩)] w (PRes c (f s) nV A m w)

/- Words ahead. -/
def hdK : List Tok → Int
  | [] => 0
  | t :: _ => t.kd
def hdT : List Tok → List UInt8
  | [] => []
  | t :: _ => t.tx
def tkB (p : Tok → Bool) : List Tok → Bool
  | [] => false
  | t :: _ => p t
def isTk (k : Int) (tx : List UInt8) (t : Tok) : Bool := decide (t.kd = k) && decide (t.tx = tx)
theorem tkB_tk (k : Int) (tx : List UInt8) (r : List Tok) (hk : k ≠ 0) : tkB (isTk k tx) r = (decide (hdK r = k) && decide (hdT r = tx)) := by
  cases r with
  | nil => simp [tkB, hdK, Ne.symm hk]
  | cons t r => rfl
theorem tkB_kd (k : Int) (r : List Tok) (hk : k ≠ 0) : tkB (isKd k) r = decide (hdK r = k) := by
  cases r with
  | nil => simp [tkB, hdK, Ne.symm hk]
  | cons t r => rfl
theorem tk_split {p : Tok → Bool} {s : PSt} (h : tkB p s.r = true) : ∃ t r, s.r = t :: r ∧ p t = true ∧ s.r.tail = r ∧ hdT s.r = t.tx := by
  cases hr : s.r with
  | nil => rw [hr] at h; cases h
  | cons t r => rw [hr] at h; exact ⟨t, r, rfl, h, rfl, rfl⟩
theorem ifT_t {α : Type} {p : Tok → Bool} {f : List UInt8 → Prs α} {g : Prs α} {s : PSt} (h : tkB p s.r = true) : ifT p f g s = f (hdT s.r) ⟨s.r.tail, s.ns⟩ := by
  obtain ⟨t, r, h1, h2, h3, h4⟩ := tk_split h
  rw [h3, h4]
  obtain ⟨sr, ns⟩ := s
  simp only at h1
  subst h1
  unfold ifT
  simp only
  rw [if_pos h2]
theorem ifT_f {α : Type} {p : Tok → Bool} {f : List UInt8 → Prs α} {g : Prs α} {s : PSt} (h : tkB p s.r = false) : ifT p f g s = g s := by
  obtain ⟨sr, ns⟩ := s
  unfold ifT
  cases sr with
  | nil => rfl
  | cons t r =>
    simp only
    rw [if_neg (by simpa [tkB] using h)]
theorem must_t {p : Tok → Bool} {s : PSt} (h : tkB p s.r = true) : must p s = .ok ⟨s.r.tail, s.ns⟩ (hdT s.r) := by
  obtain ⟨t, r, h1, h2, h3, h4⟩ := tk_split h
  rw [h3, h4]
  obtain ⟨sr, ns⟩ := s
  simp only at h1
  subst h1
  unfold must
  simp only
  rw [if_pos h2]
theorem must_f {p : Tok → Bool} {s : PSt} (h : tkB p s.r = false) : must p s = .err s.r := by
  obtain ⟨sr, ns⟩ := s
  unfold must
  cases sr with
  | nil => rfl
  | cons t r =>
    simp only
    rw [if_neg (by simpa [tkB] using h)]
theorem bind_ok {α β : Type} {f : Prs α} {g : α → Prs β} {s s1 : PSt} {a : α} (h : f s = .ok s1 a) : pbind f g s = g a s1 := by unfold pbind; rw [h]
theorem bind_err {α β : Type} {f : Prs α} {g : α → Prs β} {s : PSt} {r : List Tok} (h : f s = .err r) : pbind f g s = .err r := by unfold pbind; rw [h]

/-- One word is taken. -/
theorem PrSt.eat {c : PCx} {A : List Nat} {m : Nat} {s : PSt} {w : World} (h : PrSt c A m s w) (h0 : s.r ≠ []) :
    let w' := w.setCell ⟨c.g, 1, none⟩ (.int .i64 ((c.l.length - s.r.length : Nat) + 1 : Int))
    PrSt c A (m - 1) ⟨s.r.tail, s.ns⟩ w' ∧ KA c A w w' := by
  have hk : Kept [c.g] w (w.setCell ⟨c.g, 1, none⟩ (.int .i64 ((c.l.length - s.r.length : Nat) + 1 : Int))) := Kept.setCell _ _ _ _ (by simp)
  have hgA : c.g ∉ A := fun hm => by have := (h.hA _ hm).1; omega
  obtain ⟨v, h3, h4⟩ := h.row
  have hlen : s.r.tail.length + 1 = s.r.length := by
    cases hr : s.r with
    | nil => exact absurd hr h0
    | cons t r => rfl
  have hle := h.le
  have hfew := h.few
  have hat : c.l.length - s.r.tail.length = c.l.length - s.r.length + 1 := by omega
  intro w'
  refine ⟨⟨h.hg, fun q hq => ⟨(h.hA q hq).1, Nat.lt_of_lt_of_le (h.hA q hq).2 hk.size⟩, ⟨v, ?_, ?_⟩, ?_, by show s.r.tail.length ≤ _; omega, by show s.ns.length + s.r.tail.length ≤ _; omega, h.tk, h.kept.into hk (by simpa using h.hg)⟩, ⟨[c.g], hk, by simpa using hgA⟩⟩
  · have := row_setJ h3 1 (.int .i64 ((c.l.length - s.r.length : Nat) + 1 : Int))
    show w'.heap[c.g]? = some (.cells #[c.va, .int .i64 ((c.l.length - s.r.tail.length : Nat) : Int), v] 41)
    rw [hat]
    exact this
  · obtain ⟨L, hL, ho, hv, hl⟩ := h4.out
    refine ⟨L, hL, owns_kept ho hk (fun q hq hm => ?_), hv, fun x hx => ⟨(hl x hx).1.keptX hk (fun q hq hm => ?_), (hl x hx).2⟩⟩
    · have := (ho.lt q hq).1; simp at hm; omega
    · have := ((hl x hx).1.blk q hq).1; simp at hm; omega
  · show c.l.drop (c.l.length - s.r.tail.length) = s.r.tail
    rw [hat, ← List.drop_drop, h.suf, List.drop_one]
/-- What a parser's cells hold. -/
theorem PrSt.open {c : PCx} {A : List Nat} {m : Nat} {s : PSt} {w : World} (h : PrSt c A m s w) : ∃ nv, w.cell? ⟨c.g, 0, none⟩ = some c.va ∧ w.cell? ⟨c.g, 1, none⟩ = some (.int .i64 ((c.l.length - s.r.length : Nat) : Int)) ∧ w.cell? ⟨c.g, 2, none⟩ = some nv ∧ (∀ q, w.frozen? ⟨c.g, q, none⟩ = false) ∧ NdsIs c A w nv s.ns ∧ w.heap[c.g]? = some (.cells #[c.va, .int .i64 ((c.l.length - s.r.length : Nat) : Int), nv] 41) := by
  obtain ⟨v, h3, h4⟩ := h.row
  exact ⟨v, cell_of_row _ _ 0 _ _ _ h3, cell_of_row _ _ 1 _ _ _ h3, cell_of_row _ _ 2 _ _ _ h3, fun q => frozen_of_row _ _ q _ _ h3, h4, h3⟩
end Go.Proofs.Ytlbenaodpfhjeaa

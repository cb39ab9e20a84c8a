/-
  Layer 12: the program's values: leaf, other, plain, equal, both, value.
  Conditions: those that each theorem states.
-/
import Derived.Test.YtfpdgdacifiejaaGreatVJoined
import Derived.Test.YtfpdgdacifiejaaGreatWVal
namespace Go.Proofs.YtfpdgdacifiejaaGreat
open Go.RowKit Go.Maps

theorem PRes.pre {α : Type} {c : PCx} {o : POut α} {val : α → Value} {A : List Nat} {m : Nat} {w w1 : World} {e : Ending} {w' : World} (h : PRes c o val A m w1 e w') (hk : KA c A w w1) : PRes c o val A m w e w' := by
  cases o with
  | ok s a => exact ⟨h.1, h.2.1, hk.trans h.2.2 (fun _ h => h)⟩
  | err r => exact h
theorem must_eat {p : Tok → Bool} {s s1 : PSt} {t : List UInt8} (h : must p s = .ok s1 t) : tkB p s.r = true ∧ t = hdT s.r ∧ s1 = ⟨s.r.tail, s.ns⟩ ∧ s1.r.length + 1 = s.r.length := by
  cases hb : tkB p s.r with
  | false => rw [must_f hb] at h; cases h
  | true =>
    rw [must_t hb] at h
    injection h with h1 h2
    obtain ⟨u, r, h3, _, h4, _⟩ := tk_split hb
    refine ⟨rfl, h2.symm, h1.symm, ?_⟩
    rw [← h1]
    show s.r.tail.length + 1 = _
    rw [h4, h3]
    rfl
theorem tail_len {p : Tok → Bool} {s : PSt} (h : tkB p s.r = true) : s.r.tail.length + 1 = s.r.length := by
  obtain ⟨u, r, h3, _, h4, _⟩ := tk_split h
  rw [h4, h3]
  rfl
theorem node0 (c : PCx) (A : List Nat) (m : Nat) (s : PSt) (w : World) (k : Nat) (tx : List UInt8) (hm : m ≤ 5000) (h : PrSt c A m s w) :
    Calls Tryz.prog 40 #[.pointer (some ⟨c.g, 0, none⟩), .int .i64 (k : Int), .string (strL tx), .slice none 0 0] w (PRes c (pnode k tx [] s) nV A (m + 1) w) :=
  ynode_any c A m s w k tx (.slice none 0 0) [] hm h (OwnJ.nil _ _) (fun q hq => by cases hq)
theorem node1 (c : PCx) (A : List Nat) (m : Nat) (s : PSt) (w : World) (k : Nat) (tx : List UInt8) (x : Nat) (hm : m ≤ 5000) (h : PrSt c A m s w) :
    Calls Tryz.prog 40 #[.pointer (some ⟨c.g, 0, none⟩), .int .i64 (k : Int), .string (strL tx), .slice (some ⟨w.heap.size, 0, none⟩) 1 1] (w.alloc (.cells #[.int .i64 (x : Int)] 3)) (PRes c (pnode k tx [x] s) nV A (m + 1) w) :=
  (ynode_any c A m s (w.alloc (.cells #[.int .i64 (x : Int)] 3)) k tx (.slice (some ⟨w.heap.size, 0, none⟩) 1 1) [x] hm (alloc_box h _) (OwnJ.made w [x] 1 rfl (c.g + 1) h.lt (by omega)) (fun q hq hh => by
    have hq2 : w.heap.size = q := by injection hq
    have := (h.hA q hh).2
    omega)).mono fun e w' h2 => h2.pre (KA.of (Kept.alloc _ _ _))
theorem noFn : ∀ (fn : Fn) (first cap : Array Value) (w : World), (Instr.makeFunc fn first cap).run Tryz.prog w = .ok (.func fn first cap) w := fun _ _ _ _ => rfl

set_option maxRecDepth 100000 in
set_option maxHeartbeats 4000000 in
theorem yleaf_any (c : PCx) (A : List Nat) (m : Nat) (s : PSt) (w : World) (k : Nat) (K : Int) (hm : m ≤ 5000) (hK : K ≠ 0) (hb : tkB (isKd K) s.r = true) (h : PrSt c A m s w) :
    Calls Tryz.prog 167 #[.pointer (some ⟨c.g, 0, none⟩), .int .i64 (k : Int)] w (PRes c (pnode k (hdT s.r) [] ⟨s.r.tail, s.ns⟩) nV A m w) := by
  have HW := Lib.hid (yword_any c A m s w h)
  have HH := Lib.hid h
  have hkd : hdK s.r = K := by have := tkB_kd K s.r hK; rw [hb] at this; exact of_decide_eq_true this.symm
  have HT := Lib.hid (fun w => ytake_any c A m s w K hK)
  have HM := Lib.hid (And.intro hm (h.pos hb))
  have HE := Lib.hid (must_t hb)
  unfold wdV at HW
  rw [hkd] at HW
  have hfd := fld0
  clear h hm hK hb hkd
  go_enter Tryz.func167, Tryz.ntmps167
  go_wp2_with fail
  refine HW.out.mono ?_
  rintro e w1 ⟨a, rfl, hk1⟩
  have HK1 := Lib.hid hk1
  have HT1 := Lib.hid (HT.out w1 (HH.out.keep hk1))
  rw [HE.out] at HT1
  clear hk1
  go_wp2_with fail
  refine HT1.out.mono ?_
  intro e w2 h2
  obtain ⟨rfl, h3, h4⟩ := h2
  have HN := Lib.hid (node0 c A (m - 1) ⟨s.r.tail, s.ns⟩ w2 k (hdT s.r) (by have := HM.out; omega) h3)
  have HK2 := Lib.hid ((KA.of (c := c) (A := A) HK1.out).trans h4 (fun _ h => h))
  clear h3 h4
  unfold tV
  go_wp2_with fail
  refine HN.out.mono ?_
  intro e w3 h5
  obtain ⟨rfl, h3, h4⟩ := h5
  have HF : Hid (PRes c (pnode k (hdT s.r) [] ⟨s.r.tail, s.ns⟩) nV A m w (.returned (nV s.ns.length)) w3) := PRes.ok rfl rfl (h3.more (by have := HM.out; omega)) (HK2.out.trans h4 (fun _ h => h))
  unfold nV at HF ⊢
  clear h3 h4
  go_wp2_with fail
  go_ret
  exact HF.out

theorem eq_split (r : List Tok) : tkB isEq r = (decide (hdK r = 7) && decide (hdT r ∈ ([[61, 61], [33, 61]] : List (List UInt8)))) := by
  cases r with
  | nil => simp [tkB, hdK]
  | cons t r =>
    show (isSg [61, 61] t || isSg [33, 61] t) = _
    unfold isSg
    simp only [hdK, hdT]
    by_cases hq : t.kd = 7 <;> by_cases h1 : t.tx = [61, 61] <;> by_cases h2 : t.tx = [33, 61] <;> simp [hq, h1, h2]
theorem ky_split (x : List UInt8) (r : List Tok) : tkB (isKy x) r = (decide (hdK r = 1) && decide (hdT r ∈ [x])) := by
  cases r with
  | nil => simp [tkB, hdK]
  | cons t r =>
    show isKy x t = _
    unfold isKy
    simp only [hdK, hdT]
    by_cases hq : t.kd = 1 <;> by_cases h1 : t.tx = x <;> simp [hq, h1]
theorem Lc.equalOf (n : Nat) : Lc (equalOf n (plainF n)) := (Lc.plain n).bind fun x => Lc.opLoop (Lc.plain n) _ n x
theorem Lc.bothOf (n : Nat) : Lc (bothOf n (plainF n)) := (Lc.equalOf n).bind fun x => Lc.opLoop (Lc.equalOf n) _ n x
set_option maxRecDepth 100000 in
set_option maxHeartbeats 4000000 in
theorem yequal_pc (c : PCx) (n : Nat) (hsub : PC c 165 (plainF n) n) : PC c 159 (equalOf n (plainF n)) n := by
  intro A m s w hm hr h
  have HJ := Lib.hid (yjoined_any c 165 (plainF n) n (enters_of Tryz.func165 (by kernel_rfl) rfl) hsub (Lc.plain n) 7 (by decide) [[61, 61], [33, 61]] 2 rfl (by omega) isEq eq_split A m s (w.alloc (.cells #[.string ⟨#[61, 61]⟩, .string ⟨#[33, 61]⟩] 9)) w.heap.size hm hr (alloc_box h _) (fun hh => by have := (h.hA _ hh).2; omega) (heap_alloc_last _ _))
  have hmf := noFn
  have HK : Hid (KA c A w (w.alloc (.cells #[.string ⟨#[61, 61]⟩, .string ⟨#[33, 61]⟩] 9))) := KA.of (Kept.alloc _ _ _)
  obtain ⟨w1, hw1⟩ : ∃ w1, w.alloc (.cells #[.string ⟨#[61, 61]⟩, .string ⟨#[33, 61]⟩] 9) = w1 := ⟨_, rfl⟩
  rw [hw1] at HJ HK
  clear h hsub hm hr
  go_enter Tryz.func159, Tryz.ntmps159
  go_wp2_with fail
  refine HJ.out.mono ?_
  intro e w2 h2
  rcases (h2.pre HK.out).way with ⟨r, q2, rfl, h3⟩ | ⟨s2, x2, q2, rfl, h3, h4⟩
  · exact ⟨rfl, PRes.err q2 rfl h3.1 h3.2⟩
  have HF : Hid (PRes c ((equalOf n (plainF n)) s) nV A m w (.returned (nV x2)) w2) := PRes.ok q2 rfl h3 h4
  unfold nV at HF ⊢
  clear h2 q2 h3 h4
  go_wp2_with fail
  go_ret
  exact HF.out
set_option maxRecDepth 100000 in
set_option maxHeartbeats 4000000 in
theorem yboth_pc (c : PCx) (n : Nat) (hsub : PC c 159 (equalOf n (plainF n)) n) : PC c 150 (bothOf n (plainF n)) n := by
  intro A m s w hm hr h
  have HJ := Lib.hid (yjoined_any c 159 (equalOf n (plainF n)) n (enters_of Tryz.func159 (by kernel_rfl) rfl) hsub (Lc.equalOf n) 1 (by decide) [[97, 110, 100]] 1 rfl (by omega) (isKy [97, 110, 100]) (ky_split _) A m s (w.alloc (.cells #[.string ⟨#[97, 110, 100]⟩] 9)) w.heap.size hm hr (alloc_box h _) (fun hh => by have := (h.hA _ hh).2; omega) (heap_alloc_last _ _))
  have hmf := noFn
  have HK : Hid (KA c A w (w.alloc (.cells #[.string ⟨#[97, 110, 100]⟩] 9))) := KA.of (Kept.alloc _ _ _)
  obtain ⟨w1, hw1⟩ : ∃ w1, w.alloc (.cells #[.string ⟨#[97, 110, 100]⟩] 9) = w1 := ⟨_, rfl⟩
  rw [hw1] at HJ HK
  clear h hsub hm hr
  go_enter Tryz.func150, Tryz.ntmps150
  go_wp2_with fail
  refine HJ.out.mono ?_
  intro e w2 h2
  rcases (h2.pre HK.out).way with ⟨r, q2, rfl, h3⟩ | ⟨s2, x2, q2, rfl, h3, h4⟩
  · exact ⟨rfl, PRes.err q2 rfl h3.1 h3.2⟩
  have HF : Hid (PRes c ((bothOf n (plainF n)) s) nV A m w (.returned (nV x2)) w2) := PRes.ok q2 rfl h3 h4
  unfold nV at HF ⊢
  clear h2 q2 h3 h4
  go_wp2_with fail
  go_ret
  exact HF.out
set_option maxRecDepth 100000 in
set_option maxHeartbeats 4000000 in
theorem yvalue_pc (c : PCx) (n : Nat) (hsub : PC c 150 (bothOf n (plainF n)) n) : PC c 135 (value n) n := by
  intro A m s w hm hr h
  have HJ := Lib.hid (yjoined_any c 150 (bothOf n (plainF n)) n (enters_of Tryz.func150 (by kernel_rfl) rfl) hsub (Lc.bothOf n) 1 (by decide) [[111, 114]] 1 rfl (by omega) (isKy [111, 114]) (ky_split _) A m s (w.alloc (.cells #[.string ⟨#[111, 114]⟩] 9)) w.heap.size hm hr (alloc_box h _) (fun hh => by have := (h.hA _ hh).2; omega) (heap_alloc_last _ _))
  have hmf := noFn
  have HK : Hid (KA c A w (w.alloc (.cells #[.string ⟨#[111, 114]⟩] 9))) := KA.of (Kept.alloc _ _ _)
  obtain ⟨w1, hw1⟩ : ∃ w1, w.alloc (.cells #[.string ⟨#[111, 114]⟩] 9) = w1 := ⟨_, rfl⟩
  rw [hw1] at HJ HK
  clear h hsub hm hr
  go_enter Tryz.func135, Tryz.ntmps135
  go_wp2_with fail
  refine HJ.out.mono ?_
  intro e w2 h2
  rcases (h2.pre HK.out).way with ⟨r, q2, rfl, h3⟩ | ⟨s2, x2, q2, rfl, h3, h4⟩
  · exact ⟨rfl, PRes.err q2 rfl h3.1 h3.2⟩
  have HF : Hid (PRes c ((value n) s) nV A m w (.returned (nV x2)) w2) := PRes.ok q2 rfl h3 h4
  unfold nV at HF ⊢
  clear h2 q2 h3 h4
  go_wp2_with fail
  go_ret
  exact HF.out
end Go.Proofs.YtfpdgdacifiejaaGreat

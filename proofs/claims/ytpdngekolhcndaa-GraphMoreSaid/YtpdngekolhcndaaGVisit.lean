/-
  Layer 8: the program's Behind: the closure that visits.
  Conditions: those that each theorem states.
-/
import Derived.Test.YtpdngekolhcndaaGOrder
namespace Go.Proofs.Ytpdngekolhcndaa
open Go.RowKit Go.Maps

/-- How many below n are not in a set. -/
def cnt : Nat → (Nat → Bool) → Nat
  | 0, _ => 0
  | n + 1, F => cnt n F + if F n = true then 0 else 1
theorem cnt_mono {F F' : Nat → Bool} (h : ∀ x, F x = true → F' x = true) : ∀ n, cnt n F' ≤ cnt n F
  | 0 => Nat.le_refl _
  | n + 1 => by
    have := cnt_mono h n
    unfold cnt
    by_cases e : F n = true
    · rw [if_pos e, if_pos (h n e)]; omega
    · rw [if_neg e]; split <;> omega
theorem put_mono {F : Nat → Bool} {j : Nat} : ∀ x, F x = true → put F j true x = true := fun x h => by
  unfold put
  split
  · rfl
  · exact h
theorem cnt_put {F : Nat → Bool} {j : Nat} (hF : F j = false) : ∀ n, j < n → cnt n (put F j true) < cnt n F
  | 0, h => by omega
  | n + 1, h => by
    unfold cnt
    by_cases e : j = n
    · subst e
      have h1 := cnt_mono (put_mono (F := F) (j := j)) j
      have h2 : put F j true j = true := by unfold put; rw [if_pos rfl]
      rw [if_pos h2, if_neg (by rw [hF]; simp)]
      omega
    · have h1 := cnt_put hF n (by omega)
      have h2 : put F j true n = F n := by unfold put; rw [if_neg (fun q => e q.symm)]
      rw [h2]
      split <;> omega

/-- A visit: what was found is found; what is new is behind i, and what is behind it is found; so is what is next to i, up to k. -/
structure VLp (A : Nat → Nat → Bool) (i : Nat) (F : Nat → Bool) (k : Nat) (F' : Nat → Bool) : Prop where
  mono : ∀ x, F x = true → F' x = true
  reach : ∀ x, F' x = true → F x = true ∨ Reach A i x
  next : ∀ j, j < k → A i j = true → F' j = true
  shut : ∀ x, F' x = true → F x = false → ∀ j, A x j = true → F' j = true
theorem VLp.init (A : Nat → Nat → Bool) (i : Nat) (F : Nat → Bool) : VLp A i F 0 F := ⟨fun _ h => h, fun _ h => .inl h, fun j h => by omega, fun x h1 h2 => by rw [h1] at h2; cases h2⟩
theorem VLp.skip {A : Nat → Nat → Bool} {i : Nat} {F F' : Nat → Bool} {k : Nat} (h : VLp A i F k F') (hk : A i k = true → F' k = true) : VLp A i F (k + 1) F' :=
  ⟨h.mono, h.reach, fun j hj ha => by
    by_cases e : j = k
    · subst e; exact hk ha
    · exact h.next j (by omega) ha, h.shut⟩
theorem VLp.take {A : Nat → Nat → Bool} {i n : Nat} {F F' F2 : Nat → Bool} {k : Nat} (h : VLp A i F k F') (ha : A i k = true) (hv : VLp A k (put F' k true) n F2) (hn : ∀ i j, A i j = true → j < n) : VLp A i F (k + 1) F2 := by
  have hkk : put F' k true k = true := by unfold put; rw [if_pos rfl]
  have hup : ∀ x, F' x = true → F2 x = true := fun x hx => hv.mono x (put_mono x hx)
  have hput : ∀ x, put F' k true x = true → x = k ∨ F' x = true := fun x hx => by
    unfold put at hx
    by_cases e : x = k
    · exact .inl e
    · rw [if_neg e] at hx; exact .inr hx
  refine ⟨fun x hx => hup x (h.mono x hx), fun x hx => ?_, fun j hj hj2 => ?_, fun x hx hxF j hj => ?_⟩
  · rcases hv.reach x hx with h1 | h1
    · rcases hput x h1 with rfl | h2
      · exact .inr (.one ha)
      · exact h.reach x h2
    · exact .inr ((Reach.one ha).trans h1)
  · by_cases e : j = k
    · subst e; exact hv.mono j hkk
    · exact hup j (h.next j (by omega) hj2)
  · cases e : put F' k true x with
    | false => exact hv.shut x hx e j hj
    | true =>
      rcases hput x e with rfl | h2
      · exact hv.next j (hn _ _ hj) hj
      · exact hup j (h.shut x h2 hxF j hj)

/-- What stays while one visits. -/
structure ViSt (n nb g f h : Nat) (A : Nat → Nat → Bool) (F : Nat → Bool) (w : World) : Prop where
  cnb : w.cell? ⟨nb, 0, none⟩ = some (.int .i64 n)
  ld : LdIs w g A
  set : SetIs w f F
  fn : w.cell? ⟨h, 0, none⟩ = some (.func (.func 23) #[] #[.pointer (some ⟨nb, 0, none⟩), .pointer (some ⟨g, 0, none⟩), .pointer (some ⟨f, 0, none⟩), .pointer (some ⟨h, 0, none⟩)])
theorem ViSt.go {n nb g f h : Nat} {A : Nat → Nat → Bool} {F : Nat → Bool} {w w' : World} (s : ViSt n nb g f h A F w) (hk : Kept [] w w') : ViSt n nb g f h A F w' :=
  ⟨(hk.cell (p := ⟨nb, 0, none⟩) (World.block_lt_of_cell? w _ s.cnb) (by simp)).trans s.cnb, s.ld.kept hk (by simp), s.set.kept hk (by simp), (hk.cell (p := ⟨h, 0, none⟩) (World.block_lt_of_cell? w _ s.fn) (by simp)).trans s.fn⟩
theorem ViSt.put' {n nb g f h : Nat} {A : Nat → Nat → Bool} {F : Nat → Bool} {w : World} (s : ViSt n nb g f h A F w) (i : Nat) (h1 : nb ≠ f) (h2 : g ≠ f) (h3 : h ≠ f) : ViSt n nb g f h A (put F i true) (w.setCell ⟨f, i, none⟩ (.bool true)) := by
  have hk := Kept.setCell [f] w ⟨f, i, none⟩ (.bool true) (by simp)
  exact ⟨(hk.cell (p := ⟨nb, 0, none⟩) (World.block_lt_of_cell? w _ s.cnb) (by simpa using h1)).trans s.cnb, s.ld.kept hk (by simpa using h2), s.set.set i true, (hk.cell (p := ⟨h, 0, none⟩) (World.block_lt_of_cell? w _ s.fn) (by simpa using h3)).trans s.fn⟩
theorem enters_b1 : Enters Try.prog 23 := enters_of Try.func23 (by kernel_rfl) rfl

set_option maxRecDepth 100000 in
set_option maxHeartbeats 2000000 in
theorem visit_any (n nb g f h : Nat) (A : Nat → Nat → Bool) (hn : n ≤ 32) (hA : ∀ i j, A i j = true → i < n ∧ j < n) (h1 : nb ≠ f) (h2 : g ≠ f) (h3 : h ≠ f) :
    ∀ (m i : Nat) (F : Nat → Bool) (w : World), cnt n F = m → i < n → ViSt n nb g f h A F w →
    Calls Try.prog 23 #[.int .i64 i, .pointer (some ⟨nb, 0, none⟩), .pointer (some ⟨g, 0, none⟩), .pointer (some ⟨f, 0, none⟩), .pointer (some ⟨h, 0, none⟩)] w
      fun e w' => e = .returned (.tuple #[]) ∧ Hid (∃ F', VLp A i F n F' ∧ ViSt n nb g f h A F' w' ∧ Kept [f] w w') := by
  intro m
  induction m using Nat.strongRecOn with
  | ind m ih =>
    intro i F w hm hi hst
    have IH := Lib.hid ih
    have HM := Lib.hid hm
    have HS0 := Lib.hid hst
    have HA := Lib.hid hA
    have HNE : Hid (nb ≠ f ∧ g ≠ f ∧ h ≠ f) := ⟨h1, h2, h3⟩
    have cn := hst.cnb
    have hE2 : ∀ (args : Array Value) (w : World), (callFunc 23 args).run Try.prog w = .ok (.enter 23 args) w := enters_b1
    clear ih hm hst hA h1 h2 h3
    go_enter Try.func23, Try.ntmps23
    go_wp2_with fail
    clear cn
    go_loopw [8] (fun k wr => ∃ (j : Nat) (Fc : Nat → Bool), j ≤ n ∧ k = .int .i64 j ∧ Hid (VLp A i F j Fc ∧ ViSt n nb g f h A Fc wr ∧ Kept [f] w wr)) (fun k _ => n - (intOf k).toNat)
    case atStart => exact ⟨0, F, by omega, rfl, VLp.init _ _ _, HS0.out, Kept.refl _ _⟩
    case round =>
      obtain ⟨j, Fc, hj, rfl, HS⟩ := hrel
      by_cases hlt : j < n
      · have i32 : (i : Int) < 32 := by omega
        have j32 : (j : Int) < 32 := by omega
        have ca := HS.out.2.1.ld.cell (i := i) (j := j) (by omega) (by omega)
        have cf := HS.out.2.1.set.cell (i := j) (by omega)
        cases ha : A i j
        · rw [ha] at ca
          have HN : Hid (VLp A i F (j + 1) Fc ∧ ViSt n nb g f h A Fc wr ∧ Kept [f] w wr) := ⟨HS.out.1.skip (fun q => by rw [ha] at q; cases q), HS.out.2⟩
          clear ha
          go_wp2_with fail
          go_roundw
          case rel => exact ⟨j + 1, Fc, by omega, by go_num, HN⟩
          case measure => simp [intOf]; omega
        · rw [ha] at ca
          cases hf : Fc j
          · rw [hf] at cf
            have fz : wr.frozen? ⟨f, j, none⟩ = false := by
              obtain ⟨Z, z1, _⟩ := HS.out.2.1.set
              exact frozen_of_row _ _ _ _ _ z1
            obtain ⟨w2, hw2⟩ : ∃ w2, wr.setCell ⟨f, j, none⟩ (.bool true) = w2 := ⟨_, rfl⟩
            have HV2 : Hid (ViSt n nb g f h A (put Fc j true) w2) := by rw [← hw2]; exact HS.out.2.1.put' j HNE.out.1 HNE.out.2.1 HNE.out.2.2
            have HK2 : Hid (Kept [f] w w2) := HS.out.2.2.trans (by rw [← hw2]; exact Kept.setCell _ _ _ _ (by simp))
            have hc : cnt n (put Fc j true) < m := by
              have e1 := cnt_put hf n hlt
              have e2 := cnt_mono HS.out.1.mono n
              rw [HM.out] at e2
              omega
            have HI := Lib.hid (IH.out _ hc j (put Fc j true) w2 rfl hlt HV2.out)
            have c4 := HV2.out.fn
            have HAA : Hid (A i j = true) := ha
            clear ha hf hc
            go_wp2_with fail
            refine HI.out.mono ?_
            rintro e w3 ⟨rfl, H3⟩
            have HN : Hid (∃ F2, VLp A i F (j + 1) F2 ∧ ViSt n nb g f h A F2 w3 ∧ Kept [f] w w3) := by
              obtain ⟨F2, a1, a2, a3⟩ := H3.out
              exact ⟨F2, HS.out.1.take HAA.out a1 (fun i j q => (HA.out i j q).2), a2, HK2.out.trans a3⟩
            clear c4 hw2
            go_wp2_with fail
            go_roundw
            case rel =>
              obtain ⟨F2, hF2⟩ := HN.out
              exact ⟨j + 1, F2, by omega, by go_num, hF2⟩
            case measure => simp [intOf]; omega
          · rw [hf] at cf
            have HN : Hid (VLp A i F (j + 1) Fc ∧ ViSt n nb g f h A Fc wr ∧ Kept [f] w wr) := ⟨HS.out.1.skip (fun _ => hf), HS.out.2⟩
            clear ha hf
            go_wp2_with fail
            go_roundw
            case rel => exact ⟨j + 1, Fc, by omega, by go_num, HN⟩
            case measure => simp [intOf]; omega
      · have hjn : j = n := by omega
        subst hjn
        go_wp2_with fail
        go_end0
        exact ⟨rfl, Fc, HS.out⟩
end Go.Proofs.Ytpdngekolhcndaa

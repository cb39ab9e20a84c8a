/-
  Layer 8: rows of numbers: as they are read, and of the call's own; the library's Index, Contains, Reverse over them.
  Conditions: those that each theorem states.
-/
import Derived.Test.YtpdngekolhcndaaGGath
namespace Go.Proofs.Ytpdngekolhcndaa
open Go.RowKit Go.Maps

def nI (l : List Nat) : List Int := l.map fun (k : Nat) => (k : Int)
theorem nI_length (l : List Nat) : (nI l).length = l.length := by simp [nI]
/-- A slice of numbers: what it reads as. -/
structure NsIs (w : World) (v : Value) (l : List Nat) : Prop where
  val : ∃ ao cap, v = .slice ao l.length cap ∧ l.length ≤ cap ∧ cap ≤ 9223372036854775807 ∧ (l.length = 0 ∨ ∃ b o, ao = some ⟨b, o, none⟩ ∧ b < w.heap.size ∧ w.rangeAt b o (iv (nI l)))
  len : l.length ≤ 1000
theorem NsIs.keptX {w w' : World} {v : Value} {l : List Nat} (h : NsIs w v l) {ex : List Nat} (hk : Kept ex w w') (hx : ∀ b o n c, v = .slice (some ⟨b, o, none⟩) n c → n ≠ 0 → b ∉ ex) : NsIs w' v l := by
  obtain ⟨⟨ao, cap, h1, hc1, hc2, h2⟩, h3⟩ := h
  refine ⟨⟨ao, cap, h1, hc1, hc2, ?_⟩, h3⟩
  by_cases h0 : l.length = 0
  · exact .inl h0
  · rcases h2 with h2 | ⟨b, o, rfl, hb, hr⟩
    · exact .inl h2
    · exact .inr ⟨b, o, rfl, Nat.lt_of_lt_of_le hb hk.size, hk.range hb (hx b o _ _ h1 h0) hr⟩
theorem NsIs.kept {w w' : World} {v : Value} {l : List Nat} (h : NsIs w v l) (hk : Kept [] w w') : NsIs w' v l := h.keptX hk (fun _ _ _ _ _ _ => by simp)
theorem NsIs.open {w : World} {v : Value} {l : List Nat} (h : NsIs w v l) : ∃ ao cap, v = .slice ao l.length cap ∧ l.length ≤ cap ∧ cap ≤ 9223372036854775807 ∧
    (0 < l.length → ∃ b o, ao = some ⟨b, o, none⟩ ∧ b < w.heap.size ∧ ∀ k (hk : k < l.length), w.cell? ⟨b, o + k, none⟩ = some (.int .i64 (l[k] : Int))) := by
  obtain ⟨⟨ao, cap, h1, hc1, hc2, h2⟩, h3⟩ := h
  refine ⟨ao, cap, h1, hc1, hc2, fun h0 => ?_⟩
  rcases h2 with h2 | ⟨b, o, rfl, hb, hr⟩
  · omega
  · exact ⟨b, o, rfl, hb, fun k hk => hr k _ (by simp [iv, nI, hk])⟩
theorem NsIs.nil (w : World) : NsIs w (.slice none 0 0) [] := ⟨⟨none, 0, rfl, by simp, by omega, .inl rfl⟩, by simp⟩

theorem elemInt8 : ElemOk Try.prog 24 3 (.int .i64 0) 1 8 := ⟨Try.underlying24, by kernel_rfl, rfl, by omega⟩
/-- Numbers of the call's own. -/
def OwnN (base : Nat) (w : World) (v : Value) (l : List Nat) : Prop := w.ownsRow base 3 1 v l.length (iv (nI l)) ∧ l.length ≤ 1000
theorem OwnN.nil (base : Nat) (w : World) : OwnN base w (.slice none 0 0) [] := ⟨World.ownsRow_nil w base _ 1, by simp⟩
theorem OwnN.keptX {base : Nat} {w w' : World} {v : Value} {l : List Nat} (h : OwnN base w v l) {ex : List Nat} (hk : Kept ex w w') (hne : ∀ k, v.ownBlock = some k → k ∉ ex) : OwnN base w' v l := ⟨owns_kept h.1 hk hne, h.2⟩
theorem OwnN.kept {base : Nat} {w w' : World} {v : Value} {l : List Nat} (h : OwnN base w v l) (hk : Kept [] w w') : OwnN base w' v l := h.keptX hk (by simp)
theorem OwnN.blk {base : Nat} {w : World} {v : Value} {l : List Nat} (h : OwnN base w v l) : ∀ q, v.ownBlock = some q → base ≤ q ∧ q < w.heap.size := World.ownsRow.lt h.1
theorem OwnN.ns {base : Nat} {w : World} {v : Value} {l : List Nat} (h : OwnN base w v l) : NsIs w v l := by
  rcases owns_range h.1 with ⟨g, cap, rfl, _, hg, hc, hm, hr⟩ | ⟨rfl, hn, _⟩
  · exact ⟨⟨_, _, rfl, hc, by unfold maxLen at hm; omega, .inr ⟨g, 0, rfl, hg, hr⟩⟩, h.2⟩
  · have : l = [] := List.eq_nil_of_length_eq_zero hn
    subst this
    exact NsIs.nil w
theorem OwnN.slice {base : Nat} {w : World} {v : Value} {l : List Nat} (h : OwnN base w v l) : ∃ ao cap, v = .slice ao l.length cap := by
  obtain ⟨ao, cap, h1, _⟩ := h.ns.open
  exact ⟨ao, cap, h1⟩
/-- A number that lies in a new block is appended. -/
theorem OwnN.app {base : Nat} {w : World} {v : Value} {l : List Nat} (h : OwnN base w v l) (hb : base ≤ w.heap.size) (x : Nat) (hl : l.length < 1000) :
    ∃ v' w', (Builtin.append_ #[24, 24] 24 #[v, .slice (some ⟨w.heap.size, 0, none⟩) 1 1]).run Try.prog (w.alloc (.cells #[.int .i64 x] 3)) = .ok v' w' ∧ OwnN base w' v' (l ++ [x]) ∧ AppB w v w' v' := by
  have hs0 : base ≤ (w.alloc (.cells #[.int .i64 x] 3)).heap.size := by rw [size_alloc]; omega
  obtain ⟨v', w', hrun, ho, hk, hor⟩ := own_app elemInt8 24 (w.alloc (.cells #[.int .i64 x] 3)) base v l.length (iv (nI l)) (World.ownsRow.alloc h.1 _) ⟨w.heap.size, 0, none⟩ 1 1 (iv (nI [x])) rfl
    (fun j u hu => by
      rw [Addr.add_mid, Nat.zero_add, cell_of_row _ _ j _ _ _ (heap_alloc_last w _)]
      simpa [iv, nI] using hu) (iv_one _) (by unfold maxLen; omega) (by omega) hs0
  refine ⟨v', w', hrun, ⟨?_, by simp; omega⟩, AppB.pre (Kept.alloc [] w _) ⟨hk, ?_⟩⟩
  · rw [List.length_append, show iv (nI (l ++ [x])) = iv (nI l) ++ iv (nI [x]) by simp [iv, nI]]
    exact ho
  · rcases hor with e | e
    · exact .inl e
    · exact .inr ⟨_, e, Nat.le_refl _⟩
theorem OwnN.into {base : Nat} {w0 w w' : World} {v v' : Value} {l : List Nat} (hk : Kept [] w0 w) (h : AppB w v w' v') (ho : OwnN base w v l) (hb : w0.heap.size ≤ base) : Kept [] w0 w' :=
  hk.into h.kept fun q hq => by have := (ho.blk q (by simpa using hq)).1; omega

def idxI (l : List Nat) (s : Nat) : Int := if s ∈ l then (l.idxOf s : Int) else -1
set_option maxRecDepth 100000 in
set_option maxHeartbeats 1000000 in
theorem idxI_any (v : Value) (l : List Nat) (s : Nat) (w : World) (h : NsIs w v l) :
    Calls Try.prog 25 #[v, .int .i64 s] w fun e w' => e = .returned (.int .i64 (idxI l s)) ∧ w = w' := by
  have hl := h.len
  obtain ⟨ao, cap, rfl, hcap, hc63, h5⟩ := h.open
  have H5 := Lib.hid h5
  obtain ⟨m, hm⟩ : ∃ m, l.length = m := ⟨_, rfl⟩
  have HM := Lib.hid hm
  rw [hm] at hl hcap
  rw [hm]
  clear h h5 hm
  go_enter Try.func25, Try.ntmps25
  go_wp2_with fail
  go_loop [8] (fun i => ∃ k : Nat, k ≤ m ∧ i = .int .i64 k ∧ Hid (∀ j (hj : j < l.length), j < k → l[j] ≠ s)) (fun i => m - (intOf i).toNat)
  case atStart => exact ⟨0, by omega, rfl, fun j hj h0 => by omega⟩
  case round =>
    obtain ⟨k, hk, rfl, HN⟩ := hrel
    by_cases hlt : k < m
    · have hkl : k < l.length := by rw [HM.out]; exact hlt
      obtain ⟨b, o, rfl, hb, hc⟩ := H5.out (by omega)
      have c0 := hc k hkl
      obtain ⟨p, hp⟩ : ∃ p, l[k] = p := ⟨_, rfl⟩
      rw [hp] at c0
      have HP := Lib.hid hp
      clear hc hp
      by_cases hps : s = p
      · have q1 : ((s : Int) == (p : Int)) = true := by rw [hps]; simp
        have HG : Hid (idxI l s = k) := by
          show _ = _
          unfold idxI
          have hm : s ∈ l := by rw [hps, ← HP.out]; exact List.getElem_mem hkl
          rw [if_pos hm]
          have h1 := List.idxOf_lt_length_of_mem hm
          have h2 : l[l.idxOf s] = s := List.getElem_idxOf h1
          have h3 : ¬ l.idxOf s < k := fun q => HN.out _ h1 q h2
          have h4 : ¬ k < l.idxOf s := fun q => by
            have := List.not_of_lt_findIdx (xs := l) (p := fun x => x == s) q
            rw [HP.out, ← hps] at this
            simp at this
          omega
        clear hps
        go_wp2_with fail
        go_ret
        exact ⟨by rw [HG.out]; rfl, rfl⟩
      · have q1 : ((s : Int) == (p : Int)) = false := by simp; omega
        have HN2 : Hid (∀ j (hj : j < l.length), j < k + 1 → l[j] ≠ s) := fun j hj hjk => by
          by_cases e : j = k
          · subst e; rw [HP.out]; exact fun e => hps e.symm
          · exact HN.out j hj (by omega)
        clear hps
        go_wp2_with fail
        go_round
        case rel => exact ⟨k + 1, by omega, by go_num, HN2⟩
        case measure => simp [intOf]; omega
    · have HG : Hid (idxI l s = -1) := by
        show _ = _
        unfold idxI
        rw [if_neg]
        intro hm
        obtain ⟨j, hj, e⟩ := List.getElem_of_mem hm
        exact HN.out j hj (by rw [HM.out] at hj; omega) e
      go_wp2_with fail
      go_ret
      exact ⟨by rw [HG.out]; rfl, rfl⟩
theorem containsI_any (v : Value) (l : List Nat) (s : Nat) (w : World) (h : NsIs w v l) :
    Calls Try.prog 24 #[v, .int .i64 s] w fun e w' => e = .returned (.bool (decide (s ∈ l))) ∧ w = w' := by
  have H := Lib.hid h
  obtain ⟨q, hq⟩ : ∃ q, idxI l s = q := ⟨_, rfl⟩
  have HQ : Hid (decide (0 ≤ q) = decide (s ∈ l)) := by
    show _ = _
    rw [← hq]
    unfold idxI
    by_cases e : s ∈ l
    · rw [if_pos e, decide_eq_true e, decide_eq_true (by omega)]
    · rw [if_neg e, decide_eq_false e]; rfl
  have HI := Lib.hid (idxI_any v l s w h)
  rw [hq] at HI
  clear h hq
  go_enter Try.func24, Try.ntmps24
  go_wp2_with fail
  refine HI.out.mono ?_
  rintro e w' ⟨rfl, rfl⟩
  go_wp2_with fail
  go_ret
  exact ⟨by rw [← HQ.out]; rfl, rfl⟩
end Go.Proofs.Ytpdngekolhcndaa

/-
  Layer 6: parameters in memory (a name and a value each), slices of them, resources; what Get finds.
  Conditions: those that each theorem states.
-/
import Derived.Test.YthpfnkanilfohaaDoorTRow
namespace Go.Proofs.YthpfnkanilfohaaDoor
open Go.RowKit Go.Maps

/-- A parameter: its name, its value. -/
abbrev Prm := List UInt8 × List UInt8
/-- The texts of parameters, one behind the other. -/
def fl : List Prm → List (List UInt8)
  | [] => []
  | p :: l => p.1 :: p.2 :: fl l
theorem fl_length : ∀ l : List Prm, (fl l).length = 2 * l.length
  | [] => rfl
  | p :: l => by have := fl_length l; simp [fl, this]; omega
theorem fl_append : ∀ l m : List Prm, fl (l ++ m) = fl l ++ fl m
  | [], _ => rfl
  | p :: l, m => by simp [fl, fl_append l m]
theorem fl_get0 : ∀ (l : List Prm) (k : Nat) (hk : k < l.length), (fl l)[2 * k]? = some l[k].1
  | p :: l, 0, _ => rfl
  | p :: l, k + 1, hk => by
    have := fl_get0 l k (by simpa using hk)
    rw [show 2 * (k + 1) = 2 * k + 2 by omega]
    simpa [fl] using this
theorem fl_get1 : ∀ (l : List Prm) (k : Nat) (hk : k < l.length), (fl l)[2 * k + 1]? = some l[k].2
  | p :: l, 0, _ => rfl
  | p :: l, k + 1, hk => by
    have := fl_get1 l k (by simpa using hk)
    rw [show 2 * (k + 1) + 1 = 2 * k + 1 + 2 by omega]
    simpa [fl] using this
theorem sv_some (l : List (List UInt8)) (j : Nat) (s : List UInt8) (h : l[j]? = some s) : (sv l)[j]? = some (.string (strL s)) := by simp [sv, h]

/-- A slice of parameters: what it reads as. -/
structure PsIs (w : World) (v : Value) (l : List Prm) : Prop where
  val : ∃ ao cap, v = .slice ao l.length cap ∧ l.length ≤ cap ∧ cap ≤ 9223372036854775807 ∧ (ao = none → cap = 0) ∧ (l.length = 0 ∨ ∃ b o, ao = some ⟨b, o, none⟩ ∧ b < w.heap.size ∧ w.rangeAt b o (sv (fl l)))
  len : l.length * 32 ≤ 140737488355328
  each : ∀ p ∈ l, p.1.length ≤ 140737488355328 ∧ p.2.length ≤ 140737488355328
theorem PsIs.kept {w w' : World} {v : Value} {l : List Prm} (h : PsIs w v l) (hk : Kept [] w w') : PsIs w' v l := by
  obtain ⟨⟨ao, cap, h1, h2, h3, h4, h5⟩, h6, h7⟩ := h
  refine ⟨⟨ao, cap, h1, h2, h3, h4, ?_⟩, h6, h7⟩
  rcases h5 with h5 | ⟨b, o, rfl, hb, hr⟩
  · exact .inl h5
  · exact .inr ⟨b, o, rfl, Nat.lt_of_lt_of_le hb hk.size, hk.range hb (by simp) hr⟩
/-- The same, opened. -/
theorem PsIs.open {w : World} {v : Value} {l : List Prm} (h : PsIs w v l) : ∃ ao cap, v = .slice ao l.length cap ∧ l.length ≤ cap ∧ cap ≤ 9223372036854775807 ∧ (ao = none → cap = 0) ∧
    (0 < l.length → ∃ b o, ao = some ⟨b, o, none⟩ ∧ b < w.heap.size ∧ ∀ k (hk : k < l.length), w.cell? ⟨b, o + k * 2, none⟩ = some (.string (strL l[k].1)) ∧ w.cell? ⟨b, o + k * 2 + 1, none⟩ = some (.string (strL l[k].2))) := by
  obtain ⟨ao, cap, h1, h2, h3, h4, h5⟩ := h.val
  refine ⟨ao, cap, h1, h2, h3, h4, fun h0 => ?_⟩
  rcases h5 with h5 | ⟨b, o, rfl, hb, hr⟩
  · omega
  · refine ⟨b, o, rfl, hb, fun k hk => ⟨?_, ?_⟩⟩
    · have := hr (2 * k) _ (sv_some _ _ _ (fl_get0 l k hk))
      rwa [show o + 2 * k = o + k * 2 by omega] at this
    · have := hr (2 * k + 1) _ (sv_some _ _ _ (fl_get1 l k hk))
      rwa [show o + (2 * k + 1) = o + k * 2 + 1 by omega] at this
theorem PsIs.nil (w : World) : PsIs w (.slice none 0 0) [] := ⟨⟨none, 0, rfl, by simp, by omega, fun _ => rfl, .inl rfl⟩, by simp, fun x hx => by cases hx⟩
/-- A slice's rest, from place 1 on. -/
theorem PsIs.tail {w : World} {ao : Option Addr} {cap n : Nat} {p : Prm} {l : List Prm} (h : PsIs w (.slice ao (n + 1) cap) (p :: l)) (hn : l.length = n) :
    ∃ b o, ao = some ⟨b, o, none⟩ ∧ PsIs w (.slice (some ⟨b, if cap = 1 then o else o + 2, none⟩) n (cap - 1)) l := by
  obtain ⟨⟨ao', cap', h1, h2, h3, h4, h5⟩, h6, h7⟩ := h
  simp only [List.length_cons] at h1 h2 h5 h6
  injection h1 with e1 e2 e3
  subst e1 e3
  rcases h5 with h5 | ⟨b, o, rfl, hb, hr⟩
  · omega
  · refine ⟨b, o, rfl, ⟨⟨_, _, by rw [hn], by omega, by omega, fun e => (by cases e), ?_⟩, by omega, fun q hq => h7 q (by simp [hq])⟩⟩
    by_cases h0 : l.length = 0
    · exact .inl h0
    · have hc : ¬ cap = 1 := by omega
      rw [if_neg hc]
      refine .inr ⟨b, o + 2, rfl, hb, fun j u hu => ?_⟩
      have := hr (j + 2) u (by simpa [fl, sv] using hu)
      rwa [show o + 2 + j = o + (j + 2) by omega]

/-- Parameters of the call's own. -/
def OwnP (base : Nat) (w : World) (v : Value) (l : List Prm) : Prop := w.ownsRow base 31 2 v l.length (sv (fl l)) ∧ l.length * 32 ≤ 140737488355328 ∧ ∀ p ∈ l, p.1.length ≤ 140737488355328 ∧ p.2.length ≤ 140737488355328
theorem elemPrm : ElemOk Tryd.prog 22 31 (.agg #[.string (strL []), .string (strL [])]) 2 32 := ⟨Tryd.underlying22, by kernel_rfl, rfl, by omega⟩
theorem OwnP.nil (base : Nat) (w : World) : OwnP base w (.slice none 0 0) [] := ⟨World.ownsRow_nil w base _ 2, by simp, fun x hx => by cases hx⟩
theorem OwnP.keptX {base : Nat} {w w' : World} {v : Value} {l : List Prm} (h : OwnP base w v l) {ex : List Nat} (hk : Kept ex w w') (hne : ∀ k, v.ownBlock = some k → k ∉ ex) : OwnP base w' v l := ⟨owns_kept h.1 hk hne, h.2⟩
theorem OwnP.kept {base : Nat} {w w' : World} {v : Value} {l : List Prm} (h : OwnP base w v l) (hk : Kept [] w w') : OwnP base w' v l := h.keptX hk (by simp)
theorem OwnP.blk {base : Nat} {w : World} {v : Value} {l : List Prm} (h : OwnP base w v l) : ∀ q, v.ownBlock = some q → base ≤ q ∧ q < w.heap.size := World.ownsRow.lt h.1
theorem OwnP.ps {base : Nat} {w : World} {v : Value} {l : List Prm} (h : OwnP base w v l) : PsIs w v l := by
  obtain ⟨⟨h1, ⟨rfl, h2⟩ | ⟨g, cap, cur, rfl, hb, hg, hc1, hc2, hcs, htk⟩⟩, h4, h5⟩ := h
  · have : l = [] := List.eq_nil_of_length_eq_zero h2
    subst this
    exact PsIs.nil w
  · refine ⟨⟨_, _, rfl, hc1, by unfold maxLen at hc2; omega, fun e => (by cases e), .inr ⟨g, 0, rfl, (Array.getElem?_eq_some_iff.1 hg).1, fun q u hu => ?_⟩⟩, h4, h5⟩
    rw [← htk] at hu
    have hq : q < l.length * 2 := by
      have := (List.getElem?_eq_some_iff.1 hu).1
      simp at this; omega
    rw [List.getElem?_take_of_lt hq] at hu
    rw [Nat.zero_add, cell_of_row w g q _ _ _ hg]
    simpa using hu
theorem OwnP.mono {base base' : Nat} {w : World} {v : Value} {l : List Prm} (h : OwnP base w v l) (hb : base' ≤ base) : OwnP base' w v l := by
  obtain ⟨⟨h1, h2⟩, h3⟩ := h
  refine ⟨⟨h1, ?_⟩, h3⟩
  rcases h2 with h2 | ⟨g, cap, cur, e, hbg, r⟩
  · exact .inl h2
  · exact .inr ⟨g, cap, cur, e, by omega, r⟩
/-- A parameter that lies in a new block is appended. -/
theorem OwnP.app {base : Nat} {w : World} {v : Value} {l : List Prm} (h : OwnP base w v l) (hb : base ≤ w.heap.size) (p : Prm) (hl : (l.length + 1) * 32 ≤ 140737488355328) (hp : p.1.length ≤ 140737488355328 ∧ p.2.length ≤ 140737488355328) :
    ∃ v' w', (Builtin.append_ #[22, 22] 22 #[v, .slice (some ⟨w.heap.size, 0, none⟩) 1 1]).run Tryd.prog (w.alloc (.cells #[.string (strL p.1), .string (strL p.2)] 31)) = .ok v' w' ∧ OwnP base w' v' (l ++ [p]) ∧ AppB w v w' v' ∧ Kept v.ownBlock.toList (w.alloc (.cells #[.string (strL p.1), .string (strL p.2)] 31)) w' := by
  have hs0 : base ≤ (w.alloc (.cells #[.string (strL p.1), .string (strL p.2)] 31)).heap.size := by rw [size_alloc]; omega
  obtain ⟨v', w', hrun, ho, hk, hor⟩ := own_app elemPrm 22 (w.alloc (.cells #[.string (strL p.1), .string (strL p.2)] 31)) base v l.length (sv (fl l)) (World.ownsRow.alloc h.1 _) ⟨w.heap.size, 0, none⟩ 1 1 (sv (fl [p])) rfl
    (fun j u hu => by
      rw [Addr.add_mid, Nat.zero_add, cell_of_row _ _ j _ _ _ (heap_alloc_last w _)]
      simpa [sv, fl] using hu) (sv_oneT _) (by unfold maxLen; omega) hl hs0
  refine ⟨v', w', hrun, ⟨?_, by simpa using hl, fun q hq => ?_⟩, AppB.pre (Kept.alloc [] w _) ⟨hk, ?_⟩, hk⟩
  · rw [List.length_append, fl_append, show sv (fl l ++ fl [p]) = sv (fl l) ++ sv (fl [p]) by simp [sv]]
    exact ho
  · simp only [List.mem_append, List.mem_singleton] at hq
    rcases hq with hq | rfl
    · exact h.2.2 q hq
    · exact hp
  · rcases hor with e | e
    · exact .inl e
    · exact .inr ⟨_, e, Nat.le_refl _⟩
theorem OwnP.into {base : Nat} {w0 w w' : World} {v v' : Value} {l : List Prm} (hk : Kept [] w0 w) (h : AppB w v w' v') (ho : OwnP base w v l) (hb : w0.heap.size ≤ base) : Kept [] w0 w' :=
  hk.into h.kept fun q hq => by have := (ho.blk q (by simpa using hq)).1; omega

/-- A resource as a value. -/
def resV (t ti : List UInt8) (v : Value) : Value := .agg #[.string (strL t), .string (strL ti), v]
theorem str_beqP (a b : List UInt8) : ((strL a).toList == (strL b).toList) = decide (a = b) := by
  rw [strL_bytes, strL_bytes, Bool.eq_iff_iff]; simp

/-- What Get finds. -/
def getP (P : List Prm) (n : List UInt8) : Option (List UInt8) := (P.find? fun p => decide (p.1 = n)).map (·.2)
def getV (P : List Prm) (n : List UInt8) : List UInt8 := (getP P n).getD []
def getB (P : List Prm) (n : List UInt8) : Bool := (getP P n).isSome
theorem getP_yes {l : List Prm} {n : List UInt8} (i : Nat) (hi : i < l.length) (h : l[i].1 = n) (hn : ∀ j (hj : j < l.length), j < i → l[j].1 ≠ n) : getP l n = some l[i].2 := by
  unfold getP
  have : l.find? (fun p => decide (p.1 = n)) = some l[i] := by
    rw [List.find?_eq_some_iff_getElem]
    refine ⟨by simpa using h, i, hi, rfl, fun j hj => ?_⟩
    simpa using hn j (by omega) hj
  rw [this]; rfl
theorem getP_no {l : List Prm} {n : List UInt8} (hn : ∀ j (hj : j < l.length), l[j].1 ≠ n) : getP l n = none := by
  unfold getP
  have : l.find? (fun p => decide (p.1 = n)) = none := by
    rw [List.find?_eq_none]
    intro x hx
    obtain ⟨i, hi, rfl⟩ := List.getElem_of_mem hx
    simpa using hn i hi
  rw [this]; rfl
/-- What Get answers. -/
def GetP (P : List Prm) (n : List UInt8) (w : World) (e : Ending) (w' : World) : Prop := e = .returned (.tuple #[.string (strL (getV P n)), .bool (getB P n)]) ∧ Kept [] w w'
theorem GetP.yes {P : List Prm} {n x : List UInt8} {w w' : World} (h : getP P n = some x) (hk : Kept [] w w') : GetP P n w (.returned (.tuple #[.string (strL x), .bool true])) w' := by
  refine ⟨?_, hk⟩
  unfold getV getB
  rw [h]; rfl
theorem GetP.no {P : List Prm} {n : List UInt8} {w w' : World} (h : getP P n = none) (hk : Kept [] w w') : GetP P n w (.returned (.tuple #[.string ⟨#[]⟩, .bool false])) w' := by
  refine ⟨?_, hk⟩
  unfold getV getB
  rw [h]; rfl

set_option maxRecDepth 100000 in
set_option maxHeartbeats 2000000 in
theorem sget_any (t ti n : List UInt8) (P : List Prm) (v : Value) (w : World) (h : PsIs w v P) :
    Calls Tryd.prog 14 #[resV t ti v, .string (strL n)] w (GetP P n w) := by
  have hl : P.length ≤ 140737488355328 := by have := h.len; omega
  obtain ⟨ao, cap, rfl, h2, h3, h4, h5⟩ := h.open
  have H5 := Lib.hid h5
  obtain ⟨m, hm⟩ : ∃ m, P.length = m := ⟨_, rfl⟩
  have HM := Lib.hid hm
  rw [hm] at h2 hl
  rw [hm]
  clear h h5 h4 hm
  unfold resV
  have HK := Lib.hid (Kept.alloc [] w (.cells #[.string (strL t), .string (strL ti), .slice ao m cap] 24))
  go_enter Tryd.func14, Tryd.ntmps14
  go_wp2_with fail
  go_loopw [11] (fun i wr => ∃ k : Nat, k ≤ m ∧ i = .int .i64 k ∧ Hid (∀ j (hj : j < P.length), j < k → P[j].1 ≠ n) ∧ Hid (Kept [] w wr)) (fun i _ => m - (intOf i).toNat)
  case atStart => exact ⟨0, by omega, rfl, fun j hj h0 => by omega, HK.out⟩
  case round =>
    obtain ⟨k, hk, rfl, HN, HS⟩ := hrel
    by_cases hlt : k < m
    · have hkl : k < P.length := by rw [HM.out]; exact hlt
      obtain ⟨b, o, rfl, hb, hc⟩ := H5.out (by omega)
      obtain ⟨c0, c1⟩ := hc k hkl
      have d0 := (HS.out.cell (p := ⟨b, o + k * 2, none⟩) hb (by simp)).trans c0
      have d1 := (HS.out.cell (p := ⟨b, o + k * 2 + 1, none⟩) hb (by simp)).trans c1
      obtain ⟨p, hp⟩ : ∃ p, P[k].1 = p := ⟨_, rfl⟩
      obtain ⟨q, hq⟩ : ∃ q, P[k].2 = q := ⟨_, rfl⟩
      rw [hp] at d0
      rw [hq] at d1
      have HP := Lib.hid hp
      have HQ := Lib.hid hq
      have HS1 : Hid (Kept [] w (wr.alloc (.cells #[.string (strL p), .string (strL q)] 31))) := HS.out.trans (Kept.alloc _ _ _)
      clear c0 c1 hp hq hc
      by_cases hpn : p = n
      · have q1 : ((strL p).toList == (strL n).toList) = true := by rw [str_beqP, decide_eq_true hpn]
        have HG : Hid (getP P n = some q) := by
          show _ = _
          rw [← HQ.out]
          exact getP_yes k hkl (by rw [HP.out]; exact hpn) fun j hj h => HN.out j hj h
        clear hpn
        go_wp2_with fail
        go_ret2
        exact GetP.yes HG.out HS1.out
      · have q1 : ((strL p).toList == (strL n).toList) = false := by rw [str_beqP, decide_eq_false hpn]
        have HN2 : Hid (∀ j (hj : j < P.length), j < k + 1 → P[j].1 ≠ n) := fun j hj hjk => by
          by_cases e : j = k
          · subst e; rw [HP.out]; exact hpn
          · exact HN.out j hj (by omega)
        clear hpn
        go_wp2_with fail
        go_roundw
        case rel => exact ⟨k + 1, by omega, by go_num, HN2, HS1⟩
        case measure => simp [intOf]; omega
    · have HG : Hid (getP P n = none) := getP_no fun j hj => HN.out j hj (by rw [HM.out] at hj; omega)
      go_wp2_with fail
      go_ret2
      exact GetP.no HG.out HS.out

set_option maxRecDepth 100000 in
set_option maxHeartbeats 2000000 in
theorem rsget_any (t ti n : List UInt8) (P : List Prm) (v : Value) (w : World) (h : PsIs w v P) :
    Calls Tryd.prog 15 #[resV t ti v, .string (strL n)] w (GetP P n w) := by
  have hl : P.length ≤ 140737488355328 := by have := h.len; omega
  obtain ⟨ao, cap, rfl, h2, h3, h4, h5⟩ := h.open
  have H5 := Lib.hid h5
  obtain ⟨m, hm⟩ : ∃ m, P.length = m := ⟨_, rfl⟩
  have HM := Lib.hid hm
  rw [hm] at h2 hl
  rw [hm]
  clear h h5 h4 hm
  unfold resV
  have HK := Lib.hid (Kept.alloc [] w (.cells #[.string (strL t), .string (strL ti), .slice ao m cap] 24))
  go_enter Tryd.func15, Tryd.ntmps15
  go_wp2_with fail
  go_loop [6] (fun i => ∃ k : Nat, k ≤ m ∧ i = .int .i64 k ∧ Hid (∀ j (hj : j < P.length), j < k → P[j].1 ≠ n)) (fun i => m - (intOf i).toNat)
  case atStart => exact ⟨0, by omega, rfl, fun j hj h0 => by omega⟩
  case round =>
    obtain ⟨k, hk, rfl, HN⟩ := hrel
    by_cases hlt : k < m
    · have hkl : k < P.length := by rw [HM.out]; exact hlt
      obtain ⟨b, o, rfl, hb, hc⟩ := H5.out (by omega)
      obtain ⟨c0, c1⟩ := hc k hkl
      have d0 := (HK.out.cell (p := ⟨b, o + k * 2, none⟩) hb (by simp)).trans c0
      have d1 := (HK.out.cell (p := ⟨b, o + k * 2 + 1, none⟩) hb (by simp)).trans c1
      obtain ⟨p, hp⟩ : ∃ p, P[k].1 = p := ⟨_, rfl⟩
      obtain ⟨q, hq⟩ : ∃ q, P[k].2 = q := ⟨_, rfl⟩
      rw [hp] at d0
      rw [hq] at d1
      have HP := Lib.hid hp
      have HQ := Lib.hid hq
      clear c0 c1 hp hq hc
      by_cases hpn : p = n
      · have q1 : ((strL p).toList == (strL n).toList) = true := by rw [str_beqP, decide_eq_true hpn]
        have HG : Hid (getP P n = some q) := by
          show _ = _
          rw [← HQ.out]
          exact getP_yes k hkl (by rw [HP.out]; exact hpn) fun j hj h => HN.out j hj h
        clear hpn
        go_wp2_with fail
        go_ret2
        exact GetP.yes HG.out HK.out
      · have q1 : ((strL p).toList == (strL n).toList) = false := by rw [str_beqP, decide_eq_false hpn]
        have HN2 : Hid (∀ j (hj : j < P.length), j < k + 1 → P[j].1 ≠ n) := fun j hj hjk => by
          by_cases e : j = k
          · subst e; rw [HP.out]; exact hpn
          · exact HN.out j hj (by omega)
        clear hpn
        go_wp2_with fail
        go_round
        case rel => exact ⟨k + 1, by omega, by go_num, HN2⟩
        case measure => simp [intOf]; omega
    · have HG : Hid (getP P n = none) := getP_no fun j hj => HN.out j hj (by rw [HM.out] at hj; omega)
      go_wp2_with fail
      go_ret2
      exact GetP.no HG.out HK.out
end Go.Proofs.YthpfnkanilfohaaDoor

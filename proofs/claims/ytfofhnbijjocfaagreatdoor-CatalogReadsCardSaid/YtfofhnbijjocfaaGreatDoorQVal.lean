/-
  Layer 6: parameters in memory (a name and a value each), slices of them, resources; what Get finds.
  Conditions: those that each theorem states.
  Layer 6: what values and titles may be: digits, identities, modes, texts, keys, words, paths; the program's functions and the document's.
  Conditions: those that each theorem states.
-/
import Derived.Test.YtfofhnbijjocfaaGreatDoorTSound
import Derived.Test.YtfofhnbijjocfaaGreatDoorLPath
namespace Go.Proofs.YtfofhnbijjocfaaGreatDoor
open Go.RowKit Go.Maps
set_option maxRecDepth 100000

/-- A parameter: its name, its value. -/
abbrev Prm := List UInt8 × List UInt8
/-- The texts of parameters, one behind the other. -/
def fl : List Prm → List (List UInt8)
  | [] => []
  | p :: l => p.1 :: p.2 :: fl l
theorem fl_length : ∀ l : List Prm, (fl l).length = 2 * l.length
  | [] => rfl
  | p :: l => by have := fl_length l; simp [fl, this]; omega
theorem fl_append : ∀ l m : List Prm, fl (l ++ m) = fl l ++ fl m
  | [], _ => rfl
  | p :: l, m => by simp [fl, fl_append l m]
theorem fl_get0 : ∀ (l : List Prm) (k : Nat) (hk : k < l.length), (fl l)[2 * k]? = some l[k].1
  | p :: l, 0, _ => rfl
  | p :: l, k + 1, hk => by
    have := fl_get0 l k (by simpa using hk)
    rw [show 2 * (k + 1) = 2 * k + 2 by omega]
    simpa [fl] using this
theorem fl_get1 : ∀ (l : List Prm) (k : Nat) (hk : k < l.length), (fl l)[2 * k + 1]? = some l[k].2
  | p :: l, 0, _ => rfl
  | p :: l, k + 1, hk => by
    have := fl_get1 l k (by simpa using hk)
    rw [show 2 * (k + 1) + 1 = 2 * k + 1 + 2 by omega]
    simpa [fl] using this
theorem sv_some (l : List (List UInt8)) (j : Nat) (s : List UInt8) (h : l[j]? = some s) : (sv l)[j]? = some (.string (strL s)) := by simp [sv, h]

/-- A slice of parameters: what it reads as. -/
structure PsIs (w : World) (v : Value) (l : List Prm) : Prop where
  val : ∃ ao cap, v = .slice ao l.length cap ∧ l.length ≤ cap ∧ cap ≤ 9223372036854775807 ∧ (ao = none → cap = 0) ∧ (l.length = 0 ∨ ∃ b o, ao = some ⟨b, o, none⟩ ∧ b < w.heap.size ∧ w.rangeAt b o (sv (fl l)))
  len : l.length * 32 ≤ 140737488355328
  each : ∀ p ∈ l, p.1.length ≤ 140737488355328 ∧ p.2.length ≤ 140737488355328
theorem PsIs.kept {w w' : World} {v : Value} {l : List Prm} (h : PsIs w v l) (hk : Kept [] w w') : PsIs w' v l := by
  obtain ⟨⟨ao, cap, h1, h2, h3, h4, h5⟩, h6, h7⟩ := h
  refine ⟨⟨ao, cap, h1, h2, h3, h4, ?_⟩, h6, h7⟩
  rcases h5 with h5 | ⟨b, o, rfl, hb, hr⟩
  · exact .inl h5
  · exact .inr ⟨b, o, rfl, Nat.lt_of_lt_of_le hb hk.size, hk.range hb (by simp) hr⟩
/-- The same, opened. -/
theorem PsIs.open {w : World} {v : Value} {l : List Prm} (h : PsIs w v l) : ∃ ao cap, v = .slice ao l.length cap ∧ l.length ≤ cap ∧ cap ≤ 9223372036854775807 ∧ (ao = none → cap = 0) ∧
    (0 < l.length → ∃ b o, ao = some ⟨b, o, none⟩ ∧ b < w.heap.size ∧ ∀ k (hk : k < l.length), w.cell? ⟨b, o + k * 2, none⟩ = some (.string (strL l[k].1)) ∧ w.cell? ⟨b, o + k * 2 + 1, none⟩ = some (.string (strL l[k].2))) := by
  obtain ⟨ao, cap, h1, h2, h3, h4, h5⟩ := h.val
  refine ⟨ao, cap, h1, h2, h3, h4, fun h0 => ?_⟩
  rcases h5 with h5 | ⟨b, o, rfl, hb, hr⟩
  · omega
  · refine ⟨b, o, rfl, hb, fun k hk => ⟨?_, ?_⟩⟩
    · have := hr (2 * k) _ (sv_some _ _ _ (fl_get0 l k hk))
      rwa [show o + 2 * k = o + k * 2 by omega] at this
    · have := hr (2 * k + 1) _ (sv_some _ _ _ (fl_get1 l k hk))
      rwa [show o + (2 * k + 1) = o + k * 2 + 1 by omega] at this
theorem PsIs.nil (w : World) : PsIs w (.slice none 0 0) [] := ⟨⟨none, 0, rfl, by simp, by omega, fun _ => rfl, .inl rfl⟩, by simp, fun x hx => by cases hx⟩
/-- A slice's rest, from place 1 on. -/
theorem PsIs.tail {w : World} {ao : Option Addr} {cap n : Nat} {p : Prm} {l : List Prm} (h : PsIs w (.slice ao (n + 1) cap) (p :: l)) (hn : l.length = n) :
    ∃ b o, ao = some ⟨b, o, none⟩ ∧ PsIs w (.slice (some ⟨b, if cap = 1 then o else o + 2, none⟩) n (cap - 1)) l := by
  obtain ⟨⟨ao', cap', h1, h2, h3, h4, h5⟩, h6, h7⟩ := h
  simp only [List.length_cons] at h1 h2 h5 h6
  injection h1 with e1 e2 e3
  subst e1 e3
  rcases h5 with h5 | ⟨b, o, rfl, hb, hr⟩
  · omega
  · refine ⟨b, o, rfl, ⟨⟨_, _, by rw [hn], by omega, by omega, fun e => (by cases e), ?_⟩, by omega, fun q hq => h7 q (by simp [hq])⟩⟩
    by_cases h0 : l.length = 0
    · exact .inl h0
    · have hc : ¬ cap = 1 := by omega
      rw [if_neg hc]
      refine .inr ⟨b, o + 2, rfl, hb, fun j u hu => ?_⟩
      have := hr (j + 2) u (by simpa [fl, sv] using hu)
      rwa [show o + 2 + j = o + (j + 2) by omega]

/-- Parameters of the call's own. -/
def OwnP (base : Nat) (w : World) (v : Value) (l : List Prm) : Prop := w.ownsRow base 61 2 v l.length (sv (fl l)) ∧ l.length * 32 ≤ 140737488355328 ∧ ∀ p ∈ l, p.1.length ≤ 140737488355328 ∧ p.2.length ≤ 140737488355328
theorem elemPrm : ElemOk Tryz.prog 38 61 (.agg #[.string (strL []), .string (strL [])]) 2 32 := ⟨Tryz.underlying38, by kernel_rfl, rfl, by omega⟩
theorem OwnP.nil (base : Nat) (w : World) : OwnP base w (.slice none 0 0) [] := ⟨World.ownsRow_nil w base _ 2, by simp, fun x hx => by cases hx⟩
theorem OwnP.keptX {base : Nat} {w w' : World} {v : Value} {l : List Prm} (h : OwnP base w v l) {ex : List Nat} (hk : Kept ex w w') (hne : ∀ k, v.ownBlock = some k → k ∉ ex) : OwnP base w' v l := ⟨owns_kept h.1 hk hne, h.2⟩
theorem OwnP.kept {base : Nat} {w w' : World} {v : Value} {l : List Prm} (h : OwnP base w v l) (hk : Kept [] w w') : OwnP base w' v l := h.keptX hk (by simp)
theorem OwnP.blk {base : Nat} {w : World} {v : Value} {l : List Prm} (h : OwnP base w v l) : ∀ q, v.ownBlock = some q → base ≤ q ∧ q < w.heap.size := World.ownsRow.lt h.1
theorem OwnP.ps {base : Nat} {w : World} {v : Value} {l : List Prm} (h : OwnP base w v l) : PsIs w v l := by
  obtain ⟨⟨h1, ⟨rfl, h2⟩ | ⟨g, cap, cur, rfl, hb, hg, hc1, hc2, hcs, htk⟩⟩, h4, h5⟩ := h
  · have : l = [] := List.eq_nil_of_length_eq_zero h2
    subst this
    exact PsIs.nil w
  · refine ⟨⟨_, _, rfl, hc1, by unfold maxLen at hc2; omega, fun e => (by cases e), .inr ⟨g, 0, rfl, (Array.getElem?_eq_some_iff.1 hg).1, fun q u hu => ?_⟩⟩, h4, h5⟩
    rw [← htk] at hu
    have hq : q < l.length * 2 := by
      have := (List.getElem?_eq_some_iff.1 hu).1
      simp at this; omega
    rw [List.getElem?_take_of_lt hq] at hu
    rw [Nat.zero_add, cell_of_row w g q _ _ _ hg]
    simpa using hu
theorem OwnP.mono {base base' : Nat} {w : World} {v : Value} {l : List Prm} (h : OwnP base w v l) (hb : base' ≤ base) : OwnP base' w v l := by
  obtain ⟨⟨h1, h2⟩, h3⟩ := h
  refine ⟨⟨h1, ?_⟩, h3⟩
  rcases h2 with h2 | ⟨g, cap, cur, e, hbg, r⟩
  · exact .inl h2
  · exact .inr ⟨g, cap, cur, e, by omega, r⟩
/-- A parameter that lies in a new block is appended. -/
theorem OwnP.app {base : Nat} {w : World} {v : Value} {l : List Prm} (h : OwnP base w v l) (hb : base ≤ w.heap.size) (p : Prm) (hl : (l.length + 1) * 32 ≤ 140737488355328) (hp : p.1.length ≤ 140737488355328 ∧ p.2.length ≤ 140737488355328) :
    ∃ v' w', (Builtin.append_ #[38, 38] 38 #[v, .slice (some ⟨w.heap.size, 0, none⟩) 1 1]).run Tryz.prog (w.alloc (.cells #[.string (strL p.1), .string (strL p.2)] 61)) = .ok v' w' ∧ OwnP base w' v' (l ++ [p]) ∧ AppB w v w' v' ∧ Kept v.ownBlock.toList (w.alloc (.cells #[.string (strL p.1), .string (strL p.2)] 61)) w' := by
  have hs0 : base ≤ (w.alloc (.cells #[.string (strL p.1), .string (strL p.2)] 61)).heap.size := by rw [size_alloc]; omega
  obtain ⟨v', w', hrun, ho, hk, hor⟩ := own_app elemPrm 38 (w.alloc (.cells #[.string (strL p.1), .string (strL p.2)] 61)) base v l.length (sv (fl l)) (World.ownsRow.alloc h.1 _) ⟨w.heap.size, 0, none⟩ 1 1 (sv (fl [p])) rfl
    (fun j u hu => by
      rw [Addr.add_mid, Nat.zero_add, cell_of_row _ _ j _ _ _ (heap_alloc_last w _)]
      simpa [sv, fl] using hu) (sv_oneT _) (by unfold maxLen; omega) hl hs0
  refine ⟨v', w', hrun, ⟨?_, by simpa using hl, fun q hq => ?_⟩, AppB.pre (Kept.alloc [] w _) ⟨hk, ?_⟩, hk⟩
  · rw [List.length_append, fl_append, show sv (fl l ++ fl [p]) = sv (fl l) ++ sv (fl [p]) by simp [sv]]
    exact ho
  · simp only [List.mem_append, List.mem_singleton] at hq
    rcases hq with hq | rfl
    · exact h.2.2 q hq
    · exact hp
  · rcases hor with e | e
    · exact .inl e
    · exact .inr ⟨_, e, Nat.le_refl _⟩
theorem OwnP.into {base : Nat} {w0 w w' : World} {v v' : Value} {l : List Prm} (hk : Kept [] w0 w) (h : AppB w v w' v') (ho : OwnP base w v l) (hb : w0.heap.size ≤ base) : Kept [] w0 w' :=
  hk.into h.kept fun q hq => by have := (ho.blk q (by simpa using hq)).1; omega

/-- A resource as a value. -/
def resV (t ti : List UInt8) (v : Value) : Value := .agg #[.string (strL t), .string (strL ti), v]
theorem str_beqP (a b : List UInt8) : ((strL a).toList == (strL b).toList) = decide (a = b) := by
  rw [strL_bytes, strL_bytes, Bool.eq_iff_iff]; simp

/-- What Get finds. -/
def getP (P : List Prm) (n : List UInt8) : Option (List UInt8) := (P.find? fun p => decide (p.1 = n)).map (·.2)
def getV (P : List Prm) (n : List UInt8) : List UInt8 := (getP P n).getD []
def getB (P : List Prm) (n : List UInt8) : Bool := (getP P n).isSome
theorem getP_yes {l : List Prm} {n : List UInt8} (i : Nat) (hi : i < l.length) (h : l[i].1 = n) (hn : ∀ j (hj : j < l.length), j < i → l[j].1 ≠ n) : getP l n = some l[i].2 := by
  unfold getP
  have : l.find? (fun p => decide (p.1 = n)) = some l[i] := by
    rw [List.find?_eq_some_iff_getElem]
    refine ⟨by simpa using h, i, hi, rfl, fun j hj => ?_⟩
    simpa using hn j (by omega) hj
  rw [this]; rfl
theorem getP_no {l : List Prm} {n : List UInt8} (hn : ∀ j (hj : j < l.length), l[j].1 ≠ n) : getP l n = none := by
  unfold getP
  have : l.find? (fun p => decide (p.1 = n)) = none := by
    rw [List.find?_eq_none]
    intro x hx
    obtain ⟨i, hi, rfl⟩ := List.getElem_of_mem hx
    simpa using hn i hi
  rw [this]; rfl
/-- What Get answers. -/
def GetP (P : List Prm) (n : List UInt8) (w : World) (e : Ending) (w' : World) : Prop := e = .returned (.tuple #[.string (strL (getV P n)), .bool (getB P n)]) ∧ Kept [] w w'
theorem GetP.yes {P : List Prm} {n x : List UInt8} {w w' : World} (h : getP P n = some x) (hk : Kept [] w w') : GetP P n w (.returned (.tuple #[.string (strL x), .bool true])) w' := by
  refine ⟨?_, hk⟩
  unfold getV getB
  rw [h]; rfl
theorem GetP.no {P : List Prm} {n : List UInt8} {w w' : World} (h : getP P n = none) (hk : Kept [] w w') : GetP P n w (.returned (.tuple #[.string ⟨#[]⟩, .bool false])) w' := by
  refine ⟨?_, hk⟩
  unfold getV getB
  rw [h]; rfl

set_option maxRecDepth 100000 in
set_option maxHeartbeats 2000000 in
theorem sget_any (t ti n : List UInt8) (P : List Prm) (v : Value) (w : World) (h : PsIs w v P) :
    Calls Tryz.prog 60 #[resV t ti v, .string (strL n)] w (GetP P n w) := by
  have hl : P.length ≤ 140737488355328 := by have := h.len; omega
  obtain ⟨ao, cap, rfl, h2, h3, h4, h5⟩ := h.open
  have H5 := Lib.hid h5
  obtain ⟨m, hm⟩ : ∃ m, P.length = m := ⟨_, rfl⟩
  have HM := Lib.hid hm
  rw [hm] at h2 hl
  rw [hm]
  clear h h5 h4 hm
  unfold resV
  have HK := Lib.hid (Kept.alloc [] w (.cells #[.string (strL t), .string (strL ti), .slice ao m cap] 40))
  go_enter Tryz.func60, Tryz.ntmps60
  go_wp2_with fail
  go_loopw [11] (fun i wr => ∃ k : Nat, k ≤ m ∧ i = .int .i64 k ∧ Hid (∀ j (hj : j < P.length), j < k → P[j].1 ≠ n) ∧ Hid (Kept [] w wr)) (fun i _ => m - (intOf i).toNat)
  case atStart => exact ⟨0, by omega, rfl, fun j hj h0 => by omega, HK.out⟩
  case round =>
    obtain ⟨k, hk, rfl, HN, HS⟩ := hrel
    by_cases hlt : k < m
    · have hkl : k < P.length := by rw [HM.out]; exact hlt
      obtain ⟨b, o, rfl, hb, hc⟩ := H5.out (by omega)
      obtain ⟨c0, c1⟩ := hc k hkl
      have d0 := (HS.out.cell (p := ⟨b, o + k * 2, none⟩) hb (by simp)).trans c0
      have d1 := (HS.out.cell (p := ⟨b, o + k * 2 + 1, none⟩) hb (by simp)).trans c1
      obtain ⟨p, hp⟩ : ∃ p, P[k].1 = p := ⟨_, rfl⟩
      obtain ⟨q, hq⟩ : ∃ q, P[k].2 = q := ⟨_, rfl⟩
      rw [hp] at d0
      rw [hq] at d1
      have HP := Lib.hid hp
      have HQ := Lib.hid hq
      have HS1 : Hid (Kept [] w (wr.alloc (.cells #[.string (strL p), .string (strL q)] 61))) := HS.out.trans (Kept.alloc _ _ _)
      clear c0 c1 hp hq hc
      by_cases hpn : p = n
      · have q1 : ((strL p).toList == (strL n).toList) = true := by rw [str_beqP, decide_eq_true hpn]
        have HG : Hid (getP P n = some q) := by
          show _ = _
          rw [← HQ.out]
          exact getP_yes k hkl (by rw [HP.out]; exact hpn) fun j hj h => HN.out j hj h
        clear hpn
        go_wp2_with fail
        go_ret2
        exact GetP.yes HG.out HS1.out
      · have q1 : ((strL p).toList == (strL n).toList) = false := by rw [str_beqP, decide_eq_false hpn]
        have HN2 : Hid (∀ j (hj : j < P.length), j < k + 1 → P[j].1 ≠ n) := fun j hj hjk => by
          by_cases e : j = k
          · subst e; rw [HP.out]; exact hpn
          · exact HN.out j hj (by omega)
        clear hpn
        go_wp2_with fail
        go_roundw
        case rel => exact ⟨k + 1, by omega, by go_num, HN2, HS1⟩
        case measure => simp [intOf]; omega
    · have HG : Hid (getP P n = none) := getP_no fun j hj => HN.out j hj (by rw [HM.out] at hj; omega)
      go_wp2_with fail
      go_ret2
      exact GetP.no HG.out HS.out

set_option maxRecDepth 100000 in
set_option maxHeartbeats 2000000 in
theorem rsget_any (t ti n : List UInt8) (P : List Prm) (v : Value) (w : World) (h : PsIs w v P) :
    Calls Tryz.prog 21 #[resV t ti v, .string (strL n)] w (GetP P n w) := by
  have hl : P.length ≤ 140737488355328 := by have := h.len; omega
  obtain ⟨ao, cap, rfl, h2, h3, h4, h5⟩ := h.open
  have H5 := Lib.hid h5
  obtain ⟨m, hm⟩ : ∃ m, P.length = m := ⟨_, rfl⟩
  have HM := Lib.hid hm
  rw [hm] at h2 hl
  rw [hm]
  clear h h5 h4 hm
  unfold resV
  have HK := Lib.hid (Kept.alloc [] w (.cells #[.string (strL t), .string (strL ti), .slice ao m cap] 40))
  go_enter Tryz.func21, Tryz.ntmps21
  go_wp2_with fail
  go_loop [6] (fun i => ∃ k : Nat, k ≤ m ∧ i = .int .i64 k ∧ Hid (∀ j (hj : j < P.length), j < k → P[j].1 ≠ n)) (fun i => m - (intOf i).toNat)
  case atStart => exact ⟨0, by omega, rfl, fun j hj h0 => by omega⟩
  case round =>
    obtain ⟨k, hk, rfl, HN⟩ := hrel
    by_cases hlt : k < m
    · have hkl : k < P.length := by rw [HM.out]; exact hlt
      obtain ⟨b, o, rfl, hb, hc⟩ := H5.out (by omega)
      obtain ⟨c0, c1⟩ := hc k hkl
      have d0 := (HK.out.cell (p := ⟨b, o + k * 2, none⟩) hb (by simp)).trans c0
      have d1 := (HK.out.cell (p := ⟨b, o + k * 2 + 1, none⟩) hb (by simp)).trans c1
      obtain ⟨p, hp⟩ : ∃ p, P[k].1 = p := ⟨_, rfl⟩
      obtain ⟨q, hq⟩ : ∃ q, P[k].2 = q := ⟨_, rfl⟩
      rw [hp] at d0
      rw [hq] at d1
      have HP := Lib.hid hp
      have HQ := Lib.hid hq
      clear c0 c1 hp hq hc
      by_cases hpn : p = n
      · have q1 : ((strL p).toList == (strL n).toList) = true := by rw [str_beqP, decide_eq_true hpn]
        have HG : Hid (getP P n = some q) := by
          show _ = _
          rw [← HQ.out]
          exact getP_yes k hkl (by rw [HP.out]; exact hpn) fun j hj h => HN.out j hj h
        clear hpn
        go_wp2_with fail
        go_ret2
        exact GetP.yes HG.out HK.out
      · have q1 : ((strL p).toList == (strL n).toList) = false := by rw [str_beqP, decide_eq_false hpn]
        have HN2 : Hid (∀ j (hj : j < P.length), j < k + 1 → P[j].1 ≠ n) := fun j hj hjk => by
          by_cases e : j = k
          · subst e; rw [HP.out]; exact hpn
          · exact HN.out j hj (by omega)
        clear hpn
        go_wp2_with fail
        go_round
        case rel => exact ⟨k + 1, by omega, by go_num, HN2⟩
        case measure => simp [intOf]; omega
    · have HG : Hid (getP P n = none) := getP_no fun j hj => HN.out j hj (by rw [HM.out] at hj; omega)
      go_wp2_with fail
      go_ret2
      exact GetP.no HG.out HK.out

/-- 'append([]api.Param{}, l...)'. -/
theorem copy_prms {w : World} {v : Value} {l : List Prm} (h : PsIs w v l) :
    ∃ v' w', (Builtin.append_ #[38, 38] 38 #[.slice (some ⟨w.heap.size, 0, none⟩) 0 0, v]).run Tryz.prog (w.alloc (.cells #[] 61)) = .ok v' w' ∧ PsIs w' v' l ∧ Kept [] w w' ∧ (∀ b o n c, v' = .slice (some ⟨b, o, none⟩) n c → w.heap.size ≤ b) := by
  have how : (w.alloc (.cells #[] 61)).ownsRow w.heap.size 61 2 (.slice (some ⟨w.heap.size, 0, none⟩) 0 0) 0 [] :=
    ⟨by simp, .inr ⟨w.heap.size, 0, #[], rfl, Nat.le_refl _, heap_alloc_last _ _, Nat.le_refl _, by unfold maxLen; omega, rfl, rfl⟩⟩
  have hs0 : w.heap.size ≤ (w.alloc (.cells #[] 61)).heap.size := by rw [size_alloc]; omega
  have hk0 : Kept [] w (w.alloc (.cells #[] 61)) := Kept.alloc _ _ _
  obtain ⟨⟨ao, cap, rfl, h2, h3, h4, h5⟩, h6, h7⟩ := h
  have go : ∀ ad, (∀ j u, (sv (fl l))[j]? = some u → (w.alloc (.cells #[] 61)).cell? (Addr.add ad j) = some u) → ao = some ad → ∃ v' w', (Builtin.append_ #[38, 38] 38 #[.slice (some ⟨w.heap.size, 0, none⟩) 0 0, .slice ao l.length cap]).run Tryz.prog (w.alloc (.cells #[] 61)) = .ok v' w' ∧ PsIs w' v' l ∧ Kept [] w w' ∧ (∀ b o n c, v' = .slice (some ⟨b, o, none⟩) n c → w.heap.size ≤ b) := by
    rintro ad hsrc rfl
    obtain ⟨v7, w7, hrun, hown, hk7, _⟩ := own_app elemPrm 38 (w.alloc (.cells #[] 61)) w.heap.size _ 0 [] how ad l.length cap (sv (fl l)) (by rw [sv_length, fl_length]; omega) hsrc (sv_oneT _) (by unfold maxLen; omega) (by omega) hs0
    rw [Nat.zero_add, List.nil_append] at hown
    have hO : OwnP w.heap.size w7 v7 l := ⟨hown, h6, h7⟩
    exact ⟨_, w7, hrun, hO.ps, hk0.own how (Nat.le_refl _) hk7, fun b o n c e => (hO.blk b (by rw [e]; rfl)).1⟩
  rcases h5 with h0 | ⟨b, o, rfl, hbl, hr⟩
  · obtain rfl : l = [] := List.eq_nil_of_length_eq_zero h0
    cases ao with
    | some ad => exact go ad (fun j u hu => by simp [sv, fl] at hu) rfl
    | none =>
      obtain ⟨i, hi, _, hsz, _⟩ := info_parts elemPrm.info
      have hrun := run_append_owned_none (P := Tryz.prog) (w := w.alloc (.cells #[] 61)) w.heap.size 38 38 61 i 2 Tryz.underlying38 hi _ 0 [] how
      rw [h4 rfl]
      exact ⟨_, _, hrun, ⟨⟨_, _, rfl, by simp, by omega, fun e => (by cases e), .inl rfl⟩, h6, h7⟩, hk0, fun b o n c e => (by simp at e; omega)⟩
  · exact go ⟨b, o, none⟩ (fun j u hu => by rw [Addr.add_mid]; exact hk0.range hbl (by simp) hr j u hu) rfl

theorem PsIs.keptX {w w' : World} {v : Value} {l : List Prm} {ex : List Nat} (h : PsIs w v l) (hk : Kept ex w w') (hx : ∀ b o n c, v = .slice (some ⟨b, o, none⟩) n c → n ≠ 0 → b ∉ ex) : PsIs w' v l := by
  obtain ⟨⟨ao, cap, h1, h2, h3, h4, h5⟩, h6, h7⟩ := h
  refine ⟨⟨ao, cap, h1, h2, h3, h4, ?_⟩, h6, h7⟩
  by_cases h0 : l.length = 0
  · exact .inl h0
  rcases h5 with h5 | ⟨b, o, rfl, hb, hr⟩
  · exact .inl h5
  · exact .inr ⟨b, o, rfl, Nat.lt_of_lt_of_le hb hk.size, hk.range hb (hx b o _ _ h1 h0) hr⟩
theorem PsIs.lt {w : World} {v : Value} {l : List Prm} (h : PsIs w v l) : ∀ b o n c, v = .slice (some ⟨b, o, none⟩) n c → n ≠ 0 → b < w.heap.size := by
  intro b o n c e hn
  obtain ⟨⟨ao, cap, h1, _, _, _, h5⟩, _, _⟩ := h
  rw [e] at h1
  injection h1 with h1 h2 _
  rcases h5 with h5 | ⟨b', o', h6, hb, _⟩
  · omega
  · rw [← h1] at h6
    injection h6 with h6
    injection h6 with h6 _ _
    omega
end Go.Proofs.YtfofhnbijjocfaaGreatDoor

namespace Go.Proofs.YtfofhnbijjocfaaGreatDoor
open Go.RowKit Go.Maps
set_option maxRecDepth 100000

def dcB (c top : Int) : Bool := decide (48 ≤ c ∧ c ≤ top)
def dgB (l : List UInt8) (top : Int) : Bool := l.all fun c => dcB (c.toNat : Int) top
theorem dgB_no {l : List UInt8} {top : Int} (i : Nat) (hi : i < l.length) (h : dcB (l[i].toNat : Int) top = false) : dgB l top = false := by
  rw [Bool.eq_false_iff]
  intro hh
  unfold dgB at hh
  rw [List.all_eq_true] at hh
  rw [hh _ (List.getElem_mem hi)] at h
  cases h
theorem dgB_yes {l : List UInt8} {top : Int} (h : ∀ i (hi : i < l.length), dcB (l[i].toNat : Int) top = true) : dgB l top = true := by
  unfold dgB
  rw [List.all_eq_true]
  intro x hx
  obtain ⟨i, hi, rfl⟩ := List.getElem_of_mem hx
  exact h i hi
theorem dcB_lo {c top : Int} (h : c < 48) : dcB c top = false := by unfold dcB; rw [decide_eq_false]; omega
theorem dcB_hi {c top : Int} (h : top < c) : dcB c top = false := by unfold dcB; rw [decide_eq_false]; omega
theorem dcB_in {c top : Int} (h : ¬ c < 48) (k : ¬ top < c) : dcB c top = true := by unfold dcB; rw [decide_eq_true]; omega

set_option maxRecDepth 100000 in
set_option maxHeartbeats 2000000 in
theorem sdigitsS_any (S : ByteArray) (top : Int) (w : World) (hs : S.size ≤ 9223372036854775807) :
    Calls Tryz.prog 83 #[.string S, .int .u8 top] w fun e w' => e = .returned (.bool (dgB S.data.toList top)) ∧ w = w' := by
  have HSL := Lib.hid (size_toList S)
  go_enter Tryz.func83, Tryz.ntmps83
  go_wp2_with fail
  go_loop [8] (fun i => ∃ k : Nat, k ≤ S.size ∧ i = .int .i64 k ∧ Hid (∀ j (hj : j < S.data.toList.length), j < k → dcB ((S.data.toList[j]).toNat : Int) top = true)) (fun i => S.size - (intOf i).toNat)
  case atStart => exact ⟨0, by omega, rfl, fun j hj h0 => by omega⟩
  case round =>
    obtain ⟨k, hk, rfl, HK⟩ := hrel
    by_cases hlt : k < S.size
    · have hkl : k < S.data.toList.length := by rw [HSL.out]; exact hlt
      have hc := UInt8.toNat_lt S[k]
      have HE : Hid (S[k] = S.data.toList[k]) := by show _ = _; exact (get_toList S k hlt).symm
      by_cases hlo : (S[k].toNat : Int) < 48
      · have HB : Hid (dgB S.data.toList top = false) := dgB_no k hkl (by rw [← HE.out]; exact dcB_lo hlo)
        go_wp2_with fail
        go_ret
        exact ⟨retB HB.out.symm, rfl⟩
      · by_cases hhi : top < (S[k].toNat : Int)
        · have HB : Hid (dgB S.data.toList top = false) := dgB_no k hkl (by rw [← HE.out]; exact dcB_hi hhi)
          go_wp2_with fail
          go_ret
          exact ⟨retB HB.out.symm, rfl⟩
        · have HC : Hid (dcB (S[k].toNat : Int) top = true) := dcB_in hlo hhi
          go_wp2_with fail
          go_round
          case rel =>
            refine ⟨k + 1, by omega, by go_num, fun j hj h0 => ?_⟩
            by_cases e : j = k
            · subst e; rw [← HE.out]; exact HC.out
            · exact HK.out j hj (by omega)
          case measure => simp [intOf]; omega
    · have HB : Hid (dgB S.data.toList top = true) := dgB_yes fun i hi => HK.out i hi (by rw [HSL.out] at hi; omega)
      go_wp2_with fail
      go_ret
      exact ⟨retB HB.out.symm, rfl⟩
theorem sdigits_any (s : List UInt8) (top : Int) (w : World) (hs : s.length ≤ 9223372036854775807) :
    Calls Tryz.prog 83 #[.string (strL s), .int .u8 top] w fun e w' => e = .returned (.bool (dgB s top)) ∧ w = w' := sdigitsS_any (strL s) top w (by rw [strL_size]; exact hs)

set_option maxRecDepth 100000 in
set_option maxHeartbeats 2000000 in
theorem rsdigitsS_any (S : ByteArray) (least most top : Int) (w : World) (hs : S.size ≤ 9223372036854775807) :
    Calls Tryz.prog 65 #[.string S, .int .i64 least, .int .i64 most, .int .u8 top] w fun e w' => e = .returned (.bool (dgB S.data.toList top && (decide (least ≤ (S.size : Int)) && decide ((S.size : Int) ≤ most)))) ∧ w = w' := by
  have HSL := Lib.hid (size_toList S)
  go_enter Tryz.func65, Tryz.ntmps65
  go_wp2_with fail
  go_loop [9] (fun i => ∃ k : Nat, k ≤ S.size ∧ i = .int .i64 k ∧ Hid (∀ j (hj : j < S.data.toList.length), j < k → dcB ((S.data.toList[j]).toNat : Int) top = true)) (fun i => S.size - (intOf i).toNat)
  case atStart => exact ⟨0, by omega, rfl, fun j hj h0 => by omega⟩
  case round =>
    obtain ⟨k, hk, rfl, HK⟩ := hrel
    by_cases hlt : k < S.size
    · have hkl : k < S.data.toList.length := by rw [HSL.out]; exact hlt
      have hc := UInt8.toNat_lt S[k]
      have HE : Hid (S[k] = S.data.toList[k]) := by show _ = _; exact (get_toList S k hlt).symm
      by_cases hlo : (S[k].toNat : Int) < 48
      · have HB : Hid (dgB S.data.toList top = false) := dgB_no k hkl (by rw [← HE.out]; exact dcB_lo hlo)
        go_wp2_with fail
        go_ret
        exact ⟨retB (by rw [HB.out]; rfl), rfl⟩
      · by_cases hhi : top < (S[k].toNat : Int)
        · have HB : Hid (dgB S.data.toList top = false) := dgB_no k hkl (by rw [← HE.out]; exact dcB_hi hhi)
          go_wp2_with fail
          go_ret
          exact ⟨retB (by rw [HB.out]; rfl), rfl⟩
        · have HC : Hid (dcB (S[k].toNat : Int) top = true) := dcB_in hlo hhi
          go_wp2_with fail
          go_round
          case rel =>
            refine ⟨k + 1, by omega, by go_num, fun j hj h0 => ?_⟩
            by_cases e : j = k
            · subst e; rw [← HE.out]; exact HC.out
            · exact HK.out j hj (by omega)
          case measure => simp [intOf]; omega
    · have HB : Hid (dgB S.data.toList top = true) := dgB_yes fun i hi => HK.out i hi (by rw [HSL.out] at hi; omega)
      by_cases h3 : least ≤ (S.size : Int)
      · by_cases h4 : (S.size : Int) ≤ most
        all_goals
          go_wp2_with fail
          go_ret
          exact ⟨retB (by rw [HB.out] <;> first | rfl | (simp; omega)), rfl⟩
      · go_wp2_with fail
        go_ret
        exact ⟨retB (by rw [HB.out, decide_eq_false (show ¬ least ≤ (S.size : Int) by omega)]; rfl), rfl⟩
theorem rsdigits_any (s : List UInt8) (least most top : Int) (w : World) (hs : s.length ≤ 9223372036854775807) :
    Calls Tryz.prog 65 #[.string (strL s), .int .i64 least, .int .i64 most, .int .u8 top] w fun e w' => e = .returned (.bool (dgB s top && (decide (least ≤ (s.length : Int)) && decide ((s.length : Int) ≤ most)))) ∧ w = w' := by
  have := rsdigitsS_any (strL s) least most top w (by rw [strL_size]; exact hs)
  rw [strL_size] at this
  exact this

def idB (s : List UInt8) : Bool := decide (1 ≤ s.length) && (decide (s.length ≤ 5) && dgB s 57)
def modeB (s : List UInt8) : Bool := decide (s.length = 4) && (decide (s.head? = some 48) && dgB s 55)
def textB (s : List UInt8) : Bool := decide (s.length ≤ 512)
def keyB (s : List UInt8) : Bool := decide (s ≠ []) && wordB s 32
def wdB (s : List UInt8) : Bool := wordB s 64
def fwB (s : List UInt8) : Bool := decide (s ≠ []) && wordB s 64
def pathB (s : List UInt8) : Bool := (pathO s).isSome
def nTab : List UInt8 := [116, 97, 98]
def nRun : List UInt8 := [114, 117, 110]
def titB (s : List UInt8) : Bool := match pathO s with
  | some (n :: _) => decide (n ≠ nTab) && decide (n ≠ nRun)
  | _ => false

set_option maxHeartbeats 1000000 in
theorem sid_any (s : List UInt8) (w : World) (hs : s.length ≤ 9223372036854775807) :
    Calls Tryz.prog 71 #[.string (strL s)] w fun e w' => e = .returned (.bool (idB s)) ∧ w = w' := by
  have hsz := strL_size s
  by_cases h1 : 1 ≤ s.length
  · have h1' : (1 : Int) ≤ ((strL s).size : Int) := by rw [hsz]; omega
    by_cases h2 : s.length ≤ 5
    · have h2' : ((strL s).size : Int) ≤ 5 := by rw [hsz]; omega
      have HB : Hid (idB s = dgB s 57) := by show _ = _; unfold idB; rw [decide_eq_true h1, decide_eq_true h2]; rfl
      clear hsz
      go_enter Tryz.func71, Tryz.ntmps71
      go_wp2_with fail
      refine (sdigits_any s 57 _ (by omega)).mono ?_
      rintro e w' ⟨rfl, rfl⟩
      go_wp2_with fail
      go_ret
      exact ⟨retB HB.out.symm, rfl⟩
    · have h2' : ¬ ((strL s).size : Int) ≤ 5 := by rw [hsz]; omega
      have HB : Hid (idB s = false) := by show _ = _; unfold idB; rw [decide_eq_false h2]; simp
      clear hsz
      go_enter Tryz.func71, Tryz.ntmps71
      go_wp2_with fail
      go_ret
      exact ⟨retB HB.out.symm, rfl⟩
  · have h1' : ¬ (1 : Int) ≤ ((strL s).size : Int) := by rw [hsz]; omega
    have HB : Hid (idB s = false) := by show _ = _; unfold idB; rw [decide_eq_false h1]; simp
    clear hsz
    go_enter Tryz.func71, Tryz.ntmps71
    go_wp2_with fail
    go_ret
    exact ⟨retB HB.out.symm, rfl⟩

theorem head_get (s : List UInt8) (h : 0 < s.length) (c : UInt8) : decide (s.head? = some c) = decide ((s[0]'h).toNat = c.toNat) := by
  rw [List.head?_eq_getElem?, List.getElem?_eq_getElem h, Bool.eq_iff_iff]
  simp [UInt8.toNat_inj]

set_option maxHeartbeats 1000000 in
theorem smode_any (s : List UInt8) (w : World) (hs : s.length ≤ 9223372036854775807) :
    Calls Tryz.prog 78 #[.string (strL s)] w fun e w' => e = .returned (.bool (modeB s)) ∧ w = w' := by
  have hsz := strL_size s
  by_cases h1 : s.length = 4
  · have h1' : (((strL s).size : Int) == 4) = true := by rw [hsz, h1]; rfl
    obtain ⟨c, hc⟩ : ∃ c : Int, ((s[0]'(by omega)).toNat : Int) = c := ⟨_, rfl⟩
    have hix := run_index_str0 s (by omega) w
    have hd := head_get s (by omega) 48
    rw [hc] at hix
    by_cases h2 : s.head? = some 48
    · have q2 : (c == 48) = true := by rw [decide_eq_true h2] at hd; have := of_decide_eq_true hd.symm; rw [← hc, this]; rfl
      have HB : Hid (modeB s = dgB s 55) := by show _ = _; unfold modeB; rw [decide_eq_true h1, decide_eq_true h2]; rfl
      clear hsz h1 h2 hd hc
      go_enter Tryz.func78, Tryz.ntmps78
      go_wp2_with fail
      refine (sdigits_any s 55 _ (by omega)).mono ?_
      rintro e w' ⟨rfl, rfl⟩
      go_wp2_with fail
      go_ret
      exact ⟨retB HB.out.symm, rfl⟩
    · have q2 : (c == 48) = false := by
        rw [decide_eq_false h2] at hd
        have := of_decide_eq_false hd.symm
        rw [beq_eq_false_iff_ne]
        intro e
        apply this
        have h48 : (48 : UInt8).toNat = 48 := rfl
        rw [h48]; omega
      have HB : Hid (modeB s = false) := by show _ = _; unfold modeB; rw [decide_eq_false h2]; simp
      clear hsz h1 h2 hd hc
      go_enter Tryz.func78, Tryz.ntmps78
      go_wp2_with fail
      go_ret
      exact ⟨retB HB.out.symm, rfl⟩
  · have h1' : (((strL s).size : Int) == 4) = false := by rw [hsz, beq_eq_false_iff_ne]; omega
    have HB : Hid (modeB s = false) := by show _ = _; unfold modeB; rw [decide_eq_false h1]; rfl
    clear hsz h1
    go_enter Tryz.func78, Tryz.ntmps78
    go_wp2_with fail
    go_ret
    exact ⟨retB HB.out.symm, rfl⟩

theorem stext_any (s : List UInt8) (w : World) (hs : s.length ≤ 9223372036854775807) :
    Calls Tryz.prog 76 #[.string (strL s)] w fun e w' => e = .returned (.bool (textB s)) ∧ w = w' := by
  have hsz := strL_size s
  by_cases h1 : s.length ≤ 512
  · have h1' : ((strL s).size : Int) ≤ 512 := by rw [hsz]; omega
    have HB : Hid (textB s = true) := decide_eq_true h1
    clear hsz
    go_enter Tryz.func76, Tryz.ntmps76
    go_wp2_with fail
    go_ret
    exact ⟨retB HB.out.symm, rfl⟩
  · have h1' : ¬ ((strL s).size : Int) ≤ 512 := by rw [hsz]; omega
    have HB : Hid (textB s = false) := decide_eq_false h1
    clear hsz
    go_enter Tryz.func76, Tryz.ntmps76
    go_wp2_with fail
    go_ret
    exact ⟨retB HB.out.symm, rfl⟩

theorem widthI_groups : widthI nGroups = 1 := by decide
theorem cells_one {w : World} (s : List UInt8) (hs : s.length ≤ 140737488355328) : CellsIs (w.alloc (.cells #[.string (strL s)] 9)) (.slice (some ⟨w.heap.size, 0, none⟩) 1 1) [s] :=
  ⟨⟨_, _, rfl, by simp, by omega, fun e => (by cases e), .inr ⟨w.heap.size, 0, rfl, by simp, fun j u hu => by
    rw [Nat.zero_add, cell_of_row _ _ j _ _ _ (heap_alloc_last w _)]
    simpa [sv] using hu⟩⟩, by simp, fun x hx => by simp at hx; subst hx; exact hs⟩
def fitB (k c : List UInt8) : Bool := rowB 1 (k, [c])
theorem fit_eq (k c : List UInt8) : decide (checkI nGroups (k, [c]) = 0) = fitB k c := by
  unfold checkI fitB
  rw [widthI_groups]
  cases rowB 1 (k, [c]) <;> simp

set_option maxHeartbeats 1000000 in
theorem sfits_any (k c : List UInt8) (w : World) (hk : k.length ≤ 140737488355328) (hc : c.length ≤ 140737488355328) :
    Calls Tryz.prog 81 #[.string (strL k), .string (strL c)] w fun e w' => e = .returned (.bool (fitB k c)) ∧ Kept [] w w' := by
  have HK := Lib.hid (Kept.alloc [] w (.cells #[.string (strL c)] 9))
  have HC := Lib.hid (cells_one (w := w) c hc)
  obtain ⟨n, hn⟩ : ∃ n, checkI nGroups (k, [c]) = n := ⟨_, rfl⟩
  have HN := Lib.hid hn
  have q1 : strL nGroups = { data := #[103, 114, 111, 117, 112, 115] } := rfl
  have HCK : Hid (∀ w', Kept [] (w.alloc (.cells #[.string (strL c)] 9)) w' → Calls Tryz.prog 88 #[.string { data := #[103, 114, 111, 117, 112, 115] }, .agg #[.string (strL k), .slice (some ⟨w.heap.size, 0, none⟩) 1 1]] w' fun e w2 => e = .returned (.int .i64 n) ∧ Kept [] w' w2) := fun w' hk' => by
    rw [← hn, ← q1]
    exact check_any nGroups k _ [c] w' (by decide) hk (HC.out.kept hk')
  have HB : Hid (decide (n = 0) = fitB k c) := by show _ = _; rw [← hn]; exact fit_eq k c
  clear hn q1
  by_cases h0 : n = 0
  · subst h0
    go_enter Tryz.func81, Tryz.ntmps81
    go_wp2_with fail
    refine (HCK.out _ (Kept.refl _ _)).mono ?_
    rintro e w2 ⟨rfl, hk2⟩
    have HK2 := Lib.hid hk2
    clear hk2
    go_wp2_with fail
    go_ret
    exact ⟨retB (by rw [← HB.out]; rfl), HK.out.trans HK2.out⟩
  · have q0 : (n == 0) = false := by simpa using h0
    have HB2 : Hid (fitB k c = false) := by show _ = _; rw [← HB.out]; exact decide_eq_false h0
    clear h0
    go_enter Tryz.func81, Tryz.ntmps81
    go_wp2_with fail
    refine (HCK.out _ (Kept.refl _ _)).mono ?_
    rintro e w2 ⟨rfl, hk2⟩
    have HK2 := Lib.hid hk2
    clear hk2
    go_wp2_with fail
    go_ret
    exact ⟨retB HB2.out.symm, HK.out.trans HK2.out⟩

theorem fit_key (s : List UInt8) : fitB s [] = keyB s := by
  unfold fitB rowB keyB
  simp [show wordB [] 64 = true by decide]
theorem fit_word (s : List UInt8) : fitB [107] s = wdB s := by
  unfold fitB rowB wdB
  simp [show wordB [107] 32 = true by decide]

theorem skey_any (s : List UInt8) (w : World) (hs : s.length ≤ 140737488355328) :
    Calls Tryz.prog 68 #[.string (strL s)] w fun e w' => e = .returned (.bool (keyB s)) ∧ Kept [] w w' := by
  have q1 : strL [] = { data := #[] } := rfl
  have HC : Hid (∀ w', Calls Tryz.prog 81 #[.string (strL s), .string { data := #[] }] w' fun e w2 => e = .returned (.bool (keyB s)) ∧ Kept [] w' w2) := fun w' => by
    rw [← fit_key, ← q1]
    exact sfits_any s [] w' hs (by simp)
  clear q1
  go_enter Tryz.func68, Tryz.ntmps68
  go_wp2_with fail
  refine (HC.out _).mono ?_
  rintro e w2 ⟨rfl, hk2⟩
  have HK2 := Lib.hid hk2
  clear hk2
  go_wp2_with fail
  go_ret
  exact ⟨rfl, HK2.out⟩
theorem sword_any (s : List UInt8) (w : World) (hs : s.length ≤ 140737488355328) :
    Calls Tryz.prog 70 #[.string (strL s)] w fun e w' => e = .returned (.bool (wdB s)) ∧ Kept [] w w' := by
  have q1 : strL [107] = { data := #[107] } := rfl
  have HC : Hid (∀ w', Calls Tryz.prog 81 #[.string { data := #[107] }, .string (strL s)] w' fun e w2 => e = .returned (.bool (wdB s)) ∧ Kept [] w' w2) := fun w' => by
    rw [← fit_word, ← q1]
    exact sfits_any [107] s w' (by simp) hs
  clear q1
  go_enter Tryz.func70, Tryz.ntmps70
  go_wp2_with fail
  refine (HC.out _).mono ?_
  rintro e w2 ⟨rfl, hk2⟩
  have HK2 := Lib.hid hk2
  clear hk2
  go_wp2_with fail
  go_ret
  exact ⟨rfl, HK2.out⟩
theorem fullWord_any (s : List UInt8) (w : World) (hs : s.length ≤ 140737488355328) :
    Calls Tryz.prog 72 #[.string (strL s)] w fun e w' => e = .returned (.bool (fwB s)) ∧ Kept [] w w' := by
  by_cases h0 : s = []
  · have q1 : (strL s).toList.isEmpty = true := by rw [strL_bytes, h0]; rfl
    have HB : Hid (fwB s = false) := by show _ = _; unfold fwB; rw [h0]; rfl
    clear h0
    go_enter Tryz.func72, Tryz.ntmps72
    go_wp2_with fail
    go_ret
    exact ⟨retB HB.out.symm, Kept.refl _ _⟩
  · have q1 : (strL s).toList.isEmpty = false := by rw [strL_bytes]; simpa using h0
    have HB : Hid (fwB s = wdB s) := by show _ = _; unfold fwB wdB; rw [decide_eq_true h0]; rfl
    clear h0
    go_enter Tryz.func72, Tryz.ntmps72
    go_wp2_with fail
    refine (sword_any s _ hs).mono ?_
    rintro e w2 ⟨rfl, hk2⟩
    have HK2 := Lib.hid hk2
    clear hk2
    go_wp2_with fail
    go_ret
    exact ⟨retB HB.out.symm, HK2.out⟩
theorem rskey_any (s : List UInt8) (w : World) (hs : s.length ≤ 9223372036854775807) :
    Calls Tryz.prog 63 #[.string (strL s)] w fun e w' => e = .returned (.bool (keyB s)) ∧ w = w' := by
  by_cases h0 : s = []
  · have q1 : (strL s).toList.isEmpty = true := by rw [strL_bytes, h0]; rfl
    have HB : Hid (keyB s = false) := by show _ = _; unfold keyB; rw [h0]; rfl
    clear h0
    go_enter Tryz.func63, Tryz.ntmps63
    go_wp2_with fail
    go_ret
    exact ⟨retB HB.out.symm, rfl⟩
  · have q1 : (strL s).toList.isEmpty = false := by rw [strL_bytes]; simpa using h0
    have HB : Hid (keyB s = wordB s 32) := by show _ = _; unfold keyB; rw [decide_eq_true h0]; rfl
    clear h0
    go_enter Tryz.func63, Tryz.ntmps63
    go_wp2_with fail
    refine (rword_any s 32 _ hs).mono ?_
    rintro e w2 ⟨rfl, rfl⟩
    go_wp2_with fail
    go_ret
    exact ⟨retB HB.out.symm, rfl⟩

set_option maxHeartbeats 1000000 in
theorem spath_any (s : List UInt8) (w : World) (hs : s.length ≤ 9223372036854775807) :
    Calls Tryz.prog 80 #[.string (strL s)] w fun e w' => e = .returned (.bool (pathB s)) ∧ Kept [] w w' := by
  have HP : Hid (Calls Tryz.prog 75 #[.string (strL s)] w (PathOut s w)) := path_any s w hs
  go_enter Tryz.func80, Tryz.ntmps80
  go_wp2_with fail
  refine HP.out.mono ?_
  rintro e w' ⟨hk, ⟨hp, rfl⟩ | ⟨ps, v, hp, rfl, _⟩⟩
  · have HB : Hid (pathB s = false ∧ Kept [] w w') := ⟨by unfold pathB; rw [hp]; rfl, hk⟩
    clear hk hp
    go_wp2_with fail
    go_ret
    exact ⟨retB HB.out.1.symm, HB.out.2⟩
  · have HB : Hid (pathB s = true ∧ Kept [] w w') := ⟨by unfold pathB; rw [hp]; rfl, hk⟩
    clear hk hp
    go_wp2_with fail
    go_ret
    exact ⟨retB HB.out.1.symm, HB.out.2⟩

/-- What is told of a path's names, by either. -/
theorem strs_head {w : World} {v : Value} {ps : List (List UInt8)} (h : StrsIs w v ps) : ∃ ao cap, v = .slice ao ps.length cap ∧ (0 < ps.length → ∃ b o, ao = some ⟨b, o, none⟩ ∧ ∀ x r, ps = x :: r → w.cell? ⟨b, o, none⟩ = some (.string (strL x))) := by
  rcases h with ⟨b, o, cap, rfl, _, hr⟩ | ⟨rfl, rfl⟩
  · refine ⟨_, _, rfl, fun _ => ⟨b, o, rfl, ?_⟩⟩
    rintro x r rfl
    have := hr 0 _ rfl
    rwa [Nat.add_zero] at this
  · exact ⟨_, _, rfl, fun h => absurd h (by simp)⟩

set_option maxRecDepth 100000 in
set_option maxHeartbeats 2000000 in
theorem fileTitle_any (s : List UInt8) (w : World) (hs : s.length ≤ 9223372036854775807) :
    Calls Tryz.prog 66 #[.string (strL s)] w fun e w' => e = .returned (.bool (titB s)) ∧ Kept [] w w' := by
  have HP : Hid (Calls Tryz.prog 75 #[.string (strL s)] w (PathOut s w)) := path_any s w hs
  go_enter Tryz.func66, Tryz.ntmps66
  go_wp2_with fail
  refine HP.out.mono ?_
  rintro e w' ⟨hk, ⟨hp, rfl⟩ | ⟨ps, v, hp, rfl, hsv⟩⟩
  · have HB : Hid (titB s = false ∧ Kept [] w w') := ⟨by unfold titB; rw [hp], hk⟩
    clear hk hp
    go_wp2_with fail
    go_ret
    exact ⟨retB HB.out.1.symm, HB.out.2⟩
  · obtain ⟨ao, cap, rfl, hh⟩ := strs_head hsv
    cases ps with
    | nil =>
      have HB : Hid (titB s = false ∧ Kept [] w w') := ⟨by unfold titB; rw [hp], hk⟩
      clear hk hp hh hsv
      simp only [List.length_nil]
      go_wp2_with fail
      go_ret
      exact ⟨retB HB.out.1.symm, HB.out.2⟩
    | cons x r =>
      obtain ⟨b, o, rfl, hc⟩ := hh (by simp)
      have c0 := hc x r rfl
      have hx : (x :: r).length ≤ 9223372036854775807 := by
        have hpo := hp
        unfold pathO at hpo
        split at hpo
        · cases hpo
        · split at hpo
          · rename_i h8
            injection hpo with hpo
            rw [← hpo]
            omega
          · cases hpo
      have HB : Hid (titB s = (decide (x ≠ nTab) && decide (x ≠ nRun)) ∧ Kept [] w w') := ⟨by unfold titB; rw [hp], hk⟩
      obtain ⟨n, hn⟩ : ∃ n, (x :: r).length = n := ⟨_, rfl⟩
      have hn0 : 0 < n := by rw [← hn]; simp
      rw [hn] at hx
      rw [hn]
      clear hk hp hh hsv hc hn
      by_cases h1 : x = nTab
      · have q1 : ((strL x).toList == [116, 97, 98]) = true := by rw [strL_bytes, h1]; rfl
        have HB2 : Hid (titB s = false) := by show _ = _; rw [HB.out.1, decide_eq_false (by simpa using h1)]; rfl
        clear h1
        go_wp2_with fail
        go_ret
        exact ⟨retB HB2.out.symm, HB.out.2⟩
      · have q1 : ((strL x).toList == [116, 97, 98]) = false := by rw [strL_bytes]; simpa [nTab] using h1
        by_cases h2 : x = nRun
        · have q2 : ((strL x).toList == [114, 117, 110]) = true := by rw [strL_bytes, h2]; rfl
          have HB2 : Hid (titB s = false) := by show _ = _; rw [HB.out.1, decide_eq_false (p := x ≠ nRun) (by simpa using h2)]; simp
          clear h1 h2
          go_wp2_with fail
          go_ret
          exact ⟨retB HB2.out.symm, HB.out.2⟩
        · have q2 : ((strL x).toList == [114, 117, 110]) = false := by rw [strL_bytes]; simpa [nRun] using h2
          have HB2 : Hid (titB s = true) := by show _ = _; rw [HB.out.1, decide_eq_true h1, decide_eq_true h2]; rfl
          clear h1 h2
          go_wp2_with fail
          go_ret
          exact ⟨retB HB2.out.symm, HB.out.2⟩
end Go.Proofs.YtfofhnbijjocfaaGreatDoor

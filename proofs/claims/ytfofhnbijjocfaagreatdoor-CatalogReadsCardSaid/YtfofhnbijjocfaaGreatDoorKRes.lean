/-
  Layer 7: the program's small functions: key, ensure, rises, flag, typeOf, typeNumber, equality of parameters, numbers and texts that are put.
  Conditions: those that each theorem states.
  Layer 7: slices of parameters held against one another; edges of a catalog.
  Conditions: those that each theorem states.
  Layer 7: the program's checkResources.
  Conditions: those that each theorem states.
-/
import Derived.Test.YtfofhnbijjocfaaGreatDoorKMem
import Derived.Test.YtfofhnbijjocfaaGreatDoorQRef
namespace Go.Proofs.YtfofhnbijjocfaaGreatDoor
open Go.RowKit Go.Maps
set_option maxRecDepth 100000

theorem ret64 {n m : Int} (h : n = m) : Ending.returned (.int .i64 n) = .returned (.int .i64 m) := by rw [h]
theorem retU {n m : Int} (h : n = m) : Ending.returned (.int .u8 n) = .returned (.int .u8 m) := by rw [h]
set_option maxHeartbeats 1000000 in
theorem ckey_any (s : List UInt8) (w : World) (hs : s.length ≤ 140737488355328) :
    Calls Tryz.prog 29 #[.string (strL s)] w fun e w' => e = .returned (.bool (keyB s)) ∧ Kept [] w w' := by
  have HC : Hid (∀ w', Calls Tryz.prog 47 #[.agg #[.string ⟨#[103, 114, 111, 117, 112]⟩, .string (strL s), .slice none 0 0]] w' fun e w2 => e = .returned (.int .i64 (if keyB s = true then 0 else 61)) ∧ Kept [] w' w2) := fun w' => by
    rw [← group_key]
    exact scheck_any nGroup s [] _ w' (PsIs.nil w') (by decide) hs
  cases hk : keyB s
  all_goals
    rw [hk] at HC
    go_enter Tryz.func29, Tryz.ntmps29
    go_wp2_with fail
    refine (HC.out _).mono ?_
    rintro e w2 ⟨rfl, hk2⟩
    go_wp2_with fail
    go_ret
    exact ⟨rfl, hk2⟩

set_option maxHeartbeats 1000000 in
theorem censure_any (t ti : List UInt8) (P : List Prm) (v : Value) (w : World) (h : PsIs w v P) :
    Calls Tryz.prog 51 #[resV t ti v] w fun e w' => e = .returned (.string (strL (getV P nEnsure))) ∧ Kept [] w w' := by
  obtain ⟨ao, cap, rfl⟩ := h.slice
  have HP := Lib.hid h
  obtain ⟨n, hn⟩ : ∃ n, P.length = n := ⟨_, rfl⟩
  rw [hn] at HP
  rw [hn]
  obtain ⟨x, hx⟩ : ∃ x, getV P nEnsure = x := ⟨_, rfl⟩
  obtain ⟨b, hb⟩ : ∃ b, getB P nEnsure = b := ⟨_, rfl⟩
  have HK := Lib.hid (Kept.alloc [] w (.cells #[.string (strL t), .string (strL ti), .slice ao n cap] 40))
  have HG : Hid (∀ w', Kept [] w w' → Calls Tryz.prog 60 #[.agg #[.string (strL t), .string (strL ti), .slice ao n cap], .string ⟨#[101, 110, 115, 117, 114, 101]⟩] w' fun e w2 => e = .returned (.tuple #[.string (strL x), .bool b]) ∧ Kept [] w' w2) := fun w' hk => by
    rw [← hx, ← hb]
    exact sget_any t ti nEnsure P _ w' (HP.out.kept hk)
  rw [hx]
  clear h hn hx hb
  unfold resV
  go_enter Tryz.func51, Tryz.ntmps51
  go_wp2_with fail
  refine (HG.out _ HK.out).mono ?_
  rintro e w2 ⟨rfl, hk2⟩
  go_wp2_with fail
  go_ret
  exact ⟨rfl, HK.out.trans hk2⟩

/-- An edge as a value. -/
def edgV (x : Edg) : Value := .agg #[.int .i64 x.fr, .int .i64 x.tw, .bool x.nt]
set_option maxHeartbeats 1000000 in
theorem crises_any (a b : Edg) (w : World) : Calls Tryz.prog 53 #[edgV a, edgV b] w fun e w' => e = .returned (.bool (riseB a b)) ∧ Kept [] w w' := by
  obtain ⟨af, at', an⟩ := a
  obtain ⟨bf, bt, bn⟩ := b
  unfold edgV
  have HK : Hid (Kept [] w ((w.alloc (.cells #[.int .i64 af, .int .i64 at', .bool an] 44)).alloc (.cells #[.int .i64 bf, .int .i64 bt, .bool bn] 44))) := (Kept.alloc [] w _).trans (Kept.alloc [] _ _)
  by_cases h : af = bf
  · subst h
    have HR : Hid (riseB ⟨af, at', an⟩ ⟨af, bt, bn⟩ = decide (at' < bt)) := by show _ = _; unfold riseB; rw [if_pos rfl]
    go_enter Tryz.func53, Tryz.ntmps53
    go_wp2_with fail
    go_ret
    exact ⟨retB HR.out.symm, HK.out⟩
  · have HR : Hid (riseB ⟨af, at', an⟩ ⟨bf, bt, bn⟩ = decide (af < bf)) := by show _ = _; unfold riseB; rw [if_neg h]
    go_enter Tryz.func53, Tryz.ntmps53
    go_wp2_with fail
    go_ret
    exact ⟨retB HR.out.symm, HK.out⟩

set_option maxHeartbeats 1000000 in
theorem cflag_any (b : Bool) (w : World) : Calls Tryz.prog 36 #[.bool b] w fun e w' => e = .returned (.int .u8 ((ntB b).toNat : Int)) ∧ w = w' := by
  cases b
  all_goals
    go_enter Tryz.func36, Tryz.ntmps36
    go_wp2_with fail
    go_ret
    exact ⟨rfl, rfl⟩

/-- The list of types. -/
def TysIs (w : World) : Prop := 0 < w.heap.size ∧ ∀ j, j < 5 → w.cell? ⟨0, j, none⟩ = some (.string (strL (tyOf (j + 1))))
theorem TysIs.kept {w w' : World} (h : TysIs w) (hk : Kept [] w w') : TysIs w' := ⟨Nat.lt_of_lt_of_le h.1 hk.size, fun j hj => (hk.cell (p := ⟨0, j, none⟩) h.1 (by simp)).trans (h.2 j hj)⟩
theorem kindI_at {t : List UInt8} {k : Nat} (hk : k < 5) (h : tyOf (k + 1) = t) : kindI t = k + 1 := by
  subst h
  rcases (by omega : k = 0 ∨ k = 1 ∨ k = 2 ∨ k = 3 ∨ k = 4) with rfl | rfl | rfl | rfl | rfl <;> decide
theorem kindI_not {t : List UInt8} (h : ∀ j, j < 5 → tyOf (j + 1) ≠ t) : kindI t = 0 := by
  unfold kindI
  rw [if_neg (fun e => h 0 (by omega) e.symm), if_neg (fun e => h 1 (by omega) e.symm), if_neg (fun e => h 2 (by omega) e.symm), if_neg (fun e => h 3 (by omega) e.symm), if_neg (fun e => h 4 (by omega) e.symm)]

set_option maxRecDepth 100000 in
set_option maxHeartbeats 2000000 in
theorem ctypeOf_any (n : Nat) (w : World) (hn : n < 256) (h : TysIs w) : Calls Tryz.prog 58 #[.int .i64 n] w fun e w' => e = .returned (.string (strL (tyOf n))) ∧ w = w' := by
  rcases (by omega : n = 0 ∨ 5 < n ∨ (1 ≤ n ∧ n ≤ 5)) with rfl | h1 | h1
  · go_enter Tryz.func58, Tryz.ntmps58
    go_wp2_with fail
    go_ret
    exact ⟨rfl, rfl⟩
  · have q1 : ¬ (n : Int) < 1 := by omega
    have q2 : (5 : Int) < (n : Int) := by omega
    have HT : Hid (tyOf n = []) := by
      show _ = _
      unfold tyOf
      rw [if_neg (by omega), if_neg (by omega), if_neg (by omega), if_neg (by omega), if_neg (by omega)]
    clear h1 hn
    go_enter Tryz.func58, Tryz.ntmps58
    go_wp2_with fail
    go_ret
    exact ⟨by rw [HT.out]; rfl, rfl⟩
  · obtain ⟨k, rfl⟩ : ∃ k, n = k + 1 := ⟨n - 1, by omega⟩
    have hk : k < 5 := by omega
    have c0 := h.2 k hk
    have q1 : ¬ ((k + 1 : Nat) : Int) < 1 := by omega
    have q2 : ¬ (5 : Int) < ((k + 1 : Nat) : Int) := by omega
    have q3 : IntKind.i64.wrap (((k + 1 : Nat) : Int) - 1) = (k : Int) := by rw [IntKind.wrap_i64]; omega
    clear h1 hn
    obtain ⟨m, hm⟩ : ∃ m : Int, ((k + 1 : Nat) : Int) = m := ⟨_, rfl⟩
    rw [hm] at q1 q2 q3 ⊢
    clear hm
    have hk2 : (k : Int) < 5 := by omega
    go_enter Tryz.func58, Tryz.ntmps58
    go_wp2_with fail
    go_ret
    exact ⟨rfl, rfl⟩

set_option maxRecDepth 100000 in
set_option maxHeartbeats 4000000 in
theorem ctypeNumber_any (t : List UInt8) (w : World) (h : TysIs w) : Calls Tryz.prog 54 #[.string (strL t)] w fun e w' => e = .returned (.int .u8 ((tyN t).toNat : Int)) ∧ w = w' := by
  have c0 := h.2 0 (by omega)
  have c1 := h.2 1 (by omega)
  have c2 := h.2 2 (by omega)
  have c3 := h.2 3 (by omega)
  have c4 := h.2 4 (by omega)
  obtain ⟨a0, h0⟩ : ∃ a, strL (tyOf (0 + 1)) = a := ⟨_, rfl⟩
  obtain ⟨a1, h1⟩ : ∃ a, strL (tyOf (1 + 1)) = a := ⟨_, rfl⟩
  obtain ⟨a2, h2⟩ : ∃ a, strL (tyOf (2 + 1)) = a := ⟨_, rfl⟩
  obtain ⟨a3, h3⟩ : ∃ a, strL (tyOf (3 + 1)) = a := ⟨_, rfl⟩
  obtain ⟨a4, h4⟩ : ∃ a, strL (tyOf (4 + 1)) = a := ⟨_, rfl⟩
  have HIX : Hid (∀ (k : Nat) (w' : World), k < 5 → (Instr.index 102 (.agg #[.string a0, .string a1, .string a2, .string a3, .string a4]) (.int .i64 (k : Int))).run Tryz.prog w' = .ok (.string (strL (tyOf (k + 1)))) w') := fun k w' hk => by
    rw [← h0, ← h1, ← h2, ← h3, ← h4]
    rcases (by omega : k = 0 ∨ k = 1 ∨ k = 2 ∨ k = 3 ∨ k = 4) with rfl | rfl | rfl | rfl | rfl <;> kernel_rfl
  rw [h0] at c0
  rw [h1] at c1
  rw [h2] at c2
  rw [h3] at c3
  rw [h4] at c4
  clear h h0 h1 h2 h3 h4
  go_enter Tryz.func54, Tryz.ntmps54
  go_wp2_with fail
  go_loop [6] (fun i => ∃ k : Nat, k ≤ 5 ∧ i = .int .i64 k ∧ Hid (∀ j, j < k → tyOf (j + 1) ≠ t)) (fun i => 5 - (intOf i).toNat)
  case atStart => exact ⟨0, by omega, rfl, fun j hj => by omega⟩
  case round =>
    obtain ⟨k, hk, rfl, HN⟩ := hrel
    by_cases hlt : k < 5
    · have qi : ∀ w', (Instr.index 102 (.agg #[.string a0, .string a1, .string a2, .string a3, .string a4]) (.int .i64 (k : Int))).run Tryz.prog w' = .ok (.string (strL (tyOf (k + 1)))) w' := fun w' => HIX.out k w' hlt
      by_cases he : tyOf (k + 1) = t
      · have q1 : ((strL (tyOf (k + 1))).toList == (strL t).toList) = true := by rw [str_beqP, decide_eq_true he]
        have HK : Hid (tyN t = loB (k + 1)) := by show _ = _; unfold tyN; rw [kindI_at hlt he]
        clear he
        go_wp2_with fail
        go_ret
        exact ⟨retU (by rw [HK.out]; simp [loB]; omega), rfl⟩
      · have q1 : ((strL (tyOf (k + 1))).toList == (strL t).toList) = false := by rw [str_beqP, decide_eq_false he]
        have HN2 : Hid (∀ j, j < k + 1 → tyOf (j + 1) ≠ t) := fun j hj => by
          by_cases e : j = k
          · subst e; exact he
          · exact HN.out j (by omega)
        clear he
        go_wp2_with fail
        go_round
        case rel => exact ⟨k + 1, by omega, by go_num, HN2⟩
        case measure => simp [intOf]; omega
    · have HK : Hid (tyN t = 0) := by show _ = _; unfold tyN; rw [kindI_not fun j hj => HN.out j (by omega)]; rfl
      go_wp2_with fail
      go_ret
      exact ⟨by rw [HK.out]; rfl, rfl⟩
end Go.Proofs.YtfofhnbijjocfaaGreatDoor

namespace Go.Proofs.YtfofhnbijjocfaaGreatDoor
open Go.RowKit Go.Maps
set_option maxRecDepth 100000

def samePP (P Q : List Prm) : Bool := decide (P = Q)
theorem samePP_no {P Q : List Prm} (h : P ≠ Q) : samePP P Q = false := decide_eq_false h

set_option maxRecDepth 100000 in
set_option maxHeartbeats 4000000 in
theorem slEqP_any (P Q : List Prm) (va vb : Value) (w : World) (hp : PsIs w va P) (hq : PsIs w vb Q) :
    Calls Tryz.prog 49 #[va, vb] w fun e w' => e = .returned (.bool (samePP P Q)) ∧ Kept [] w w' := by
  have hl := hp.len
  have hl2 := hq.len
  obtain ⟨ao, cap, rfl, _, _, _, h5⟩ := hp.open
  obtain ⟨bo, cap2, rfl, _, _, _, g5⟩ := hq.open
  have H5 := Lib.hid h5
  have G5 := Lib.hid g5
  obtain ⟨n, hn⟩ : ∃ n, P.length = n := ⟨_, rfl⟩
  obtain ⟨m, hm⟩ : ∃ m, Q.length = m := ⟨_, rfl⟩
  have HN := Lib.hid hn
  have HM := Lib.hid hm
  rw [hn, hm]
  rw [hn] at hl
  rw [hm] at hl2
  clear hp hq hn hm h5 g5
  by_cases h3 : n = m
  case neg =>
    have q3 : ((n : Int) == (m : Int)) = false := by rw [beq_eq_false_iff_ne]; omega
    have q4 : (n == m) = false := by rw [beq_eq_false_iff_ne]; exact h3
    have HB : Hid (samePP P Q = false) := samePP_no fun h => h3 (by rw [← HN.out, ← HM.out, h])
    have q5 : ¬ (n : Int) = (m : Int) := by omega
    clear h3
    go_enter Tryz.func49, Tryz.ntmps49
    go_wp2_with fail
    go_ret
    exact ⟨retB HB.out.symm, Kept.refl _ _⟩
  subst h3
  go_enter Tryz.func49, Tryz.ntmps49
  go_wp2_with fail
  go_loopw [13] (fun i wr => ∃ k : Nat, k ≤ n ∧ i = .int .i64 k ∧ Hid (∀ j (hj : j < P.length) (hj2 : j < Q.length), j < k → P[j] = Q[j]) ∧ Hid (Kept [] w wr)) (fun i _ => n - (intOf i).toNat)
  case atStart => exact ⟨0, by omega, rfl, fun j hj hj2 h0 => by omega, Kept.refl _ _⟩
  case round =>
    obtain ⟨k, hk, rfl, HE, HW⟩ := hrel
    by_cases hlt : k < n
    · have hkp : k < P.length := by rw [HN.out]; exact hlt
      have hkq : k < Q.length := by rw [HM.out]; exact hlt
      obtain ⟨pb, po, rfl, hpb, hpc⟩ := H5.out (by omega)
      obtain ⟨qb, qo, rfl, hqb, hqc⟩ := G5.out (by omega)
      obtain ⟨p0, p1⟩ := hpc k hkp
      obtain ⟨r0, r1⟩ := hqc k hkq
      have d0 := (HW.out.cell (p := ⟨pb, po + k * 2, none⟩) hpb (by simp)).trans p0
      have d1 := (HW.out.cell (p := ⟨pb, po + k * 2 + 1, none⟩) hpb (by simp)).trans p1
      have e0 := (HW.out.cell (p := ⟨qb, qo + k * 2, none⟩) hqb (by simp)).trans r0
      have e1 := (HW.out.cell (p := ⟨qb, qo + k * 2 + 1, none⟩) hqb (by simp)).trans r1
      obtain ⟨p, hp⟩ : ∃ p, P[k] = p := ⟨_, rfl⟩
      obtain ⟨r, hr⟩ : ∃ r, Q[k] = r := ⟨_, rfl⟩
      rw [hp] at d0 d1
      rw [hr] at e0 e1
      have HP := Lib.hid hp
      have HR := Lib.hid hr
      clear hpc hqc p0 p1 r0 r1 hp hr
      by_cases hpr : p = r
      · subst hpr
        have HE2 : Hid (∀ j (hj : j < P.length) (hj2 : j < Q.length), j < k + 1 → P[j] = Q[j]) := fun j hj hj2 hjk => by
          by_cases e : j = k
          · subst e; rw [HP.out, HR.out]
          · exact HE.out j hj hj2 (by omega)
        go_wp2_with fail
        go_quiet (fail)
        generalize hwq : World.drewN wr _ = wq
        have HWQ : Hid (Kept [] w wq) := by rw [← hwq]; exact HW.out.trans (Kept.drewN _ _ _)
        clear hwq d0 d1 e0 e1
        go_wp2_with fail
        go_roundw
        case rel => exact ⟨k + 1, by omega, by go_num, HE2, HWQ⟩
        case measure => simp [intOf]; omega
      · have HB : Hid (samePP P Q = false) := samePP_no fun h => hpr (by rw [← HP.out, ← HR.out]; simp only [h])
        by_cases hp1 : p.1 = r.1
        · have hp2 : p.2 ≠ r.2 := fun e => hpr (Prod.ext hp1 e)
          have f1 : ((strL p.1).toList == (strL r.1).toList) = true := by rw [str_beqP, decide_eq_true hp1]
          have f2 : ((strL p.2).toList == (strL r.2).toList) = false := by rw [str_beqP, decide_eq_false hp2]
          have f3 : (strL p.1).toList = (strL r.1).toList := by rw [strL_bytes, strL_bytes]; exact hp1
          have f4 : ¬ (strL p.2).toList = (strL r.2).toList := by rw [strL_bytes, strL_bytes]; exact hp2
          clear hpr hp1 hp2
          go_wp2_with fail
          go_quiet (fail)
          generalize hwq : World.drewN wr _ = wq
          have HWQ : Hid (Kept [] w wq) := by rw [← hwq]; exact HW.out.trans (Kept.drewN _ _ _)
          clear hwq d0 d1 e0 e1 f3 f4
          go_wp2_with fail
          go_ret
          exact ⟨retB HB.out.symm, HWQ.out⟩
        · have f1 : ((strL p.1).toList == (strL r.1).toList) = false := by rw [str_beqP, decide_eq_false hp1]
          have f3 : ¬ (strL p.1).toList = (strL r.1).toList := by rw [strL_bytes, strL_bytes]; exact hp1
          clear hpr hp1
          go_wp2_with fail
          go_quiet (fail)
          generalize hwq : World.drewN wr _ = wq
          have HWQ : Hid (Kept [] w wq) := by rw [← hwq]; exact HW.out.trans (Kept.drewN _ _ _)
          clear hwq d0 d1 e0 e1 f3
          go_wp2_with fail
          go_ret
          exact ⟨retB HB.out.symm, HWQ.out⟩
    · have HB : Hid (samePP P Q = true) := decide_eq_true (List.ext_getElem (by rw [HN.out, HM.out]) fun j hj hj2 => HE.out j hj hj2 (by rw [HN.out] at hj; omega))
      go_wp2_with fail
      go_ret
      exact ⟨retB HB.out.symm, HW.out⟩
end Go.Proofs.YtfofhnbijjocfaaGreatDoor

namespace Go.Proofs.YtfofhnbijjocfaaGreatDoor
open Go.RowKit Go.Maps
set_option maxRecDepth 100000

theorem RsIs.slice {w : World} {v : Value} {l : List Res} (h : RsIs w v l) : ∃ ao cap, v = .slice ao l.length cap := by
  obtain ⟨ao, cap, h1, _⟩ := h.open
  exact ⟨ao, cap, h1⟩
theorem RsIs.pick {w : World} {ao : Option Addr} {n cap : Nat} {R : List Res} (h : RsIs w (.slice ao n cap) R) (k : Nat) (hk : k < R.length) (r : Res) (hr : R[k] = r) :
    ∃ b o u, ao = some ⟨b, o, none⟩ ∧ b < w.heap.size ∧ PsIs w u r.P ∧ w.cell? ⟨b, o + k * 3, none⟩ = some (.string (strL r.t)) ∧ w.cell? ⟨b, o + k * 3 + 1, none⟩ = some (.string (strL r.ti)) ∧ w.cell? ⟨b, o + k * 3 + 2, none⟩ = some u := by
  obtain ⟨ao', cap', e, _, _, _, h5⟩ := h.open
  injection e with e1 _ _
  obtain ⟨b, o, h6, hb, hc⟩ := h5 (by omega)
  obtain ⟨u, c0, c1, c2, hu⟩ := hc k hk
  subst hr
  exact ⟨b, o, u, by rw [e1, h6], hb, hu, c0, c1, c2⟩
theorem RsIs.lens {w : World} {v : Value} {R : List Res} (h : RsIs w v R) {k : Nat} (hk : k < R.length) {r : Res} (hr : R[k] = r) : r.t.length ≤ 140737488355328 ∧ r.ti.length ≤ 140737488355328 := by
  subst hr
  exact h.txt _ (List.getElem_mem hk)

theorem resE_A {p : Option Res} {r : Res} (h : codeO r.t r.ti r.P ≠ 0) : resE p r = codeO r.t r.ti r.P := by unfold resE; rw [if_pos h]
theorem resE_B {p : Option Res} {r : Res} (h : codeO r.t r.ti r.P = 0) (h2 : outO r.t r.ti r.P ≠ r.P) : resE p r = 70 := by unfold resE; rw [if_neg (by rw [h]; simp), if_pos h2]
theorem resE_C {r : Res} (h : codeO r.t r.ti r.P = 0) (h2 : outO r.t r.ti r.P = r.P) : resE none r = 0 := by unfold resE; rw [if_neg (by rw [h]; simp), if_neg (by rw [h2]; simp)]
theorem resE_D {q r : Res} (h : codeO r.t r.ti r.P = 0) (h2 : outO r.t r.ti r.P = r.P) (h3 : lessR r.t q.t r.ti q.ti = true) : resE (some q) r = 70 := by
  unfold resE; rw [if_neg (by rw [h]; simp), if_neg (by rw [h2]; simp)]; simp only [h3, if_true]
theorem resE_E {q r : Res} (h : codeO r.t r.ti r.P = 0) (h2 : outO r.t r.ti r.P = r.P) (h3 : lessR r.t q.t r.ti q.ti = false) (h4 : lessR q.t r.t q.ti r.ti = true) : resE (some q) r = 0 := by
  unfold resE; rw [if_neg (by rw [h]; simp), if_neg (by rw [h2]; simp)]; simp only [h3, h4, Bool.false_eq_true, if_false, if_true]
theorem resE_F {q r : Res} (h : codeO r.t r.ti r.P = 0) (h2 : outO r.t r.ti r.P = r.P) (h3 : lessR r.t q.t r.ti q.ti = false) (h4 : lessR q.t r.t q.ti r.ti = false) : resE (some q) r = 71 := by
  unfold resE; rw [if_neg (by rw [h]; simp), if_neg (by rw [h2]; simp)]; simp only [h3, h4, Bool.false_eq_true, if_false]

set_option maxRecDepth 100000 in
set_option maxHeartbeats 8000000 in
theorem checkRes_any (R : List Res) (v : Value) (w : World) (h : RsIs w v R) :
    Calls Tryz.prog 30 #[v] w fun e w' => e = .returned (.int .i64 (resL none R)) ∧ Kept [] w w' := by
  have hl := h.len
  obtain ⟨ao, cap, rfl⟩ := h.slice
  have HR := Lib.hid h
  obtain ⟨n, hn⟩ : ∃ n, R.length = n := ⟨_, rfl⟩
  rw [hn] at HR hl
  rw [hn]
  have HN := Lib.hid hn
  clear h hn
  go_enter Tryz.func30, Tryz.ntmps30
  go_wp2_with fail
  go_loopw [9] (fun i wr => ∃ k : Nat, k ≤ n ∧ i = .int .i64 k ∧ Hid (∀ j (hj : j < R.length), j < k → resE (ahead none R j) R[j] = 0) ∧ Hid (Kept [] w wr)) (fun i _ => n - (intOf i).toNat)
  case atStart => exact ⟨0, by omega, rfl, fun j hj h0 => by omega, Kept.refl _ _⟩
  case round =>
    obtain ⟨k, hk, rfl, HE, HW⟩ := hrel
    by_cases hlt : k < n
    case neg =>
      have HB : Hid (resL none R = 0) := resL_all none R fun j hj => HE.out j hj (by rw [HN.out] at hj; omega)
      go_wp2_with fail
      go_ret
      exact ⟨ret64 HB.out.symm, HW.out⟩
    have hkr : k < R.length := by rw [HN.out]; exact hlt
    obtain ⟨r, hr⟩ : ∃ r, R[k] = r := ⟨_, rfl⟩
    have HAT : Hid (∀ z, resE (ahead none R k) r = z → z ≠ 0 → resL none R = z) := fun z hz h0 => by
      rw [← hr] at hz
      rw [← hz]
      exact resL_at none R k hkr (fun j hj hjk => HE.out j hj hjk) (by rw [hz]; exact h0)
    have HNX : Hid (resE (ahead none R k) r = 0 → ∀ j (hj : j < R.length), j < k + 1 → resE (ahead none R j) R[j] = 0) := fun hz j hj hjk => by
      by_cases e : j = k
      · subst e; rw [hr]; exact hz
      · exact HE.out j hj (by omega)
    obtain ⟨b, o, u, rfl, hb, hu, c0, c1, c2⟩ := (HR.out.kept HW.out).pick k hkr r hr
    have HL := Lib.hid (HR.out.lens hkr hr)
    obtain ⟨pa, pc, rfl⟩ := hu.slice
    obtain ⟨m, hm⟩ : ∃ m, r.P.length = m := ⟨_, rfl⟩
    rw [hm] at hu c2
    have HU := Lib.hid hu
    have HP0 : Hid (k = 0 → ahead none R k = none) := fun e => by subst e; rfl
    have HP1 : Hid (∀ j (hj : j < R.length), k = j + 1 → ahead none R k = some R[j]) := fun j hj e => by
      subst e
      unfold ahead
      rw [if_neg (by omega), Nat.add_sub_cancel, List.getElem?_eq_getElem hj]
    obtain ⟨w1, hw1⟩ : ∃ w1, wr.alloc (.cells #[.string (strL r.t), .string (strL r.ti), .slice pa m pc] 40) = w1 := ⟨_, rfl⟩
    have HA : Hid (Kept [] wr w1 ∧ w1.heap[wr.heap.size]? = some (.cells #[.string (strL r.t), .string (strL r.ti), .slice pa m pc] 40)) := ⟨by rw [← hw1]; exact Kept.alloc _ _ _, by rw [← hw1]; exact heap_alloc_last _ _⟩
    have HFU : Hid (Calls Tryz.prog 48 #[.agg #[.string (strL r.t), .string (strL r.ti), .slice pa m pc]] w1 (FullOut r.t r.ti r.P w1)) := sfull_any r.t r.ti r.P _ w1 (HU.out.kept HA.out.1) HL.out.1 HL.out.2
    clear hr hm hu HE
    obtain ⟨c, hc⟩ : ∃ c, codeO r.t r.ti r.P = c := ⟨_, rfl⟩
    have HC := Lib.hid hc
    clear hc
    have a0 : w1.cell? ⟨wr.heap.size, 0, none⟩ = some (.string (strL r.t)) := cell_of_row _ _ 0 _ _ _ HA.out.2
    have a1 : w1.cell? ⟨wr.heap.size, 1, none⟩ = some (.string (strL r.ti)) := cell_of_row _ _ 1 _ _ _ HA.out.2
    have a2 : w1.cell? ⟨wr.heap.size, 2, none⟩ = some (.slice pa m pc) := cell_of_row _ _ 2 _ _ _ HA.out.2
    go_wp2_with fail
    refine HFU.out.mono ?_
    rintro e w2 ⟨v2, rfl, HF⟩
    obtain ⟨f1, f2, f3, rfl⟩ := prm_val _ _ _ _ HF.out.1
    rw [HC.out]
    unfold resV
    obtain ⟨y1, hy1⟩ : ∃ y1, txO r.t r.ti r.P r.t = y1 := ⟨_, rfl⟩
    obtain ⟨y2, hy2⟩ : ∃ y2, txO r.t r.ti r.P r.ti = y2 := ⟨_, rfl⟩
    rw [hy1, hy2]
    clear hy1 hy2 hw1 c0 c1 c2 a0 a1 a2
    obtain ⟨w3, hw3⟩ : ∃ w3, w2.alloc (.cells #[.string (strL y1), .string (strL y2), .slice f1 f2 f3] 40) = w3 := ⟨_, rfl⟩
    have HB3 : Hid (Kept [] w2 w3 ∧ w3.heap[w2.heap.size]? = some (.cells #[.string (strL y1), .string (strL y2), .slice f1 f2 f3] 40)) := ⟨by rw [← hw3]; exact Kept.alloc _ _ _, by rw [← hw3]; exact heap_alloc_last _ _⟩
    have HK13 : Hid (Kept [] w1 w3) := HF.out.2.trans HB3.out.1
    have HKW : Hid (Kept [] w w3) := (HW.out.trans HA.out.1).trans HK13.out
    by_cases h0 : c = 0
    case neg =>
      have q0 : (c != 0) = true := by simpa using h0
      have HZ : Hid (resL none R = c) := HAT.out c ((resE_A (by rw [HC.out]; exact h0)).trans HC.out) h0
      clear h0
      go_wp2_with fail
      go_ret
      exact ⟨ret64 HZ.out.symm, HKW.out⟩
    subst h0
    have a2 : w3.cell? ⟨wr.heap.size, 2, none⟩ = some (.slice pa m pc) := cell_of_row _ _ 2 _ _ _ (HK13.out.heap (by simp) HA.out.2)
    have b2 : w3.cell? ⟨w2.heap.size, 2, none⟩ = some (.slice f1 f2 f3) := cell_of_row _ _ 2 _ _ _ HB3.out.2
    have HEQ : Hid (Calls Tryz.prog 49 #[.slice f1 f2 f3, .slice pa m pc] w3 fun e w' => e = .returned (.bool (samePP (outO r.t r.ti r.P) r.P)) ∧ Kept [] w3 w') :=
      slEqP_any _ _ _ _ w3 (HF.out.1.ps.kept HB3.out.1) (HU.out.kept (HA.out.1.trans HK13.out))
    by_cases h2 : outO r.t r.ti r.P = r.P
    case neg =>
      have hs : samePP (outO r.t r.ti r.P) r.P = false := samePP_no h2
      rw [hs] at HEQ
      have HZ : Hid (resL none R = 70) := HAT.out 70 (resE_B HC.out h2) (by decide)
      clear h2 hs
      go_wp2_with fail
      refine HEQ.out.mono ?_
      rintro e w4 ⟨rfl, hk4⟩
      have HK4 := Lib.hid hk4
      clear hk4
      go_wp2_with fail
      go_ret
      exact ⟨ret64 HZ.out.symm, HKW.out.trans HK4.out⟩
    have hs : samePP (outO r.t r.ti r.P) r.P = true := decide_eq_true h2
    rw [hs] at HEQ
    have H2 := Lib.hid h2
    clear h2 hs
    by_cases hk0 : k = 0
    · subst hk0
      have HZ := Lib.hid (HNX.out (by rw [HP0.out rfl]; exact resE_C HC.out H2.out))
      go_wp2_with fail
      refine HEQ.out.mono ?_
      rintro e w4 ⟨rfl, hk4⟩
      have HK4 : Hid (Kept [] w w4) := HKW.out.trans hk4
      clear hk4 a2 b2 hw3
      go_wp2_with fail
      go_roundw
      case rel => exact ⟨0 + 1, by omega, by go_num, HZ, HK4⟩
      case measure => simp [intOf]; omega
    obtain ⟨j, hj⟩ : ∃ j, k = j + 1 := ⟨k - 1, by omega⟩
    have hjn : j < n := by omega
    have hjr : j < R.length := by rw [HN.out]; exact hjn
    obtain ⟨q, hq⟩ : ∃ q, R[j] = q := ⟨_, rfl⟩
    have HPR : Hid (ahead none R k = some q) := by show _ = _; rw [← hq]; exact HP1.out j hjr hj
    obtain ⟨b', o', u', hbo, hb', hu', d0, d1, d2⟩ := (HR.out.kept HW.out).pick j hjr q hq
    injection hbo with hbo
    injection hbo with e1 e2 _
    subst e1 e2
    obtain ⟨qa, qc, rfl⟩ := hu'.slice
    obtain ⟨qn, hqn⟩ : ∃ m, q.P.length = m := ⟨_, rfl⟩
    rw [hqn] at d2
    have HD : Hid (∀ w', Kept [] wr w' → w'.cell? ⟨b, o + j * 3, none⟩ = some (.string (strL q.t)) ∧ w'.cell? ⟨b, o + j * 3 + 1, none⟩ = some (.string (strL q.ti)) ∧ w'.cell? ⟨b, o + j * 3 + 2, none⟩ = some (.slice qa qn qc)) := fun w' hk =>
      ⟨(hk.cell (p := ⟨b, o + j * 3, none⟩) hb (by simp)).trans d0, (hk.cell (p := ⟨b, o + j * 3 + 1, none⟩) hb (by simp)).trans d1, (hk.cell (p := ⟨b, o + j * 3 + 2, none⟩) hb (by simp)).trans d2⟩
    have HA2 : Hid (∀ w', Kept [] w1 w' → w'.cell? ⟨wr.heap.size, 0, none⟩ = some (.string (strL r.t)) ∧ w'.cell? ⟨wr.heap.size, 1, none⟩ = some (.string (strL r.ti)) ∧ w'.cell? ⟨wr.heap.size, 2, none⟩ = some (.slice pa m pc)) := fun w' hk => by
      have e0 := hk.heap (by simp) HA.out.2
      exact ⟨cell_of_row _ _ 0 _ _ _ e0, cell_of_row _ _ 1 _ _ _ e0, cell_of_row _ _ 2 _ _ _ e0⟩
    have qw : IntKind.i64.wrap ((k : Int) - 1) = (j : Int) := by rw [IntKind.wrap_i64]; omega
    have q0 : ((k : Int) == 0) = false := by rw [beq_eq_false_iff_ne]; omega
    clear hk0 hj hq hqn d0 d1 d2 hu' hb'
    obtain ⟨l1, hl1⟩ : ∃ l1, lessR r.t q.t r.ti q.ti = l1 := ⟨_, rfl⟩
    obtain ⟨l2, hl2⟩ : ∃ l2, lessR q.t r.t q.ti r.ti = l2 := ⟨_, rfl⟩
    have HL1 : Hid (∀ w', Calls Tryz.prog 50 #[.agg #[.string (strL r.t), .string (strL r.ti), .slice pa m pc], .agg #[.string (strL q.t), .string (strL q.ti), .slice qa qn qc]] w' fun e w2 => e = .returned (.bool l1) ∧ Kept [] w' w2) := fun w' => by
      rw [← hl1]; exact sless_any r.t r.ti q.t q.ti pa qa m pc qn qc w'
    have HL2 : Hid (∀ w', Calls Tryz.prog 50 #[.agg #[.string (strL q.t), .string (strL q.ti), .slice qa qn qc], .agg #[.string (strL r.t), .string (strL r.ti), .slice pa m pc]] w' fun e w2 => e = .returned (.bool l2) ∧ Kept [] w' w2) := fun w' => by
      rw [← hl2]; exact sless_any q.t q.ti r.t r.ti qa pa qn qc m pc w'
    have HLL : Hid ((l1 = true → resL none R = 70) ∧ (l1 = false → l2 = false → resL none R = 71) ∧ (l1 = false → l2 = true → ∀ j (hj : j < R.length), j < k + 1 → resE (ahead none R j) R[j] = 0)) :=
      ⟨fun e => HAT.out 70 (by rw [HPR.out]; exact resE_D HC.out H2.out (hl1.trans e)) (by decide), fun e e' => HAT.out 71 (by rw [HPR.out]; exact resE_F HC.out H2.out (hl1.trans e) (hl2.trans e')) (by decide), fun e e' => HNX.out (by rw [HPR.out]; exact resE_E HC.out H2.out (hl1.trans e) (hl2.trans e'))⟩
    clear hl1 hl2
    go_wp2_with fail
    refine HEQ.out.mono ?_
    rintro e w4 ⟨rfl, hk4⟩
    have HK14 : Hid (Kept [] w1 w4) := HK13.out.trans hk4
    have HK4 : Hid (Kept [] w w4) := HKW.out.trans hk4
    clear hk4 a2 b2 hw3
    have z0 : ∀ w', Kept [] w4.drew w' → w'.cell? ⟨wr.heap.size, 0, none⟩ = some (.string (strL r.t)) := fun w' hk => (HA2.out w' (HK14.out.trans ((Kept.drew [] _).trans hk))).1
    have z1 : ∀ w', Kept [] w4.drew w' → w'.cell? ⟨wr.heap.size, 1, none⟩ = some (.string (strL r.ti)) := fun w' hk => (HA2.out w' (HK14.out.trans ((Kept.drew [] _).trans hk))).2.1
    have z2 : ∀ w', Kept [] w4.drew w' → w'.cell? ⟨wr.heap.size, 2, none⟩ = some (.slice pa m pc) := fun w' hk => (HA2.out w' (HK14.out.trans ((Kept.drew [] _).trans hk))).2.2
    have z3 : ∀ w', Kept [] w4.drew w' → w'.cell? ⟨b, o + j * 3, none⟩ = some (.string (strL q.t)) := fun w' hk => (HD.out w' (HA.out.1.trans (HK14.out.trans ((Kept.drew [] _).trans hk)))).1
    have z4 : ∀ w', Kept [] w4.drew w' → w'.cell? ⟨b, o + j * 3 + 1, none⟩ = some (.string (strL q.ti)) := fun w' hk => (HD.out w' (HA.out.1.trans (HK14.out.trans ((Kept.drew [] _).trans hk)))).2.1
    have z5 : ∀ w', Kept [] w4.drew w' → w'.cell? ⟨b, o + j * 3 + 2, none⟩ = some (.slice qa qn qc) := fun w' hk => (HD.out w' (HA.out.1.trans (HK14.out.trans ((Kept.drew [] _).trans hk)))).2.2
    go_wp2_with fail
    refine wp_region_ord [(true, 0), (true, 1), (true, 2), (true, 3), (true, 4), (true, 5), (false, 6)] [] (by kernel_rfl) (fun _ _ d _ _ h => by cases d <;> exact h) (by kernel_rfl) rfl (by kernel_rfl) (by kernel_rfl) ?_
    simp only [named, List.getD_cons_zero, List.getD_cons_succ]
    repeat (first | (apply wpGrow_take; (case hw => rfl); (case hv => intro w' hk; go_simp; with_reducible rfl); simp only [Act.put, List.setIfInBounds_toArray, List.set_cons_zero, List.set_cons_succ]) | (refine wpGrow_pass (by rfl) ?_; simp only [Act.put, List.setIfInBounds_toArray, List.set_cons_zero, List.set_cons_succ]) | (refine wpGrow_skip (by rfl) ?_; simp only [Act.put, List.setIfInBounds_toArray, List.set_cons_zero, List.set_cons_succ]))
    clear z0 z1 z2 z3 z4 z5
    refine wpGrow_force (by rfl) (fun K hK => ?_)
    go_simp
    refine (HL1.out _).mono ?_
    rintro e w5 ⟨rfl, hk5⟩
    have HK15 : Hid (Kept [] w1 w5) := HK14.out.trans ((Kept.drew [] _).trans hk5)
    have HK5 : Hid (Kept [] w w5) := HK4.out.trans ((Kept.drew [] _).trans hk5)
    refine hK _ _ hk5 ?_
    clear hK K hk5
    repeat (first | (apply wpGrow_take; (case hw => rfl); (case hv => intro w' hk; go_simp; with_reducible rfl); simp only [Act.put, List.setIfInBounds_toArray, List.set_cons_zero, List.set_cons_succ]) | (refine wpGrow_pass (by rfl) ?_; simp only [Act.put, List.setIfInBounds_toArray, List.set_cons_zero, List.set_cons_succ]) | (refine wpGrow_skip (by rfl) ?_; simp only [Act.put, List.setIfInBounds_toArray, List.set_cons_zero, List.set_cons_succ]))
    refine wpGrow_nil ?_
    cases l1
    case true =>
      have HZ := Lib.hid (HLL.out.1 rfl)
      go_wp2_with fail
      go_ret
      exact ⟨ret64 HZ.out.symm, HK5.out⟩
    have z0 : ∀ w', Kept [] w5.drew w' → w'.cell? ⟨wr.heap.size, 0, none⟩ = some (.string (strL r.t)) := fun w' hk => (HA2.out w' (HK15.out.trans ((Kept.drew [] _).trans hk))).1
    have z1 : ∀ w', Kept [] w5.drew w' → w'.cell? ⟨wr.heap.size, 1, none⟩ = some (.string (strL r.ti)) := fun w' hk => (HA2.out w' (HK15.out.trans ((Kept.drew [] _).trans hk))).2.1
    have z2 : ∀ w', Kept [] w5.drew w' → w'.cell? ⟨wr.heap.size, 2, none⟩ = some (.slice pa m pc) := fun w' hk => (HA2.out w' (HK15.out.trans ((Kept.drew [] _).trans hk))).2.2
    have z3 : ∀ w', Kept [] w5.drew w' → w'.cell? ⟨b, o + j * 3, none⟩ = some (.string (strL q.t)) := fun w' hk => (HD.out w' (HA.out.1.trans (HK15.out.trans ((Kept.drew [] _).trans hk)))).1
    have z4 : ∀ w', Kept [] w5.drew w' → w'.cell? ⟨b, o + j * 3 + 1, none⟩ = some (.string (strL q.ti)) := fun w' hk => (HD.out w' (HA.out.1.trans (HK15.out.trans ((Kept.drew [] _).trans hk)))).2.1
    have z5 : ∀ w', Kept [] w5.drew w' → w'.cell? ⟨b, o + j * 3 + 2, none⟩ = some (.slice qa qn qc) := fun w' hk => (HD.out w' (HA.out.1.trans (HK15.out.trans ((Kept.drew [] _).trans hk)))).2.2
    go_wp2_with fail
    refine wp_region_ord [(true, 0), (true, 1), (true, 2), (true, 3), (true, 4), (true, 5), (false, 6), (true, 7)] [] (by kernel_rfl) (fun _ _ d _ _ h => by cases d <;> exact h) (by kernel_rfl) rfl (by kernel_rfl) (by kernel_rfl) ?_
    simp only [named, List.getD_cons_zero, List.getD_cons_succ]
    repeat (first | (apply wpGrow_take; (case hw => rfl); (case hv => intro w' hk; go_simp; with_reducible rfl); simp only [Act.put, List.setIfInBounds_toArray, List.set_cons_zero, List.set_cons_succ]) | (refine wpGrow_pass (by rfl) ?_; simp only [Act.put, List.setIfInBounds_toArray, List.set_cons_zero, List.set_cons_succ]) | (refine wpGrow_skip (by rfl) ?_; simp only [Act.put, List.setIfInBounds_toArray, List.set_cons_zero, List.set_cons_succ]))
    clear z0 z1 z2 z3 z4 z5
    refine wpGrow_force (by rfl) (fun K hK => ?_)
    go_simp
    refine (HL2.out _).mono ?_
    rintro e w6 ⟨rfl, hk6⟩
    have HK6 : Hid (Kept [] w w6) := HK5.out.trans ((Kept.drew [] _).trans hk6)
    refine hK _ _ hk6 ?_
    clear hK K hk6
    repeat (first | (apply wpGrow_take; (case hw => rfl); (case hv => intro w' hk; go_simp; with_reducible rfl); simp only [Act.put, List.setIfInBounds_toArray, List.set_cons_zero, List.set_cons_succ]) | (refine wpGrow_pass (by rfl) ?_; simp only [Act.put, List.setIfInBounds_toArray, List.set_cons_zero, List.set_cons_succ]) | (refine wpGrow_skip (by rfl) ?_; simp only [Act.put, List.setIfInBounds_toArray, List.set_cons_zero, List.set_cons_succ]))
    refine wpGrow_nil ?_
    cases l2
    case false =>
      have HZ := Lib.hid (HLL.out.2.1 (by trivial) (by trivial))
      go_wp2_with fail
      go_ret
      exact ⟨ret64 HZ.out.symm, HK6.out⟩
    have HZ := Lib.hid (HLL.out.2.2 (by trivial) (by trivial))
    go_wp2_with fail
    go_roundw
    case rel => exact ⟨k + 1, by omega, by go_num, HZ, HK6⟩
    case measure => simp [intOf]; omega
end Go.Proofs.YtfofhnbijjocfaaGreatDoor

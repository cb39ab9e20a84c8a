/-
  Layer 7: the program's blocked.
  Conditions: those that each theorem states.
  Layer 7: the program's soundEdges and checkParts.
  Conditions: those that each theorem states.
  Layer 7: the program's checkParts.
  Conditions: those that each theorem states.
-/
import Derived.Test.YtfofhnbijjocfaaGreatDoorKRes
import Derived.Test.YtfofhnbijjocfaaGreatDoorLPath
namespace Go.Proofs.YtfofhnbijjocfaaGreatDoor
open Go.RowKit Go.Maps Go.Shelf
set_option maxRecDepth 100000

theorem strL_slash (a : List UInt8) : strL a ++ { data := #[47] } = strL (a ++ [47]) := by
  apply ByteArray.ext
  simp [strL]
theorem hasPrefix_any (a b : List UInt8) (w : World) : Calls Tryz.prog 52 #[.string (strL b), .string (strL a ++ { data := #[47] })] w fun e w' => e = .returned (.bool (decide ((a ++ [47]) <+: b))) ∧ w = w' := by
  rw [strL_slash]
  refine (Any.strings_HasPrefix Tryz.lays99 (strL b) (strL (a ++ [47])) w).mono fun e w' ⟨he, hw⟩ => ⟨?_, hw.symm⟩
  rw [he]
  congr 2
  show Lib.hasPrefix b (a ++ [47]) = _
  rw [Bool.eq_iff_iff]
  simp [Lib.hasPrefix, List.isPrefixOf_iff_prefix]

set_option maxRecDepth 100000 in
set_option maxHeartbeats 8000000 in
theorem blocked_any (R : List Res) (v : Value) (w : World) (h : RsIs w v R) :
    Calls Tryz.prog 31 #[v] w fun e w' => e = .returned (.bool (blkB R)) ∧ Kept [] w w' := by
  have hl := h.len
  obtain ⟨ao, cap, rfl⟩ := h.slice
  have HR := Lib.hid h
  obtain ⟨n, hn⟩ : ∃ n, R.length = n := ⟨_, rfl⟩
  rw [hn] at HR hl
  rw [hn]
  have HN := Lib.hid hn
  clear h hn
  go_enter Tryz.func31, Tryz.ntmps31
  go_wp2_with fail
  go_loopw [9] (fun i wr => ∃ k : Nat, k ≤ n ∧ i = .int .i64 k ∧ Hid (∀ i (hi : i < R.length), i < k → upB R[i] = false ∨ ∀ k (hk : k < R.length), downB R[i] R[k] = false) ∧ Hid (Kept [] w wr)) (fun i _ => n - (intOf i).toNat)
  case atStart => exact ⟨0, by omega, rfl, fun j hj h0 => by omega, Kept.refl _ _⟩
  case round =>
    obtain ⟨k, hk, rfl, HE, HW⟩ := hrel
    by_cases hlt : k < n
    case neg =>
      have HB : Hid (blkB R = false) := blkB_no fun i hi => HE.out i hi (by rw [HN.out] at hi; omega)
      go_wp2_with fail
      go_ret
      exact ⟨retB HB.out.symm, HW.out⟩
    have hkr : k < R.length := by rw [HN.out]; exact hlt
    obtain ⟨r, hr⟩ : ∃ r, R[k] = r := ⟨_, rfl⟩
    have HNX : Hid ((upB r = false ∨ ∀ k (hk : k < R.length), downB r R[k] = false) → ∀ i (hi : i < R.length), i < k + 1 → upB R[i] = false ∨ ∀ k (hk : k < R.length), downB R[i] R[k] = false) := fun hz i hi hik => by
      by_cases e : i = k
      · subst e; rw [hr]; exact hz
      · exact HE.out i hi (by omega)
    have HYES : Hid (upB r = true → ∀ j (hj : j < R.length), downB r R[j] = true → blkB R = true) := fun h1 j hj h2 => blkB_yes hkr hj (by rw [hr]; exact h1) (by rw [hr]; exact h2)
    obtain ⟨b, o, u, rfl, hb, hu, c0, c1, c2⟩ := (HR.out.kept HW.out).pick k hkr r hr
    have HL := Lib.hid (HR.out.lens hkr hr)
    obtain ⟨pa, pc, rfl⟩ := hu.slice
    obtain ⟨m, hm⟩ : ∃ m, r.P.length = m := ⟨_, rfl⟩
    rw [hm] at hu c2
    have HU := Lib.hid hu
    obtain ⟨w1, hw1⟩ : ∃ w1, wr.alloc (.cells #[.string (strL r.t), .string (strL r.ti), .slice pa m pc] 40) = w1 := ⟨_, rfl⟩
    have HA : Hid (Kept [] wr w1 ∧ w1.heap[wr.heap.size]? = some (.cells #[.string (strL r.t), .string (strL r.ti), .slice pa m pc] 40)) := ⟨by rw [← hw1]; exact Kept.alloc _ _ _, by rw [← hw1]; exact heap_alloc_last _ _⟩
    have HW1 : Hid (Kept [] w w1) := HW.out.trans HA.out.1
    obtain ⟨x, hx⟩ : ∃ x, getV r.P nEnsure = x := ⟨_, rfl⟩
    have HEN : Hid (Calls Tryz.prog 51 #[.agg #[.string (strL r.t), .string (strL r.ti), .slice pa m pc]] w1 fun e w' => e = .returned (.string (strL x)) ∧ Kept [] w1 w') := by
      show Calls _ _ _ _ _
      rw [← hx]; exact censure_any r.t r.ti r.P _ w1 (HU.out.kept HA.out.1)
    have a0 : w1.cell? ⟨wr.heap.size, 0, none⟩ = some (.string (strL r.t)) := cell_of_row _ _ 0 _ _ _ HA.out.2
    have a1 : w1.cell? ⟨wr.heap.size, 1, none⟩ = some (.string (strL r.ti)) := cell_of_row _ _ 1 _ _ _ HA.out.2
    have a2 : w1.cell? ⟨wr.heap.size, 2, none⟩ = some (.slice pa m pc) := cell_of_row _ _ 2 _ _ _ HA.out.2
    clear hr hm hu HE
    by_cases ht : r.t = nFile
    case neg =>
      have q1 : ((strL r.t).toList == [102, 105, 108, 101]) = false := by rw [strL_bytes]; exact beq_eq_false_iff_ne.2 ht
      have HZ := Lib.hid (HNX.out (.inl (by unfold upB; rw [decide_eq_false ht, Bool.false_and])))
      clear ht hx
      go_wp2_with fail
      go_roundw
      case rel => exact ⟨k + 1, by omega, by go_num, HZ, HW1⟩
      case measure => simp [intOf]; omega
    have q1 : ((strL r.t).toList == [102, 105, 108, 101]) = true := by rw [strL_bytes, ht]; rfl
    by_cases hd : x = nDirectory
    · have q2 : ((strL x).toList == [100, 105, 114, 101, 99, 116, 111, 114, 121]) = true := by rw [strL_bytes, hd]; rfl
      have HZ := Lib.hid (HNX.out (.inl (by unfold upB; rw [hx, hd]; simp)))
      clear ht hx hd
      go_wp2_with fail
      refine HEN.out.mono ?_
      rintro e w2 ⟨rfl, hk2⟩
      have HK2 : Hid (Kept [] w w2) := HW1.out.trans hk2
      clear hk2 hw1 a0 a1 a2 c0 c1 c2
      go_wp2_with fail
      go_roundw
      case rel => exact ⟨k + 1, by omega, by go_num, HZ, HK2⟩
      case measure => simp [intOf]; omega
    have q2 : ((strL x).toList == [100, 105, 114, 101, 99, 116, 111, 114, 121]) = false := by rw [strL_bytes]; exact beq_eq_false_iff_ne.2 hd
    have HUP : Hid (upB r = true) := by show _ = _; unfold upB; rw [hx, decide_eq_true ht, decide_eq_true hd]; rfl
    clear ht hx hd
    go_wp2_with fail
    refine HEN.out.mono ?_
    rintro e w2 ⟨rfl, hk2⟩
    have HK12 : Hid (Kept [] w1 w2) := hk2
    clear hk2 hw1 a0 a1 a2 c0 c1 c2
    obtain ⟨ga, hga⟩ : ∃ ga, wr.heap.size = ga := ⟨_, rfl⟩
    rw [hga] at HA
    rw [hga]
    go_wp2_with fail
    clear hga
    go_loopw [23] (fun i w9 => ∃ j : Nat, j ≤ n ∧ i = .int .i64 j ∧ Hid (∀ i (hi : i < R.length), i < j → downB r R[i] = false) ∧ Hid (Kept [] w1 w9)) (fun i _ => n - (intOf i).toNat)
    case atStart => exact ⟨0, by omega, rfl, fun j hj h0 => by omega, HK12⟩
    case round =>
      clear HK12 HEN
      clear w2
      obtain ⟨j, hj, rfl, HI, HW9⟩ := hrel
      by_cases hjn : j < n
      case neg =>
        have HZ := Lib.hid (HNX.out (.inr fun i hi => HI.out i hi (by rw [HN.out] at hi; omega)))
        have HK9 : Hid (Kept [] w wr) := HW1.out.trans HW9.out
        go_wp2_with fail
        go_roundw
        case rel => exact ⟨k + 1, by omega, by go_num, HZ, HK9⟩
        case measure => simp [intOf]; omega
      have hjr : j < R.length := by rw [HN.out]; exact hjn
      obtain ⟨s, hs⟩ : ∃ s, R[j] = s := ⟨_, rfl⟩
      have HNX2 : Hid (downB r s = false → ∀ i (hi : i < R.length), i < j + 1 → downB r R[i] = false) := fun hz i hi hij => by
        by_cases e : i = j
        · subst e; rw [hs]; exact hz
        · exact HI.out i hi (by omega)
      have HYES2 : Hid (downB r s = true → blkB R = true) := fun h => HYES.out HUP.out j hjr (by rw [hs]; exact h)
      have HKr : Hid (Kept [] w wr) := HW1.out.trans HW9.out
      obtain ⟨b', o', u', hbo, hb', hu', c0, c1, c2⟩ := (HR.out.kept HKr.out).pick j hjr s hs
      injection hbo with hbo
      injection hbo with e1 e2 _
      subst e1 e2
      have HL2 := Lib.hid (HR.out.lens hjr hs)
      obtain ⟨qa, qc, rfl⟩ := hu'.slice
      obtain ⟨qn, hqn⟩ : ∃ m, s.P.length = m := ⟨_, rfl⟩
      rw [hqn] at hu' c2
      have HU2 := Lib.hid hu'
      obtain ⟨w5, hw5⟩ : ∃ w5, wr.alloc (.cells #[.string (strL s.t), .string (strL s.ti), .slice qa qn qc] 40) = w5 := ⟨_, rfl⟩
      have HA5 : Hid (Kept [] wr w5 ∧ w5.heap[wr.heap.size]? = some (.cells #[.string (strL s.t), .string (strL s.ti), .slice qa qn qc] 40)) := ⟨by rw [← hw5]; exact Kept.alloc _ _ _, by rw [← hw5]; exact heap_alloc_last _ _⟩
      have HW5 : Hid (Kept [] w w5 ∧ Kept [] w1 w5) := ⟨HKr.out.trans HA5.out.1, HW9.out.trans HA5.out.1⟩
      obtain ⟨y, hy⟩ : ∃ y, getV s.P nEnsure = y := ⟨_, rfl⟩
      have HEN2 : Hid (Calls Tryz.prog 51 #[.agg #[.string (strL s.t), .string (strL s.ti), .slice qa qn qc]] w5 fun e w' => e = .returned (.string (strL y)) ∧ Kept [] w5 w') := by
        show Calls _ _ _ _ _
        rw [← hy]; exact censure_any s.t s.ti s.P _ w5 (HU2.out.kept HA5.out.1)
      have d0 : w5.cell? ⟨wr.heap.size, 0, none⟩ = some (.string (strL s.t)) := cell_of_row _ _ 0 _ _ _ HA5.out.2
      have d1 : w5.cell? ⟨wr.heap.size, 1, none⟩ = some (.string (strL s.ti)) := cell_of_row _ _ 1 _ _ _ HA5.out.2
      have d2 : w5.cell? ⟨wr.heap.size, 2, none⟩ = some (.slice qa qn qc) := cell_of_row _ _ 2 _ _ _ HA5.out.2
      clear hs hqn hu' HI
      by_cases ht : s.t = nFile
      case neg =>
        have q3 : ((strL s.t).toList == [102, 105, 108, 101]) = false := by rw [strL_bytes]; exact beq_eq_false_iff_ne.2 ht
        have HZ := Lib.hid (HNX2.out (by unfold downB; rw [decide_eq_false ht, Bool.false_and]))
        have HW5b : Hid (Kept [] w1 w5) := HW5.out.2
        clear ht hy
        go_wp2_with fail
        go_roundw
        case rel => exact ⟨j + 1, by omega, by go_num, HZ, HW5b⟩
        case measure => simp [intOf]; omega
      have q3 : ((strL s.t).toList == [102, 105, 108, 101]) = true := by rw [strL_bytes, ht]; rfl
      by_cases hd : y = nAbsent
      · have q4 : ((strL y).toList == [97, 98, 115, 101, 110, 116]) = true := by rw [strL_bytes, hd]; rfl
        have HZ := Lib.hid (HNX2.out (by unfold downB; rw [hy, hd]; simp))
        clear ht hy hd
        go_wp2_with fail
        refine HEN2.out.mono ?_
        rintro e w6 ⟨rfl, hk6⟩
        have HK6 : Hid (Kept [] w1 w6) := HW5.out.2.trans hk6
        clear hk6 hw5 d0 d1 d2 c0 c1 c2
        go_wp2_with fail
        go_roundw
        case rel => exact ⟨j + 1, by omega, by go_num, HZ, HK6⟩
        case measure => simp [intOf]; omega
      have q4 : ((strL y).toList == [97, 98, 115, 101, 110, 116]) = false := by rw [strL_bytes]; exact beq_eq_false_iff_ne.2 hd
      obtain ⟨p, hp⟩ : ∃ p, decide ((r.ti ++ [47]) <+: s.ti) = p := ⟨_, rfl⟩
      have HPV : Hid (downB r s = p) := by show _ = _; unfold downB; rw [hy, decide_eq_true ht, decide_eq_true hd, hp]; rfl
      have HPF : Hid (∀ w', Calls Tryz.prog 52 #[.string (strL s.ti), .string (strL r.ti ++ { data := #[47] })] w' fun e w2 => e = .returned (.bool p) ∧ w' = w2) := fun w' => by rw [← hp]; exact hasPrefix_any r.ti s.ti w'
      clear ht hy hd hp
      go_wp2_with fail
      refine HEN2.out.mono ?_
      rintro e w6 ⟨rfl, hk6⟩
      have HK6 : Hid (Kept [] w w6 ∧ Kept [] w1 w6) := ⟨HW5.out.1.trans hk6, HW5.out.2.trans hk6⟩
      have d1 : w6.cell? ⟨wr.heap.size, 1, none⟩ = some (.string (strL s.ti)) := cell_of_row _ _ 1 _ _ _ (hk6.heap (by simp) HA5.out.2)
      have a1 : w6.cell? ⟨ga, 1, none⟩ = some (.string (strL r.ti)) := cell_of_row _ _ 1 _ _ _ (HK6.out.2.heap (by simp) HA.out.2)
      have s1 : (strL r.ti).size ≤ 140737488355328 := by rw [strL_size]; exact HL.out.2
      clear hk6 hw5 c0 c1 c2
      go_wp2_with fail
      refine (HPF.out _).mono ?_
      rintro e w7 ⟨rfl, rfl⟩
      cases p
      · have HZ := Lib.hid (HNX2.out HPV.out)
        have HW5b : Hid (Kept [] w1 w6) := HK6.out.2
        go_wp2_with fail
        go_roundw
        case rel => exact ⟨j + 1, by omega, by go_num, HZ, HW5b⟩
        case measure => simp [intOf]; omega
      · have HZ := Lib.hid (HYES2.out HPV.out)
        go_wp2_with fail
        go_ret
        exact ⟨retB HZ.out.symm, HK6.out.1⟩
end Go.Proofs.YtfofhnbijjocfaaGreatDoor

namespace Go.Proofs.YtfofhnbijjocfaaGreatDoor
open Go.RowKit Go.Maps Go.Shelf
set_option maxRecDepth 100000

theorem EsIs.slice {w : World} {v : Value} {l : List Edg} (h : EsIs w v l) : ∃ ao cap, v = .slice ao l.length cap := by
  obtain ⟨ao, cap, h1, _⟩ := h.open
  exact ⟨ao, cap, h1⟩
theorem EsIs.pick {w : World} {ao : Option Addr} {n cap : Nat} {E : List Edg} (h : EsIs w (.slice ao n cap) E) (k : Nat) (hk : k < E.length) (x : Edg) (hx : E[k] = x) :
    ∃ b o, ao = some ⟨b, o, none⟩ ∧ b < w.heap.size ∧ w.cell? ⟨b, o + k * 3, none⟩ = some (.int .i64 x.fr) ∧ w.cell? ⟨b, o + k * 3 + 1, none⟩ = some (.int .i64 x.tw) ∧ w.cell? ⟨b, o + k * 3 + 2, none⟩ = some (.bool x.nt) := by
  obtain ⟨ao', cap', e, _, _, _, h5⟩ := h.open
  injection e with e1 _ _
  obtain ⟨b, o, h6, hb, hc⟩ := h5 (by omega)
  obtain ⟨c0, c1, c2⟩ := hc k hk
  subst hx
  exact ⟨b, o, by rw [e1, h6], hb, c0, c1, c2⟩
theorem edgE_rng {n : Nat} {p : Option Edg} {x : Edg} (h : ¬ (0 ≤ x.fr ∧ x.fr < n ∧ 0 ≤ x.tw ∧ x.tw < n ∧ x.fr ≠ x.tw)) : edgE n p x = false := by unfold edgE; rw [decide_eq_false h, Bool.false_and]
theorem edgE_none {n : Nat} {x : Edg} (h : 0 ≤ x.fr ∧ x.fr < n ∧ 0 ≤ x.tw ∧ x.tw < n ∧ x.fr ≠ x.tw) : edgE n none x = true := by unfold edgE; rw [decide_eq_true h]; rfl
theorem edgE_some {n : Nat} {q x : Edg} (h : 0 ≤ x.fr ∧ x.fr < n ∧ 0 ≤ x.tw ∧ x.tw < n ∧ x.fr ≠ x.tw) : edgE n (some q) x = riseB q x := by unfold edgE; rw [decide_eq_true h]; rfl

set_option maxRecDepth 100000 in
set_option maxHeartbeats 8000000 in
theorem soundEdges_any (E : List Edg) (N : Nat) (v : Value) (w : World) (h : EsIs w v E) :
    Calls Tryz.prog 32 #[v, .int .i64 N] w fun e w' => e = .returned (.bool (edgB N E)) ∧ Kept [] w w' := by
  have hl := h.len
  obtain ⟨ao, cap, rfl⟩ := h.slice
  have HR := Lib.hid h
  obtain ⟨n, hn⟩ : ∃ n, E.length = n := ⟨_, rfl⟩
  rw [hn] at HR hl
  rw [hn]
  have HN := Lib.hid hn
  clear h hn
  obtain ⟨M, hM⟩ : ∃ M : Int, (N : Int) = M := ⟨_, rfl⟩
  have HM := Lib.hid hM
  rw [hM]
  clear hM
  go_enter Tryz.func32, Tryz.ntmps32
  go_wp2_with fail
  go_loopw [9] (fun i wr => ∃ k : Nat, k ≤ n ∧ i = .int .i64 k ∧ Hid (∀ j (hj : j < E.length), j < k → edgE N (ahead none E j) E[j] = true) ∧ Hid (Kept [] w wr)) (fun i _ => n - (intOf i).toNat)
  case atStart => exact ⟨0, by omega, rfl, fun j hj h0 => by omega, Kept.refl _ _⟩
  case round =>
    obtain ⟨k, hk, rfl, HE, HW⟩ := hrel
    by_cases hlt : k < n
    case neg =>
      have HB : Hid (edgB N E = true) := edgB_yes fun i hi => HE.out i hi (by rw [HN.out] at hi; omega)
      go_wp2_with fail
      go_ret
      exact ⟨retB HB.out.symm, HW.out⟩
    have hkr : k < E.length := by rw [HN.out]; exact hlt
    obtain ⟨x, hx⟩ : ∃ x, E[k] = x := ⟨_, rfl⟩
    have HNO : Hid (edgE N (ahead none E k) x = false → edgB N E = false) := fun hz => edgB_no hkr (by rw [hx]; exact hz)
    have HNX : Hid (edgE N (ahead none E k) x = true → ∀ j (hj : j < E.length), j < k + 1 → edgE N (ahead none E j) E[j] = true) := fun hz j hj hjk => by
      by_cases e : j = k
      · subst e; rw [hx]; exact hz
      · exact HE.out j hj (by omega)
    have HP0 : Hid (k = 0 → ahead none E k = none) := fun e => by subst e; rfl
    have HP1 : Hid (∀ j (hj : j < E.length), k = j + 1 → ahead none E k = some E[j]) := fun j hj e => by
      subst e
      unfold ahead
      rw [if_neg (by omega), Nat.add_sub_cancel, List.getElem?_eq_getElem hj]
    obtain ⟨b, o, rfl, hb, c0, c1, c2⟩ := (HR.out.kept HW.out).pick k hkr x hx
    have HNO2 := HNO
    have HRNG : Hid (¬ (0 ≤ x.fr ∧ x.fr < M ∧ 0 ≤ x.tw ∧ x.tw < M ∧ x.fr ≠ x.tw) → edgB N E = false) := fun hh => HNO.out (edgE_rng (by rw [HM.out]; exact hh))
    obtain ⟨xf, hxf⟩ : ∃ y, x.fr = y := ⟨_, rfl⟩
    obtain ⟨xt, hxt⟩ : ∃ y, x.tw = y := ⟨_, rfl⟩
    obtain ⟨xn, hxn⟩ : ∃ y, x.nt = y := ⟨_, rfl⟩
    have HX : Hid (x = ⟨xf, xt, xn⟩) := by show _ = _; rw [← hxf, ← hxt, ← hxn]
    rw [hxf, hxt] at HRNG
    rw [hxf] at c0
    rw [hxt] at c1
    rw [hxn] at c2
    clear hx HE hxf hxt hxn HNO
    have HKA : Hid (Kept [] w (wr.alloc (.cells #[.int .i64 xf, .int .i64 xt, .bool xn] 44))) := HW.out.trans (Kept.alloc _ _ _)
    rcases (by omega : xf < 0 ∨ (¬ xf < 0 ∧ M ≤ xf) ∨ (¬ xf < 0 ∧ ¬ M ≤ xf ∧ xt < 0) ∨ (¬ xf < 0 ∧ ¬ M ≤ xf ∧ ¬ xt < 0 ∧ M ≤ xt) ∨ (¬ xf < 0 ∧ ¬ M ≤ xf ∧ ¬ xt < 0 ∧ ¬ M ≤ xt ∧ xf = xt) ∨ (¬ xf < 0 ∧ ¬ M ≤ xf ∧ ¬ xt < 0 ∧ ¬ M ≤ xt ∧ xf ≠ xt)) with g1 | ⟨g1, g2⟩ | ⟨g1, g2, g3⟩ | ⟨g1, g2, g3, g4⟩ | ⟨g1, g2, g3, g4, g5⟩ | ⟨g1, g2, g3, g4, g5⟩
    · have HZ := Lib.hid (HRNG.out (by omega))
      go_wp2_with fail
      go_ret
      exact ⟨retB HZ.out.symm, HKA.out⟩
    · have HZ := Lib.hid (HRNG.out (by omega))
      go_wp2_with fail
      go_ret
      exact ⟨retB HZ.out.symm, HKA.out⟩
    · have HZ := Lib.hid (HRNG.out (by omega))
      go_wp2_with fail
      go_ret
      exact ⟨retB HZ.out.symm, HKA.out⟩
    · have HZ := Lib.hid (HRNG.out (by omega))
      go_wp2_with fail
      go_ret
      exact ⟨retB HZ.out.symm, HKA.out⟩
    · have HZ := Lib.hid (HRNG.out (by omega))
      subst g5
      go_wp2_with fail
      go_ret
      exact ⟨retB HZ.out.symm, HKA.out⟩
    have HG : Hid (0 ≤ x.fr ∧ x.fr < N ∧ 0 ≤ x.tw ∧ x.tw < N ∧ x.fr ≠ x.tw) := by show _ ∧ _; rw [HX.out, HM.out]; exact ⟨by simp only; omega, by simp only; omega, by simp only; omega, by simp only; omega, g5⟩
    have q5 : (xf == xt) = false := by rw [beq_eq_false_iff_ne]; exact g5
    obtain ⟨w1, hw1⟩ : ∃ w1, wr.alloc (.cells #[.int .i64 xf, .int .i64 xt, .bool xn] 44) = w1 := ⟨_, rfl⟩
    have HA : Hid (Kept [] wr w1 ∧ w1.heap[wr.heap.size]? = some (.cells #[.int .i64 xf, .int .i64 xt, .bool xn] 44)) := ⟨by rw [← hw1]; exact Kept.alloc _ _ _, by rw [← hw1]; exact heap_alloc_last _ _⟩
    rw [hw1] at HKA
    have a0 : w1.cell? ⟨wr.heap.size, 0, none⟩ = some (.int .i64 xf) := cell_of_row _ _ 0 _ _ _ HA.out.2
    have a1 : w1.cell? ⟨wr.heap.size, 1, none⟩ = some (.int .i64 xt) := cell_of_row _ _ 1 _ _ _ HA.out.2
    by_cases hk0 : k = 0
    · have HZ := Lib.hid (HNX.out (by rw [HP0.out hk0]; exact edgE_none HG.out))
      have qd : decide (0 < k) = false := decide_eq_false (by omega)
      have HK0 := Lib.hid hk0
      clear hk0
      go_wp2_with fail
      clear hw1 c0 c1 c2 a0 a1
      refine wp_region_ord [(true, 0), (true, 1), (true, 2), (true, 3), (true, 4), (true, 5), (true, 6), (true, 7), (true, 8), (true, 9), (true, 10), (true, 11)] [] (by kernel_rfl) (fun _ _ d _ _ h => by cases d <;> exact h) (by kernel_rfl) rfl (by kernel_rfl) (by kernel_rfl) ?_
      simp only [named, List.getD_cons_zero, List.getD_cons_succ]
      repeat (first | (apply wpGrow_take; (case hw => rfl); (case hv => intro w' hk; go_simp; with_reducible rfl); simp only [Act.put, List.setIfInBounds_toArray, List.set_cons_zero, List.set_cons_succ]) | (refine wpGrow_pass (by rfl) ?_; simp only [Act.put, List.setIfInBounds_toArray, List.set_cons_zero, List.set_cons_succ]) | (refine wpGrow_skip (by rfl) ?_; simp only [Act.put, List.setIfInBounds_toArray, List.set_cons_zero, List.set_cons_succ]))
      refine wpGrow_nil ?_
      have HKD : Hid (Kept [] w w1.drew) := HKA.out.trans (Kept.drew _ _)
      clear qd
      go_wp2_with fail
      go_roundw
      case rel => exact ⟨k + 1, by omega, by go_num, HZ, HKD⟩
      case measure => simp [intOf]; omega
    obtain ⟨j, hj⟩ : ∃ j, k = j + 1 := ⟨k - 1, by omega⟩
    have hjn : j < n := by omega
    have hjr : j < E.length := by rw [HN.out]; exact hjn
    obtain ⟨q, hq⟩ : ∃ q, E[j] = q := ⟨_, rfl⟩
    have HPR : Hid (ahead none E k = some q) := by show _ = _; rw [← hq]; exact HP1.out j hjr hj
    obtain ⟨b', o', hbo, hb', d0, d1, d2⟩ := (HR.out.kept HW.out).pick j hjr q hq
    injection hbo with hbo
    injection hbo with e1 e2 _
    subst e1 e2
    have qd : decide (0 < k) = true := decide_eq_true (by omega)
    have qw : IntKind.i64.wrap ((k : Int) - 1) = (j : Int) := by rw [IntKind.wrap_i64]; omega
    obtain ⟨qf, hqf⟩ : ∃ y, q.fr = y := ⟨_, rfl⟩
    obtain ⟨qt, hqt⟩ : ∃ y, q.tw = y := ⟨_, rfl⟩
    obtain ⟨qn, hqn⟩ : ∃ y, q.nt = y := ⟨_, rfl⟩
    have HQ : Hid (q = ⟨qf, qt, qn⟩) := by show _ = _; rw [← hqf, ← hqt, ← hqn]
    rw [hqf] at d0
    rw [hqt] at d1
    rw [hqn] at d2
    have z0 : ∀ w', Kept [] w1.drew w' → w'.cell? ⟨b, o + j * 3, none⟩ = some (.int .i64 qf) := fun w' hk => (((HA.out.1.trans (Kept.drew _ _)).trans hk).cell (p := ⟨b, o + j * 3, none⟩) hb (by simp)).trans d0
    have z1 : ∀ w', Kept [] w1.drew w' → w'.cell? ⟨b, o + j * 3 + 1, none⟩ = some (.int .i64 qt) := fun w' hk => (((HA.out.1.trans (Kept.drew _ _)).trans hk).cell (p := ⟨b, o + j * 3 + 1, none⟩) hb (by simp)).trans d1
    have z2 : ∀ w', Kept [] w1.drew w' → w'.cell? ⟨b, o + j * 3 + 2, none⟩ = some (.bool qn) := fun w' hk => (((HA.out.1.trans (Kept.drew _ _)).trans hk).cell (p := ⟨b, o + j * 3 + 2, none⟩) hb (by simp)).trans d2
    have z3 : ∀ w', Kept [] w1.drew w' → w'.cell? ⟨wr.heap.size, 0, none⟩ = some (.int .i64 xf) := fun w' hk => cell_of_row _ _ 0 _ _ _ (((Kept.drew [] w1).trans hk).heap (by simp) HA.out.2)
    have z4 : ∀ w', Kept [] w1.drew w' → w'.cell? ⟨wr.heap.size, 1, none⟩ = some (.int .i64 xt) := fun w' hk => cell_of_row _ _ 1 _ _ _ (((Kept.drew [] w1).trans hk).heap (by simp) HA.out.2)
    have z5 : ∀ w', Kept [] w1.drew w' → w'.cell? ⟨wr.heap.size, 2, none⟩ = some (.bool xn) := fun w' hk => cell_of_row _ _ 2 _ _ _ (((Kept.drew [] w1).trans hk).heap (by simp) HA.out.2)
    obtain ⟨l1, hl1⟩ : ∃ l1, riseB q x = l1 := ⟨_, rfl⟩
    have HL1 : Hid (∀ w', Calls Tryz.prog 53 #[.agg #[.int .i64 qf, .int .i64 qt, .bool qn], .agg #[.int .i64 xf, .int .i64 xt, .bool xn]] w' fun e w2 => e = .returned (.bool l1) ∧ Kept [] w' w2) := fun w' => by
      rw [← hl1, HQ.out, HX.out]; exact crises_any ⟨qf, qt, qn⟩ ⟨xf, xt, xn⟩ w'
    have HLL : Hid ((l1 = false → edgB N E = false) ∧ (l1 = true → ∀ j (hj : j < E.length), j < k + 1 → edgE N (ahead none E j) E[j] = true)) := by
      exact ⟨fun e => HNO2.out (by rw [HPR.out, edgE_some HG.out, hl1, e]), fun e => HNX.out (by rw [HPR.out, edgE_some HG.out, hl1, e])⟩
    clear hl1 hk0 hj hq hqf hqt hqn d0 d1 d2 hb'
    go_wp2_with fail
    clear hw1 c0 c1 c2 a0 a1
    refine wp_region_ord [(true, 0), (true, 1), (true, 2), (true, 3), (true, 4), (true, 5), (true, 6), (true, 7), (true, 8), (false, 9), (true, 10), (true, 11)] [] (by kernel_rfl) (fun _ _ d _ _ h => by cases d <;> exact h) (by kernel_rfl) rfl (by kernel_rfl) (by kernel_rfl) ?_
    simp only [named, List.getD_cons_zero, List.getD_cons_succ]
    repeat (first | (apply wpGrow_take; (case hw => rfl); (case hv => intro w' hk; go_simp; with_reducible rfl); simp only [Act.put, List.setIfInBounds_toArray, List.set_cons_zero, List.set_cons_succ]) | (refine wpGrow_pass (by rfl) ?_; simp only [Act.put, List.setIfInBounds_toArray, List.set_cons_zero, List.set_cons_succ]) | (refine wpGrow_skip (by rfl) ?_; simp only [Act.put, List.setIfInBounds_toArray, List.set_cons_zero, List.set_cons_succ]))
    clear z0 z1 z2 z3 z4 z5
    refine wpGrow_force (by rfl) (fun K hK => ?_)
    go_simp
    refine (HL1.out _).mono ?_
    rintro e w5 ⟨rfl, hk5⟩
    have HK5 : Hid (Kept [] w w5) := HKA.out.trans ((Kept.drew [] _).trans hk5)
    refine hK _ _ hk5 ?_
    clear hK K hk5
    repeat (first | (apply wpGrow_take; (case hw => rfl); (case hv => intro w' hk; go_simp; with_reducible rfl); simp only [Act.put, List.setIfInBounds_toArray, List.set_cons_zero, List.set_cons_succ]) | (refine wpGrow_pass (by rfl) ?_; simp only [Act.put, List.setIfInBounds_toArray, List.set_cons_zero, List.set_cons_succ]) | (refine wpGrow_skip (by rfl) ?_; simp only [Act.put, List.setIfInBounds_toArray, List.set_cons_zero, List.set_cons_succ]))
    refine wpGrow_nil ?_
    clear qd
    cases l1
    case false =>
      have HZ := Lib.hid (HLL.out.1 (by trivial))
      go_wp2_with fail
      go_ret
      exact ⟨retB HZ.out.symm, HK5.out⟩
    have HZ := Lib.hid (HLL.out.2 (by trivial))
    go_wp2_with fail
    go_roundw
    case rel => exact ⟨k + 1, by omega, by go_num, HZ, HK5⟩
    case measure => simp [intOf]; omega
end Go.Proofs.YtfofhnbijjocfaaGreatDoor

namespace Go.Proofs.YtfofhnbijjocfaaGreatDoor
open Go.RowKit Go.Maps Go.Shelf
set_option maxRecDepth 100000

/-- A catalog whose fields lie in a block. -/
structure BoxC (w : World) (g : Nat) (c : Cat) (ra : Option Addr) (rc : Nat) (ea : Option Addr) (ec : Nat) : Prop where
  cells : w.heap[g]? = some (.cells #[.int .i64 c.ver, .string (strL c.node), .slice ra c.R.length rc, .slice ea c.E.length ec] 25)
  rs : RsIs w (.slice ra c.R.length rc) c.R
  es : EsIs w (.slice ea c.E.length ec) c.E
theorem BoxC.kept {w w' : World} {g : Nat} {c : Cat} {ra : Option Addr} {rc : Nat} {ea : Option Addr} {ec : Nat} (h : BoxC w g c ra rc ea ec) (hk : Kept [] w w') : BoxC w' g c ra rc ea ec :=
  ⟨hk.heap (by simp) h.cells, h.rs.kept hk, h.es.kept hk⟩
theorem BoxC.c0 {w : World} {g : Nat} {c : Cat} {ra : Option Addr} {rc : Nat} {ea : Option Addr} {ec : Nat} (h : BoxC w g c ra rc ea ec) : w.cell? ⟨g, 0, none⟩ = some (.int .i64 c.ver) := cell_of_row _ _ 0 _ _ _ h.cells
theorem BoxC.c1 {w : World} {g : Nat} {c : Cat} {ra : Option Addr} {rc : Nat} {ea : Option Addr} {ec : Nat} (h : BoxC w g c ra rc ea ec) : w.cell? ⟨g, 1, none⟩ = some (.string (strL c.node)) := cell_of_row _ _ 1 _ _ _ h.cells
theorem BoxC.c2 {w : World} {g : Nat} {c : Cat} {ra : Option Addr} {rc : Nat} {ea : Option Addr} {ec : Nat} (h : BoxC w g c ra rc ea ec) : w.cell? ⟨g, 2, none⟩ = some (.slice ra c.R.length rc) := cell_of_row _ _ 2 _ _ _ h.cells
theorem BoxC.c3 {w : World} {g : Nat} {c : Cat} {ra : Option Addr} {rc : Nat} {ea : Option Addr} {ec : Nat} (h : BoxC w g c ra rc ea ec) : w.cell? ⟨g, 3, none⟩ = some (.slice ea c.E.length ec) := cell_of_row _ _ 3 _ _ _ h.cells
/-- A catalog that is handed in, and the block that its fields then lie in. -/
theorem CatIs.box {w : World} {v : Value} {c : Cat} (h : CatIs w v c) : ∃ ra rc ea ec, v = .agg #[.int .i64 c.ver, .string (strL c.node), .slice ra c.R.length rc, .slice ea c.E.length ec] ∧
    BoxC (w.alloc (.cells #[.int .i64 c.ver, .string (strL c.node), .slice ra c.R.length rc, .slice ea c.E.length ec] 25)) w.heap.size c ra rc ea ec := by
  obtain ⟨⟨vr, ve, rfl, h2, h3⟩, _⟩ := h
  obtain ⟨ra, rc, rfl⟩ := h2.slice
  obtain ⟨ea, ec, rfl⟩ := h3.slice
  exact ⟨ra, rc, ea, ec, rfl, heap_alloc_last _ _, h2.kept (Kept.alloc _ _ _), h3.kept (Kept.alloc _ _ _)⟩

theorem partsO_A {c : Cat} (h : ¬ (0 ≤ c.ver ∧ c.ver ≤ 65535 ∧ keyB c.node = true)) : partsO c = 70 := by unfold partsO; rw [if_pos h]
theorem partsO_B {c : Cat} (h : 0 ≤ c.ver ∧ c.ver ≤ 65535 ∧ keyB c.node = true) (h2 : 32 < c.R.length ∨ 96 < c.E.length) : partsO c = 5 := by unfold partsO; rw [if_neg (fun hn => hn h), if_pos h2]
theorem partsO_C {c : Cat} (h : 0 ≤ c.ver ∧ c.ver ≤ 65535 ∧ keyB c.node = true) (h2 : ¬ (32 < c.R.length ∨ 96 < c.E.length)) :
    partsO c = if resL none c.R ≠ 0 then resL none c.R else if blkB c.R = true then 90 else if edgB c.R.length c.E = true then 0 else 72 := by unfold partsO; rw [if_neg (fun hn => hn h), if_neg h2]

set_option maxRecDepth 100000 in
set_option maxHeartbeats 8000000 in
theorem checkParts_any (c : Cat) (v : Value) (w : World) (h : CatIs w v c) :
    Calls Tryz.prog 14 #[v] w fun e w' => e = .returned (.int .i64 (partsO c)) ∧ Kept [] w w' := by
  have hnode := h.node
  obtain ⟨ra, rc, ea, ec, rfl, hb⟩ := h.box
  have hrl : c.R.length ≤ 140737488355328 := by have := hb.rs.len; omega
  have hel : c.E.length ≤ 140737488355328 := by have := hb.es.len; omega
  have HA := Lib.hid (Kept.alloc [] w (.cells #[.int .i64 c.ver, .string (strL c.node), .slice ra c.R.length rc, .slice ea c.E.length ec] 25))
  obtain ⟨w1, hw1⟩ : ∃ w1, w.alloc (.cells #[.int .i64 c.ver, .string (strL c.node), .slice ra c.R.length rc, .slice ea c.E.length ec] 25) = w1 := ⟨_, rfl⟩
  rw [hw1] at hb HA
  have HB := Lib.hid hb
  clear h hb
  have HKEY : Hid (∀ w', Calls Tryz.prog 29 #[.string (strL c.node)] w' fun e w2 => e = .returned (.bool (keyB c.node)) ∧ Kept [] w' w2) := fun w' => ckey_any c.node w' hnode
  obtain ⟨kb, hkb⟩ : ∃ b, keyB c.node = b := ⟨_, rfl⟩
  rw [hkb] at HKEY
  obtain ⟨n, hn⟩ : ∃ n, c.R.length = n := ⟨_, rfl⟩
  obtain ⟨m, hm⟩ : ∃ m, c.E.length = m := ⟨_, rfl⟩
  obtain ⟨vv, hvv⟩ : ∃ vv, c.ver = vv := ⟨_, rfl⟩
  have HC : Hid (∀ w', Kept [] w1 w' → w'.cell? ⟨w.heap.size, 0, none⟩ = some (.int .i64 vv) ∧ w'.cell? ⟨w.heap.size, 1, none⟩ = some (.string (strL c.node)) ∧ w'.cell? ⟨w.heap.size, 2, none⟩ = some (.slice ra n rc) ∧ w'.cell? ⟨w.heap.size, 3, none⟩ = some (.slice ea m ec)) := fun w' hk => by
    rw [← hn, ← hm, ← hvv]
    exact ⟨(HB.out.kept hk).c0, (HB.out.kept hk).c1, (HB.out.kept hk).c2, (HB.out.kept hk).c3⟩
  have HRS : Hid (∀ w', Kept [] w1 w' → RsIs w' (.slice ra n rc) c.R) := fun w' hk => by rw [← hn]; exact HB.out.rs.kept hk
  have HES : Hid (∀ w', Kept [] w1 w' → EsIs w' (.slice ea m ec) c.E) := fun w' hk => by rw [← hm]; exact HB.out.es.kept hk
  rw [hn] at hrl hw1
  rw [hm] at hel hw1
  rw [hvv] at hw1
  rw [hn, hm, hvv]
  have HPA : Hid (¬ (0 ≤ vv ∧ vv ≤ 65535 ∧ kb = true) → partsO c = 70) := fun hh => partsO_A (by rw [hvv, hkb]; exact hh)
  have HPB : Hid (0 ≤ vv ∧ vv ≤ 65535 ∧ kb = true → 32 < n ∨ 96 < m → partsO c = 5) := fun h1 h2 => partsO_B (by rw [hvv, hkb]; exact h1) (by rw [hn, hm]; exact h2)
  have HPC : Hid (0 ≤ vv ∧ vv ≤ 65535 ∧ kb = true → ¬ (32 < n ∨ 96 < m) → partsO c = if resL none c.R ≠ 0 then resL none c.R else if blkB c.R = true then 90 else if edgB n c.E = true then 0 else 72) := fun h1 h2 => by
    rw [← hn]; exact partsO_C (by rw [hvv, hkb]; exact h1) (by rw [hn, hm]; exact h2)
  clear hkb hn hm hvv
  obtain ⟨c0, c1, c2, c3⟩ := HC.out w1 (Kept.refl _ _)
  rcases (by omega : vv < 0 ∨ (¬ vv < 0 ∧ 65535 < vv) ∨ (¬ vv < 0 ∧ ¬ 65535 < vv)) with g1 | ⟨g1, g2⟩ | ⟨g1, g2⟩
  · have HZ := Lib.hid (HPA.out (by omega))
    go_enter Tryz.func14, Tryz.ntmps14
    go_wp2_with fail
    go_ret
    exact ⟨ret64 HZ.out.symm, HA.out⟩
  · have HZ := Lib.hid (HPA.out (by omega))
    go_enter Tryz.func14, Tryz.ntmps14
    go_wp2_with fail
    go_ret
    exact ⟨ret64 HZ.out.symm, HA.out⟩
  cases kb
  · have HZ := Lib.hid (HPA.out (by simp))
    go_enter Tryz.func14, Tryz.ntmps14
    go_wp2_with fail
    refine (HKEY.out _).mono ?_
    rintro e w2 ⟨rfl, hk2⟩
    have HK2 : Hid (Kept [] w w2) := HA.out.trans hk2
    clear hk2 hw1 c0 c1 c2 c3
    go_wp2_with fail
    go_ret
    exact ⟨ret64 HZ.out.symm, HK2.out⟩
  have HPB2 := Lib.hid (HPB.out ⟨by omega, by omega, rfl⟩)
  have HPC2 := Lib.hid (HPC.out ⟨by omega, by omega, rfl⟩)
  clear HPA HPB HPC
  have first : ∀ (w2 : World), Hid (Kept [] w1 w2) → w2.cell? ⟨w.heap.size, 2, none⟩ = some (.slice ra n rc) ∧ w2.cell? ⟨w.heap.size, 3, none⟩ = some (.slice ea m ec) := fun w2 hk => ⟨(HC.out w2 hk.out).2.2.1, (HC.out w2 hk.out).2.2.2⟩
  have FI := Lib.hid first
  clear first
  by_cases g3 : (32 : Int) < (n : Int)
  · have HZ := Lib.hid (HPB2.out (by omega))
    go_enter Tryz.func14, Tryz.ntmps14
    go_wp2_with fail
    refine (HKEY.out _).mono ?_
    rintro e w2 ⟨rfl, hk2⟩
    have HK2 : Hid (Kept [] w1 w2) := hk2
    clear hk2 hw1 c0 c1 c2 c3
    obtain ⟨c2, c3⟩ := FI.out w2 HK2
    go_wp2_with fail
    go_ret
    exact ⟨ret64 HZ.out.symm, HA.out.trans HK2.out⟩
  by_cases g4 : (96 : Int) < (m : Int)
  · have HZ := Lib.hid (HPB2.out (by omega))
    go_enter Tryz.func14, Tryz.ntmps14
    go_wp2_with fail
    refine (HKEY.out _).mono ?_
    rintro e w2 ⟨rfl, hk2⟩
    have HK2 : Hid (Kept [] w1 w2) := hk2
    clear hk2 hw1 c0 c1 c2 c3
    obtain ⟨c2, c3⟩ := FI.out w2 HK2
    go_wp2_with fail
    go_ret
    exact ⟨ret64 HZ.out.symm, HA.out.trans HK2.out⟩
  have HP := Lib.hid (HPC2.out (by omega))
  clear HPB2 HPC2
  obtain ⟨z, hz⟩ : ∃ z, resL none c.R = z := ⟨_, rfl⟩
  have HRES : Hid (∀ w', Kept [] w1 w' → Calls Tryz.prog 30 #[.slice ra n rc] w' fun e w2 => e = .returned (.int .i64 z) ∧ Kept [] w' w2) := fun w' hk => by rw [← hz]; exact checkRes_any c.R _ w' (HRS.out w' hk)
  obtain ⟨bb, hbb⟩ : ∃ b, blkB c.R = b := ⟨_, rfl⟩
  have HBLK : Hid (∀ w', Kept [] w1 w' → Calls Tryz.prog 31 #[.slice ra n rc] w' fun e w2 => e = .returned (.bool bb) ∧ Kept [] w' w2) := fun w' hk => by rw [← hbb]; exact blocked_any c.R _ w' (HRS.out w' hk)
  obtain ⟨eb, heb⟩ : ∃ b, edgB n c.E = b := ⟨_, rfl⟩
  have HEDG : Hid (∀ w', Kept [] w1 w' → Calls Tryz.prog 32 #[.slice ea m ec, .int .i64 n] w' fun e w2 => e = .returned (.bool eb) ∧ Kept [] w' w2) := fun w' hk => by rw [← heb]; exact soundEdges_any c.E n _ w' (HES.out w' hk)
  rw [hz, hbb, heb] at HP
  clear hz hbb heb
  by_cases g5 : z = 0
  case neg =>
    have q5 : (z != 0) = true := by simpa using g5
    have HZ : Hid (partsO c = z) := by show _ = _; rw [HP.out, if_pos g5]
    clear g5
    go_enter Tryz.func14, Tryz.ntmps14
    go_wp2_with fail
    refine (HKEY.out _).mono ?_
    rintro e w2 ⟨rfl, hk2⟩
    have HK2 : Hid (Kept [] w1 w2) := hk2
    clear hk2 hw1 c0 c1 c2 c3
    obtain ⟨c2, c3⟩ := FI.out w2 HK2
    go_wp2_with fail
    refine (HRES.out _ HK2.out).mono ?_
    rintro e w3 ⟨rfl, hk3⟩
    have HK3 : Hid (Kept [] w1 w3) := HK2.out.trans hk3
    clear hk3 c2 c3
    go_wp2_with fail
    go_ret
    exact ⟨ret64 HZ.out.symm, HA.out.trans HK3.out⟩
  subst g5
  cases bb
  case true =>
    have HZ : Hid (partsO c = 90) := by show _ = _; rw [HP.out]; rfl
    go_enter Tryz.func14, Tryz.ntmps14
    go_wp2_with fail
    refine (HKEY.out _).mono ?_
    rintro e w2 ⟨rfl, hk2⟩
    have HK2 : Hid (Kept [] w1 w2) := hk2
    clear hk2 hw1 c0 c1 c2 c3
    obtain ⟨c2, c3⟩ := FI.out w2 HK2
    go_wp2_with fail
    refine (HRES.out _ HK2.out).mono ?_
    rintro e w3 ⟨rfl, hk3⟩
    have HK3 : Hid (Kept [] w1 w3) := HK2.out.trans hk3
    clear hk3 c2 c3
    obtain ⟨c2, c3⟩ := FI.out w3 HK3
    go_wp2_with fail
    refine (HBLK.out _ HK3.out).mono ?_
    rintro e w4 ⟨rfl, hk4⟩
    have HK4 : Hid (Kept [] w1 w4) := HK3.out.trans hk4
    clear hk4 c2 c3
    go_wp2_with fail
    go_ret
    exact ⟨ret64 HZ.out.symm, HA.out.trans HK4.out⟩
  have HZ : Hid (partsO c = if eb = true then 0 else 72) := by show _ = _; rw [HP.out]; rfl
  go_enter Tryz.func14, Tryz.ntmps14
  go_wp2_with fail
  refine (HKEY.out _).mono ?_
  rintro e w2 ⟨rfl, hk2⟩
  have HK2 : Hid (Kept [] w1 w2) := hk2
  clear hk2 hw1 c0 c1 c2 c3
  obtain ⟨c2, c3⟩ := FI.out w2 HK2
  go_wp2_with fail
  refine (HRES.out _ HK2.out).mono ?_
  rintro e w3 ⟨rfl, hk3⟩
  have HK3 : Hid (Kept [] w1 w3) := HK2.out.trans hk3
  clear hk3 c2 c3
  obtain ⟨c2, c3⟩ := FI.out w3 HK3
  go_wp2_with fail
  refine (HBLK.out _ HK3.out).mono ?_
  rintro e w4 ⟨rfl, hk4⟩
  have HK4 : Hid (Kept [] w1 w4) := HK3.out.trans hk4
  clear hk4 c2 c3
  obtain ⟨c2, c3⟩ := FI.out w4 HK4
  go_wp2_with fail
  refine (HEDG.out _ HK4.out).mono ?_
  rintro e w5 ⟨rfl, hk5⟩
  have HK5 : Hid (Kept [] w1 w5) := HK4.out.trans hk5
  clear hk5 c2 c3
  cases eb
  all_goals
    go_wp2_with fail
    go_ret
    exact ⟨ret64 (HZ.out.trans rfl).symm, HA.out.trans HK5.out⟩
end Go.Proofs.YtfofhnbijjocfaaGreatDoor

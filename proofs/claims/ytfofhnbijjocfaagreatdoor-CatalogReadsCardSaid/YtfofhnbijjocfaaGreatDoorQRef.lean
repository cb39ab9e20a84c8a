/-
  Layer 6: the program's Check, Name and Less; the document's first, rules, title, value, Name and Less.
  Conditions: those that each theorem states.
-/
import Derived.Test.YtfofhnbijjocfaaGreatDoorQFull
namespace Go.Proofs.YtfofhnbijjocfaaGreatDoor
open Go.RowKit Go.Maps
set_option maxRecDepth 100000

set_option maxHeartbeats 1000000 in
theorem scheck_any (t ti : List UInt8) (P : List Prm) (v : Value) (w : World) (h : PsIs w v P) (ht : t.length ≤ 140737488355328) (hti : ti.length ≤ 140737488355328) :
    Calls Tryz.prog 47 #[resV t ti v] w fun e w' => e = .returned (.int .i64 (codeO t ti P)) ∧ Kept [] w w' := by
  have HP := Lib.hid h
  obtain ⟨ao, cap, rfl, _⟩ := h.open
  obtain ⟨n, hn⟩ : ∃ n, P.length = n := ⟨_, rfl⟩
  rw [hn] at HP
  rw [hn]
  clear h hn
  have HK := Lib.hid (Kept.alloc [] w (.cells #[.string (strL t), .string (strL ti), .slice ao n cap] 40))
  have HFU : Hid (∀ w', Kept [] w w' → Calls Tryz.prog 48 #[.agg #[.string (strL t), .string (strL ti), .slice ao n cap]] w' (FullOut t ti P w')) := fun w' hk => sfull_any t ti P _ w' (HP.out.kept hk) ht hti
  obtain ⟨c, hc⟩ : ∃ c, codeO t ti P = c := ⟨_, rfl⟩
  have HC := Lib.hid hc
  unfold resV
  rw [hc]
  clear hc
  go_enter Tryz.func47, Tryz.ntmps47
  go_wp2_with fail
  refine (HFU.out _ HK.out).mono ?_
  rintro e w2 ⟨v2, rfl, HF⟩
  obtain ⟨u1, u2, u3, rfl⟩ := prm_val _ _ _ _ HF.out.1
  rw [HC.out]
  unfold resV
  generalize txO t ti P t = y1
  generalize txO t ti P ti = y2
  have HK2 : Hid (Kept [] w (w2.alloc (.cells #[.string (strL y1), .string (strL y2), .slice u1 u2 u3] 40))) := (HK.out.trans HF.out.2).trans (Kept.alloc _ _ _)
  go_wp2_with fail
  go_ret
  exact ⟨rfl, HK2.out⟩

/-- Which resource comes first. -/
def lessR (a b ca cb : List UInt8) : Bool := if a = b then lessB ca cb else lessB a b
theorem slessV (a b : List UInt8) : Op.bytesLess (strL a).toList (strL b).toList = lessB a b := by rw [strL_bytes, strL_bytes]; rfl

set_option maxHeartbeats 1000000 in
theorem sless_any (a ca b cb : List UInt8) (ao bo : Option Addr) (an ac bn bc : Nat) (w : World) :
    Calls Tryz.prog 50 #[resV a ca (.slice ao an ac), resV b cb (.slice bo bn bc)] w fun e w' => e = .returned (.bool (lessR a b ca cb)) ∧ Kept [] w w' := by
  unfold resV
  have HK : Hid (Kept [] w ((w.alloc (.cells #[.string (strL a), .string (strL ca), .slice ao an ac] 40)).alloc (.cells #[.string (strL b), .string (strL cb), .slice bo bn bc] 40))) := (Kept.alloc [] w _).trans (Kept.alloc [] _ _)
  by_cases h : a = b
  · have q1 : ((strL a).toList == (strL b).toList) = true := by rw [str_beqP, decide_eq_true h]
    have HB : Hid (lessR a b ca cb = lessB ca cb) := by show _ = _; unfold lessR; rw [if_pos h]
    obtain ⟨r, hr⟩ : ∃ r, Op.bytesLess (strL ca).toList (strL cb).toList = r := ⟨_, rfl⟩
    have HR : Hid (lessB ca cb = r) := by show _ = _; rw [← slessV]; exact hr
    clear h
    go_enter Tryz.func50, Tryz.ntmps50
    go_wp2_with fail
    go_ret
    exact ⟨retB (by rw [HB.out, HR.out]), HK.out⟩
  · have q1 : ((strL a).toList == (strL b).toList) = false := by rw [str_beqP, decide_eq_false h]
    have HB : Hid (lessR a b ca cb = lessB a b) := by show _ = _; unfold lessR; rw [if_neg h]
    obtain ⟨r, hr⟩ : ∃ r, Op.bytesLess (strL a).toList (strL b).toList = r := ⟨_, rfl⟩
    have HR : Hid (lessB a b = r) := by show _ = _; rw [← slessV]; exact hr
    clear h
    go_enter Tryz.func50, Tryz.ntmps50
    go_wp2_with fail
    go_ret
    exact ⟨retB (by rw [HB.out, HR.out]), HK.out⟩

set_option maxHeartbeats 1000000 in
theorem rsless_any (a ca b cb : List UInt8) (ao bo : Option Addr) (an ac bn bc : Nat) (w : World) :
    Calls Tryz.prog 20 #[resV a ca (.slice ao an ac), resV b cb (.slice bo bn bc)] w fun e w' => e = .returned (.bool (lessR a b ca cb)) ∧ Kept [] w w' := by
  unfold resV
  have HK : Hid (Kept [] w ((w.alloc (.cells #[.string (strL a), .string (strL ca), .slice ao an ac] 40)).alloc (.cells #[.string (strL b), .string (strL cb), .slice bo bn bc] 40))) := (Kept.alloc [] w _).trans (Kept.alloc [] _ _)
  by_cases h : a = b
  · have q1 : ((strL a).toList == (strL b).toList) = true := by rw [str_beqP, decide_eq_true h]
    have q2 : Op.bytesLess (strL a).toList (strL b).toList = false := by rw [slessV, h]; exact less_irr b
    have HB : Hid (lessR a b ca cb = lessB ca cb) := by show _ = _; unfold lessR; rw [if_pos h]
    obtain ⟨r, hr⟩ : ∃ r, Op.bytesLess (strL ca).toList (strL cb).toList = r := ⟨_, rfl⟩
    have HR : Hid (lessB ca cb = r) := by show _ = _; rw [← slessV]; exact hr
    clear h
    go_enter Tryz.func20, Tryz.ntmps20
    go_wp2_with fail
    go_ret
    exact ⟨retB (by rw [HB.out, HR.out]), HK.out⟩
  · have q1 : ((strL a).toList == (strL b).toList) = false := by rw [str_beqP, decide_eq_false h]
    have HB : Hid (lessR a b ca cb = lessB a b) := by show _ = _; unfold lessR; rw [if_neg h]
    cases hr : lessB a b
    all_goals
      have q2 := (slessV a b).trans hr
      have HR := Lib.hid hr
      clear h hr
      go_enter Tryz.func20, Tryz.ntmps20
      go_wp2_with fail
      go_ret
      exact ⟨retB (by rw [HB.out, HR.out]), HK.out⟩

/-- A resource's name. -/
def nameS (t ti : List UInt8) : ByteArray := strL t ++ { data := #[91] } ++ strL ti ++ { data := #[93] }
end Go.Proofs.YtfofhnbijjocfaaGreatDoor

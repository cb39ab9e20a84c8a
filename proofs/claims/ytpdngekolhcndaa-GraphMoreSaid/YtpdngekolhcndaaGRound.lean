/-
  Layer 8: the program's round, and Order whole.
  Conditions: those that each theorem states.
-/
import Derived.Test.YtpdngekolhcndaaGRev
namespace Go.Proofs.Ytpdngekolhcndaa
open Go.RowKit Go.Maps

/-- What round answers. -/
def RoundOut (A : Nat → Nat → Bool) (S : Nat → Bool) (w : World) (e : Ending) (w' : World) : Prop := ∃ v c, e = .returned v ∧ Hid (NsIs w' v c ∧ Cyc A c ∧ (∀ i ∈ c, S i = true) ∧ Kept [] w w')
structure RoSt (w : World) (A : Nat → Nat → Bool) (S : Nat → Bool) (p : Nat → Nat) (W : List Nat) (a : Nat) (v : Value) (wr : World) : Prop where
  wk : WkSt A S p W a
  own : OwnN w.heap.size wr v W
  kept : Kept [] w wr
set_option maxRecDepth 100000 in
set_option maxHeartbeats 2000000 in
theorem round_any (n s : Nat) (A : Nat → Nat → Bool) (S : Nat → Bool) (p : Nat → Nat) (v : Value) (w : World) (hn : n ≤ 32) (hS : ∀ i, S i = true → i < n ∧ S (p i) = true ∧ A (p i) i = true) (hs : S s = true) (hf : FnN w v S p) :
    Calls Try.prog 21 #[.int .i64 s, v] w (RoundOut A S w) := by
  obtain ⟨fi, fc, rfl, hE, hcall⟩ := hf
  have HCALL := Lib.hid hcall
  have hE2 : ∀ (args : Array Value) (w : World), (callFunc fi args).run Try.prog w = .ok (.enter fi args) w := hE
  have HS := Lib.hid hS
  have HW0 : Hid (WkSt A S p [] s) := WkSt.init A p hs
  clear hcall hE hS hs
  go_enter Try.func21, Try.ntmps21
  go_wp2_with fail
  go_loopw [5, 6] (fun v i wr => ∃ (W : List Nat) (a : Nat), i = .int .i64 a ∧ Hid (RoSt w A S p W a v wr)) (fun v _ _ => match v with | .slice _ m _ => 33 - m | _ => 0)
  case atStart => exact ⟨[], s, rfl, HW0.out, OwnN.nil _ _, Kept.refl _ _⟩
  case round =>
    obtain ⟨W, a, rfl, HR⟩ := hrel
    obtain ⟨ao, cap, rfl, _⟩ := HR.out.own.ns.open
    have hlen : W.length ≤ n := nodup_le HR.out.wk.nodup fun i hi => (HS.out i (HR.out.wk.left i hi)).1
    obtain ⟨m, hm⟩ : ∃ m, W.length = m := ⟨_, rfl⟩
    have HM := Lib.hid hm
    rw [hm] at hlen HR
    rw [hm]
    have HI : Hid (Calls Try.prog 24 #[.slice ao m cap, .int .i64 a] wr fun e w' => e = .returned (.bool (decide (a ∈ W))) ∧ wr = w') := containsI_any _ W a wr HR.out.own.ns
    have HX : Hid (Calls Try.prog 25 #[.slice ao m cap, .int .i64 a] wr fun e w' => e = .returned (.int .i64 (idxI W a)) ∧ wr = w') := idxI_any _ W a wr HR.out.own.ns
    clear hm
    by_cases hin : a ∈ W
    · have h1 : decide (a ∈ W) = true := decide_eq_true hin
      rw [h1] at HI
      clear h1
      obtain ⟨q, hq⟩ : ∃ q, W.idxOf a = q := ⟨_, rfl⟩
      have hqm : q < m := by rw [← hq, ← HM.out]; exact List.idxOf_lt_length_of_mem hin
      have hix : idxI W a = (q : Int) := by unfold idxI; rw [if_pos hin, hq]
      rw [hix] at HX
      have hcy := HR.out.wk.cyc hin (fun i hi => (HS.out i hi).2.2)
      rw [hq] at hcy
      obtain ⟨C, hC⟩ : ∃ C, W.drop q = C := ⟨_, rfl⟩
      rw [hC] at hcy
      have hCl : C.length = m - q := by rw [← hC, List.length_drop, HM.out]
      have hCS : ∀ i ∈ C.reverse, S i = true := fun i hi => HR.out.wk.left i (List.mem_of_mem_drop (by rw [hC]; simpa using hi))
      obtain ⟨g, rfl, hg, hcm, hcap63, hrow⟩ : ∃ g, ao = some ⟨g, 0, none⟩ ∧ w.heap.size ≤ g ∧ m ≤ cap ∧ cap ≤ 9223372036854775807 ∧ RowN wr g q 3 C.length (fun j => C.getD j 0) := by
        obtain ⟨⟨k1, ⟨k2, k3⟩ | ⟨g, cap', cur, k2, hb, hg, hc1, hc2, hcs, htk⟩⟩, _⟩ := HR.out.own
        · rw [HM.out] at k3; omega
        · injection k2 with e1 e2 e3
          subst e1 e3
          rw [HM.out] at hc1 htk
          refine ⟨g, rfl, hb, hc1, by unfold maxLen at hc2; omega, cur, hg, fun j hj => ?_⟩
          have hjm : q + j < m := by omega
          have e : cur.toList[q + j]? = (iv (nI W))[q + j]? := by
            rw [← htk, List.getElem?_take_of_lt (by omega)]
          have hjW : q + j < W.length := by rw [HM.out]; exact hjm
          rw [← Array.getElem?_toList, e]
          have : C.getD j 0 = W[q + j] := by
            rw [← hC, List.getD_eq_getElem?_getD, List.getElem?_drop, List.getElem?_eq_getElem hjW]; rfl
          show _ = some (Value.int .i64 ((C.getD j 0 : Nat) : Int))
          rw [this]
          simp [iv, nI, hjW]
      have HCY := Lib.hid hcy
      have HCS := Lib.hid hCS
      have HCL := Lib.hid hCl
      have hRV := reverse_any g q (cap - q) 3 C wr hrow (by omega)
      rw [hCl] at hRV
      have HRV := Lib.hid hRV
      have hne : ¬ cap = q := by omega
      have HG := Lib.hid hg
      have HNE : Hid (Kept [] w wr ∧ m ≤ 1000) := ⟨HR.out.kept, by omega⟩
      clear hrow hin hq hix hcy hC hCl hCS hRV hg
      go_wp2_with fail
      refine HI.out.mono ?_
      rintro e w5 ⟨rfl, rfl⟩
      go_wp2_with fail
      refine HX.out.mono ?_
      rintro e w5 ⟨rfl, rfl⟩
      go_wp2_with fail
      refine HRV.out.mono ?_
      rintro e w6 ⟨rfl, H6⟩
      go_wp2_with fail
      go_ret
      have hk6 : Kept [] w w6 := HNE.out.1.into H6.out.2 (by have := HG.out; simp; omega)
      refine ⟨_, C.reverse, rfl, ⟨⟨_, _, by rw [List.length_reverse, HCL.out]; rfl, by rw [List.length_reverse, HCL.out]; omega, by omega, ?_⟩, by rw [List.length_reverse, HCL.out]; have := HNE.out.2; omega⟩, HCY.out, HCS.out, hk6⟩
      have hrow := H6.out.1
      have hb : g < w6.heap.size := by
        obtain ⟨K, hK, _⟩ := hrow
        exact (Array.getElem?_eq_some_iff.1 hK).1
      refine .inr ⟨g, q, rfl, hb, fun j u hu => ?_⟩
      have hj : j < C.reverse.length := by have := (List.getElem?_eq_some_iff.1 hu).1; simpa [iv, nI] using this
      have hc := hrow.cell (j := j) (by have := HCL.out; rw [List.length_reverse] at hj; omega)
      rw [hc]
      simp only [iv, nI, List.map_map, List.getElem?_map, List.getElem?_eq_getElem hj, Option.map_some] at hu
      rw [← hu, List.getD_eq_getElem?_getD, List.getElem?_eq_getElem hj]
      rfl
    · have h1 : decide (a ∈ W) = false := decide_eq_false hin
      rw [h1] at HI
      obtain ⟨v4, w4, hrun, hown, hap⟩ := HR.out.own.app (by have := HR.out.kept.size; omega) a (by rw [HM.out]; omega)
      have HRUN := Lib.hid hrun
      have HK4 : Hid (Kept [] w w4) := OwnN.into HR.out.kept hap HR.out.own (Nat.le_refl _)
      have HWN : Hid (WkSt A S p (W ++ [a]) (p a)) := HR.out.wk.step hin (HS.out a HR.out.wk.cur).2.1
      have HSA := Lib.hid HR.out.wk.cur
      have HOWN := Lib.hid hown
      clear hrun hown hap hin h1
      go_wp2_with fail
      refine HI.out.mono ?_
      rintro e w5 ⟨rfl, rfl⟩
      go_wp2_with (at_builtin; refine wpList_append_run rfl _ _ 24 rfl _ _ _ rfl rfl HRUN.out ?_)
      refine (HCALL.out w4 HK4.out a HSA.out).mono ?_
      rintro e w5 ⟨rfl, hk5⟩
      have HN : Hid (RoSt w A S p (W ++ [a]) (p a) v4 w5) := ⟨HWN.out, HOWN.out.kept hk5, HK4.out.trans hk5⟩
      have HV : ∃ ao4 cap4, v4 = .slice ao4 (m + 1) cap4 := by
        obtain ⟨x, y, e, _⟩ := HOWN.out.ns.open
        exact ⟨x, y, by rw [e]; simp [HM.out]⟩
      obtain ⟨ao4, cap4, rfl⟩ := HV
      clear hk5
      go_wp2_with fail
      go_roundw
      case rel => exact ⟨_, _, rfl, HN⟩
      case measure => simp; omega
end Go.Proofs.Ytpdngekolhcndaa

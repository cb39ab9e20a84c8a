/-
  Layer 6: the program's Full and Check.
  Conditions: those that each theorem states.
-/
import Derived.Test.YtfofhnbijjocfaaGreatDoorQFill
import Derived.Test.YtfofhnbijjocfaaGreatDoorPReg
import Derived.Test.YtfofhnbijjocfaaGreatDoorSKit
import Derived.Deep.DeepCutAuto
namespace Go.Proofs.YtfofhnbijjocfaaGreatDoor
open Go.RowKit Go.Maps
set_option maxRecDepth 100000

/-- w' is w but for new blocks and blocks from B on; and no map has changed. -/
structure MK (B : Nat) (w w' : World) : Prop where
  below : Below B w w'
  maps : ∀ (k : Nat) (es : Array MapEntry) (c : Nat), w.heap[k]? = some (.map es c) → w'.heap[k]? = some (.map es c)
theorem MK.refl (B : Nat) (w : World) : MK B w w := ⟨Below.refl _ _, fun _ _ _ h => h⟩
theorem MK.trans {B : Nat} {a b c : World} (h : MK B a b) (k : MK B b c) : MK B a c := ⟨h.below.trans k.below, fun i es q hi => k.maps i es q (h.maps i es q hi)⟩
theorem Kept.toMK {B : Nat} {w w' : World} (h : Kept [] w w') (hB : B ≤ w.heap.size) : MK B w w' := ⟨h.below hB (by simp), fun _ _ _ hk => h.heap (by simp) hk⟩
theorem Kept.toMKX {B g : Nat} {w w' : World} {cs : Array Value} {t : TypeId} (h : Kept [g] w w') (hB : B ≤ w.heap.size) (hg : B ≤ g) (hc : w.heap[g]? = some (.cells cs t)) : MK B w w' :=
  ⟨h.below hB (by simp; exact hg), fun k _ _ hk => h.heap (by simp; rintro rfl; rw [hk] at hc; cases hc) hk⟩
theorem KdMap.toMK {B : Nat} {w w' : World} {m n : Nat} {f : List UInt8 → Option Value} (h : KdMap w m n f) (hk : MK B w w') : KdMap w' m n f := by
  obtain ⟨D, ⟨es, clock, hb, r⟩, h2⟩ := h
  exact ⟨D, ⟨es, clock, hk.maps _ _ _ hb, r⟩, h2⟩

theorem stO_len {t : List UInt8} {P : List Prm} (h : ∀ p ∈ P, p.2.length ≤ 140737488355328) : (stO t P).length ≤ 140737488355328 := by
  unfold stO
  cases hg : getP P nEnsure with
  | some v => exact h _ (getP_some hg)
  | none =>
    show (dfltK (kindI t)).length ≤ _
    unfold dfltK
    repeat' split
    all_goals decide

theorem slotsK_len (k : Nat) (st : List UInt8) : (slotsK k st).length ≤ 100 := by
  unfold slotsK fileK recK servK
  repeat' split
  all_goals simp [lAccount, lGroup, lPackage]

/-- What Full answers. -/
def FullOut (t ti : List UInt8) (P : List Prm) (w : World) (e : Ending) (w' : World) : Prop :=
  ∃ v, e = .returned (.tuple #[resV (txO t ti P t) (txO t ti P ti) v, .int .i64 (codeO t ti P)]) ∧ Hid (OwnP w.heap.size w' v (outO t ti P) ∧ Kept [] w w')
theorem FullOut.no {t ti : List UInt8} {P : List Prm} {w w' : World} {n : Int} (h : codeO t ti P = n) (h0 : n ≠ 0) (hk : Kept [] w w') : FullOut t ti P w (.returned (.tuple #[.agg #[.string ⟨#[]⟩, .string ⟨#[]⟩, .slice none 0 0], .int .i64 n])) w' := by
  refine ⟨.slice none 0 0, ?_, ?_, hk⟩
  · unfold resV txO
    rw [h, if_neg h0, if_neg h0]; rfl
  · unfold outO
    rw [h, if_neg h0]
    exact OwnP.nil _ _

/-- Behind the look-up of the kind: the resource's block, the answer's, the kind's. -/
structure KvSt (w : World) (t ti : List UInt8) (v : Value) (g : Nat) (b : Bool) (wx : World) : Prop where
  h0 : wx.heap[w.heap.size]? = some (.cells #[.string (strL t), .string (strL ti), v] 40)
  h1 : wx.heap[w.heap.size + 1]? = some (.cells #[.string ⟨#[]⟩, .string ⟨#[]⟩, .slice none 0 0] 40)
  bb : b = decide (kindI t ≠ 0)
  kd : b = true → ∃ f0 f2, wx.heap[g]? = some (.cells #[f0, .string (strL (dfltK (kindI t))), f2] 95) ∧ FnIs wx f0 (titleK (kindI t)) ∧ StFnIs wx f2 (slotsK (kindI t))
  kept : Kept [] w wx

theorem kd_pick {w w' : World} {m : Nat} {f : List UInt8 → Option Value} {t : List UInt8}
    (h : KdMap w' m 5 f ∧ (∀ s, (kindI s = 0 → f s = none) ∧ (kindI s ≠ 0 → ∃ x, f s = some x ∧ ∀ ex w2, (∀ k ∈ ex, k < w.heap.size) → Kept ex w' w2 → KindIs w2 x (kindI s))) ∧ Kept [] w w') :
    ∃ x0 d x2 b, (f t).getD (.agg #[.nilFunc, .string ⟨#[]⟩, .nilFunc]) = .agg #[x0, .string d, x2] ∧ (f t).isSome = b ∧ b = decide (kindI t ≠ 0) ∧ x0.oneCell' = true ∧ x2.oneCell' = true ∧
      (b = true → d = strL (dfltK (kindI t)) ∧ ∀ ex w2, (∀ k ∈ ex, k < w.heap.size) → Kept ex w' w2 → FnIs w2 x0 (titleK (kindI t)) ∧ StFnIs w2 x2 (slotsK (kindI t))) := by
  obtain ⟨h1, h2, h3⟩ := h
  by_cases h0 : kindI t = 0
  · rw [(h2 t).1 h0]
    exact ⟨.nilFunc, ⟨#[]⟩, .nilFunc, false, rfl, rfl, by rw [decide_eq_false (by simpa using h0)], rfl, rfl, fun e => by cases e⟩
  · obtain ⟨x, hx, hk⟩ := (h2 t).2 h0
    obtain ⟨f0, f2, rfl, hf0, f2f, f2c, rfl, _⟩ := hk [] w' (by simp) (Kept.refl _ _)
    have ho0 := hf0.one
    rw [hx]
    refine ⟨f0, _, _, true, rfl, rfl, by rw [decide_eq_true h0], ho0, rfl, fun _ => ⟨rfl, fun ex w2 hxx hkk => ?_⟩⟩
    obtain ⟨g0, g2, he, a1, a2⟩ := hk ex w2 hxx hkk
    simp only [Value.agg.injEq, Array.mk.injEq, List.cons.injEq, and_true] at he
    obtain ⟨e1, _, e2⟩ := he
    rw [e1, e2]
    exact ⟨a1, a2⟩

set_option maxRecDepth 100000 in
set_option maxHeartbeats 8000000 in
theorem sfull_any (t ti : List UInt8) (P : List Prm) (v : Value) (w : World) (h : PsIs w v P) (ht : t.length ≤ 140737488355328) (hti : ti.length ≤ 140737488355328) :
    Calls Tryz.prog 48 #[resV t ti v] w (FullOut t ti P w) := by
  have HP := Lib.hid h
  obtain ⟨ao, cap, rfl, _⟩ := h.open
  obtain ⟨n, hn⟩ : ∃ n, P.length = n := ⟨_, rfl⟩
  rw [hn] at HP
  rw [hn]
  clear h hn
  unfold resV
  obtain ⟨w1, hw1⟩ : ∃ w1, w.alloc (.cells #[.string (strL t), .string (strL ti), .slice ao n cap] 40) = w1 := ⟨_, rfl⟩
  obtain ⟨w2, hw2⟩ : ∃ w2, w1.alloc (.cells #[.string ⟨#[]⟩, .string ⟨#[]⟩, .slice none 0 0] 40) = w2 := ⟨_, rfl⟩
  have hs1 : w1.heap.size = w.heap.size + 1 := by rw [← hw1, size_alloc]
  have hs2 : w2.heap.size = w.heap.size + 2 := by rw [← hw2, size_alloc, hs1]
  have hka : Kept [] w w1 := by rw [← hw1]; exact Kept.alloc _ _ _
  have hkb : Kept [] w1 w2 := by rw [← hw2]; exact Kept.alloc _ _ _
  have HK := Lib.hid (hka.trans hkb)
  have G0 : Hid (w2.heap[w.heap.size]? = some (.cells #[.string (strL t), .string (strL ti), .slice ao n cap] 40)) := hkb.heap (by simp) (by rw [← hw1]; exact heap_alloc_last _ _)
  have G1 : Hid (w2.heap[w.heap.size + 1]? = some (.cells #[.string ⟨#[]⟩, .string ⟨#[]⟩, .slice none 0 0] 40)) := by show _ = _; rw [← hs1, ← hw2]; exact heap_alloc_last _ _
  have HS2 := Lib.hid hs2
  have HS1 := Lib.hid hs1
  clear hka hkb hs2 hs1
  go_enter Tryz.func48, Tryz.ntmps48
  go_upto_region 1 with (fail)
  rw [HS1.out]
  clear hw1 hw2
  go_cut [4, 5] (fun s4 s5 wx => ∃ (g : Nat) (b : Bool), s4 = .pointer (some ⟨g, 0, none⟩) ∧ s5 = .bool b ∧ Hid (KvSt w t ti (.slice ao n cap) g b wx))
  case first =>
    have c0 : ∀ w', MK w2.heap.size w2.drew w' → w'.cell? ⟨w.heap.size, 0, none⟩ = some (.string (strL t)) := fun w' h => by
      have := h.below.cell (p := ⟨w.heap.size, 0, none⟩) (show w.heap.size < w2.heap.size by have := HS2.out; omega)
      rw [this]
      exact cell_of_row (w := w2.drew) _ 0 _ _ _ G0.out
    refine wp_region_plan (R := MK w2.heap.size) (.take 1 (.take 2 (.two 0 (.take 3 (.take 4 (.take 5 (.take 6 (.one 7 (.one 8 (.take 9 .fin))))))) 7 (.one 0 (.take 3 (.take 4 (.take 5 (.take 6 (.one 8 (.take 9 .fin)))))))))) (fun _ => MK.refl _ _) (fun _ _ _ h k => h.trans k) (by kernel_rfl) (fun _ _ d _ _ h => by cases d <;> exact h) (by kernel_rfl) rfl (by kernel_rfl) ?_
    repeat (first | (apply wpP_take; (case hw => rfl); (case hv => intro w' hk; simp only [List.getD_cons_zero, List.getD_cons_succ]; go_simp; with_reducible rfl); simp only [List.getD_cons_zero, List.getD_cons_succ, Act.put, List.setIfInBounds_toArray, List.set_cons_zero, List.set_cons_succ]) | (refine wpP_pass (by rfl) ?_; simp only [List.getD_cons_zero, List.getD_cons_succ, Act.put, List.setIfInBounds_toArray, List.set_cons_zero, List.set_cons_succ]))
    clear c0
    refine wpP_two ?_ ?_
    · refine wpP_one (by rfl) (fun K hK => ?_); simp only [List.getD_cons_zero]
      go_simp
      refine (kinds_any _).mono ?_
      rintro e w3 ⟨m, f, rfl, HF⟩
      refine hK _ _ (HF.out.2.2.toMK (Nat.le_refl _)) ?_
      clear hK K
      have ql : ∀ w', MK w2.heap.size w3 w' → (Instr.lookup 97 (.map (some m)) (.string (strL t)) true).run Tryz.prog w' = .ok (.tuple #[(f t).getD (.agg #[.nilFunc, .string ⟨#[]⟩, .nilFunc]), .bool (f t).isSome]) w' := fun w' h => (HF.out.1.toMK h).look t (by omega)
      obtain ⟨x0, d, x2, b, e1, e2, hbb, o0, o2, hkk⟩ := kd_pick (t := t) HF.out
      rw [e1, e2] at ql
      have HB : Hid (b = decide (kindI t ≠ 0) ∧ x0.oneCell' = true ∧ x2.oneCell' = true ∧ (b = true → d = strL (dfltK (kindI t)) ∧ ∀ ex w2', (∀ k ∈ ex, k < w2.heap.size) → Kept ex w3 w2' → FnIs w2' x0 (titleK (kindI t)) ∧ StFnIs w2' x2 (slotsK (kindI t)))) := ⟨hbb, o0, o2, hkk⟩
      clear e1 e2 hbb o0 o2 hkk
      repeat (first | (apply wpP_take; (case hw => rfl); (case hv => intro w' hk; simp only [List.getD_cons_zero, List.getD_cons_succ]; go_simp; with_reducible rfl); simp only [List.getD_cons_zero, List.getD_cons_succ, Act.put, List.setIfInBounds_toArray, List.set_cons_zero, List.set_cons_succ]) | (refine wpP_pass (by rfl) ?_; simp only [List.getD_cons_zero, List.getD_cons_succ, Act.put, List.setIfInBounds_toArray, List.set_cons_zero, List.set_cons_succ]))
      clear ql
      refine wpP_one (by rfl) (fun K hK => ?_); simp only [List.getD_cons_zero, List.getD_cons_succ]
      go_simp
      refine hK _ _ ((Kept.alloc [] _ _).toMK HF.out.2.2.size) ?_
      clear hK K
      obtain ⟨g, hg⟩ : ∃ g, w3.heap.size = g := ⟨_, rfl⟩
      have hg3 := heap_alloc_last w3 (.cells #[.nilFunc, .string ⟨#[]⟩, .nilFunc] 95)
      rw [hg] at hg3 ⊢
      have hka := Kept.alloc [] w3 (.cells #[.nilFunc, .string ⟨#[]⟩, .nilFunc] 95)
      obtain ⟨w4, hw4⟩ : ∃ w4, w3.alloc (.cells #[.nilFunc, .string ⟨#[]⟩, .nilFunc] 95) = w4 := ⟨_, rfl⟩
      rw [hw4] at hg3 hka ⊢
      have HG := Lib.hid hg3
      have HKA := Lib.hid hka
      have HGB : Hid (w2.heap.size ≤ g ∧ w3.heap.size = g) := ⟨by rw [← hg]; exact HF.out.2.2.size, hg⟩
      clear hg3 hka hw4 hg
      refine wpP_one (by rfl) (fun K hK => ?_); simp only [List.getD_cons_zero, List.getD_cons_succ]
      refine wp_store_cells 95 _ _ rfl g _ _ _ rfl rfl HG.out rfl (by intro v hv; simp at hv; rcases hv with rfl | rfl | rfl; exact HB.out.2.1; rfl; exact HB.out.2.2.1) (by kernel_rfl) ?_
      have hkw := setRow_kept w4 g #[x0, .string d, x2]
      have hgw : (w4.setRow g #[x0, .string d, x2]).heap[g]? = some (.cells #[x0, .string d, x2] 95) := setRow_heap _ _ _ _ _ _ HG.out
      obtain ⟨w5, hw5⟩ : ∃ w5, w4.setRow g #[x0, .string d, x2] = w5 := ⟨_, rfl⟩
      rw [hw5] at hkw hgw ⊢
      refine hK _ _ (hkw.toMKX (Nat.le_trans HF.out.2.2.size HKA.out.size) HGB.out.1 HG.out) ?_
      clear hK K hw5
      have HV : Hid (KvSt w t ti (.slice ao n cap) g b w5) := by
        have k35 : Kept [] w3 w5 := HKA.out.into hkw (by simp; rw [HGB.out.2]; exact Nat.le_refl _)
        have k25 : Kept [] w2 w5 := (Kept.drew [] w2).trans (HF.out.2.2.trans k35)
        exact ⟨k25.heap (by simp) G0.out, k25.heap (by simp) G1.out, HB.out.1, fun hb => ⟨x0, x2, by rw [← (HB.out.2.2.2 hb).1]; exact hgw, (HB.out.2.2.2 hb).2 [] w5 (by simp) k35⟩, HK.out.trans k25⟩
      clear hkw hgw
      repeat (first | (apply wpP_take; (case hw => rfl); (case hv => intro w' hk; simp only [List.getD_cons_zero, List.getD_cons_succ]; go_simp; with_reducible rfl); simp only [List.getD_cons_zero, List.getD_cons_succ, Act.put, List.setIfInBounds_toArray, List.set_cons_zero, List.set_cons_succ]) | (refine wpP_pass (by rfl) ?_; simp only [List.getD_cons_zero, List.getD_cons_succ, Act.put, List.setIfInBounds_toArray, List.set_cons_zero, List.set_cons_succ]))
      refine wpP_fin ?_
      go_wp2_with fail
      go_meet
      exact ⟨g, b, rfl, rfl, HV⟩
    · refine wpP_one (by rfl) (fun K hK => ?_); simp only [List.getD_cons_zero, List.getD_cons_succ]
      go_simp
      refine hK _ _ ((Kept.alloc [] _ _).toMK (Nat.le_refl _)) ?_
      clear hK K
      have hg3 : (w2.alloc (.cells #[.nilFunc, .string ⟨#[]⟩, .nilFunc] 95)).drew.heap[w2.heap.size]? = some (.cells #[.nilFunc, .string ⟨#[]⟩, .nilFunc] 95) := heap_alloc_last w2 _
      have hka : Kept [] w2.drew (w2.alloc (.cells #[.nilFunc, .string ⟨#[]⟩, .nilFunc] 95)).drew := Kept.alloc [] w2.drew (.cells #[.nilFunc, .string ⟨#[]⟩, .nilFunc] 95)
      have hsz : (w2.alloc (.cells #[.nilFunc, .string ⟨#[]⟩, .nilFunc] 95)).drew.heap.size = w2.heap.size + 1 := size_alloc w2 _
      obtain ⟨wa, hwa⟩ : ∃ wa, (w2.alloc (.cells #[.nilFunc, .string ⟨#[]⟩, .nilFunc] 95)).drew = wa := ⟨_, rfl⟩
      rw [hwa] at hg3 hka hsz ⊢
      have HG := Lib.hid hg3
      have HKA := Lib.hid hka
      have HGB : Hid (wa.heap.size = w2.heap.size + 1) := hsz
      clear hg3 hka hwa hsz
      refine wpP_one (by rfl) (fun K hK => ?_); simp only [List.getD_cons_zero]
      go_simp
      refine (kinds_any _).mono ?_
      rintro e w3 ⟨m, f, rfl, HF⟩
      refine hK _ _ (HF.out.2.2.toMK (by have := HGB.out; omega)) ?_
      clear hK K
      have ql : ∀ w', MK w2.heap.size w3 w' → (Instr.lookup 97 (.map (some m)) (.string (strL t)) true).run Tryz.prog w' = .ok (.tuple #[(f t).getD (.agg #[.nilFunc, .string ⟨#[]⟩, .nilFunc]), .bool (f t).isSome]) w' := fun w' h => (HF.out.1.toMK h).look t (by omega)
      obtain ⟨x0, d, x2, b, e1, e2, hbb, o0, o2, hkk⟩ := kd_pick (t := t) HF.out
      rw [e1, e2] at ql
      have HB : Hid (b = decide (kindI t ≠ 0) ∧ x0.oneCell' = true ∧ x2.oneCell' = true ∧ (b = true → d = strL (dfltK (kindI t)) ∧ ∀ ex w2', (∀ k ∈ ex, k < wa.heap.size) → Kept ex w3 w2' → FnIs w2' x0 (titleK (kindI t)) ∧ StFnIs w2' x2 (slotsK (kindI t)))) := ⟨hbb, o0, o2, hkk⟩
      clear e1 e2 hbb o0 o2 hkk
      repeat (first | (apply wpP_take; (case hw => rfl); (case hv => intro w' hk; simp only [List.getD_cons_zero, List.getD_cons_succ]; go_simp; with_reducible rfl); simp only [List.getD_cons_zero, List.getD_cons_succ, Act.put, List.setIfInBounds_toArray, List.set_cons_zero, List.set_cons_succ]) | (refine wpP_pass (by rfl) ?_; simp only [List.getD_cons_zero, List.getD_cons_succ, Act.put, List.setIfInBounds_toArray, List.set_cons_zero, List.set_cons_succ]))
      clear ql
      have HG3 : Hid (w3.heap[w2.heap.size]? = some (.cells #[.nilFunc, .string ⟨#[]⟩, .nilFunc] 95)) := HF.out.2.2.heap (by simp) HG.out
      refine wpP_one (by rfl) (fun K hK => ?_); simp only [List.getD_cons_zero, List.getD_cons_succ]
      refine wp_store_cells 95 _ _ rfl w2.heap.size _ _ _ rfl rfl HG3.out rfl (by intro v hv; simp at hv; rcases hv with rfl | rfl | rfl; exact HB.out.2.1; rfl; exact HB.out.2.2.1) (by kernel_rfl) ?_
      have hkw := setRow_kept w3 w2.heap.size #[x0, .string d, x2]
      have hgw : (w3.setRow w2.heap.size #[x0, .string d, x2]).heap[w2.heap.size]? = some (.cells #[x0, .string d, x2] 95) := setRow_heap _ _ _ _ _ _ HG3.out
      obtain ⟨w5, hw5⟩ : ∃ w5, w3.setRow w2.heap.size #[x0, .string d, x2] = w5 := ⟨_, rfl⟩
      rw [hw5] at hkw hgw ⊢
      refine hK _ _ (hkw.toMKX (by have := HGB.out; have := HF.out.2.2.size; omega) (by have := HGB.out; omega) HG3.out) ?_
      clear hK K hw5
      have HV : Hid (KvSt w t ti (.slice ao n cap) w2.heap.size b w5) := by
        have k23 : Kept [] w2 w3 := (Kept.drew [] w2).trans (HKA.out.trans HF.out.2.2)
        have k25 : Kept [] w2 w5 := k23.into hkw (by simp)
        exact ⟨k25.heap (by simp) G0.out, k25.heap (by simp) G1.out, HB.out.1, fun hb => ⟨x0, x2, by rw [← (HB.out.2.2.2 hb).1]; exact hgw, (HB.out.2.2.2 hb).2 [w2.heap.size] w5 (by have := HGB.out; simp <;> omega) hkw⟩, HK.out.trans k25⟩
      clear hkw hgw
      repeat (first | (apply wpP_take; (case hw => rfl); (case hv => intro w' hk; simp only [List.getD_cons_zero, List.getD_cons_succ]; go_simp; with_reducible rfl); simp only [List.getD_cons_zero, List.getD_cons_succ, Act.put, List.setIfInBounds_toArray, List.set_cons_zero, List.set_cons_succ]) | (refine wpP_pass (by rfl) ?_; simp only [List.getD_cons_zero, List.getD_cons_succ, Act.put, List.setIfInBounds_toArray, List.set_cons_zero, List.set_cons_succ]))
      refine wpP_fin ?_
      go_wp2_with fail
      go_meet
      exact ⟨w2.heap.size, b, rfl, rfl, HV⟩
  case rest =>
    obtain ⟨g, b, rfl, rfl, HV⟩ := hcut
    clear G0 G1 HK HS1 HS2
    have g0 := HV.out.h0
    have g1 := HV.out.h1
    have d0 : wc.cell? ⟨w.heap.size + 1, 0, none⟩ = some (.string ⟨#[]⟩) := cell_of_row _ _ 0 _ _ _ g1
    have d1 : wc.cell? ⟨w.heap.size + 1, 1, none⟩ = some (.string ⟨#[]⟩) := cell_of_row _ _ 1 _ _ _ g1
    have d2 : wc.cell? ⟨w.heap.size + 1, 2, none⟩ = some (.slice none 0 0) := cell_of_row _ _ 2 _ _ _ g1
    have fz : ∀ q, wc.frozen? ⟨w.heap.size + 1, q, none⟩ = false := fun q => frozen_of_row _ _ q _ _ g1
    have HZ : Hid (∀ w', Kept [] wc w' → ((((w'.setCell ⟨w.heap.size + 1, 0, none⟩ (.string ⟨#[]⟩)).setCell ⟨w.heap.size + 1, 1, none⟩ (.string ⟨#[]⟩)).setCell ⟨w.heap.size + 1, 2, none⟩ (.slice none 0 0)).heap[w.heap.size + 1]? = some (.cells #[.string ⟨#[]⟩, .string ⟨#[]⟩, .slice none 0 0] 40)) ∧
        Kept [] w (((w'.setCell ⟨w.heap.size + 1, 0, none⟩ (.string ⟨#[]⟩)).setCell ⟨w.heap.size + 1, 1, none⟩ (.string ⟨#[]⟩)).setCell ⟨w.heap.size + 1, 2, none⟩ (.slice none 0 0))) := fun w' hk => by
      have := hk.heap (by simp) g1
      refine ⟨row_setCell (row_setCell (row_setCell this 0 _) 1 _) 2 _, ?_⟩
      have hkf : Kept [w.heap.size + 1] w' (((w'.setCell ⟨w.heap.size + 1, 0, none⟩ (.string ⟨#[]⟩)).setCell ⟨w.heap.size + 1, 1, none⟩ (.string ⟨#[]⟩)).setCell ⟨w.heap.size + 1, 2, none⟩ (.slice none 0 0)) := ((Kept.setCell _ _ _ _ (by simp)).trans (Kept.setCell _ _ _ _ (by simp))).trans (Kept.setCell _ _ _ _ (by simp))
      exact (HV.out.kept.trans hk).into hkf (by simp)
    have HBB := Lib.hid HV.out.bb
    clear g0 g1
    cases b
    · have HC : Hid (codeO t ti P = 60) := by
        show _ = _
        have := of_decide_eq_false HBB.out.symm
        unfold codeO
        rw [if_pos (by simpa using this)]
      go_wp2_with fail
      have hz := HZ.out wc (Kept.refl _ _)
      refine bodyPost_ret_by (results_rowQ (p := 2) (u := 3) rfl _ _ (w.heap.size + 1) 40 _ _ rfl hz.1 Tryz.underlying40 rfl (by kernel_rfl)) rfl ?_
      exact FullOut.no HC.out (by decide) hz.2
    · have hk00 : kindI t ≠ 0 := of_decide_eq_true HBB.out.symm
      have HK0 := Lib.hid hk00
      clear hk00
      obtain ⟨f0, f2, gk, ⟨i0, fc0, rfl, hE0, hC0⟩, ⟨i2, fc2, rfl, hE2, hC2⟩⟩ := HV.out.kd rfl
      have HC0 := Lib.hid hC0
      have HC2 := Lib.hid hC2
      have hE0' : ∀ (args : Array Value) (w : World), (callFunc i0 args).run Tryz.prog w = .ok (.enter i0 args) w := hE0
      have hE2' : ∀ (args : Array Value) (w : World), (callFunc i2 args).run Tryz.prog w = .ok (.enter i2 args) w := hE2
      obtain ⟨dk, hdk⟩ : ∃ dk, dfltK (kindI t) = dk := ⟨_, rfl⟩
      rw [hdk] at gk
      have HDK := Lib.hid hdk
      have FA : Hid (∀ w', Kept [] wc w' → w'.cell? ⟨w.heap.size, 0, none⟩ = some (.string (strL t)) ∧ w'.cell? ⟨w.heap.size, 1, none⟩ = some (.string (strL ti)) ∧ w'.cell? ⟨w.heap.size, 2, none⟩ = some (.slice ao n cap) ∧
          w'.cell? ⟨g, 0, none⟩ = some (.func (.func i0) #[] fc0) ∧ w'.cell? ⟨g, 1, none⟩ = some (.string (strL dk)) ∧ w'.cell? ⟨g, 2, none⟩ = some (.func (.func i2) #[] fc2) ∧
          w'.cell? ⟨w.heap.size + 1, 0, none⟩ = some (.string ⟨#[]⟩) ∧ w'.cell? ⟨w.heap.size + 1, 1, none⟩ = some (.string ⟨#[]⟩) ∧ w'.cell? ⟨w.heap.size + 1, 2, none⟩ = some (.slice none 0 0) ∧ (∀ q, w'.frozen? ⟨w.heap.size + 1, q, none⟩ = false) ∧ (∀ q, w'.frozen? ⟨w.heap.size, q, none⟩ = false)) := fun w' hk => by
        have e0 := hk.heap (by simp) HV.out.h0
        have e1 := hk.heap (by simp) HV.out.h1
        have e2 := hk.heap (by simp) gk
        exact ⟨cell_of_row _ _ 0 _ _ _ e0, cell_of_row _ _ 1 _ _ _ e0, cell_of_row _ _ 2 _ _ _ e0, cell_of_row _ _ 0 _ _ _ e2, cell_of_row _ _ 1 _ _ _ e2, cell_of_row _ _ 2 _ _ _ e2, cell_of_row _ _ 0 _ _ _ e1, cell_of_row _ _ 1 _ _ _ e1, cell_of_row _ _ 2 _ _ _ e1, fun q => frozen_of_row _ _ q _ _ e1, fun q => frozen_of_row _ _ q _ _ e0⟩
      obtain ⟨a0, a1, a2, k0, k1, k2, _, _, _, _, _⟩ := FA.out wc (Kept.refl _ _)
      clear hC0 hC2 hE0 hE2 gk hdk d0 d1 d2 fz
      go_wp2_with fail
      refine (HC0.out wc (Kept.refl _ _) ti hti).mono ?_
      clear a0 a1 a2 k0 k1 k2
      cases htt : titleK (kindI t) ti
      · have HC : Hid (codeO t ti P = 61) := by
          show _ = _
          unfold codeO
          rw [if_neg HK0.out, if_pos htt]
        rintro e w3 ⟨rfl, hk3⟩
        obtain ⟨a0, a1, a2, k0, k1, k2, d0, d1, d2, fz, fy⟩ := FA.out w3 hk3
        have HZ3 := Lib.hid (HZ.out w3 hk3)
        clear htt hk3
        go_wp2_with fail
        refine bodyPost_ret_by (results_rowQ (p := 2) (u := 3) rfl _ _ (w.heap.size + 1) 40 _ _ rfl HZ3.out.1 Tryz.underlying40 rfl (by kernel_rfl)) rfl ?_
        exact FullOut.no HC.out (by decide) HZ3.out.2
      · have HTT := Lib.hid htt
        rintro e w3 ⟨rfl, hk3⟩
        have HK3 := Lib.hid hk3
        obtain ⟨a0, a1, a2, k0, k1, k2, _, _, _, _, _⟩ := FA.out w3 hk3
        obtain ⟨st, hst⟩ : ∃ st, stO t P = st := ⟨_, rfl⟩
        obtain ⟨x, hx⟩ : ∃ x, getV P nEnsure = x := ⟨_, rfl⟩
        obtain ⟨b, hb⟩ : ∃ b, getB P nEnsure = b := ⟨_, rfl⟩
        have q1 : strL nEnsure = { data := #[101, 110, 115, 117, 114, 101] } := rfl
        have HGET : Hid (∀ w', Kept [] w w' → Calls Tryz.prog 60 #[.agg #[.string (strL t), .string (strL ti), .slice ao n cap], .string { data := #[101, 110, 115, 117, 114, 101] }] w' fun e w2 => e = .returned (.tuple #[.string (strL x), .bool b]) ∧ Kept [] w' w2) := fun w' hk => by
          rw [← hx, ← hb, ← q1]
          exact sget_any t ti nEnsure P _ w' (HP.out.kept hk)
        have HST : Hid ((b = true → x = st) ∧ (b = false → dk = st)) := by
          show _ ∧ _
          rw [← hx, ← hst, ← hb, ← HDK.out]
          unfold stO getV getB
          cases getP P nEnsure <;> simp
        have HSTO := Lib.hid hst
        clear hst hx hb q1 htt hk3
        go_wp2_with fail
        refine (HGET.out w3 (HV.out.kept.trans HK3.out)).mono ?_
        clear a0 a1 a2 k0 k1 k2
        rintro e w4 ⟨rfl, hk4⟩
        have HK4 : Hid (Kept [] wc w4) := HK3.out.trans hk4
        clear hk4
        obtain ⟨a0, a1, a2, k0, k1, k2, _, _, _, _, _⟩ := FA.out w4 HK4.out
        have r1 : ∀ w', Kept [] w4.drew w' → w'.cell? ⟨g, 2, none⟩ = some (.func (.func i2) #[] fc2) := fun w' hk => (FA.out w' (HK4.out.trans ((Kept.drew [] _).trans hk))).2.2.2.2.2.1
        have r2 : ∀ w', Kept [] w4.drew w' → w'.cell? ⟨w.heap.size, 2, none⟩ = some (.slice ao n cap) := fun w' hk => (FA.out w' (HK4.out.trans ((Kept.drew [] _).trans hk))).2.2.1
        have HSL : Hid (st.length ≤ 140737488355328) := by show _ ≤ _; rw [← HSTO.out]; exact stO_len fun p hp => (HP.out.each p hp).2
        cases b
        · obtain rfl := HST.out.2 rfl
          go_wp2_with fail
          refine wp_region_ord [(true, 0), (true, 1), (true, 2), (true, 4), (true, 5), (false, 3), (false, 6), (true, 7), (true, 8), (true, 9), (true, 10), (true, 11)] [] (by kernel_rfl) (fun _ _ d _ _ h => by cases d <;> exact h) (by kernel_rfl) rfl (by kernel_rfl) (by kernel_rfl) ?_
          simp only [named, List.getD_cons_zero, List.getD_cons_succ]
          repeat (first | (apply wpGrow_take; (case hw => rfl); (case hv => intro w' hk; go_simp; with_reducible rfl); simp only [Act.put, List.setIfInBounds_toArray, List.set_cons_zero, List.set_cons_succ]) | (refine wpGrow_pass (by rfl) ?_; simp only [Act.put, List.setIfInBounds_toArray, List.set_cons_zero, List.set_cons_succ]) | (refine wpGrow_skip (by rfl) ?_; simp only [Act.put, List.setIfInBounds_toArray, List.set_cons_zero, List.set_cons_succ]))
          clear r1 r2 a0 a1 a2 k0 k1 k2
          refine wpGrow_force (by rfl) (fun K hK => ?_)
          go_simp
          refine (HC2.out _ (HK4.out.trans (Kept.drew [] _)) _ HSL.out).mono ?_
          rintro e w5 ⟨v5, rfl, HS5⟩
          refine hK _ _ HS5.out.2 ?_
          clear hK K
          have HK5 : Hid (Kept [] wc w5) := (HK4.out.trans (Kept.drew [] _)).trans HS5.out.2
          refine wpGrow_force (by rfl) (fun K hK => ?_)
          go_simp
          refine (sfill_any _ _ P v5 _ _ HS5.out.1 (HP.out.kept (HV.out.kept.trans HK5.out)) (slotsK_len _ _)).mono ?_
          rintro e w6 ⟨v6, b6, rfl, HF6⟩
          refine hK _ _ HF6.out.2.2 ?_
          clear hK K
          have HK6 : Hid (Kept [] wc w6) := HK5.out.trans HF6.out.2.2
          have HFO : Hid (b6 = (fillO t P).isSome ∧ OwnP w5.heap.size w6 v6 ((fillO t P).getD [])) := by
            have := HF6.out
            unfold fillO
            rw [HSTO.out]
            exact ⟨this.1, this.2.1⟩
          obtain ⟨u1, u2, u3, rfl⟩ := prm_val _ _ _ _ HFO.out.2
          repeat (first | (apply wpGrow_take; (case hw => rfl); (case hv => intro w' hk; go_simp; with_reducible rfl); simp only [Act.put, List.setIfInBounds_toArray, List.set_cons_zero, List.set_cons_succ]) | (refine wpGrow_pass (by rfl) ?_; simp only [Act.put, List.setIfInBounds_toArray, List.set_cons_zero, List.set_cons_succ]) | (refine wpGrow_skip (by rfl) ?_; simp only [Act.put, List.setIfInBounds_toArray, List.set_cons_zero, List.set_cons_succ]))
          refine wpGrow_nil ?_
          obtain ⟨a0, a1, a2, _, _, _, d0, d1, d2, fz, fy⟩ := FA.out w6 HK6.out
          cases b6
          · have HC : Hid (codeO t ti P = 62) := by
              show _ = _
              unfold codeO
              rw [if_neg HK0.out, if_neg (by rw [HTT.out]; simp), if_pos]
              have := HFO.out.1
              cases hfo : fillO t P with
              | none => rfl
              | some y => rw [hfo] at this; cases this
            have HZ6 := Lib.hid (HZ.out w6 HK6.out)
            go_wp2_with fail
            refine bodyPost_ret_by (results_rowQ (p := 2) (u := 3) rfl _ _ (w.heap.size + 1) 40 _ _ rfl HZ6.out.1 Tryz.underlying40 rfl (by kernel_rfl)) rfl ?_
            exact FullOut.no HC.out (by decide) HZ6.out.2
          · have HC : Hid (codeO t ti P = 0) := by
              show _ = _
              unfold codeO
              rw [if_neg HK0.out, if_neg (by rw [HTT.out]; simp), if_neg]
              have := HFO.out.1
              cases hfo : fillO t P with
              | none => rw [hfo] at this; cases this
              | some y => simp
            go_wp2_with fail
            have e0 := HK6.out.heap (by simp) HV.out.h0
            have e1 := HK6.out.heap (by simp) HV.out.h1
            have hne : (⟨w.heap.size, 2, none⟩ : Addr).block ≠ w.heap.size + 1 := by show w.heap.size ≠ w.heap.size + 1; omega
            have e1' : (w6.setCell ⟨w.heap.size, 2, none⟩ (.slice u1 u2 u3)).heap[w.heap.size + 1]? = some (.cells #[.string ⟨#[]⟩, .string ⟨#[]⟩, .slice none 0 0] 40) := by
              rw [Below.heap_setCell _ _ _ _ (fun e => hne e.symm)]; exact e1
            have r2 := row_setCell (row_setCell (row_setCell e1' 0 (.string (strL t))) 1 (.string (strL ti))) 2 (.slice u1 u2 u3)
            have hkf : Kept [w.heap.size, w.heap.size + 1] w6 ((((w6.setCell ⟨w.heap.size, 2, none⟩ (.slice u1 u2 u3)).setCell ⟨w.heap.size + 1, 0, none⟩ (.string (strL t))).setCell ⟨w.heap.size + 1, 1, none⟩ (.string (strL ti))).setCell ⟨w.heap.size + 1, 2, none⟩ (.slice u1 u2 u3)) :=
              (((Kept.setCell _ _ _ _ (by simp)).trans (Kept.setCell _ _ _ _ (by simp))).trans (Kept.setCell _ _ _ _ (by simp))).trans (Kept.setCell _ _ _ _ (by simp))
            refine bodyPost_ret_by (results_rowQ (p := 2) (u := 3) rfl _ _ (w.heap.size + 1) 40 _ _ rfl r2 Tryz.underlying40 rfl (by kernel_rfl)) rfl ?_
            have hsz5 : w.heap.size + 2 ≤ w5.heap.size := by
              have := (Array.getElem?_eq_some_iff.1 HV.out.h1).1
              have := HK5.out.size
              omega
            refine ⟨.slice u1 u2 u3, ?_, ?_, (HV.out.kept.trans HK6.out).into hkf (by simp)⟩
            · unfold resV txO
              rw [HC.out, if_pos rfl, if_pos rfl]; rfl
            · unfold outO
              rw [HC.out, if_pos rfl]
              exact (HFO.out.2.keptX hkf fun q hq => by have := (HFO.out.2.blk q hq).1; simp; omega).mono (by omega)
        · obtain rfl := HST.out.1 rfl
          go_wp2_with fail
          refine wp_region_ord [(true, 0), (true, 1), (true, 2), (true, 4), (true, 5), (false, 3), (false, 6), (true, 7), (true, 8), (true, 9), (true, 10), (true, 11)] [] (by kernel_rfl) (fun _ _ d _ _ h => by cases d <;> exact h) (by kernel_rfl) rfl (by kernel_rfl) (by kernel_rfl) ?_
          simp only [named, List.getD_cons_zero, List.getD_cons_succ]
          repeat (first | (apply wpGrow_take; (case hw => rfl); (case hv => intro w' hk; go_simp; with_reducible rfl); simp only [Act.put, List.setIfInBounds_toArray, List.set_cons_zero, List.set_cons_succ]) | (refine wpGrow_pass (by rfl) ?_; simp only [Act.put, List.setIfInBounds_toArray, List.set_cons_zero, List.set_cons_succ]) | (refine wpGrow_skip (by rfl) ?_; simp only [Act.put, List.setIfInBounds_toArray, List.set_cons_zero, List.set_cons_succ]))
          clear r1 r2 a0 a1 a2 k0 k1 k2
          refine wpGrow_force (by rfl) (fun K hK => ?_)
          go_simp
          refine (HC2.out _ (HK4.out.trans (Kept.drew [] _)) _ HSL.out).mono ?_
          rintro e w5 ⟨v5, rfl, HS5⟩
          refine hK _ _ HS5.out.2 ?_
          clear hK K
          have HK5 : Hid (Kept [] wc w5) := (HK4.out.trans (Kept.drew [] _)).trans HS5.out.2
          refine wpGrow_force (by rfl) (fun K hK => ?_)
          go_simp
          refine (sfill_any _ _ P v5 _ _ HS5.out.1 (HP.out.kept (HV.out.kept.trans HK5.out)) (slotsK_len _ _)).mono ?_
          rintro e w6 ⟨v6, b6, rfl, HF6⟩
          refine hK _ _ HF6.out.2.2 ?_
          clear hK K
          have HK6 : Hid (Kept [] wc w6) := HK5.out.trans HF6.out.2.2
          have HFO : Hid (b6 = (fillO t P).isSome ∧ OwnP w5.heap.size w6 v6 ((fillO t P).getD [])) := by
            have := HF6.out
            unfold fillO
            rw [HSTO.out]
            exact ⟨this.1, this.2.1⟩
          obtain ⟨u1, u2, u3, rfl⟩ := prm_val _ _ _ _ HFO.out.2
          repeat (first | (apply wpGrow_take; (case hw => rfl); (case hv => intro w' hk; go_simp; with_reducible rfl); simp only [Act.put, List.setIfInBounds_toArray, List.set_cons_zero, List.set_cons_succ]) | (refine wpGrow_pass (by rfl) ?_; simp only [Act.put, List.setIfInBounds_toArray, List.set_cons_zero, List.set_cons_succ]) | (refine wpGrow_skip (by rfl) ?_; simp only [Act.put, List.setIfInBounds_toArray, List.set_cons_zero, List.set_cons_succ]))
          refine wpGrow_nil ?_
          obtain ⟨a0, a1, a2, _, _, _, d0, d1, d2, fz, fy⟩ := FA.out w6 HK6.out
          cases b6
          · have HC : Hid (codeO t ti P = 62) := by
              show _ = _
              unfold codeO
              rw [if_neg HK0.out, if_neg (by rw [HTT.out]; simp), if_pos]
              have := HFO.out.1
              cases hfo : fillO t P with
              | none => rfl
              | some y => rw [hfo] at this; cases this
            have HZ6 := Lib.hid (HZ.out w6 HK6.out)
            go_wp2_with fail
            refine bodyPost_ret_by (results_rowQ (p := 2) (u := 3) rfl _ _ (w.heap.size + 1) 40 _ _ rfl HZ6.out.1 Tryz.underlying40 rfl (by kernel_rfl)) rfl ?_
            exact FullOut.no HC.out (by decide) HZ6.out.2
          · have HC : Hid (codeO t ti P = 0) := by
              show _ = _
              unfold codeO
              rw [if_neg HK0.out, if_neg (by rw [HTT.out]; simp), if_neg]
              have := HFO.out.1
              cases hfo : fillO t P with
              | none => rw [hfo] at this; cases this
              | some y => simp
            go_wp2_with fail
            have e0 := HK6.out.heap (by simp) HV.out.h0
            have e1 := HK6.out.heap (by simp) HV.out.h1
            have hne : (⟨w.heap.size, 2, none⟩ : Addr).block ≠ w.heap.size + 1 := by show w.heap.size ≠ w.heap.size + 1; omega
            have e1' : (w6.setCell ⟨w.heap.size, 2, none⟩ (.slice u1 u2 u3)).heap[w.heap.size + 1]? = some (.cells #[.string ⟨#[]⟩, .string ⟨#[]⟩, .slice none 0 0] 40) := by
              rw [Below.heap_setCell _ _ _ _ (fun e => hne e.symm)]; exact e1
            have r2 := row_setCell (row_setCell (row_setCell e1' 0 (.string (strL t))) 1 (.string (strL ti))) 2 (.slice u1 u2 u3)
            have hkf : Kept [w.heap.size, w.heap.size + 1] w6 ((((w6.setCell ⟨w.heap.size, 2, none⟩ (.slice u1 u2 u3)).setCell ⟨w.heap.size + 1, 0, none⟩ (.string (strL t))).setCell ⟨w.heap.size + 1, 1, none⟩ (.string (strL ti))).setCell ⟨w.heap.size + 1, 2, none⟩ (.slice u1 u2 u3)) :=
              (((Kept.setCell _ _ _ _ (by simp)).trans (Kept.setCell _ _ _ _ (by simp))).trans (Kept.setCell _ _ _ _ (by simp))).trans (Kept.setCell _ _ _ _ (by simp))
            refine bodyPost_ret_by (results_rowQ (p := 2) (u := 3) rfl _ _ (w.heap.size + 1) 40 _ _ rfl r2 Tryz.underlying40 rfl (by kernel_rfl)) rfl ?_
            have hsz5 : w.heap.size + 2 ≤ w5.heap.size := by
              have := (Array.getElem?_eq_some_iff.1 HV.out.h1).1
              have := HK5.out.size
              omega
            refine ⟨.slice u1 u2 u3, ?_, ?_, (HV.out.kept.trans HK6.out).into hkf (by simp)⟩
            · unfold resV txO
              rw [HC.out, if_pos rfl, if_pos rfl]; rfl
            · unfold outO
              rw [HC.out, if_pos rfl]
              exact (HFO.out.2.keptX hkf fun q hq => by have := (HFO.out.2.blk q hq).1; simp; omega).mono (by omega)
end Go.Proofs.YtfofhnbijjocfaaGreatDoor

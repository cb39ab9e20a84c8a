/-
  Layer 6: the walk of ResourceChecks.
  Conditions: those that each theorem states.
-/
import Derived.Test.YthpfnkanilfohaaDoorQShown
import Derived.Test.YthpfnkanilfohaaDoorQSame
import Derived.Test.YthpfnkanilfohaaDoorQDFull
namespace Go.Proofs.YthpfnkanilfohaaDoor
open Go.RowKit Go.Maps

/-- 'append([]api.Param{}, l...)'. -/
theorem copy_prms {w : World} {v : Value} {l : List Prm} (h : PsIs w v l) :
    ∃ v' w', (Builtin.append_ #[22, 22] 22 #[.slice (some ⟨w.heap.size, 0, none⟩) 0 0, v]).run Tryd.prog (w.alloc (.cells #[] 31)) = .ok v' w' ∧ PsIs w' v' l ∧ Kept [] w w' ∧ (∀ b o n c, v' = .slice (some ⟨b, o, none⟩) n c → w.heap.size ≤ b) := by
  have how : (w.alloc (.cells #[] 31)).ownsRow w.heap.size 31 2 (.slice (some ⟨w.heap.size, 0, none⟩) 0 0) 0 [] :=
    ⟨by simp, .inr ⟨w.heap.size, 0, #[], rfl, Nat.le_refl _, heap_alloc_last _ _, Nat.le_refl _, by unfold maxLen; omega, rfl, rfl⟩⟩
  have hs0 : w.heap.size ≤ (w.alloc (.cells #[] 31)).heap.size := by rw [size_alloc]; omega
  have hk0 : Kept [] w (w.alloc (.cells #[] 31)) := Kept.alloc _ _ _
  obtain ⟨⟨ao, cap, rfl, h2, h3, h4, h5⟩, h6, h7⟩ := h
  have go : ∀ ad, (∀ j u, (sv (fl l))[j]? = some u → (w.alloc (.cells #[] 31)).cell? (Addr.add ad j) = some u) → ao = some ad → ∃ v' w', (Builtin.append_ #[22, 22] 22 #[.slice (some ⟨w.heap.size, 0, none⟩) 0 0, .slice ao l.length cap]).run Tryd.prog (w.alloc (.cells #[] 31)) = .ok v' w' ∧ PsIs w' v' l ∧ Kept [] w w' ∧ (∀ b o n c, v' = .slice (some ⟨b, o, none⟩) n c → w.heap.size ≤ b) := by
    rintro ad hsrc rfl
    obtain ⟨v7, w7, hrun, hown, hk7, _⟩ := own_app elemPrm 22 (w.alloc (.cells #[] 31)) w.heap.size _ 0 [] how ad l.length cap (sv (fl l)) (by rw [sv_length, fl_length]; omega) hsrc (sv_oneT _) (by unfold maxLen; omega) (by omega) hs0
    rw [Nat.zero_add, List.nil_append] at hown
    have hO : OwnP w.heap.size w7 v7 l := ⟨hown, h6, h7⟩
    exact ⟨_, w7, hrun, hO.ps, hk0.own how (Nat.le_refl _) hk7, fun b o n c e => (hO.blk b (by rw [e]; rfl)).1⟩
  rcases h5 with h0 | ⟨b, o, rfl, hbl, hr⟩
  · obtain rfl : l = [] := List.eq_nil_of_length_eq_zero h0
    cases ao with
    | some ad => exact go ad (fun j u hu => by simp [sv, fl] at hu) rfl
    | none =>
      obtain ⟨i, hi, _, hsz, _⟩ := info_parts elemPrm.info
      have hrun := run_append_owned_none (P := Tryd.prog) (w := w.alloc (.cells #[] 31)) w.heap.size 22 22 31 i 2 Tryd.underlying22 hi _ 0 [] how
      rw [h4 rfl]
      exact ⟨_, _, hrun, ⟨⟨_, _, rfl, by simp, by omega, fun e => (by cases e), .inl rfl⟩, h6, h7⟩, hk0, fun b o n c e => (by simp at e; omega)⟩
  · exact go ⟨b, o, none⟩ (fun j u hu => by rw [Addr.add_mid]; exact hk0.range hbl (by simp) hr j u hu) rfl

theorem PsIs.keptX {w w' : World} {v : Value} {l : List Prm} {ex : List Nat} (h : PsIs w v l) (hk : Kept ex w w') (hx : ∀ b o n c, v = .slice (some ⟨b, o, none⟩) n c → n ≠ 0 → b ∉ ex) : PsIs w' v l := by
  obtain ⟨⟨ao, cap, h1, h2, h3, h4, h5⟩, h6, h7⟩ := h
  refine ⟨⟨ao, cap, h1, h2, h3, h4, ?_⟩, h6, h7⟩
  by_cases h0 : l.length = 0
  · exact .inl h0
  rcases h5 with h5 | ⟨b, o, rfl, hb, hr⟩
  · exact .inl h5
  · exact .inr ⟨b, o, rfl, Nat.lt_of_lt_of_le hb hk.size, hk.range hb (hx b o _ _ h1 h0) hr⟩
theorem PsIs.lt {w : World} {v : Value} {l : List Prm} (h : PsIs w v l) : ∀ b o n c, v = .slice (some ⟨b, o, none⟩) n c → n ≠ 0 → b < w.heap.size := by
  intro b o n c e hn
  obtain ⟨⟨ao, cap, h1, _, _, _, h5⟩, _, _⟩ := h
  rw [e] at h1
  injection h1 with h1 h2 _
  rcases h5 with h5 | ⟨b', o', h6, hb, _⟩
  · omega
  · rw [← h1] at h6
    injection h6 with h6
    injection h6 with h6 _ _
    omega
/-- Parameters that may be written over. -/
def SpP (w : World) (v : Value) (n : Nat) (base : Nat) : Prop := n = 0 ∨ ∃ g cap cur, v = .slice (some ⟨g, 0, none⟩) n cap ∧ base ≤ g ∧ w.heap[g]? = some (.cells cur 31) ∧ 2 * n ≤ cur.size
theorem OwnP.sp {base : Nat} {w : World} {v : Value} {l : List Prm} (h : OwnP base w v l) {n : Nat} (hn : l.length = n) : SpP w v n base := by
  subst hn
  obtain ⟨⟨h1, ⟨rfl, h2⟩ | ⟨g, cap, cur, rfl, hb, hg, hc1, hc2, hcs, htk⟩⟩, h4, h5⟩ := h
  · exact .inl h2
  · exact .inr ⟨g, cap, cur, rfl, hb, hg, by rw [hcs]; omega⟩

set_option maxRecDepth 100000 in
set_option maxHeartbeats 8000000 in
theorem checks_walk (t ti : List UInt8) (ao : Option Addr) (len cap : Nat) (P : List Prm) (w : World) (hp : PsIs w (.slice ao len cap) P) (ht : t.length ≤ 140737488355328) (hti : ti.length ≤ 140737488355328) :
    Calls Tryd.prog 3 #[resV t ti (.slice ao len cap)] w fun e w' => e = .returned (.bool true) ∧ Kept [] w w' := by
  have HP := Lib.hid hp
  clear hp
  unfold resV
  obtain ⟨w1, hw1⟩ : ∃ w1, w.alloc (.cells #[.string (strL t), .string (strL ti), .slice ao len cap] 24) = w1 := ⟨_, rfl⟩
  have HA : Hid (Kept [] w w1 ∧ w1.heap[w.heap.size]? = some (.cells #[.string (strL t), .string (strL ti), .slice ao len cap] 24)) := ⟨by rw [← hw1]; exact Kept.alloc _ _ _, by rw [← hw1]; exact heap_alloc_last _ _⟩
  have FA : Hid (∀ w', Kept [] w1 w' → w'.cell? ⟨w.heap.size, 0, none⟩ = some (.string (strL t)) ∧ w'.cell? ⟨w.heap.size, 1, none⟩ = some (.string (strL ti)) ∧ w'.cell? ⟨w.heap.size, 2, none⟩ = some (.slice ao len cap)) := fun w' hk => by
    have e0 := hk.heap (by simp) HA.out.2
    exact ⟨cell_of_row _ _ 0 _ _ _ e0, cell_of_row _ _ 1 _ _ _ e0, cell_of_row _ _ 2 _ _ _ e0⟩
  go_enter Tryd.func3, Tryd.ntmps3
  go_wp2_with fail
  refine (shown6_any _).mono ?_
  rintro e w2 ⟨rfl, hk2⟩
  have HK2 := Lib.hid hk2
  clear hk2 hw1
  obtain ⟨a0, a1, a2⟩ := FA.out w2 HK2.out
  obtain ⟨w3, hw3⟩ : ∃ w3, w2.alloc (.cells #[.string (strL t), .string (strL ti), .slice ao len cap] 24) = w3 := ⟨_, rfl⟩
  have HB : Hid (Kept [] w2 w3 ∧ w3.heap[w2.heap.size]? = some (.cells #[.string (strL t), .string (strL ti), .slice ao len cap] 24)) := ⟨by rw [← hw3]; exact Kept.alloc _ _ _, by rw [← hw3]; exact heap_alloc_last _ _⟩
  have HK3 : Hid (Kept [] w1 w3) := HK2.out.trans HB.out.1
  obtain ⟨v4, w4, hrun, hps4, hk4, hnew4⟩ := copy_prms (HP.out.kept (HA.out.1.trans HK3.out))
  obtain ⟨x1, x2, x3, rfl⟩ : ∃ u m c, v4 = .slice u m c := by obtain ⟨u, c, rfl, _⟩ := hps4.open; exact ⟨_, _, _, rfl⟩
  have HPS4 := Lib.hid hps4
  have HK4 := Lib.hid hk4
  have HRUN := Lib.hid hrun
  obtain ⟨b0, b1, b2⟩ := FA.out w3 HK3.out
  obtain ⟨w3a, hw3a⟩ : ∃ w3a, w3.alloc (.cells #[] 31) = w3a := ⟨_, rfl⟩
  have HK3a : Hid (Kept [] w1 w3a) := by rw [← hw3a]; exact HK3.out.trans (Kept.alloc _ _ _)
  rw [hw3a] at HRUN
  obtain ⟨_, _, d2⟩ := FA.out w3a HK3a.out
  have e4 := hk4.heap (by simp) HB.out.2
  have z2 : w4.cell? ⟨w2.heap.size, 2, none⟩ = some (.slice ao len cap) := cell_of_row _ _ 2 _ _ _ e4
  have fz : ∀ q, w4.frozen? ⟨w2.heap.size, q, none⟩ = false := fun q => frozen_of_row _ _ q _ _ e4
  have HE4 := Lib.hid e4
  obtain ⟨w5, hw5⟩ : ∃ w5, w4.setCell ⟨w2.heap.size, 2, none⟩ (.slice x1 x2 x3) = w5 := ⟨_, rfl⟩
  have hk5 : Kept [w2.heap.size] w4 w5 := by rw [← hw5]; exact Kept.setCell _ _ _ _ (by simp)
  have e5 : w5.heap[w2.heap.size]? = some (.cells #[.string (strL t), .string (strL ti), .slice x1 x2 x3] 24) := by rw [← hw5]; exact row_setCell HE4.out 2 _
  have HB5 := Lib.hid e5
  have HK5 : Hid (Kept [] w2 w5) := (HB.out.1.trans HK4.out).into hk5 (by simp)
  have y0 : w5.cell? ⟨w2.heap.size, 0, none⟩ = some (.string (strL t)) := cell_of_row _ _ 0 _ _ _ e5
  have y1 : w5.cell? ⟨w2.heap.size, 1, none⟩ = some (.string (strL ti)) := cell_of_row _ _ 1 _ _ _ e5
  have y2 : w5.cell? ⟨w2.heap.size, 2, none⟩ = some (.slice x1 x2 x3) := cell_of_row _ _ 2 _ _ _ e5
  have HPO : Hid (PsIs w5 (.slice x1 x2 x3) P) := HPS4.out.keptX hk5 fun b o n c he hn => by
    have h1 := hnew4 b o n c he
    have h2 := (Array.getElem?_eq_some_iff.1 HB.out.2).1
    simp; omega
  clear hrun hps4 hk4 e4 hk5 e5 hnew4
  obtain ⟨c, hc⟩ : ∃ c, codeO t ti P = c := ⟨_, rfl⟩
  have HC := Lib.hid hc
  obtain ⟨O, hO⟩ : ∃ O, outO t ti P = O := ⟨_, rfl⟩
  have HO := Lib.hid hO
  obtain ⟨g1, hg1⟩ : ∃ y, txO t ti P t = y := ⟨_, rfl⟩
  obtain ⟨g2, hg2⟩ : ∃ y, txO t ti P ti = y := ⟨_, rfl⟩
  have HF1 : Hid (∀ w', Kept [] w5 w' → Calls Tryd.prog 9 #[.agg #[.string (strL t), .string (strL ti), .slice x1 x2 x3]] w' fun e w2 => ∃ v, e = .returned (.tuple #[.agg #[.string (strL g1), .string (strL g2), v], .int .i64 c]) ∧ Hid (OwnP w'.heap.size w2 v O ∧ Kept [] w' w2)) := fun w' hk => by
    have := sfull_any t ti P _ w' (HPO.out.kept hk) ht hti
    unfold FullOut resV at this
    rw [hc, hO, hg1, hg2] at this
    exact this
  have HF2 : Hid (∀ w', Kept [] w w' → Calls Tryd.prog 10 #[.agg #[.string (strL t), .string (strL ti), .slice ao len cap]] w' fun e w2 => ∃ v, e = .returned (.tuple #[.agg #[.string (strL g1), .string (strL g2), v], .int .i64 c]) ∧ Hid (OwnP w'.heap.size w2 v O ∧ Kept [] w' w2)) := fun w' hk => by
    have := rsfull_any t ti P _ w' (HP.out.kept hk) hti
    unfold FullOut resV at this
    rw [hc, hO, hg1, hg2] at this
    exact this
  clear hc hO hg1 hg2
  go_wp2_with (at_builtin; refine wpList_append_run rfl _ _ 22 rfl _ _ _ rfl rfl HRUN.out ?_)
  refine (HF1.out _ (Kept.refl _ _)).mono ?_
  rintro e w6 ⟨v6, rfl, H6⟩
  obtain ⟨ao6, cap6, rfl, _⟩ := H6.out.1.ps.open
  obtain ⟨m, hm⟩ : ∃ m, O.length = m := ⟨_, rfl⟩
  have HM := Lib.hid hm
  have hm63 : m ≤ 140737488355328 := by have := H6.out.1.ps.len; omega
  rw [hm] at H6
  rw [hm]
  obtain ⟨w7, hw7⟩ : ∃ w7, w6.alloc (.cells #[.string (strL g1), .string (strL g2), .slice ao6 m cap6] 24) = w7 := ⟨_, rfl⟩
  have HC7 : Hid (Kept [] w6 w7 ∧ w7.heap[w6.heap.size]? = some (.cells #[.string (strL g1), .string (strL g2), .slice ao6 m cap6] 24)) := ⟨by rw [← hw7]; exact Kept.alloc _ _ _, by rw [← hw7]; exact heap_alloc_last _ _⟩
  have HK7 : Hid (Kept [] w5 w7) := H6.out.2.trans HC7.out.1
  clear a0 a1 a2 b0 b1 b2 d2 z2 fz y0 y1 y2 hw5 hw3a hw3
  have HK25 : Hid (Kept [] w1 w5) := HK2.out.trans HK5.out
  obtain ⟨a0, a1, a2⟩ := FA.out w7 (HK25.out.trans HK7.out)
  go_wp2_with fail
  refine (HF2.out _ ((HA.out.1.trans HK25.out).trans HK7.out)).mono ?_
  rintro e w8 ⟨v8, rfl, H8⟩
  obtain ⟨ao8, cap8, rfl, _⟩ := H8.out.1.ps.open
  rw [hm] at H8
  rw [hm]
  clear hm
  obtain ⟨w9, hw9⟩ : ∃ w9, w8.alloc (.cells #[.string (strL g1), .string (strL g2), .slice ao8 m cap8] 24) = w9 := ⟨_, rfl⟩
  have HC9 : Hid (Kept [] w8 w9 ∧ w9.heap[w8.heap.size]? = some (.cells #[.string (strL g1), .string (strL g2), .slice ao8 m cap8] 24)) := ⟨by rw [← hw9]; exact Kept.alloc _ _ _, by rw [← hw9]; exact heap_alloc_last _ _⟩
  have HK9 : Hid (Kept [] w7 w9) := H8.out.2.trans HC9.out.1
  have e7 := HK9.out.heap (by simp) HC7.out.2
  have k0 : w9.cell? ⟨w6.heap.size, 0, none⟩ = some (.string (strL g1)) := cell_of_row _ _ 0 _ _ _ e7
  have k1 : w9.cell? ⟨w6.heap.size, 1, none⟩ = some (.string (strL g2)) := cell_of_row _ _ 1 _ _ _ e7
  have k2 : w9.cell? ⟨w6.heap.size, 2, none⟩ = some (.slice ao6 m cap6) := cell_of_row _ _ 2 _ _ _ e7
  have l0 : w9.cell? ⟨w8.heap.size, 0, none⟩ = some (.string (strL g1)) := cell_of_row _ _ 0 _ _ _ HC9.out.2
  have l1 : w9.cell? ⟨w8.heap.size, 1, none⟩ = some (.string (strL g2)) := cell_of_row _ _ 1 _ _ _ HC9.out.2
  have l2 : w9.cell? ⟨w8.heap.size, 2, none⟩ = some (.slice ao8 m cap8) := cell_of_row _ _ 2 _ _ _ HC9.out.2
  have HE7 := Lib.hid e7
  clear e7 hw7 a0 a1 a2
  have HS1 : Hid (Calls Tryd.prog 11 #[.agg #[.string (strL g1), .string (strL g2), .slice ao6 m cap6], .agg #[.string (strL g1), .string (strL g2), .slice ao8 m cap8]] w9 fun e w' => e = .returned (.bool true) ∧ Kept [] w9 w') := by
    have := rssame_any g1 g1 g2 g2 O O _ _ w9 (H6.out.1.ps.kept (HC7.out.1.trans HK9.out)) (H8.out.1.ps.kept HC9.out.1)
    rw [show sameR g1 g1 g2 g2 O O = true from decide_eq_true ⟨rfl, rfl, rfl⟩] at this
    exact this
  go_wp2_with fail
  refine HS1.out.mono ?_
  rintro e wa ⟨rfl, hka⟩
  have HKa : Hid (Kept [] w9 wa) := hka
  clear hka hw9 k0 k1 k2 l0 l1 l2
  have HSP : Hid (SpP wa (.slice ao6 m cap6) m w5.heap.size) := (H6.out.1.kept ((HC7.out.1.trans HK9.out).trans HKa.out)).sp HM.out
  have HGa : Hid (wa.heap[w6.heap.size]? = some (.cells #[.string (strL g1), .string (strL g2), .slice ao6 m cap6] 24)) := HKa.out.heap (by simp) HE7.out
  go_wp2_with fail
  go_loopw [10] (fun i wr => ∃ k : Nat, k ≤ m ∧ i = .int .i64 k ∧ Hid (SpP wr (.slice ao6 m cap6) m w5.heap.size ∧ (∀ q, q < w5.heap.size → wr.heap[q]? = wa.heap[q]?) ∧ wr.heap[w6.heap.size]? = some (.cells #[.string (strL g1), .string (strL g2), .slice ao6 m cap6] 24) ∧ Kept [] w wr)) (fun i _ => m - (intOf i).toNat)
  case atStart => exact ⟨0, by omega, rfl, HSP.out, fun q hq => rfl, HGa.out, ((HA.out.1.trans HK25.out).trans HK7.out).trans (HK9.out.trans HKa.out)⟩
  case round =>
    obtain ⟨k, hk, rfl, HW⟩ := hrel
    have k2 : wr.cell? ⟨w6.heap.size, 2, none⟩ = some (.slice ao6 m cap6) := cell_of_row _ _ 2 _ _ _ HW.out.2.2.1
    by_cases hlt : k < m
    · rcases HW.out.1 with h0 | ⟨g, cp, cur, he, hgb, hgg, hsz⟩
      · omega
      injection he with he _ hcp
      subst he hcp
      have HGG := Lib.hid hgg
      have hne : g ≠ w6.heap.size := fun e => by
        have h1 := HW.out.2.2.1
        rw [← e, hgg] at h1
        injection h1 with h1
        injection h1 with h1 h2 _
        exact absurd h2 (by decide)
      obtain ⟨u, hu⟩ : ∃ u, cur[k * 2 + 1]? = some u := ⟨cur[k * 2 + 1]'(by omega), Array.getElem?_eq_getElem _⟩
      have c1 : wr.cell? ⟨g, k * 2 + 1, none⟩ = some u := by rw [cell_of_row _ _ _ _ _ _ hgg]; exact hu
      have fz : ∀ q, wr.frozen? ⟨g, q, none⟩ = false := fun q => frozen_of_row _ _ q _ _ hgg
      have HN : Hid (SpP (wr.setCell ⟨g, k * 2 + 1, none⟩ (.string ⟨#[115, 112, 111, 105, 108, 116]⟩)) (.slice (some ⟨g, 0, none⟩) m cap6) m w5.heap.size ∧ (∀ q, q < w5.heap.size → (wr.setCell ⟨g, k * 2 + 1, none⟩ (.string ⟨#[115, 112, 111, 105, 108, 116]⟩)).heap[q]? = wa.heap[q]?) ∧
          (wr.setCell ⟨g, k * 2 + 1, none⟩ (.string ⟨#[115, 112, 111, 105, 108, 116]⟩)).heap[w6.heap.size]? = some (.cells #[.string (strL g1), .string (strL g2), .slice (some ⟨g, 0, none⟩) m cap6] 24) ∧ Kept [] w (wr.setCell ⟨g, k * 2 + 1, none⟩ (.string ⟨#[115, 112, 111, 105, 108, 116]⟩))) := by
        have hks : Kept [g] wr (wr.setCell ⟨g, k * 2 + 1, none⟩ (.string ⟨#[115, 112, 111, 105, 108, 116]⟩)) := Kept.setCell _ _ _ _ (by simp)
        refine ⟨.inr ⟨g, cap6, _, rfl, hgb, row_setCell hgg (k * 2 + 1) _, by simpa using hsz⟩, fun q hq => ?_, hks.heap (by simp; exact fun e => hne e.symm) HW.out.2.2.1, HW.out.2.2.2.into hks (by simp; have := (HA.out.1.trans HK25.out).size; omega)⟩
        rw [hks.block q (by have := (Array.getElem?_eq_some_iff.1 hgg).1; omega) (by simp; omega)]
        exact HW.out.2.1 q hq
      clear hgg hu hne
      go_wp2_with fail
      go_roundw
      case rel => exact ⟨k + 1, by omega, by go_num, HN⟩
      case measure => simp [intOf]; omega
    · have hkold : ∀ q o, w5.heap[q]? = some o → wr.heap[q]? = some o := fun q o hq => by
        have hql := (Array.getElem?_eq_some_iff.1 hq).1
        rw [HW.out.2.1 q hql]
        exact (HK7.out.trans (HK9.out.trans HKa.out)).heap (by simp) hq
      have HB9 := Lib.hid (hkold _ _ HB5.out)
      have HA9 := Lib.hid (hkold _ _ ((HK25.out).heap (by simp) HA.out.2))
      have HKo : Hid (Kept [] w5 wr) := by
        have h1 := HW.out.2.2.2
        have h2 := (HA.out.1.trans HK25.out)
        refine ⟨h1.os.trans h2.os.symm, h1.tape.trans h2.tape.symm, h1.output.trans h2.output.symm, ?_, fun q hq _ => ?_⟩
        · have := (Array.getElem?_eq_some_iff.1 HW.out.2.2.1).1
          have := H6.out.2.size
          omega
        · rw [HW.out.2.1 q hq]
          exact (HK7.out.trans (HK9.out.trans HKa.out)).block q hq (by simp)
      have y0 : wr.cell? ⟨w2.heap.size, 0, none⟩ = some (.string (strL t)) := cell_of_row _ _ 0 _ _ _ HB9.out
      have y1 : wr.cell? ⟨w2.heap.size, 1, none⟩ = some (.string (strL ti)) := cell_of_row _ _ 1 _ _ _ HB9.out
      have y2 : wr.cell? ⟨w2.heap.size, 2, none⟩ = some (.slice x1 x2 x3) := cell_of_row _ _ 2 _ _ _ HB9.out
      have a0 : wr.cell? ⟨w.heap.size, 0, none⟩ = some (.string (strL t)) := cell_of_row _ _ 0 _ _ _ HA9.out
      have a1 : wr.cell? ⟨w.heap.size, 1, none⟩ = some (.string (strL ti)) := cell_of_row _ _ 1 _ _ _ HA9.out
      have a2 : wr.cell? ⟨w.heap.size, 2, none⟩ = some (.slice ao len cap) := cell_of_row _ _ 2 _ _ _ HA9.out
      have HS2 : Hid (Calls Tryd.prog 11 #[.agg #[.string (strL t), .string (strL ti), .slice x1 x2 x3], .agg #[.string (strL t), .string (strL ti), .slice ao len cap]] wr fun e w' => e = .returned (.bool true) ∧ Kept [] wr w') := by
        have := rssame_any t t ti ti P P _ _ wr (HPO.out.kept HKo.out) (HP.out.kept HW.out.2.2.2)
        rw [show sameR t t ti ti P P = true from decide_eq_true ⟨rfl, rfl, rfl⟩] at this
        exact this
      go_wp2_with fail
      refine HS2.out.mono ?_
      rintro e wb ⟨rfl, hkb⟩
      have HKb := Lib.hid hkb
      clear hkb y0 y1 y2 a0 a1 a2 k2
      have HCK1 : Hid (∀ w', Kept [] w5 w' → Calls Tryd.prog 12 #[.agg #[.string (strL t), .string (strL ti), .slice x1 x2 x3]] w' fun e w2 => e = .returned (.int .i64 c) ∧ Kept [] w' w2) := fun w' hk => by
        have := scheck_any t ti P _ w' (HPO.out.kept hk) ht hti
        rw [HC.out] at this
        exact this
      have HCK2 : Hid (∀ w', Kept [] w w' → Calls Tryd.prog 13 #[.agg #[.string (strL t), .string (strL ti), .slice ao len cap]] w' fun e w2 => e = .returned (.int .i64 c) ∧ Kept [] w' w2) := fun w' hk => by
        have := rscheck_any t ti P _ w' (HP.out.kept hk) hti
        rw [HC.out] at this
        exact this
      have y0 : ∀ w', Kept [] wb.drew w' → w'.cell? ⟨w2.heap.size, 0, none⟩ = some (.string (strL t)) := fun w' hk => cell_of_row _ _ 0 _ _ _ (((HKb.out.trans (Kept.drew [] _)).trans hk).heap (by simp) HB9.out)
      have y1 : ∀ w', Kept [] wb.drew w' → w'.cell? ⟨w2.heap.size, 1, none⟩ = some (.string (strL ti)) := fun w' hk => cell_of_row _ _ 1 _ _ _ (((HKb.out.trans (Kept.drew [] _)).trans hk).heap (by simp) HB9.out)
      have y2 : ∀ w', Kept [] wb.drew w' → w'.cell? ⟨w2.heap.size, 2, none⟩ = some (.slice x1 x2 x3) := fun w' hk => cell_of_row _ _ 2 _ _ _ (((HKb.out.trans (Kept.drew [] _)).trans hk).heap (by simp) HB9.out)
      have a0 : ∀ w', Kept [] wb.drew w' → w'.cell? ⟨w.heap.size, 0, none⟩ = some (.string (strL t)) := fun w' hk => cell_of_row _ _ 0 _ _ _ (((HKb.out.trans (Kept.drew [] _)).trans hk).heap (by simp) HA9.out)
      have a1 : ∀ w', Kept [] wb.drew w' → w'.cell? ⟨w.heap.size, 1, none⟩ = some (.string (strL ti)) := fun w' hk => cell_of_row _ _ 1 _ _ _ (((HKb.out.trans (Kept.drew [] _)).trans hk).heap (by simp) HA9.out)
      have a2 : ∀ w', Kept [] wb.drew w' → w'.cell? ⟨w.heap.size, 2, none⟩ = some (.slice ao len cap) := fun w' hk => cell_of_row _ _ 2 _ _ _ (((HKb.out.trans (Kept.drew [] _)).trans hk).heap (by simp) HA9.out)
      go_wp2_with fail
      refine wp_region_ord [(true, 0), (true, 1), (true, 2), (true, 3), (true, 4), (true, 5), (true, 6), (true, 7), (true, 8), (true, 9), (true, 10), (true, 11), (true, 12), (true, 13), (true, 15), (false, 14), (false, 16), (true, 17), (true, 18), (true, 19)] [] (by kernel_rfl) (fun _ _ d _ _ h => by cases d <;> exact h) (by kernel_rfl) rfl (by kernel_rfl) (by kernel_rfl) ?_
      simp only [named, List.getD_cons_zero, List.getD_cons_succ]
      repeat (first | (apply wpGrow_take; (case hw => rfl); (case hv => intro w' hk; go_simp; with_reducible rfl); simp only [Act.put, List.setIfInBounds_toArray, List.set_cons_zero, List.set_cons_succ]) | (refine wpGrow_pass (by rfl) ?_; simp only [Act.put, List.setIfInBounds_toArray, List.set_cons_zero, List.set_cons_succ]) | (refine wpGrow_skip (by rfl) ?_; simp only [Act.put, List.setIfInBounds_toArray, List.set_cons_zero, List.set_cons_succ]))
      clear y0 y1 y2 a0 a1 a2
      refine wpGrow_force (by rfl) (fun K hK => ?_)
      go_simp
      refine (HCK1.out _ ((HKo.out.trans HKb.out).trans (Kept.drew [] _))).mono ?_
      rintro e wc ⟨rfl, hkc⟩
      have HKc : Hid (Kept [] w wc) := ((HW.out.2.2.2.trans HKb.out).trans (Kept.drew [] _)).trans hkc
      refine hK _ _ hkc ?_
      clear hK K hkc
      refine wpGrow_force (by rfl) (fun K hK => ?_)
      go_simp
      refine (HCK2.out _ HKc.out).mono ?_
      rintro e wd ⟨rfl, hkd⟩
      have HKd : Hid (Kept [] w wd) := HKc.out.trans hkd
      refine hK _ _ hkd ?_
      clear hK K hkd
      repeat (first | (apply wpGrow_take; (case hw => rfl); (case hv => intro w' hk; go_simp; with_reducible rfl); simp only [Act.put, List.setIfInBounds_toArray, List.set_cons_zero, List.set_cons_succ]) | (refine wpGrow_pass (by rfl) ?_; simp only [Act.put, List.setIfInBounds_toArray, List.set_cons_zero, List.set_cons_succ]) | (refine wpGrow_skip (by rfl) ?_; simp only [Act.put, List.setIfInBounds_toArray, List.set_cons_zero, List.set_cons_succ]))
      refine wpGrow_nil ?_
      go_wp2_with fail
      go_ret
      exact ⟨rfl, HKd.out⟩
end Go.Proofs.YthpfnkanilfohaaDoor

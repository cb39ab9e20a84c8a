/-
  Law 5: rows that are written over (spoil): only the rows' own memory changes.
  Conditions: those that each theorem states.
-/
import Derived.Test.YtdaofgmdledcbaaDoorTRow
import Derived.Laws.OwnMore
namespace Go.Proofs.YtdaofgmdledcbaaDoor
open Go.RowKit Go.Maps

def spoiltS : ByteArray := ⟨#[115, 112, 111, 105, 108, 116]⟩
def Rng (lo hi : Nat) : List Nat := List.range' lo (hi - lo)
theorem mem_rng {lo hi k : Nat} (h : lo ≤ hi) : k ∈ Rng lo hi ↔ lo ≤ k ∧ k < hi := by
  unfold Rng
  rw [List.mem_range'_1]
  omega
structure SpSt (lo hi g n : Nat) (vs : List Value) (w : World) : Prop where
  row : ∃ cur, w.heap[g]? = some (.cells cur 34) ∧ 2 * n ≤ cur.size ∧ ∀ i, i < n → cur[i * 2 + 1]? = vs[i]?
  len : vs.length = n
  glo : lo ≤ g ∧ g < hi
  cells : ∀ v ∈ vs, v = .slice none 0 0 ∨ ∃ q m A, v = .slice (some ⟨q, 0, none⟩) m m ∧ lo ≤ q ∧ q < hi ∧ q ≠ g ∧ w.heap[q]? = some (.cells A 9) ∧ A.size = m ∧ m ≤ 140737488355328
theorem SpSt.key {lo hi g n : Nat} {vs : List Value} {w : World} (h : SpSt lo hi g n vs w) (i : Nat) (u : Value) : SpSt lo hi g n vs (w.setCell ⟨g, i * 2, none⟩ u) := by
  obtain ⟨cur, h1, h2, h3⟩ := h.row
  refine ⟨⟨_, heap_setCell_same _ _ (i * 2) _ _ _ h1, by simpa using h2, fun j hj => ?_⟩, h.len, h.glo, fun v hv => ?_⟩
  · rw [Array.getElem?_setIfInBounds, if_neg (by omega)]
    exact h3 j hj
  · rcases h.cells v hv with e | ⟨q, m, A, e, a1, a2, a3, a4, a5⟩
    · exact .inl e
    · exact .inr ⟨q, m, A, e, a1, a2, a3, by rw [Below.heap_setCell _ _ _ _ (by show q ≠ g; exact a3)]; exact a4, a5⟩
theorem SpSt.cell {lo hi g n : Nat} {vs : List Value} {w : World} (h : SpSt lo hi g n vs w) (q j : Nat) (hq : q ≠ g) (u : Value) : SpSt lo hi g n vs (w.setCell ⟨q, j, none⟩ u) := by
  obtain ⟨cur, h1, h2, h3⟩ := h.row
  refine ⟨⟨cur, by rw [Below.heap_setCell _ _ _ _ (by show g ≠ q; omega)]; exact h1, h2, h3⟩, h.len, h.glo, fun v hv => ?_⟩
  rcases h.cells v hv with e | ⟨q', m, A, e, a1, a2, a3, a4, a5, a6⟩
  · exact .inl e
  · by_cases eq : q' = q
    · subst eq
      exact .inr ⟨q', m, _, e, a1, a2, a3, heap_setCell_same _ _ j _ _ _ a4, by simpa using a5, a6⟩
    · exact .inr ⟨q', m, A, e, a1, a2, a3, by rw [Below.heap_setCell _ _ _ _ (by show q' ≠ q; exact eq)]; exact a4, a5, a6⟩
def SpOk (lo hi : Nat) (ao : Option Addr) (n : Nat) (w : World) : Prop := n = 0 ∨ ∃ g vs, ao = some ⟨g, 0, none⟩ ∧ SpSt lo hi g n vs w

set_option maxRecDepth 100000 in
set_option maxHeartbeats 4000000 in
theorem spoil_any (lo hi : Nat) (hlh : lo ≤ hi) (ao : Option Addr) (n cap : Nat) (w : World) (hn : n ≤ 140737488355328) (h : SpOk lo hi ao n w) :
    Calls Tryd.prog 26 #[.slice ao n cap] w fun e w' => e = .returned (.tuple #[]) ∧ Kept (Rng lo hi) w w' := by
  have H0 := Lib.hid h
  have HLH := Lib.hid hlh
  clear h hlh
  go_enter Tryd.func26, Tryd.ntmps26
  go_wp2_with fail
  go_loopw [2] (fun i wr => ∃ k : Nat, k ≤ n ∧ i = .int .i64 k ∧ Hid (Kept (Rng lo hi) w wr ∧ SpOk lo hi ao n wr)) (fun i _ => n - (intOf i).toNat)
  case atStart => exact ⟨0, by omega, rfl, Kept.refl _ _, H0.out⟩
  case round =>
    clear H0
    obtain ⟨k, hk, rfl, HS⟩ := hrel
    by_cases hlt : k < n
    · obtain ⟨g, vs, hao, hS⟩ : ∃ g vs, ao = some ⟨g, 0, none⟩ ∧ SpSt lo hi g n vs wr := by
        rcases HS.out.2 with h | h
        · omega
        · exact h
      subst hao
      have HSP := Lib.hid hS
      have HKR := Lib.hid HS.out.1
      obtain ⟨cur, hcur, hsz, hodd⟩ := hS.row
      have hkv : k < vs.length := by rw [hS.len]; exact hlt
      have c0 : wr.cell? ⟨g, k * 2, none⟩ = some (cur[k * 2]'(by omega)) := by rw [cell_of_row _ _ (k * 2) _ _ _ hcur]; simp [show k * 2 < cur.size by omega]
      have f0 := frozen_of_row _ _ (k * 2) _ _ hcur
      obtain ⟨z0, hz0⟩ : ∃ z0, cur[k * 2]'(by omega) = z0 := ⟨_, rfl⟩
      rw [hz0] at c0
      clear hz0
      have HG : Hid (g ∈ Rng lo hi) := (mem_rng HLH.out).2 hS.glo
      have hS1 := hS.key k (.string spoiltS)
      have hk1 : Kept (Rng lo hi) w (wr.setCell ⟨g, k * 2, none⟩ (.string spoiltS)) := HKR.out.trans (Kept.setCell _ _ _ _ HG.out)
      obtain ⟨w1, hw1⟩ : ∃ w1, wr.setCell ⟨g, k * 2, none⟩ (.string spoiltS) = w1 := ⟨_, rfl⟩
      rw [hw1] at hS1 hk1
      have hw1' : wr.setCell ⟨g, k * 2, none⟩ (.string { data := #[115, 112, 111, 105, 108, 116] }) = w1 := hw1
      have HS1 := Lib.hid (And.intro hk1 hS1)
      clear hS hcur hsz hodd HS hS1 hk1 hw1
      have HV := HSP.out.cells vs[k] (List.getElem_mem hkv)
      have HOD : Hid (∀ wx, SpSt lo hi g n vs wx → wx.cell? ⟨g, k * 2 + 1, none⟩ = some vs[k]) := fun wx hx => by
        obtain ⟨cur, h1, h2, h3⟩ := hx.row
        rw [cell_of_row _ _ (k * 2 + 1) _ _ _ h1, h3 k hlt]
        simp [hkv]
      obtain ⟨v, hv⟩ : ∃ v, vs[k] = v := ⟨_, rfl⟩
      rw [hv] at HV HOD
      have HVM : Hid (v ∈ vs) := by rw [← hv]; exact List.getElem_mem hkv
      clear hv
      obtain ⟨vo, m, hvv, hm⟩ : ∃ vo m, v = .slice vo m m ∧ m ≤ 140737488355328 := by
        rcases HV with rfl | ⟨q, m, A, rfl, _, _, _, _, _, h6⟩
        · exact ⟨none, 0, rfl, by omega⟩
        · exact ⟨_, m, rfl, h6⟩
      subst hvv
      have HVV := Lib.hid HV
      clear HV
      go_wp2_with fail
      go_loopw [3] (fun i wr => ∃ j : Nat, j ≤ m ∧ i = .int .i64 j ∧ Hid (Kept (Rng lo hi) w wr ∧ SpSt lo hi g n vs wr)) (fun i _ => m - (intOf i).toNat)
      case atStart => exact ⟨0, by omega, rfl, HS1.out⟩
      case round =>
        clear HS1 hw1' c0 f0
        obtain ⟨j, hj, rfl, HI⟩ := hrel
        have o0 := HOD.out wr HI.out.2
        by_cases hjm : j < m
        · obtain ⟨q, A, hvo, hql, hqh, hqg, hqA, hAs⟩ : ∃ q A, vo = some ⟨q, 0, none⟩ ∧ lo ≤ q ∧ q < hi ∧ q ≠ g ∧ wr.heap[q]? = some (.cells A 9) ∧ A.size = m := by
            rcases HI.out.2.cells _ HVM.out with e | ⟨q, m', A, e, a1, a2, a3, a4, a5, _⟩
            · simp at e; omega
            · simp at e
              obtain ⟨e1, e2, _⟩ := e
              exact ⟨q, A, e1, a1, a2, a3, a4, by omega⟩
          subst hvo
          have d0 : wr.cell? ⟨q, j, none⟩ = some (A[j]'(by omega)) := by rw [cell_of_row _ _ j _ _ _ hqA]; simp [show j < A.size by omega]
          have f1 := frozen_of_row _ _ j _ _ hqA
          have HI2 : Hid (Kept (Rng lo hi) w (wr.setCell ⟨q, j, none⟩ (.string spoiltS)) ∧ SpSt lo hi g n vs (wr.setCell ⟨q, j, none⟩ (.string spoiltS))) := ⟨HI.out.1.trans (Kept.setCell _ _ _ _ ((mem_rng HLH.out).2 ⟨hql, hqh⟩)), HI.out.2.cell q j hqg _⟩
          obtain ⟨y, hy⟩ : ∃ y, A[j]'(by omega) = y := ⟨_, rfl⟩
          rw [hy] at d0
          clear hy hqA hAs hql hqh hqg HI
          go_wp2_with fail
          go_roundw
          case rel => exact ⟨j + 1, by omega, by go_num, HI2⟩
          case measure => simp [intOf]; omega
        · have HI2 : Hid (Kept (Rng lo hi) w wr ∧ SpOk lo hi (some ⟨g, 0, none⟩) n wr) := ⟨HI.out.1, .inr ⟨g, vs, rfl, HI.out.2⟩⟩
          clear HI
          go_wp2_with fail
          go_roundw
          case rel => exact ⟨k + 1, by omega, by go_num, HI2⟩
          case measure => simp [intOf]; omega
    · have HK := Lib.hid HS.out.1
      clear HS
      go_wp2_with fail
      exact bodyPost_end (v := .tuple #[]) (results_none rfl _ _ _) rfl ⟨rfl, HK.out⟩
end Go.Proofs.YtdaofgmdledcbaaDoor

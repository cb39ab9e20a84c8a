/-
  Layer 8: sets of numbers, and edges, in memory: rows of bools; a function value that tells of a number whether it fits.
  Conditions: those that each theorem states.
-/
import Derived.Test.YtpdngekolhcndaaGPure
import Derived.Shelf.Abstract
import Derived.BigQuiet
import Derived.Laws.ResultCell
namespace Go.Proofs.Ytpdngekolhcndaa
open Go.RowKit Go.Maps

def blv (Z : List Bool) : List Value := Z.map Value.bool
def blA (Z : List Bool) : Array Value := (blv Z).toArray
theorem blv_length (Z : List Bool) : (blv Z).length = Z.length := by simp [blv]
theorem blA_size (Z : List Bool) : (blA Z).size = Z.length := by simp [blA, blv]
theorem blA_toList (Z : List Bool) : (blA Z).toList = blv Z := by simp [blA]
theorem blv_one (Z : List Bool) : ∀ v ∈ blv Z, v.oneCell' = true := by
  intro v hv
  simp [blv] at hv
  rcases hv with ⟨_, rfl⟩ | ⟨_, rfl⟩ <;> rfl
theorem blA_one (Z : List Bool) : (blA Z).all (·.oneCell') = true := all_oneCell_toArray (blv_one Z)
theorem blA_set (Z : List Bool) (k : Nat) (c : Bool) : (blA Z).setIfInBounds k (.bool c) = blA (Z.set k c) := by
  apply Array.toList_inj.1
  simp [blA, blv, List.map_set]
theorem blA_get (Z : List Bool) (k : Nat) (hk : k < Z.length) : (blA Z)[k]? = some (.bool (Z.getD k false)) := by
  rw [List.getD_eq_getElem?_getD]
  simp [blA, blv, hk]

/-- A set of numbers below 32. -/
def SetIs (w : World) (g : Nat) (S : Nat → Bool) : Prop := ∃ Z : List Bool, w.heap[g]? = some (.cells (blA Z) 40) ∧ Z.length = 32 ∧ ∀ i, i < 32 → Z.getD i false = S i
theorem SetIs.lt {w : World} {g : Nat} {S : Nat → Bool} (h : SetIs w g S) : g < w.heap.size := by
  obtain ⟨Z, h1, _⟩ := h
  exact (Array.getElem?_eq_some_iff.1 h1).1
theorem SetIs.kept {w w' : World} {g : Nat} {S : Nat → Bool} (h : SetIs w g S) {ex : List Nat} (hk : Kept ex w w') (hg : g ∉ ex) : SetIs w' g S := by
  obtain ⟨Z, h1, h2⟩ := h
  exact ⟨Z, hk.heap hg h1, h2⟩
theorem SetIs.cell {w : World} {g : Nat} {S : Nat → Bool} (h : SetIs w g S) {i : Nat} (hi : i < 32) : w.cell? ⟨g, i, none⟩ = some (.bool (S i)) := by
  obtain ⟨Z, h1, h2, h3⟩ := h
  rw [cell_of_row w g i _ _ _ h1, blA_get Z i (by omega), h3 i hi]
def put (S : Nat → Bool) (i : Nat) (b : Bool) : Nat → Bool := fun k => if k = i then b else S k
theorem SetIs.set {w : World} {g : Nat} {S : Nat → Bool} (h : SetIs w g S) (i : Nat) (b : Bool) : SetIs (w.setCell ⟨g, i, none⟩ (.bool b)) g (put S i b) := by
  obtain ⟨Z, h1, h2, h3⟩ := h
  refine ⟨Z.set i b, ?_, by simpa using h2, fun k hk => ?_⟩
  · rw [heap_setCell_same w g i _ _ _ h1, blA_set]
  · unfold put
    rw [List.getD_eq_getElem?_getD]
    by_cases e : k = i
    · subst e
      rw [List.getElem?_set_self (by omega), if_pos rfl]
      rfl
    · rw [List.getElem?_set_ne (fun q => e q.symm), if_neg e, ← List.getD_eq_getElem?_getD]
      exact h3 k hk
/-- Which edges there are between numbers below 32. -/
def LdIs (w : World) (g : Nat) (A : Nat → Nat → Bool) : Prop := ∃ M : List Bool, w.heap[g]? = some (.cells (blA M) 42) ∧ M.length = 1024 ∧ ∀ i j, i < 32 → j < 32 → M.getD (i * 32 + j) false = A i j
theorem LdIs.lt {w : World} {g : Nat} {A : Nat → Nat → Bool} (h : LdIs w g A) : g < w.heap.size := by
  obtain ⟨Z, h1, _⟩ := h
  exact (Array.getElem?_eq_some_iff.1 h1).1
theorem LdIs.kept {w w' : World} {g : Nat} {A : Nat → Nat → Bool} (h : LdIs w g A) {ex : List Nat} (hk : Kept ex w w') (hg : g ∉ ex) : LdIs w' g A := by
  obtain ⟨Z, h1, h2⟩ := h
  exact ⟨Z, hk.heap hg h1, h2⟩
theorem LdIs.cell {w : World} {g : Nat} {A : Nat → Nat → Bool} (h : LdIs w g A) {i j : Nat} (hi : i < 32) (hj : j < 32) : w.cell? ⟨g, i * 32 + j, none⟩ = some (.bool (A i j)) := by
  obtain ⟨Z, h1, h2, h3⟩ := h
  rw [cell_of_row w g _ _ _ _ h1, blA_get Z _ (by omega), h3 i j hi hj]
def put2 (A : Nat → Nat → Bool) (a b : Nat) : Nat → Nat → Bool := fun i j => if i = a ∧ j = b then true else A i j
theorem LdIs.set {w : World} {g : Nat} {A : Nat → Nat → Bool} (h : LdIs w g A) (a b : Nat) (ha : a < 32) (hb : b < 32) : LdIs (w.setCell ⟨g, a * 32 + b, none⟩ (.bool true)) g (put2 A a b) := by
  obtain ⟨Z, h1, h2, h3⟩ := h
  refine ⟨Z.set (a * 32 + b) true, ?_, by simpa using h2, fun i j hi hj => ?_⟩
  · rw [heap_setCell_same w g _ _ _ _ h1, blA_set]
  · unfold put2
    rw [List.getD_eq_getElem?_getD]
    by_cases e : i = a ∧ j = b
    · obtain ⟨rfl, rfl⟩ := e
      rw [List.getElem?_set_self (by omega), if_pos ⟨rfl, rfl⟩]
      rfl
    · rw [List.getElem?_set_ne (by omega), if_neg e, ← List.getD_eq_getElem?_getD]
      exact h3 i j hi hj
theorem size_ged : (Try.prog.info? 42).map (·.size) = some 1024 := by kernel_rfl
theorem zero_set (w : World) : (zeroValue 40).run Try.prog w = .ok (.agg (blA (List.replicate 32 false))) w := by kernel_rfl
theorem zero_ged (w : World) : (zeroValue 42).run Try.prog w = .ok (.agg (blA (List.replicate 1024 false))) w := by kernel_rfl

/-- A whole row is stored, at the operation. -/
theorem wpList_store_vals {P : Program} {ops : Array Oper} {rest : List Oper} {op : Oper} {a : Act} {w : World} {Q : Exit → Act → World → Prop} (hgd : op.guard = none) (ty : TypeId) (x y : Operand) (ho : op.op = .store ty x y)
    (b : Nat) (t : TypeId) (cur A : Array Value) (hx : a.eval x = .pointer (some ⟨b, 0, none⟩)) (hy : a.eval y = .agg A) (hg : w.heap[b]? = some (.cells cur t)) (hl : A.size = cur.size) (h1 : A.all (·.oneCell') = true)
    (hi : (P.info? ty).map (·.size) = some A.size)
    (h : wpList P ops Q rest (a.put op.dst undef) (w.setRow b A)) : wpList P ops Q (op :: rest) a w := by
  refine wpList_plain hgd fun _ hK => ?_
  have h1' : ∀ v ∈ A.toList, v.oneCell' = true := by
    intro v hv
    obtain ⟨i, hi, rfl⟩ := List.getElem_of_mem hv
    have := Array.all_eq_true.1 h1 i (by simpa using hi)
    simpa using this
  have hst : (storeCells ⟨b, 0, none⟩ A.toList 0).run P w = .ok () (w.setRow b A) := by
    rw [run_storeCells_at P b 0 t A.toList 0 cur w hg (by simp; omega) h1', show A.toList.length = cur.toList.length by simp [hl]]
    simp only [Nat.add_zero, Nat.zero_add, List.take_zero, List.nil_append]
    rw [List.drop_of_length_le (by simp), List.append_nil]
  unfold Oper.wp execOp
  cases hq : P.info? ty with
  | none => simp [hq] at hi
  | some i =>
    have hs : A.size = i.size := by simp [hq] at hi; omega
    have : (storeVar ty ⟨b, 0, none⟩ (.agg A)).run P w = .ok () (w.setRow b A) := by
      simp [storeVar, sizeOf, typeInfo, hq, Value.cells, hs, hst]
    simp only [ho, hx, hy, Instr.storeAt, Instr.sureAddr, Sem.run_bind, Sem.run_pure, Result.andThen_ok, this]
    exact hK _ _ h

/-- A function value that tells of numbers below n whether they fit. -/
def FnI (w : World) (v : Value) (n : Nat) (p : Nat → Bool) : Prop :=
  ∃ f cap, v = .func (.func f) #[] cap ∧ Enters Try.prog f ∧ ∀ w', Kept [] w w' → ∀ i : Nat, i < n → Calls Try.prog f (#[.int .i64 i] ++ cap) w' fun e w2 => e = .returned (.bool (p i)) ∧ Kept [] w' w2
theorem FnI.kept {w w' : World} {v : Value} {n : Nat} {p : Nat → Bool} (h : FnI w v n p) (hk : Kept [] w w') : FnI w' v n p := by
  obtain ⟨f, cap, h1, h2, h3⟩ := h
  exact ⟨f, cap, h1, h2, fun w2 hk2 => h3 w2 (hk.trans hk2)⟩

set_option maxRecDepth 100000 in
set_option maxHeartbeats 1000000 in
theorem least_any (n : Nat) (p : Nat → Bool) (v : Value) (w : World) (h : FnI w v n p) (hn : n ≤ 32) :
    Calls Try.prog 17 #[.int .i64 n, v] w fun e w' => e = .returned (.int .i64 (lstI (lst n p))) ∧ Kept [] w w' := by
  obtain ⟨fi, fc, rfl, hE, hcall⟩ := h
  have HCALL := Lib.hid hcall
  have hE2 : ∀ (args : Array Value) (w : World), (callFunc fi args).run Try.prog w = .ok (.enter fi args) w := hE
  clear hcall hE
  go_enter Try.func17, Try.ntmps17
  go_wp2_with fail
  go_loopw [7] (fun i wr => ∃ k : Nat, k ≤ n ∧ i = .int .i64 k ∧ Hid ((∀ j, j < k → p j = false) ∧ Kept [] w wr)) (fun i _ => n - (intOf i).toNat)
  case atStart => exact ⟨0, by omega, rfl, fun j hj => by omega, Kept.refl _ _⟩
  case round =>
    obtain ⟨k, hk, rfl, HS⟩ := hrel
    by_cases hlt : k < n
    · go_wp2_with fail
      refine (HCALL.out wr HS.out.2 k hlt).mono ?_
      cases hp : p k
      · have HP : Hid (∀ j, j < k + 1 → p j = false) := fun j hj => by
          by_cases e : j = k
          · rw [e]; exact hp
          · exact HS.out.1 j (by omega)
        clear hp
        rintro e w2 ⟨rfl, hk2⟩
        have HN : Hid ((∀ j, j < k + 1 → p j = false) ∧ Kept [] w w2) := ⟨HP.out, HS.out.2.trans hk2⟩
        clear hk2
        go_wp2_with fail
        go_roundw
        case rel => exact ⟨k + 1, by omega, by go_num, HN⟩
        case measure => simp [intOf]; omega
      · have HP : Hid (lst n p = some k) := lst_is hlt hp HS.out.1
        clear hp
        rintro e w2 ⟨rfl, hk2⟩
        have HK := Lib.hid (HS.out.2.trans hk2)
        clear hk2
        go_wp2_with fail
        go_ret
        exact ⟨by rw [HP.out]; rfl, HK.out⟩
    · have HP : Hid (lst n p = none) := lst_nil fun j hj => HS.out.1 j (by omega)
      go_wp2_with fail
      go_ret
      exact ⟨by rw [HP.out]; rfl, HS.out.2⟩
end Go.Proofs.Ytpdngekolhcndaa

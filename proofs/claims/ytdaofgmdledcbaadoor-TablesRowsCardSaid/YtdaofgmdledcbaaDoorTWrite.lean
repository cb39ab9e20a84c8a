/-
  Layer 5: the program's writeRows and Print.
  Conditions: those that each theorem states.
-/
import Derived.Test.YtdaofgmdledcbaaDoorTSound
namespace Go.Proofs.YtdaofgmdledcbaaDoor
open Go.RowKit Go.Maps

/-- The text of a row, and of rows. -/
def cellsL (c : List (List UInt8)) : List UInt8 := c.flatMap fun x => 58 :: x
def rowL (r : TRow) : List UInt8 := r.1 ++ (cellsL r.2 ++ [10])
def textL (l : List TRow) : List UInt8 := l.flatMap rowL
theorem cellsL_snoc (c : List (List UInt8)) (k : Nat) (hk : k < c.length) : cellsL (c.take (k + 1)) = cellsL (c.take k) ++ 58 :: c[k] := by
  unfold cellsL
  rw [List.take_succ_eq_append_getElem hk, List.flatMap_append, List.flatMap_cons, List.flatMap_nil, List.append_nil]
theorem textL_snoc (l : List TRow) (k : Nat) (hk : k < l.length) : textL (l.take (k + 1)) = textL (l.take k) ++ rowL l[k] := by
  unfold textL
  rw [List.take_succ_eq_append_getElem hk, List.flatMap_append, List.flatMap_cons, List.flatMap_nil, List.append_nil]
theorem textL_take_le (l : List TRow) (k : Nat) : (textL (l.take k)).length ≤ (textL l).length := by
  have : textL l = textL (l.take k) ++ textL (l.drop k) := by unfold textL; rw [← List.flatMap_append, List.take_append_drop]
  rw [this, List.length_append]; omega
theorem cellsL_take_le (l : List (List UInt8)) (k : Nat) : (cellsL (l.take k)).length ≤ (cellsL l).length := by
  have : cellsL l = cellsL (l.take k) ++ cellsL (l.drop k) := by unfold cellsL; rw [← List.flatMap_append, List.take_append_drop]
  rw [this, List.length_append]; omega

/-- A text is appended to bytes of the call's own. -/
theorem app_text (base : Nat) (w : World) (v : Value) (L p : List UInt8) (hown : OwnB base w v L) (hb : base ≤ w.heap.size) (hl : L.length + p.length ≤ 100000) :
    ∃ v' w', (Builtin.append_ #[25, 9] 25 #[v, .string (strL p)]).run Tryd.prog w = .ok v' w' ∧ OwnB base w' v' (L ++ p) ∧ Kept v.ownBlock.toList w w' := by
  obtain ⟨i, hi, hz, hs, hby⟩ := info_parts elemByte.info
  obtain ⟨v', w', hr, ho, hg, _⟩ := Lib.run_append_own_string (P := Tryd.prog) w base 25 9 25 5 i Tryd.underlying25 Tryd.underlying9 hi hz hs hby v L.length (bv L) hown (strL p) (by rw [strL_size]; unfold maxLen; omega) (by rw [strL_size]; omega) hb
  refine ⟨v', w', hr, ?_, Kept.grown hg (fun k hk => by simp [hk])⟩
  unfold OwnB
  rw [List.length_append, show bv (L ++ p) = bv L ++ bv p by simp [bv]]
  rw [strL_size] at ho
  exact ho
theorem wpList_append_run2 {P : Program} {ops : Array Oper} {rest : List Oper} {o : Oper} {a : Act} {w w' : World} {Q : Exit → Act → World → Prop} (hgd : o.guard = none) (s x : Operand) (t t2 : TypeId)
    (ho : o.op = .call { callee := .builtin .append, args := #[s, x], argTypes := #[t, t2] }) (u v r : Value) (hs : a.eval s = u) (hx : a.eval x = v)
    (hrun : (Builtin.append_ #[t, t2] o.type #[u, v]).run P w = .ok r w') (h : wpList P ops Q rest (a.put o.dst r) w') : wpList P ops Q (o :: rest) a w := by
  refine wpList_plain hgd fun _ hK => ?_
  unfold Oper.wp execOp
  simp only [ho, resolve, invoke, builtin, Sem.run_bind, Sem.run_pure, Result.andThen_ok, List.map_toArray, List.map_cons, List.map_nil, hs, hx, hrun]
  exact hK _ _ h

structure WrSt (w : World) (T : List UInt8) (v : Value) (wr : World) : Prop where
  own : OwnB w.heap.size wr v T
  kept : Kept [] w wr
theorem WrSt.go {w : World} {T : List UInt8} {v : Value} {wr w' : World} (h : WrSt w T v wr) (hk : Kept [] wr w') : WrSt w T v w' := ⟨h.own.kept hk (by simp), h.kept.trans hk⟩
theorem WrSt.app {w : World} {T : List UInt8} {v : Value} {wr : World} (h : WrSt w T v wr) (p : List UInt8) (hl : T.length + p.length ≤ 100000) :
    ∃ v' w', (Builtin.append_ #[25, 9] 25 #[v, .string (strL p)]).run Tryd.prog wr = .ok v' w' ∧ WrSt w (T ++ p) v' w' := by
  obtain ⟨v', w', hr, ho, hk⟩ := app_text w.heap.size wr v T p h.own h.kept.size hl
  exact ⟨v', w', hr, ho, h.kept.into hk fun q hq => (World.ownsRow.lt h.own q (by simpa using hq)).1⟩

set_option maxRecDepth 100000 in
set_option maxHeartbeats 4000000 in
theorem writeRows_any (ao : Option Addr) (len cap : Nat) (l : List TRow) (w : World) (hl : RowsIs w ao len l) (hT : (textL l).length ≤ 100000) :
    Calls Tryd.prog 28 #[.slice ao len cap] w fun e w' => ∃ v, e = .returned v ∧ Hid (OwnB w.heap.size w' v (textL l) ∧ Kept [] w w') := by
  have HL := Lib.hid hl
  have hlen : len ≤ 140737488355328 := by have := hl.bytes; omega
  have HLL := Lib.hid hl.hlen
  have HT := Lib.hid hT
  clear hl hT
  go_enter Tryd.func28, Tryd.ntmps28
  go_wp2_with fail
  go_loopw [3, 10] (fun v i wr => ∃ k : Nat, k ≤ len ∧ i = .int .i64 k ∧ Hid (WrSt w (textL (l.take k)) v wr)) (fun _ i _ => len - (intOf i).toNat)
  case atStart => exact ⟨0, by omega, rfl, ⟨World.ownsRow_nil _ _ _ _, Kept.refl _ _⟩⟩
  case round =>
    obtain ⟨k, hk, rfl, HS⟩ := hrel
    by_cases hlt : k < len
    · obtain ⟨b, o, rfl, hb, hc⟩ := HL.out.cell (by omega)
      have hll : k < l.length := by rw [HLL.out]; exact hlt
      obtain ⟨v, c0, c1, hcv⟩ := hc k hll
      rw [← HS.out.kept.cell (p := ⟨b, o + k * 2, none⟩) hb (by simp)] at c0
      rw [← HS.out.kept.cell (p := ⟨b, o + k * 2 + 1, none⟩) hb (by simp)] at c1
      obtain ⟨p, hp⟩ : ∃ p, l[k].1 = p := ⟨_, rfl⟩
      obtain ⟨cs, hcs⟩ : ∃ cs, l[k].2 = cs := ⟨_, rfl⟩
      have HE : Hid (rowL l[k] = p ++ (cellsL cs ++ [10])) := by show _ = _; rw [← hp, ← hcs]; rfl
      have HB : Hid ((textL (l.take k)).length + (p.length + ((cellsL cs).length + 1)) ≤ 100000) := by
        have h1 := textL_take_le l (k + 1)
        rw [textL_snoc l k hll, HE.out] at h1
        simp only [List.length_append, List.length_singleton] at h1
        have := HT.out
        show _ ≤ _
        omega
      rw [hp] at c0
      rw [hcs] at hcv
      obtain ⟨vao, vcap, rfl, v2, v3, v4, v5⟩ := hcv.open
      have hcl : cs.length ≤ 140737488355328 := by have := hcv.len; omega
      have V5 := Lib.hid v5
      clear hp hc hcs hcv v4 v5
      obtain ⟨T, hTT⟩ : ∃ T, textL (l.take k) = T := ⟨_, rfl⟩
      rw [hTT] at HS HB
      have HTT := Lib.hid hTT
      clear hTT
      have HS1 := Lib.hid (HS.out.go (Kept.alloc [] wr (.cells #[.string (strL p), .slice vao cs.length vcap] 34)))
      have hrr := (heap_alloc_last wr (.cells #[.string (strL p), .slice vao cs.length vcap] 34))
      obtain ⟨v1, w1, hrun, hs1⟩ := HS1.out.app p (by have := HB.out; omega)
      have hkr : w1.cell? ⟨wr.heap.size, 1, none⟩ = some (.slice vao cs.length vcap) := by
        have hne : ∀ q, u3.ownBlock = some q → q < wr.heap.size := fun q hq => (World.ownsRow.lt HS.out.own q hq).2
        obtain ⟨v1', w1', hr', ho', hk'⟩ := app_text w.heap.size _ u3 T p HS1.out.own HS1.out.kept.size (by have := HB.out; omega)
        rw [hr'] at hrun
        injection hrun with e1 e2
        subst e1 e2
        refine cell_of_row _ _ 1 _ _ _ (hk'.heap ?_ hrr)
        intro hm
        have := hne wr.heap.size (by simpa using hm)
        omega
      have HR := Lib.hid hrun
      have HS2 := Lib.hid hs1
      clear hrun hs1 hrr
      go_wp2_with (at_builtin; refine wpList_append_run2 rfl _ _ 25 9 rfl _ _ _ rfl rfl HR.out ?_)
      clear HR HS HS1
      go_loopw [3, 21] (fun v i w9 => ∃ j : Nat, j ≤ cs.length ∧ i = .int .i64 j ∧ Hid (WrSt w (T ++ p ++ cellsL (cs.take j)) v w9)) (fun _ i _ => cs.length - (intOf i).toNat)
      case atStart => exact ⟨0, by omega, rfl, (by have := HS2.out; show WrSt _ _ _ _; simpa [cellsL] using this)⟩
      case round =>
        clear HS2 hkr
        clear w1
        obtain ⟨j, hj, rfl, HI⟩ := hrel
        by_cases hjl : j < cs.length
        · obtain ⟨b2, o2, rfl, hb2, hc2⟩ := V5.out (by omega)
          obtain ⟨x, hx⟩ : ∃ x, cs[j] = x := ⟨_, rfl⟩
          have d0 : wr.cell? ⟨b2, o2 + j, none⟩ = some (.string (strL x)) := by rw [HI.out.kept.cell hb2 (by simp), hc2 j hjl, hx]
          have HX : Hid (cellsL (cs.take (j + 1)) = cellsL (cs.take j) ++ 58 :: x) := by show _ = _; rw [cellsL_snoc cs j hjl, hx]
          have HXL : Hid ((cellsL (cs.take j)).length + 1 + x.length ≤ (cellsL cs).length) := by
            have := cellsL_take_le cs (j + 1)
            rw [HX.out] at this
            simp only [List.length_append, List.length_cons] at this
            show _ ≤ _
            omega
          clear hx hc2
          obtain ⟨v1, w1, hrun1, hs1⟩ := HI.out.app [58] (by have := HB.out; have := HXL.out; simp only [List.length_append, List.length_singleton]; omega)
          obtain ⟨v2', w2, hrun2, hs2⟩ := hs1.app x (by have := HB.out; have := HXL.out; simp only [List.length_append, List.length_singleton]; omega)
          have HR1 := Lib.hid hrun1
          have HR2 := Lib.hid hrun2
          have HI2 : Hid (WrSt w (T ++ p ++ cellsL (cs.take (j + 1))) v2' w2) := by
            show WrSt _ _ _ _
            rw [HX.out]
            simpa [List.append_assoc] using hs2
          clear hrun1 hrun2 hs1 hs2
          go_wp2_with (at_builtin; first | refine wpList_append_run2 rfl _ _ 25 9 rfl _ _ _ rfl rfl HR1.out ?_ | refine wpList_append_run2 rfl _ _ 25 9 rfl _ _ _ rfl rfl HR2.out ?_)
          go_roundw
          case rel => exact ⟨j + 1, by omega, by go_num, HI2⟩
          case measure => simp [intOf]; omega
        · have HJ : Hid (cs.take j = cs) := by show _ = _; exact List.take_of_length_le (by omega)
          obtain ⟨v1, w1, hrun1, hs1⟩ := HI.out.app [10] (by have := HB.out; have := cellsL_take_le cs j; simp only [List.length_append, List.length_singleton]; omega)
          have HR1 := Lib.hid hrun1
          have HI2 : Hid (WrSt w (textL (l.take (k + 1))) v1 w1) := by
            show WrSt _ _ _ _
            rw [textL_snoc l k hll, HE.out, HTT.out]
            rw [HJ.out] at hs1
            simpa [List.append_assoc] using hs1
          clear hrun1 hs1
          go_wp2_with (at_builtin; refine wpList_append_run2 rfl _ _ 25 9 rfl _ _ _ rfl rfl HR1.out ?_)
          go_roundw
          case rel => exact ⟨k + 1, by omega, by go_num, HI2⟩
          case measure => simp [intOf]; omega
    · have HF : Hid (OwnB w.heap.size wr u3 (textL l) ∧ Kept [] w wr) := by
        have := HS.out.own
        rw [List.take_of_length_le (by rw [HLL.out]; omega)] at this
        exact ⟨this, HS.out.kept⟩
      go_wp2_with fail
      go_ret
      exact ⟨_, rfl, HF⟩

/-- What Print answers: the error and the bytes. -/
def printE (t : List UInt8) (l : List TRow) : Int × List UInt8 :=
  if widthI t = 0 then (50, []) else if 32 < l.length then (5, []) else if goodR (widthI t) l = false then (51, []) else if 2432 < (textL l).length then (5, []) else (0, textL l)
/-- What Print leaves. -/
def PrintOut (t : List UInt8) (l : List TRow) (w : World) (e : Ending) (w' : World) : Prop :=
  ∃ v n c, e = .returned (.tuple #[v, .int .i64 n]) ∧ Hid (printE t l = (n, c) ∧ SlIs w' v c ∧ CapOk v ∧ Kept [] w w')
theorem wordB_le {l : List UInt8} {m : Int} (h : wordB l m = true) : (l.length : Int) ≤ m := by
  simp only [wordB, Bool.and_eq_true, decide_eq_true_eq] at h
  exact h.1
theorem cells_len : ∀ (c : List (List UInt8)), (∀ x ∈ c, x.length ≤ 64) → (cellsL c).length ≤ 65 * c.length
  | [], _ => by simp [cellsL]
  | x :: c, h => by
    have e1 := cells_len c fun y hy => h y (by simp [hy])
    have e2 := h x (by simp)
    have e3 : cellsL (x :: c) = 58 :: x ++ cellsL c := rfl
    rw [e3]
    simp only [List.length_append, List.length_cons]
    omega
theorem row_len {n : Int} {r : TRow} (h : rowB n r = true) (hn : n ≤ 3) : (rowL r).length ≤ 228 := by
  simp only [rowB, Bool.and_eq_true, decide_eq_true_eq, List.all_eq_true] at h
  obtain ⟨_, h2, h3, h4⟩ := h
  have h5 := cells_len r.2 fun x hx => by have := wordB_le (h4 x hx); omega
  have h6 := wordB_le h2
  unfold rowL
  simp only [List.length_append, List.length_singleton]
  omega
theorem text_len {n : Int} : ∀ (l : List TRow), (∀ r ∈ l, rowB n r = true) → n ≤ 3 → (textL l).length ≤ 228 * l.length
  | [], _, _ => by simp [textL]
  | r :: l, h, hn => by
    have e1 := text_len l (fun y hy => h y (by simp [hy])) hn
    have e2 := row_len (h r (by simp)) hn
    have e3 : textL (r :: l) = rowL r ++ textL l := rfl
    rw [e3]
    simp only [List.length_append, List.length_cons]
    omega
theorem goodR_mem {n : Int} {l : List TRow} (h : goodR n l = true) : ∀ r ∈ l, rowB n r = true := fun r hr => by
  obtain ⟨i, hi, rfl⟩ := List.getElem_of_mem hr
  exact (of_decide_eq_true h i hi).1

set_option maxRecDepth 100000 in
set_option maxHeartbeats 2000000 in
theorem print_any (t : List UInt8) (ao : Option Addr) (len cap : Nat) (l : List TRow) (w : World) (ht : t.length ≤ 9223372036854775807) (hl : RowsIs w ao len l) :
    Calls Tryd.prog 10 #[.string (strL t), .slice ao len cap] w (PrintOut t l w) := by
  have HL := Lib.hid hl
  have hlen : len ≤ 140737488355328 := by have := hl.bytes; omega
  have HLL := Lib.hid hl.hlen
  clear hl
  obtain ⟨n, hn⟩ : ∃ n, widthI t = n := ⟨_, rfl⟩
  have hnb := widthI_bd t
  rw [hn] at hnb
  have HR : Hid (printE t l = if n = 0 then (50, []) else if 32 < l.length then (5, []) else if goodR n l = false then (51, []) else if 2432 < (textL l).length then (5, []) else (0, textL l)) := by show _ = _; rw [← hn]; rfl
  have HN := Lib.hid hn
  clear hn
  have hcn : CapOk (.slice none 0 0) := ⟨_, _, _, rfl, Nat.le_refl _, by omega⟩
  have HCN := Lib.hid hcn
  clear hcn
  by_cases h0 : n = 0
  · have q0 : (n == 0) = true := by simpa using h0
    have HR2 : Hid (printE t l = (50, [])) := by show _ = _; rw [HR.out, if_pos h0]
    clear h0 HR
    go_enter Tryd.func10, Tryd.ntmps10
    go_wp2_with fail
    refine (width_any t _ ht).mono ?_
    rw [HN.out]
    rintro e w1 ⟨rfl, hk1⟩
    have HK1 := Lib.hid hk1
    clear hk1
    go_wp2_with fail
    go_ret2
    exact ⟨_, _, [], rfl, HR2.out, .inr ⟨rfl, rfl⟩, HCN.out, HK1.out⟩
  · have q0 : (n == 0) = false := by simpa using h0
    by_cases h32 : 32 < len
    · have q1 : (32 : Int) < (len : Int) := by omega
      have HR2 : Hid (printE t l = (5, [])) := by show _ = _; rw [HR.out, if_neg h0, if_pos (by rw [HLL.out]; exact h32)]
      clear h0 HR
      go_enter Tryd.func10, Tryd.ntmps10
      go_wp2_with fail
      refine (width_any t _ ht).mono ?_
      rw [HN.out]
      rintro e w1 ⟨rfl, hk1⟩
      have HK1 := Lib.hid hk1
      clear hk1
      go_wp2_with fail
      go_ret2
      exact ⟨_, _, [], rfl, HR2.out, .inr ⟨rfl, rfl⟩, HCN.out, HK1.out⟩
    · have q1 : ¬ (32 : Int) < (len : Int) := by omega
      cases hg : goodR n l
      · have HG := Lib.hid hg
        have HR2 : Hid (printE t l = (51, [])) := by show _ = _; rw [HR.out, if_neg h0, if_neg (by rw [HLL.out]; exact h32), if_pos hg]
        clear h0 HR hg
        go_enter Tryd.func10, Tryd.ntmps10
        go_wp2_with fail
        refine (width_any t _ ht).mono ?_
        rw [HN.out]
        rintro e w1 ⟨rfl, hk1⟩
        have HK1 := Lib.hid hk1
        clear hk1
        go_wp2_with fail
        refine (soundRows_any ao len cap l n _ (HL.out.kept HK1.out)).mono ?_
        rw [HG.out]
        rintro e w2 ⟨rfl, hk2⟩
        have HK2 := Lib.hid hk2
        clear hk2
        go_wp2_with fail
        go_ret2
        exact ⟨_, _, [], rfl, HR2.out, .inr ⟨rfl, rfl⟩, HCN.out, HK1.out.trans HK2.out⟩
      · have HG := Lib.hid hg
        have HTL : Hid ((textL l).length ≤ 228 * len) := by show _ ≤ _; rw [← HLL.out]; exact text_len l (goodR_mem hg) hnb.2
        have HR2 : Hid (printE t l = if 2432 < (textL l).length then (5, []) else (0, textL l)) := by show _ = _; rw [HR.out, if_neg h0, if_neg (by rw [HLL.out]; exact h32), if_neg (by rw [hg]; simp)]
        clear h0 HR hg
        go_enter Tryd.func10, Tryd.ntmps10
        go_wp2_with fail
        refine (width_any t _ ht).mono ?_
        rw [HN.out]
        rintro e w1 ⟨rfl, hk1⟩
        have HK1 := Lib.hid hk1
        clear hk1
        go_wp2_with fail
        refine (soundRows_any ao len cap l n _ (HL.out.kept HK1.out)).mono ?_
        rw [HG.out]
        rintro e w2 ⟨rfl, hk2⟩
        have HK2 := Lib.hid (HK1.out.trans hk2)
        clear hk2 HK1
        go_wp2_with fail
        refine (writeRows_any ao len cap l _ (HL.out.kept HK2.out) (by have := HTL.out; omega)).mono ?_
        rintro e w3 ⟨v, rfl, HV⟩
        obtain ⟨va, vc, hv, hvc⟩ := OwnB.val HV.out.1
        have HS : Hid (SlIs w3 v (textL l) ∧ CapOk v ∧ Kept [] w w3) := ⟨OwnB.slIs HV.out.1, OwnB.cap HV.out.1, HK2.out.trans HV.out.2⟩
        clear HV
        subst hv
        obtain ⟨T, hT⟩ : ∃ T, textL l = T := ⟨_, rfl⟩
        rw [hT] at HS HR2 HTL
        rw [hT]
        have hTl : T.length ≤ 7296 := by have := HTL.out; omega
        clear hT
        by_cases hbig : 2432 < T.length
        · have q2 : (2432 : Int) < (T.length : Int) := by omega
          have HR3 : Hid (printE t l = (5, [])) := by show _ = _; rw [HR2.out, if_pos hbig]
          go_wp2_with fail
          go_ret2
          exact ⟨_, _, [], rfl, HR3.out, .inr ⟨rfl, rfl⟩, HCN.out, HS.out.2.2⟩
        · have q2 : ¬ (2432 : Int) < (T.length : Int) := by omega
          have HR3 : Hid (printE t l = (0, T)) := by show _ = _; rw [HR2.out, if_neg hbig]
          go_wp2_with fail
          go_ret2
          exact ⟨_, _, T, rfl, HR3.out, HS.out.1, HS.out.2.1, HS.out.2.2⟩
end Go.Proofs.YtdaofgmdledcbaaDoor

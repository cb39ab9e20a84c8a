/-
  Layer 5: the document's Print.
  Conditions: those that each theorem states.
-/
import Derived.Test.YtdaofgmdledcbaaDoorTWrite
import Derived.Test.YtdaofgmdledcbaaDoorTCheckR
namespace Go.Proofs.YtdaofgmdledcbaaDoor
open Go.RowKit Go.Maps

def GoodTo (n : Int) (l : List TRow) (k : Nat) : Prop := ∀ j, (hj : j < l.length) → j < k → rowB n l[j] = true ∧ (0 < j → lessB (l[j - 1]'(by omega)).1 l[j].1 = true)
structure RpSt (w : World) (n : Int) (l : List TRow) (k : Nat) (v : Value) (wr : World) : Prop where
  own : OwnB w.heap.size wr v (textL (l.take k))
  kept : Kept [] w wr
  good : GoodTo n l k
theorem RpSt.len {w : World} {n : Int} {l : List TRow} {k : Nat} {v : Value} {wr : World} (h : RpSt w n l k v wr) (hn : n ≤ 3) : (textL (l.take k)).length ≤ 228 * k := by
  have := text_len (n := n) (l.take k) (fun r hr => by
    obtain ⟨i, hi, rfl⟩ := List.getElem_of_mem hr
    rw [List.length_take] at hi
    rw [List.getElem_take]
    exact (h.good i (by omega) (by omega)).1) hn
  rw [List.length_take] at this
  omega
/-- Bytes that lie in a new block, and a text's bytes, are appended. -/
theorem WrSt.appN {w : World} {T : List UInt8} {v : Value} {wr : World} (h : WrSt w T v wr) (N : List UInt8) (hl : T.length + N.length ≤ 100000) :
    ∃ v' w', (Builtin.append_ #[25, 25] 25 #[v, .slice (some ⟨wr.heap.size, 0, none⟩) N.length N.length]).run Tryd.prog (wr.alloc (.cells (bvA N) 5)) = .ok v' w' ∧ WrSt w (T ++ N) v' w' := by
  obtain ⟨v', w', h1, h2, h3, _⟩ := app_newB w.heap.size wr v T N h.own h.kept.size hl
  exact ⟨v', w', h1, h2, AppB.into h.kept h3 h.own (Nat.le_refl _)⟩
theorem WrSt.appS {w : World} {T : List UInt8} {v : Value} {wr : World} (h : WrSt w T v wr) (p : List UInt8) (hl : T.length + p.length ≤ 100000) (o : Obj) (cap c2 : Nat) (m : Nat × Nat) (ho : o = .cells (bytesRow (strL p) cap) 5 m) :
    ∃ v' w', (Builtin.append_ #[25, 25] 25 #[v, .slice (some ⟨wr.heap.size, 0, none⟩) p.length c2]).run Tryd.prog (wr.alloc o) = .ok v' w' ∧ WrSt w (T ++ p) v' w' := by
  obtain ⟨v', w', h1, h2, h3⟩ := app_str w.heap.size wr v T p h.own h.kept.size hl o cap c2 m ho
  exact ⟨v', w', h1, h2, AppB.into h.kept h3 h.own (Nat.le_refl _)⟩

set_option maxRecDepth 100000 in
set_option maxHeartbeats 8000000 in
theorem rprint_loop (t : List UInt8) (ao : Option Addr) (len cap : Nat) (l : List TRow) (n : Int) (w : World) (hl : RowsIs w ao len l) (hn : widthI t = n) (h0 : n ≠ 0) (h32 : len ≤ 32) :
    Calls Tryd.prog 11 #[.string (strL t), .slice ao len cap] w (PrintOut t l w) := by
  have HL := Lib.hid hl
  have HLL := Lib.hid hl.hlen
  have hn3 : n ≤ 3 := by rw [← hn]; exact (widthI_bd t).2
  clear hl
  have HR : Hid (printE t l = if goodR n l = false then (51, []) else if 2432 < (textL l).length then (5, []) else (0, textL l)) := by
    show _ = _
    unfold printE
    rw [hn, if_neg h0, if_neg (by rw [HLL.out]; omega)]
  have HCK : Hid (∀ r, checkI t r = if rowB n r = true then 0 else 51) := fun r => by
    show _ = _
    unfold checkI
    rw [hn, if_neg h0]
  have HN := Lib.hid hn
  have HCN : Hid (CapOk (.slice none 0 0)) := ⟨_, _, _, rfl, Nat.le_refl _, by omega⟩
  have q0 : (n == 0) = false := by simpa using h0
  have q32 : ¬ (32 : Int) < (len : Int) := by omega
  clear hn h0
  go_enter Tryd.func11, Tryd.ntmps11
  go_wp2_with fail
  refine (rwidth_any t _).mono ?_
  rw [HN.out]
  rintro e w1 ⟨rfl, rfl⟩
  go_wp2_with fail
  go_loopw [6, 7] (fun v i wr => ∃ k : Nat, k ≤ len ∧ i = .int .i64 k ∧ Hid (RpSt w n l k v wr)) (fun _ i _ => len - (intOf i).toNat)
  case atStart => exact ⟨0, by omega, rfl, ⟨World.ownsRow_nil _ _ _ _, Kept.refl _ _, fun j hj h => by omega⟩⟩
  case round =>
    obtain ⟨k, hk, rfl, HS⟩ := hrel
    by_cases hlt : k < len
    · obtain ⟨b, o, rfl, hb, hc⟩ := HL.out.cell (by omega)
      have hll : k < l.length := by rw [HLL.out]; exact hlt
      obtain ⟨cv, c0, c1, hcv⟩ := hc k hll
      obtain ⟨p, hp⟩ : ∃ p, l[k].1 = p := ⟨_, rfl⟩
      obtain ⟨cs, hcs⟩ : ∃ cs, l[k].2 = cs := ⟨_, rfl⟩
      have HE : Hid (l[k] = (p, cs)) := by show _ = _; rw [← hp, ← hcs]
      rw [hp] at c0
      rw [hcs] at hcv
      have HP := Lib.hid hp
      have HPL : Hid (p.length ≤ 140737488355328) := by show _ ≤ _; rw [← hp]; exact HL.out.keys _ (List.getElem_mem hll)
      have HKR := Lib.hid HS.out.kept
      obtain ⟨vao, vcap, rfl, v2, v3, v4, v5⟩ := hcv.open
      have HCV := Lib.hid hcv
      have V5 := Lib.hid v5
      clear hp hcs hcv v4 v5
      have hkd : Kept [] w wr.drew := HKR.out.trans (Kept.drew _ _)
      have ca : ∀ w', Kept [] wr.drew w' → w'.cell? ⟨b, o + k * 2, none⟩ = some (.string (strL p)) := fun w' hk => by rw [(hkd.trans hk).cell hb (by simp)]; exact c0
      have cb : ∀ w', Kept [] wr.drew w' → w'.cell? ⟨b, o + k * 2 + 1, none⟩ = some (.slice vao cs.length vcap) := fun w' hk => by rw [(hkd.trans hk).cell hb (by simp)]; exact c1
      have HC := Lib.hid hc
      clear hc hkd
      have hkI : (k : Int) < (len : Int) := by omega
      cases hg : rowB n (p, cs)
      · have HF : Hid (goodR n l = false) := not_goodR k hll (.inl (by rw [HE.out]; exact hg))
        have HCI : Hid (checkI t (p, cs) = 51) := by show _ = _; rw [HCK.out, hg]; rfl
        clear hg
        go_wp2_with fail
        refine wp_region_ord [(true, 0), (true, 1), (true, 2), (true, 3), (true, 4), (false, 5), (true, 6), (true, 7), (true, 8), (true, 9), (true, 10), (true, 11), (true, 12), (true, 13), (true, 14), (true, 15), (true, 16), (true, 17), (true, 18), (true, 19), (true, 20), (true, 21), (true, 22), (true, 23), (true, 24)] [] (by kernel_rfl) (fun _ _ d _ _ h => by cases d <;> exact h) (by kernel_rfl) rfl (by kernel_rfl) (by kernel_rfl) ?_
        simp only [named, List.getD_cons_zero, List.getD_cons_succ]
        repeat (first | (apply wpGrow_take; (case hw => rfl); (case hv => intro w' hk; go_simp; with_reducible rfl); simp only [Act.put, List.setIfInBounds_toArray, List.set_cons_zero, List.set_cons_succ]) | (refine wpGrow_pass (by rfl) ?_; simp only [Act.put, List.setIfInBounds_toArray, List.set_cons_zero, List.set_cons_succ]) | (refine wpGrow_skip (by rfl) ?_; simp only [Act.put, List.setIfInBounds_toArray, List.set_cons_zero, List.set_cons_succ]))
        refine wpGrow_force (by rfl) (fun K hK => ?_)
        go_simp
        refine (rcheck_any t p _ cs _ HPL.out (HCV.out.kept (HKR.out.trans (Kept.drew _ _)))).mono ?_
        rw [HCI.out]
        rintro e w5 ⟨rfl, hk5⟩
        refine hK _ _ hk5 ?_
        clear hK K
        have HK5 := Lib.hid hk5
        clear hk5 ca cb
        repeat (first | (apply wpGrow_take; (case hw => rfl); (case hv => intro w' hk; go_simp; with_reducible rfl); simp only [Act.put, List.setIfInBounds_toArray, List.set_cons_zero, List.set_cons_succ]) | (refine wpGrow_pass (by rfl) ?_; simp only [Act.put, List.setIfInBounds_toArray, List.set_cons_zero, List.set_cons_succ]) | (refine wpGrow_skip (by rfl) ?_; simp only [Act.put, List.setIfInBounds_toArray, List.set_cons_zero, List.set_cons_succ]))
        refine wpGrow_nil ?_
        go_wp2_with fail
        go_ret2
        exact ⟨_, _, [], rfl, by rw [HR.out, if_pos HF.out], .inr ⟨rfl, rfl⟩, HCN.out, (HKR.out.trans (Kept.drew _ _)).trans HK5.out⟩
      · have HCI : Hid (checkI t (p, cs) = 0) := by show _ = _; rw [HCK.out, hg]; rfl
        have HGB := Lib.hid hg
        obtain ⟨T, hT⟩ : ∃ T, textL (l.take k) = T := ⟨_, rfl⟩
        have HTT : Hid (textL (l.take (k + 1)) = T ++ (p ++ (cellsL cs ++ [10]))) := by
          show _ = _
          rw [textL_snoc l k hll, HE.out, hT]
          rfl
        have HTL : Hid (T.length + (p.length + ((cellsL cs).length + 1)) ≤ 8000) := by
          have h1 := HS.out.len hn3
          have h2 := row_len hg hn3
          rw [hT] at h1
          unfold rowL at h2
          simp only [List.length_append, List.length_singleton] at h2
          show _ ≤ _
          omega
        have HOW : Hid (OwnB w.heap.size wr u6 T) := by have := HS.out.own; rw [hT] at this; exact this
        clear hT hg
        by_cases h0 : k = 0
        · have d3 : decide (0 < k) = false := decide_eq_false (by omega)
          have HGD : Hid (GoodTo n l (k + 1)) := fun j hj hjk => by
            have e : j = k := by omega
            subst e
            exact ⟨by rw [HE.out]; exact HGB.out, fun h => by omega⟩
          clear h0 HS
          go_wp2_with fail
          refine wp_region_ord [(true, 0), (true, 1), (true, 2), (true, 3), (true, 4), (false, 5), (true, 6), (true, 7), (true, 8), (true, 9), (true, 10), (true, 11), (true, 12), (true, 13), (true, 14), (true, 15), (true, 16), (true, 17), (true, 18), (true, 19), (true, 20), (true, 21), (true, 22), (true, 23), (true, 24)] [] (by kernel_rfl) (fun _ _ d _ _ h => by cases d <;> exact h) (by kernel_rfl) rfl (by kernel_rfl) (by kernel_rfl) ?_
          simp only [named, List.getD_cons_zero, List.getD_cons_succ]
          repeat (first | (apply wpGrow_take; (case hw => rfl); (case hv => intro w' hk; go_simp; with_reducible rfl); simp only [Act.put, List.setIfInBounds_toArray, List.set_cons_zero, List.set_cons_succ]) | (refine wpGrow_pass (by rfl) ?_; simp only [Act.put, List.setIfInBounds_toArray, List.set_cons_zero, List.set_cons_succ]) | (refine wpGrow_skip (by rfl) ?_; simp only [Act.put, List.setIfInBounds_toArray, List.set_cons_zero, List.set_cons_succ]))
          refine wpGrow_force (by rfl) (fun K hK => ?_)
          go_simp
          refine (rcheck_any t p _ cs _ HPL.out (HCV.out.kept (HKR.out.trans (Kept.drew _ _)))).mono ?_
          rw [HCI.out]
          rintro e w5 ⟨rfl, hk5⟩
          refine hK _ _ hk5 ?_
          have HK5 := Lib.hid hk5
          clear hK K
          have y0 := fun w' (h : Kept [] w5 w') => ca w' (hk5.trans h)
          have y1 := fun w' (h : Kept [] w5 w') => cb w' (hk5.trans h)
          clear hk5
          repeat (first | (apply wpGrow_take; (case hw => rfl); (case hv => intro w' hk; go_simp; with_reducible rfl); simp only [Act.put, List.setIfInBounds_toArray, List.set_cons_zero, List.set_cons_succ]) | (refine wpGrow_pass (by rfl) ?_; simp only [Act.put, List.setIfInBounds_toArray, List.set_cons_zero, List.set_cons_succ]) | (refine wpGrow_skip (by rfl) ?_; simp only [Act.put, List.setIfInBounds_toArray, List.set_cons_zero, List.set_cons_succ]))
          refine wpGrow_nil ?_
          clear ca cb y0 y1
          have HK6 : Hid (Kept [] w w5) := (HKR.out.trans (Kept.drew _ _)).trans HK5.out
          have HS5 : Hid (WrSt w T u6 w5) := ⟨HOW.out.kept ((Kept.drew _ _).trans HK5.out) (by simp), HK6.out⟩
          have x0 : w5.cell? ⟨b, o + k * 2, none⟩ = some (.string (strL p)) := by rw [HK6.out.cell hb (by simp)]; exact c0
          have hsp : (strL p).size = p.length := strL_size p
          have hcv := run_bytes_of_string (P := Tryd.prog) w5 9 25 5 (strL p) Tryd.underlying9 Tryd.underlying25 Tryd.underlying5
          generalize grownCap w5 (strL p).size 0 5 = gc at hcv
          generalize hob : Obj.cells (bytesRow (strL p) gc) 5 _ = ob at hcv
          obtain ⟨v6, w7, hrun6, hs7⟩ := (HS5.out.go (Kept.drew _ _)).appS p (by have := HTL.out; omega) ob gc gc _ hob.symm
          obtain ⟨w6, hw6⟩ : ∃ w6, w5.drew.alloc ob = w6 := ⟨_, rfl⟩
          rw [hw6] at hrun6 hcv
          rw [hsp] at hcv
          have HRUN := Lib.hid hrun6
          have HS7 := Lib.hid hs7
          clear hrun6 hs7 hw6 hob
          go_wp2_with (at_builtin; refine wpList_append_run rfl _ _ 25 rfl _ _ _ rfl rfl HRUN.out ?_)
          clear hcv HRUN x0 HS5 HK6 HK5
          clear w6
          go_loopw [6, 8] (fun v i w9 => ∃ j : Nat, j ≤ cs.length ∧ i = .int .i64 j ∧ Hid (WrSt w (T ++ p ++ cellsL (cs.take j)) v w9)) (fun _ i _ => cs.length - (intOf i).toNat)
          case atStart => exact ⟨0, by omega, rfl, (by have := HS7.out; show WrSt _ _ _ _; simpa [cellsL] using this)⟩
          case round =>
            clear HS7
            obtain ⟨j, hj, rfl, HI⟩ := hrel
            have y1 : wr.cell? ⟨b, o + k * 2 + 1, none⟩ = some (.slice vao cs.length vcap) := by rw [HI.out.kept.cell hb (by simp)]; exact c1
            by_cases hjl : j < cs.length
            · obtain ⟨b2, o2, rfl, hb2, hc2⟩ := V5.out (by omega)
              obtain ⟨x, hx⟩ : ∃ x, cs[j] = x := ⟨_, rfl⟩
              have HX : Hid (cellsL (cs.take (j + 1)) = cellsL (cs.take j) ++ 58 :: x) := by show _ = _; rw [cellsL_snoc cs j hjl, hx]
              have HXL : Hid ((cellsL (cs.take j)).length + 1 + x.length ≤ (cellsL cs).length) := by
                have := cellsL_take_le cs (j + 1)
                rw [HX.out] at this
                simp only [List.length_append, List.length_cons] at this
                show _ ≤ _
                omega
              have HD2 : Hid (∀ w', Kept [] w w' → w'.cell? ⟨b2, o2 + j, none⟩ = some (.string (strL x))) := fun w' hk => by rw [hk.cell hb2 (by simp), hc2 j hjl, hx]
              clear hx hc2
              obtain ⟨v1, w1, hrun1, hs1⟩ := HI.out.appN [58] (by have := HTL.out; have := HXL.out; simp only [List.length_append, List.length_singleton]; omega)
              have x0 : w1.cell? ⟨b2, o2 + j, none⟩ = some (.string (strL x)) := HD2.out w1 hs1.kept
              have x1 : w1.cell? ⟨b, o + k * 2 + 1, none⟩ = some (.slice (some ⟨b2, o2, none⟩) cs.length vcap) := by rw [hs1.kept.cell hb (by simp)]; exact c1
              have hsx : (strL x).size = x.length := strL_size x
              have hcv := run_bytes_of_string (P := Tryd.prog) w1 9 25 5 (strL x) Tryd.underlying9 Tryd.underlying25 Tryd.underlying5
              generalize grownCap w1 (strL x).size 0 5 = gc at hcv
              generalize hob : Obj.cells (bytesRow (strL x) gc) 5 _ = ob at hcv
              obtain ⟨v6, w7, hrun6, hs7⟩ := (hs1.go (Kept.drew _ _)).appS x (by have := HTL.out; have := HXL.out; simp only [List.length_append, List.length_singleton]; omega) ob gc gc _ hob.symm
              obtain ⟨w6, hw6⟩ : ∃ w6, w1.drew.alloc ob = w6 := ⟨_, rfl⟩
              rw [hw6] at hrun6 hcv
              rw [hsx] at hcv
              have e58 : bvA [58] = #[.int .u8 58] := rfl
              rw [e58] at hrun1
              have HR1 := Lib.hid hrun1
              have HR2 := Lib.hid hrun6
              have HI2 : Hid (WrSt w (T ++ p ++ cellsL (cs.take (j + 1))) v6 w7) := by
                show WrSt _ _ _ _
                rw [HX.out]
                simpa [List.append_assoc] using hs7
              clear hrun1 hrun6 hs1 hs7 hw6 hob e58 HD2
              go_wp2_with (at_builtin; first | refine wpList_append_run rfl _ _ 25 rfl _ _ _ rfl rfl HR1.out ?_ | refine wpList_append_run rfl _ _ 25 rfl _ _ _ rfl rfl HR2.out ?_)
              go_roundw
              case rel => exact ⟨j + 1, by omega, by go_num, HI2⟩
              case measure => simp [intOf]; omega
            · have HJ : Hid (cs.take j = cs) := by show _ = _; exact List.take_of_length_le (by omega)
              obtain ⟨v1, w1, hrun1, hs1⟩ := HI.out.appN [10] (by have := HTL.out; have := cellsL_take_le cs j; simp only [List.length_append, List.length_singleton]; omega)
              have e10 : bvA [10] = #[.int .u8 10] := rfl
              rw [e10] at hrun1
              have HR1 := Lib.hid hrun1
              have HI2 : Hid (RpSt w n l (k + 1) v1 w1) := by
                refine ⟨?_, hs1.kept, HGD.out⟩
                have h1 := hs1.own
                rw [HJ.out] at h1
                rw [HTT.out]
                simpa [List.append_assoc] using h1
              clear hrun1 hs1 e10
              go_wp2_with (at_builtin; refine wpList_append_run rfl _ _ 25 rfl _ _ _ rfl rfl HR1.out ?_)
              go_roundw
              case rel => exact ⟨k + 1, by omega, by go_num, HI2⟩
              case measure => simp [intOf]; omega
        · obtain ⟨q, hq⟩ : ∃ q, k = q + 1 := ⟨k - 1, by omega⟩
          have hql : q < l.length := by omega
          obtain ⟨-, c3, -, -⟩ := HC.out q hql
          obtain ⟨p2, hp2⟩ : ∃ p2, l[q].1 = p2 := ⟨_, rfl⟩
          rw [hp2] at c3
          have hp2' : (l[k - 1]'(Nat.lt_of_le_of_lt (Nat.sub_le _ _) hll)).1 = p2 := by
            rw [← hp2]
            congr 2
            omega
          have HP2 := Lib.hid hp2'
          have cc : ∀ w', Kept [] wr.drew w' → w'.cell? ⟨b, o + q * 2, none⟩ = some (.string (strL p2)) := fun w' hk => by rw [((HKR.out.trans (Kept.drew _ _)).trans hk).cell hb (by simp)]; exact c3
          clear hp2 hp2' c3
          have d3 : decide (0 < k) = true := decide_eq_true (by omega)
          have wq1 : IntKind.i64.wrap ((k : Int) - 1) = (q : Int) := by rw [IntKind.wrap_i64]; omega
          have hqlt : q < len := by omega
          have hqI : (q : Int) < (len : Int) := by omega
          have HTRI := Lib.hid (less_tri p2 p)
          clear h0 hq hql
          cases hs : lessB p2 p
          · have HF : Hid (goodR n l = false) := not_goodR k hll (.inr ⟨by have := of_decide_eq_true d3; omega, by rw [HP.out, HP2.out]; exact hs⟩)
            have ht := HTRI.out
            rw [hs] at ht
            clear hs
            by_cases he : p = p2
            · have s1 : ((strL p).toList == (strL p2).toList) = true := by rw [strL_bytes, strL_bytes]; simpa using he
              clear ht he
              go_wp2_with fail
              refine wp_region_ord [(true, 0), (true, 1), (true, 2), (true, 3), (true, 4), (false, 5), (true, 6), (true, 7), (true, 8), (true, 9), (true, 10), (true, 11), (true, 12), (true, 13), (true, 14), (true, 15), (true, 16), (true, 17), (true, 18), (true, 19), (true, 20), (true, 21), (true, 22), (true, 23), (true, 24)] [] (by kernel_rfl) (fun _ _ d _ _ h => by cases d <;> exact h) (by kernel_rfl) rfl (by kernel_rfl) (by kernel_rfl) ?_
              simp only [named, List.getD_cons_zero, List.getD_cons_succ]
              repeat (first | (apply wpGrow_take; (case hw => rfl); (case hv => intro w' hk; go_simp; with_reducible rfl); simp only [Act.put, List.setIfInBounds_toArray, List.set_cons_zero, List.set_cons_succ]) | (refine wpGrow_pass (by rfl) ?_; simp only [Act.put, List.setIfInBounds_toArray, List.set_cons_zero, List.set_cons_succ]) | (refine wpGrow_skip (by rfl) ?_; simp only [Act.put, List.setIfInBounds_toArray, List.set_cons_zero, List.set_cons_succ]))
              refine wpGrow_force (by rfl) (fun K hK => ?_)
              go_simp
              refine (rcheck_any t p _ cs _ HPL.out (HCV.out.kept (HKR.out.trans (Kept.drew _ _)))).mono ?_
              rw [HCI.out]
              rintro e w5 ⟨rfl, hk5⟩
              refine hK _ _ hk5 ?_
              have HK5 := Lib.hid hk5
              clear hK K
              have y0 := fun w' (h : Kept [] w5 w') => ca w' (hk5.trans h)
              have y1 := fun w' (h : Kept [] w5 w') => cb w' (hk5.trans h)
              have y2 := fun w' (h : Kept [] w5 w') => cc w' (hk5.trans h)
              clear hk5
              repeat (first | (apply wpGrow_take; (case hw => rfl); (case hv => intro w' hk; go_simp; with_reducible rfl); simp only [Act.put, List.setIfInBounds_toArray, List.set_cons_zero, List.set_cons_succ]) | (refine wpGrow_pass (by rfl) ?_; simp only [Act.put, List.setIfInBounds_toArray, List.set_cons_zero, List.set_cons_succ]) | (refine wpGrow_skip (by rfl) ?_; simp only [Act.put, List.setIfInBounds_toArray, List.set_cons_zero, List.set_cons_succ]))
              refine wpGrow_nil ?_
              clear ca cb cc y0 y1 y2
              go_wp2_with fail
              go_ret2
              exact ⟨_, _, [], rfl, by rw [HR.out, if_pos HF.out], .inr ⟨rfl, rfl⟩, HCN.out, (HKR.out.trans (Kept.drew _ _)).trans HK5.out⟩
            · have s1 : Op.bytesLess (strL p).toList (strL p2).toList = true := by
                rw [strL_bytes, strL_bytes]
                simpa [he, lessB] using ht
              clear ht he
              go_wp2_with fail
              refine wp_region_ord [(true, 0), (true, 1), (true, 2), (true, 3), (true, 4), (false, 5), (true, 6), (true, 7), (true, 8), (true, 9), (true, 10), (true, 11), (true, 12), (true, 13), (true, 14), (true, 15), (true, 16), (true, 17), (true, 18), (true, 19), (true, 20), (true, 21), (true, 22), (true, 23), (true, 24)] [] (by kernel_rfl) (fun _ _ d _ _ h => by cases d <;> exact h) (by kernel_rfl) rfl (by kernel_rfl) (by kernel_rfl) ?_
              simp only [named, List.getD_cons_zero, List.getD_cons_succ]
              repeat (first | (apply wpGrow_take; (case hw => rfl); (case hv => intro w' hk; go_simp; with_reducible rfl); simp only [Act.put, List.setIfInBounds_toArray, List.set_cons_zero, List.set_cons_succ]) | (refine wpGrow_pass (by rfl) ?_; simp only [Act.put, List.setIfInBounds_toArray, List.set_cons_zero, List.set_cons_succ]) | (refine wpGrow_skip (by rfl) ?_; simp only [Act.put, List.setIfInBounds_toArray, List.set_cons_zero, List.set_cons_succ]))
              refine wpGrow_force (by rfl) (fun K hK => ?_)
              go_simp
              refine (rcheck_any t p _ cs _ HPL.out (HCV.out.kept (HKR.out.trans (Kept.drew _ _)))).mono ?_
              rw [HCI.out]
              rintro e w5 ⟨rfl, hk5⟩
              refine hK _ _ hk5 ?_
              have HK5 := Lib.hid hk5
              clear hK K
              have y0 := fun w' (h : Kept [] w5 w') => ca w' (hk5.trans h)
              have y1 := fun w' (h : Kept [] w5 w') => cb w' (hk5.trans h)
              have y2 := fun w' (h : Kept [] w5 w') => cc w' (hk5.trans h)
              clear hk5
              repeat (first | (apply wpGrow_take; (case hw => rfl); (case hv => intro w' hk; go_simp; with_reducible rfl); simp only [Act.put, List.setIfInBounds_toArray, List.set_cons_zero, List.set_cons_succ]) | (refine wpGrow_pass (by rfl) ?_; simp only [Act.put, List.setIfInBounds_toArray, List.set_cons_zero, List.set_cons_succ]) | (refine wpGrow_skip (by rfl) ?_; simp only [Act.put, List.setIfInBounds_toArray, List.set_cons_zero, List.set_cons_succ]))
              refine wpGrow_nil ?_
              clear ca cb cc y0 y1 y2
              go_wp2_with fail
              go_ret2
              exact ⟨_, _, [], rfl, by rw [HR.out, if_pos HF.out], .inr ⟨rfl, rfl⟩, HCN.out, (HKR.out.trans (Kept.drew _ _)).trans HK5.out⟩
          · have HGD : Hid (GoodTo n l (k + 1)) := fun j hj hjk => by
              by_cases e : j = k
              · subst e
                refine ⟨by rw [HE.out]; exact HGB.out, fun _ => ?_⟩
                rw [HP.out, HP2.out]
                exact hs
              · exact HS.out.good j hj (by omega)
            have ht := HTRI.out
            rw [hs] at ht
            have s1 : ((strL p).toList == (strL p2).toList) = false := by
              rw [strL_bytes, strL_bytes]
              by_cases he : p = p2
              · simp [he] at ht
              · simpa using he
            have s2 : Op.bytesLess (strL p).toList (strL p2).toList = false := by
              rw [strL_bytes, strL_bytes]
              cases hx : Op.bytesLess p p2
              · rfl
              · simp [lessB, hx] at ht
            clear hs ht HS
            go_wp2_with fail
            refine wp_region_ord [(true, 0), (true, 1), (true, 2), (true, 3), (true, 4), (false, 5), (true, 6), (true, 7), (true, 8), (true, 9), (true, 10), (true, 11), (true, 12), (true, 13), (true, 14), (true, 15), (true, 16), (true, 17), (true, 18), (true, 19), (true, 20), (true, 21), (true, 22), (true, 23), (true, 24)] [] (by kernel_rfl) (fun _ _ d _ _ h => by cases d <;> exact h) (by kernel_rfl) rfl (by kernel_rfl) (by kernel_rfl) ?_
            simp only [named, List.getD_cons_zero, List.getD_cons_succ]
            repeat (first | (apply wpGrow_take; (case hw => rfl); (case hv => intro w' hk; go_simp; with_reducible rfl); simp only [Act.put, List.setIfInBounds_toArray, List.set_cons_zero, List.set_cons_succ]) | (refine wpGrow_pass (by rfl) ?_; simp only [Act.put, List.setIfInBounds_toArray, List.set_cons_zero, List.set_cons_succ]) | (refine wpGrow_skip (by rfl) ?_; simp only [Act.put, List.setIfInBounds_toArray, List.set_cons_zero, List.set_cons_succ]))
            refine wpGrow_force (by rfl) (fun K hK => ?_)
            go_simp
            refine (rcheck_any t p _ cs _ HPL.out (HCV.out.kept (HKR.out.trans (Kept.drew _ _)))).mono ?_
            rw [HCI.out]
            rintro e w5 ⟨rfl, hk5⟩
            refine hK _ _ hk5 ?_
            have HK5 := Lib.hid hk5
            clear hK K
            have y0 := fun w' (h : Kept [] w5 w') => ca w' (hk5.trans h)
            have y1 := fun w' (h : Kept [] w5 w') => cb w' (hk5.trans h)
            have y2 := fun w' (h : Kept [] w5 w') => cc w' (hk5.trans h)
            clear hk5
            repeat (first | (apply wpGrow_take; (case hw => rfl); (case hv => intro w' hk; go_simp; with_reducible rfl); simp only [Act.put, List.setIfInBounds_toArray, List.set_cons_zero, List.set_cons_succ]) | (refine wpGrow_pass (by rfl) ?_; simp only [Act.put, List.setIfInBounds_toArray, List.set_cons_zero, List.set_cons_succ]) | (refine wpGrow_skip (by rfl) ?_; simp only [Act.put, List.setIfInBounds_toArray, List.set_cons_zero, List.set_cons_succ]))
            refine wpGrow_nil ?_
            clear ca cb cc y0 y1 y2
            have HK6 : Hid (Kept [] w w5) := (HKR.out.trans (Kept.drew _ _)).trans HK5.out
            have HS5 : Hid (WrSt w T u6 w5) := ⟨HOW.out.kept ((Kept.drew _ _).trans HK5.out) (by simp), HK6.out⟩
            have x0 : w5.cell? ⟨b, o + k * 2, none⟩ = some (.string (strL p)) := by rw [HK6.out.cell hb (by simp)]; exact c0
            have hsp : (strL p).size = p.length := strL_size p
            have hcv := run_bytes_of_string (P := Tryd.prog) w5 9 25 5 (strL p) Tryd.underlying9 Tryd.underlying25 Tryd.underlying5
            generalize grownCap w5 (strL p).size 0 5 = gc at hcv
            generalize hob : Obj.cells (bytesRow (strL p) gc) 5 _ = ob at hcv
            obtain ⟨v6, w7, hrun6, hs7⟩ := (HS5.out.go (Kept.drew _ _)).appS p (by have := HTL.out; omega) ob gc gc _ hob.symm
            obtain ⟨w6, hw6⟩ : ∃ w6, w5.drew.alloc ob = w6 := ⟨_, rfl⟩
            rw [hw6] at hrun6 hcv
            rw [hsp] at hcv
            have HRUN := Lib.hid hrun6
            have HS7 := Lib.hid hs7
            clear hrun6 hs7 hw6 hob
            go_wp2_with (at_builtin; refine wpList_append_run rfl _ _ 25 rfl _ _ _ rfl rfl HRUN.out ?_)
            clear hcv HRUN x0 HS5 HK6 HK5
            clear w6
            go_loopw [6, 8] (fun v i w9 => ∃ j : Nat, j ≤ cs.length ∧ i = .int .i64 j ∧ Hid (WrSt w (T ++ p ++ cellsL (cs.take j)) v w9)) (fun _ i _ => cs.length - (intOf i).toNat)
            case atStart => exact ⟨0, by omega, rfl, (by have := HS7.out; show WrSt _ _ _ _; simpa [cellsL] using this)⟩
            case round =>
              clear HS7
              obtain ⟨j, hj, rfl, HI⟩ := hrel
              have y1 : wr.cell? ⟨b, o + k * 2 + 1, none⟩ = some (.slice vao cs.length vcap) := by rw [HI.out.kept.cell hb (by simp)]; exact c1
              by_cases hjl : j < cs.length
              · obtain ⟨b2, o2, rfl, hb2, hc2⟩ := V5.out (by omega)
                obtain ⟨x, hx⟩ : ∃ x, cs[j] = x := ⟨_, rfl⟩
                have HX : Hid (cellsL (cs.take (j + 1)) = cellsL (cs.take j) ++ 58 :: x) := by show _ = _; rw [cellsL_snoc cs j hjl, hx]
                have HXL : Hid ((cellsL (cs.take j)).length + 1 + x.length ≤ (cellsL cs).length) := by
                  have := cellsL_take_le cs (j + 1)
                  rw [HX.out] at this
                  simp only [List.length_append, List.length_cons] at this
                  show _ ≤ _
                  omega
                have HD2 : Hid (∀ w', Kept [] w w' → w'.cell? ⟨b2, o2 + j, none⟩ = some (.string (strL x))) := fun w' hk => by rw [hk.cell hb2 (by simp), hc2 j hjl, hx]
                clear hx hc2
                obtain ⟨v1, w1, hrun1, hs1⟩ := HI.out.appN [58] (by have := HTL.out; have := HXL.out; simp only [List.length_append, List.length_singleton]; omega)
                have x0 : w1.cell? ⟨b2, o2 + j, none⟩ = some (.string (strL x)) := HD2.out w1 hs1.kept
                have x1 : w1.cell? ⟨b, o + k * 2 + 1, none⟩ = some (.slice (some ⟨b2, o2, none⟩) cs.length vcap) := by rw [hs1.kept.cell hb (by simp)]; exact c1
                have hsx : (strL x).size = x.length := strL_size x
                have hcv := run_bytes_of_string (P := Tryd.prog) w1 9 25 5 (strL x) Tryd.underlying9 Tryd.underlying25 Tryd.underlying5
                generalize grownCap w1 (strL x).size 0 5 = gc at hcv
                generalize hob : Obj.cells (bytesRow (strL x) gc) 5 _ = ob at hcv
                obtain ⟨v6, w7, hrun6, hs7⟩ := (hs1.go (Kept.drew _ _)).appS x (by have := HTL.out; have := HXL.out; simp only [List.length_append, List.length_singleton]; omega) ob gc gc _ hob.symm
                obtain ⟨w6, hw6⟩ : ∃ w6, w1.drew.alloc ob = w6 := ⟨_, rfl⟩
                rw [hw6] at hrun6 hcv
                rw [hsx] at hcv
                have e58 : bvA [58] = #[.int .u8 58] := rfl
                rw [e58] at hrun1
                have HR1 := Lib.hid hrun1
                have HR2 := Lib.hid hrun6
                have HI2 : Hid (WrSt w (T ++ p ++ cellsL (cs.take (j + 1))) v6 w7) := by
                  show WrSt _ _ _ _
                  rw [HX.out]
                  simpa [List.append_assoc] using hs7
                clear hrun1 hrun6 hs1 hs7 hw6 hob e58 HD2
                go_wp2_with (at_builtin; first | refine wpList_append_run rfl _ _ 25 rfl _ _ _ rfl rfl HR1.out ?_ | refine wpList_append_run rfl _ _ 25 rfl _ _ _ rfl rfl HR2.out ?_)
                go_roundw
                case rel => exact ⟨j + 1, by omega, by go_num, HI2⟩
                case measure => simp [intOf]; omega
              · have HJ : Hid (cs.take j = cs) := by show _ = _; exact List.take_of_length_le (by omega)
                obtain ⟨v1, w1, hrun1, hs1⟩ := HI.out.appN [10] (by have := HTL.out; have := cellsL_take_le cs j; simp only [List.length_append, List.length_singleton]; omega)
                have e10 : bvA [10] = #[.int .u8 10] := rfl
                rw [e10] at hrun1
                have HR1 := Lib.hid hrun1
                have HI2 : Hid (RpSt w n l (k + 1) v1 w1) := by
                  refine ⟨?_, hs1.kept, HGD.out⟩
                  have h1 := hs1.own
                  rw [HJ.out] at h1
                  rw [HTT.out]
                  simpa [List.append_assoc] using h1
                clear hrun1 hs1 e10
                go_wp2_with (at_builtin; refine wpList_append_run rfl _ _ 25 rfl _ _ _ rfl rfl HR1.out ?_)
                go_roundw
                case rel => exact ⟨k + 1, by omega, by go_num, HI2⟩
                case measure => simp [intOf]; omega
    · have HF : Hid (goodR n l = true) := goodR_of fun i hi => HS.out.good i hi (by rw [HLL.out] at hi; omega)
      have HO : Hid (OwnB w.heap.size wr u6 (textL l) ∧ Kept [] w wr) := by
        have := HS.out.own
        rw [List.take_of_length_le (by rw [HLL.out]; omega)] at this
        exact ⟨this, HS.out.kept⟩
      have HTB : Hid ((textL l).length ≤ 7296) := by
        show _ ≤ _
        have := text_len l (goodR_mem HF.out) hn3
        rw [HLL.out] at this
        omega
      have HR2 : Hid (printE t l = if 2432 < (textL l).length then (5, []) else (0, textL l)) := by show _ = _; rw [HR.out, HF.out, if_neg (by simp)]
      obtain ⟨T, hT⟩ : ∃ T, textL l = T := ⟨_, rfl⟩
      rw [hT] at HO HTB HR2
      obtain ⟨va, vc, hv, hvc⟩ := OwnB.val HO.out.1
      subst hv
      have hTl : T.length ≤ 7296 := HTB.out
      clear hT HS HF HTB
      by_cases hbig : 2432 < T.length
      · have q2 : (2432 : Int) < (T.length : Int) := by omega
        have HR3 : Hid (printE t l = (5, [])) := by show _ = _; rw [HR2.out, if_pos hbig]
        go_wp2_with fail
        go_ret2
        exact ⟨_, _, [], rfl, HR3.out, .inr ⟨rfl, rfl⟩, HCN.out, HO.out.2⟩
      · have q2 : ¬ (2432 : Int) < (T.length : Int) := by omega
        have HR3 : Hid (printE t l = (0, T)) := by show _ = _; rw [HR2.out, if_neg hbig]
        go_wp2_with fail
        go_ret2
        exact ⟨_, _, T, rfl, HR3.out, OwnB.slIs HO.out.1, OwnB.cap HO.out.1, HO.out.2⟩

set_option maxHeartbeats 1000000 in
theorem rprint_any (t : List UInt8) (ao : Option Addr) (len cap : Nat) (l : List TRow) (w : World) (hl : RowsIs w ao len l) :
    Calls Tryd.prog 11 #[.string (strL t), .slice ao len cap] w (PrintOut t l w) := by
  obtain ⟨n, hn⟩ : ∃ n, widthI t = n := ⟨_, rfl⟩
  have HCN : Hid (CapOk (.slice none 0 0)) := ⟨_, _, _, rfl, Nat.le_refl _, by omega⟩
  have hlen : len ≤ 140737488355328 := by have := hl.bytes; omega
  by_cases h0 : n = 0
  · have HR : Hid (printE t l = (50, [])) := by show _ = _; unfold printE; rw [hn, if_pos h0]
    have q0 : (n == 0) = true := by simpa using h0
    have HN := Lib.hid hn
    clear hn h0 hl
    go_enter Tryd.func11, Tryd.ntmps11
    go_wp2_with fail
    refine (rwidth_any t _).mono ?_
    rw [HN.out]
    rintro e w1 ⟨rfl, rfl⟩
    go_wp2_with fail
    go_ret2
    exact ⟨_, _, [], rfl, HR.out, .inr ⟨rfl, rfl⟩, HCN.out, Kept.refl _ _⟩
  · by_cases h32 : 32 < len
    · have HR : Hid (printE t l = (5, [])) := by show _ = _; unfold printE; rw [hn, if_neg h0, if_pos (by rw [hl.hlen]; exact h32)]
      have q0 : (n == 0) = false := by simpa using h0
      have q1 : (32 : Int) < (len : Int) := by omega
      have HN := Lib.hid hn
      clear hn h0 hl
      go_enter Tryd.func11, Tryd.ntmps11
      go_wp2_with fail
      refine (rwidth_any t _).mono ?_
      rw [HN.out]
      rintro e w1 ⟨rfl, rfl⟩
      go_wp2_with fail
      go_ret2
      exact ⟨_, _, [], rfl, HR.out, .inr ⟨rfl, rfl⟩, HCN.out, Kept.refl _ _⟩
    · exact rprint_loop t ao len cap l n w hl hn h0 (by omega)
end Go.Proofs.YtdaofgmdledcbaaDoor

/-
  Layer 3: the document's PutEntries.
  Conditions: those that each theorem states.
-/
import Derived.Test.YtbggmeilkfpbgaaDoorLTakeE
import Derived.Laws.IdiomStrings
import Derived.Laws.AppendOwnNone
namespace Go.Proofs.YtbggmeilkfpbgaaDoor
open Go.RowKit Go.Maps

theorem wp_append_run {P : Program} {o : Oper} {a : Act} {w w' : World} {K : Act → World → Prop} {Q : Exit → Act → World → Prop} (s x : Operand) (t : TypeId)
    (ho : o.op = .call { callee := .builtin .append, args := #[s, x], argTypes := #[t, t] }) (u v r : Value) (hs : a.eval s = u) (hx : a.eval x = v)
    (hrun : (Builtin.append_ #[t, t] o.type #[u, v]).run P w = .ok r w') (h : K (a.put o.dst r) w') : o.wp P a w K Q := by
  unfold Oper.wp execOp
  simp only [ho, resolve, invoke, builtin, Sem.run_bind, Sem.run_pure, Result.andThen_ok, List.map_toArray, List.map_cons, List.map_nil, hs, hx, hrun]
  exact h

theorem bytesRow_get (p : List UInt8) (cap : Nat) : ∀ (j : Nat) (u : Value), (bv p)[j]? = some u → (bytesRow (strL p) cap)[j]? = some u := by
  intro j u hu
  have hj : j < p.length := by have := (List.getElem?_eq_some_iff.1 hu).1; simpa [bv] using this
  unfold bytesRow
  rw [Array.getElem?_append_left (by simp [strL]; exact hj)]
  simpa [strL, bv] using hu

theorem app_newB (base : Nat) (w : World) (v : Value) (L N : List UInt8) (hown : OwnB base w v L) (hb : base ≤ w.heap.size) (hl : L.length + N.length ≤ 100000) :
    ∃ v' w', (Builtin.append_ #[22, 22] 22 #[v, .slice (some ⟨w.heap.size, 0, none⟩) N.length N.length]).run Tryd.prog (w.alloc (.cells (bvA N) 5)) = .ok v' w' ∧ OwnB base w' v' (L ++ N) ∧ AppB w v w' v' ∧ Below base (w.alloc (.cells (bvA N) 5)) w' := by
  have hs0 : base ≤ (w.alloc (.cells (bvA N) 5)).heap.size := by rw [size_alloc]; omega
  obtain ⟨v', w', hrun, ho, hk, hor⟩ := own_app elemByte 22 (w.alloc (.cells (bvA N) 5)) base v L.length (bv L) (World.ownsRow.alloc hown _) ⟨w.heap.size, 0, none⟩ N.length N.length (bv N) (by rw [bv_length]; omega)
    (fun j u hu => by
      rw [Addr.add_mid, Nat.zero_add, cell_of_row _ _ j _ _ _ (heap_alloc_last w _)]
      simpa [bvA] using hu) (bv_one _) (by unfold maxLen; omega) (by omega) hs0
  refine ⟨v', w', hrun, ?_, ?_, hk.below hs0 fun q hq => (World.ownsRow.lt hown q (by simpa using hq)).1⟩
  · unfold OwnB
    rw [List.length_append, show bv (L ++ N) = bv L ++ bv N by simp [bv]]
    exact ho
  · refine AppB.pre (Kept.alloc [] w (.cells (bvA N) 5)) ⟨hk, ?_⟩
    rcases hor with e | e
    · exact .inl e
    · exact .inr ⟨_, e, Nat.le_refl _⟩

/-- A string's bytes, made a row of their own, are appended. -/
theorem app_str (base : Nat) (w : World) (v : Value) (L p : List UInt8) (hown : OwnB base w v L) (hb : base ≤ w.heap.size) (hl : L.length + p.length ≤ 100000) (o : Obj) (cap c2 : Nat) (m : Nat × Nat)
    (ho : o = .cells (bytesRow (strL p) cap) 5 m) :
    ∃ v' w', (Builtin.append_ #[22, 22] 22 #[v, .slice (some ⟨w.heap.size, 0, none⟩) p.length c2]).run Tryd.prog (w.alloc o) = .ok v' w' ∧ OwnB base w' v' (L ++ p) ∧ AppB w v w' v' := by
  have hs0 : base ≤ (w.alloc o).heap.size := by rw [size_alloc]; omega
  obtain ⟨v', w', hrun, hw, hk, hor⟩ := own_app elemByte 22 (w.alloc o) base v L.length (bv L) (World.ownsRow.alloc hown _) ⟨w.heap.size, 0, none⟩ p.length c2 (bv p) (by rw [bv_length]; omega)
    (fun j u hu => by
      have hh := heap_alloc_last w o
      rw [ho] at hh
      rw [Addr.add_mid, Nat.zero_add, ho]
      simp only [World.cell?, hh]
      exact bytesRow_get p cap j u hu) (bv_one _) (by unfold maxLen; omega) (by omega) hs0
  refine ⟨v', w', hrun, ?_, ?_⟩
  · unfold OwnB
    rw [List.length_append, show bv (L ++ p) = bv L ++ bv p by simp [bv]]
    exact hw
  · refine AppB.pre (Kept.alloc [] w o) ⟨hk, ?_⟩
    rcases hor with e | e
    · exact .inl e
    · exact .inr ⟨_, e, Nat.le_refl _⟩

theorem OwnB.cap {base : Nat} {w : World} {v : Value} {L : List UInt8} (h : OwnB base w v L) : CapOk v := by
  rcases owns_range h with ⟨g, cap, rfl, _, hg, hc, hm, hr⟩ | ⟨rfl, hn, _⟩
  · exact ⟨_, _, _, rfl, hc, by unfold maxLen at hm; omega⟩
  · exact ⟨_, _, _, rfl, by omega, by omega⟩
theorem less_tri : ∀ p q : List UInt8, lessB p q = !(lessB q p || decide (q = p))
  | [], [] => rfl
  | [], b :: y => by simp [lessB, Op.bytesLess]
  | a :: x, [] => by simp [lessB, Op.bytesLess]
  | a :: x, b :: y => by
    have ih := less_tri x y
    unfold lessB at ih ⊢
    simp only [Op.bytesLess, ih, List.cons.injEq]
    rcases (by have h1 := UInt8.lt_iff_toNat_lt (a := a) (b := b); have h2 := UInt8.lt_iff_toNat_lt (a := b) (b := a); have h3 := UInt8.toNat_inj (a := a) (b := b); rw [h1, h2, ← h3]; omega : a < b ∨ b < a ∨ a = b) with h | h | h
    · have h1 : ¬ b < a := by rw [UInt8.lt_iff_toNat_lt] at h ⊢; omega
      have h2 : ¬ b = a := fun e => by subst e; exact absurd h (UInt8.lt_irrefl _)
      simp [h, h1, h2]
    · have h1 : ¬ a < b := by rw [UInt8.lt_iff_toNat_lt] at h ⊢; omega
      have h2 : ¬ a = b := fun e => by subst e; exact absurd h (UInt8.lt_irrefl _)
      simp [h, h1, h2]
    · subst h
      simp [UInt8.lt_irrefl]

structure ReSt (w : World) (l : List Ent) (k : Nat) (v : Value) (wr : World) : Prop where
  own : OwnB w.heap.size wr v (entsL (l.take k))
  kept : Kept [] w wr
  good : ∀ j, (hj : j < l.length) → j < k → entB l[j] = true ∧ (0 < j → lessB (l[j - 1]'(by omega)).2 l[j].2 = true)

theorem below_cell {base : Nat} {w w' : World} {b o : Nat} {v : Value} (h : Below base w w') (hb : b < base) (hc : w.cell? ⟨b, o, none⟩ = some v) : w'.cell? ⟨b, o, none⟩ = some v := by
  have := h.block b hb
  simp only [World.cell?, this] at hc ⊢
  exact hc
theorem ReSt.len {w : World} {l : List Ent} {k : Nat} {v : Value} {wr : World} (R : ReSt w l k v wr) : (entsL (l.take k)).length ≤ 32 * k := by
  rw [entsL_length, List.length_take]
  · omega
  · intro x hx
    obtain ⟨i, hi, rfl⟩ := List.getElem_of_mem hx
    rw [List.length_take] at hi
    have := (R.good i (by omega) (by omega)).1
    unfold entB at this
    rw [Bool.and_eq_true] at this
    have := (nameB_le this.2).2
    rw [List.getElem_take]
    omega
theorem ReSt.step {w : World} {l : List Ent} {k n : Nat} {p : List UInt8} {v v' : Value} {wr w' : World} (R : ReSt w l k v wr) (hll : k < l.length) (hn : l[k].1 = n) (hp : l[k].2 = p) (hg : entB l[k] = true) (hless : 0 < k → lessB (l[k - 1]'(by omega)).2 l[k].2 = true)
    (hap : AppB wr v w' v') (ho : OwnB w.heap.size w' v' (entsL (l.take k) ++ [loB n, loB p.length] ++ p ++ zerosL (32 * (k + 1) - (entsL (l.take k) ++ [loB n, loB p.length] ++ p).length))) : ReSt w l (k + 1) v' w' := by
  have hgood : ∀ j, (hj : j < l.length) → j < k + 1 → entB l[j] = true ∧ (0 < j → lessB (l[j - 1]'(by omega)).2 l[j].2 = true) := fun j hj hjk => by
    by_cases e : j = k
    · subst e
      exact ⟨hg, hless⟩
    · exact R.good j hj (by omega)
  have hnm : ∀ x ∈ l.take k, x.2.length ≤ 30 := fun x hx => by
    obtain ⟨i, hi, rfl⟩ := List.getElem_of_mem hx
    rw [List.length_take] at hi
    have := (R.good i (by omega) (by omega)).1
    unfold entB at this
    rw [Bool.and_eq_true] at this
    have := (nameB_le this.2).2
    rw [List.getElem_take]
    omega
  have e1 : (entsL (l.take k)).length = 32 * k := by rw [entsL_length hnm, List.length_take]; omega
  have e2 : entsL (l.take k) ++ [loB n, loB p.length] ++ p ++ zerosL (32 * (k + 1) - (entsL (l.take k) ++ [loB n, loB p.length] ++ p).length) = entsL (l.take (k + 1)) := by
    rw [entsL_snoc l k hll, hn, hp, Int.toNat_natCast]
    have : 32 * (k + 1) - (entsL (l.take k) ++ [loB n, loB p.length] ++ p).length = 30 - p.length := by simp [e1]; omega
    rw [this]
    simp [entL]
  exact ⟨e2 ▸ ho, AppB.into R.kept hap R.own (Nat.le_refl _), hgood⟩

set_option maxRecDepth 100000 in
set_option maxHeartbeats 4000000 in
theorem rputE_any (ao : Option Addr) (len cap : Nat) (l : List Ent) (w : World) (hl : EntsIs w ao len l) (h16 : len ≤ 16) :
    Calls Tryd.prog 15 #[.slice ao len cap] w (PutEOut l w) := by
  have HL := Lib.hid hl
  have hlen := hl.2.1
  have HLL := Lib.hid hl.1
  clear hl
  have h' : ¬ (16 : Int) < len := by omega
  go_enter Tryd.func15, Tryd.ntmps15
  go_wp2_with fail
  go_loopw [4, 5] (fun v i wr => ∃ k : Nat, k ≤ len ∧ i = .int .i64 k ∧ Hid (ReSt w l k v wr)) (fun _ i _ => len - (intOf i).toNat)
  case atStart => exact ⟨0, by omega, rfl, World.ownsRow_nil _ _ _ _, Kept.refl _ _, fun j hj h0 => by omega⟩
  case round =>
    obtain ⟨k, hk, rfl, HS⟩ := hrel
    by_cases hlt : k < len
    · obtain ⟨b, o, rfl, hb, hc⟩ := (HL.out.kept HS.out.kept).cell (by omega)
      have HBW : Hid (b < w.heap.size) := by
        obtain ⟨b', o', e, hb', _⟩ := HL.out.cell (by omega)
        injection e with e
        injection e with e1 e2
        show _ < _
        omega
      have hll : k < l.length := by rw [HLL.out]; exact hlt
      obtain ⟨c0, c1⟩ := hc k hll
      obtain ⟨n, hn⟩ : ∃ n, l[k].1 = n := ⟨_, rfl⟩
      obtain ⟨p, hp⟩ : ∃ p, l[k].2 = p := ⟨_, rfl⟩
      rw [hn] at c0
      rw [hp] at c1
      have HN := Lib.hid hn
      have HP := Lib.hid hp
      have HC := Lib.hid hc
      clear hn hp hc
      have HPL : Hid (p.length ≤ 140737488355328) := by show _ ≤ _; rw [← HP.out]; exact HL.out.2.2.2 _ (List.getElem_mem hll)
      have hltI : (k : Int) < (len : Int) := by omega
      rcases (by omega : n < 1 ∨ (¬ n < 1 ∧ 64 ≤ n) ∨ (1 ≤ n ∧ n < 64)) with h1 | ⟨h1, h2⟩ | ⟨h1, h2⟩
      · have HG : Hid (goodB l = false) := not_good k hll (.inl (by unfold entB; rw [HN.out, decide_eq_false (by omega)]; rfl))
        have d1 : decide (n < 1) = true := decide_eq_true h1
        go_wp2_with fail
        go_quiet (fail)
        go_wp2_with fail
        go_ret2
        exact ⟨HS.out.kept.trans (Kept.drewN _ _ _), .inr (.inl ⟨by rw [HLL.out]; exact h16, HG.out, rfl⟩)⟩
      · have HG : Hid (goodB l = false) := not_good k hll (.inl (by unfold entB; rw [HN.out, decide_eq_false (by omega)]; rfl))
        have d1 : decide (n < 1) = false := decide_eq_false h1
        have d2 : decide (64 ≤ n) = true := decide_eq_true h2
        go_wp2_with fail
        go_quiet (fail)
        go_wp2_with fail
        go_ret2
        exact ⟨HS.out.kept.trans (Kept.drewN _ _ _), .inr (.inl ⟨by rw [HLL.out]; exact h16, HG.out, rfl⟩)⟩
      · have HE : Hid (entB l[k] = nameB p) := by show _ = _; unfold entB; rw [HN.out, HP.out, decide_eq_true ⟨h1, h2⟩]; rfl
        have d1 : decide (n < 1) = false := decide_eq_false (by omega)
        have d2 : decide (64 ≤ n) = false := decide_eq_false (by omega)
        cases hnb : nameB p
        · have HB := Lib.hid hnb
          have HG : Hid (goodB l = false) := not_good k hll (.inl (by rw [HE.out]; exact hnb))
          clear hnb
          have HNM : ∀ w', Calls Tryd.prog 17 #[.string (strL p)] w' fun e w'' => e = .returned (.bool false) ∧ w'' = w' := fun w' => (rname_any (strL p) w' (by rw [strL_size]; have := HPL.out; omega)).mono fun e w'' ⟨h1, h2⟩ => ⟨by rw [h1, strL_toList, HB.out], h2.symm⟩
          go_wp2_with fail
          go_quiet ((go_at_call 17; exact Calls.quiet_of_same (HNM _)))
          go_wp2_with fail
          go_ret2
          exact ⟨HS.out.kept.trans (Kept.drewN _ _ _), .inr (.inl ⟨by rw [HLL.out]; exact h16, HG.out, rfl⟩)⟩
        · have HB := Lib.hid hnb
          clear hnb
          have HNM : ∀ w', Calls Tryd.prog 17 #[.string (strL p)] w' fun e w'' => e = .returned (.bool true) ∧ w'' = w' := fun w' => (rname_any (strL p) w' (by rw [strL_size]; have := HPL.out; omega)).mono fun e w'' ⟨h1, h2⟩ => ⟨by rw [h1, strL_toList, HB.out], h2.symm⟩
          have hp28 : p.length ≤ 28 := (nameB_le HB.out).2
          obtain ⟨m, rfl⟩ : ∃ m : Nat, n = m := ⟨n.toNat, by omega⟩
          have HE1 : Hid ((entsL (l.take k)).length ≤ 32 * k) := HS.out.len
          by_cases h0 : k = 0
          · have d3 : decide (0 < k) = false := decide_eq_false (by omega)
            have H0 := Lib.hid h0
            clear h0
            go_wp2_with fail
            go_quiet ((go_at_call 17; exact Calls.quiet_of_same (HNM _)))
            clear HNM
            generalize hwq : World.drewN wr _ = wq
            have HQ : Hid (Kept [] wr wq ∧ OwnB w.heap.size wq u4 (entsL (l.take k)) ∧ w.heap.size ≤ wq.heap.size) := by
              rw [← hwq]
              exact ⟨Kept.drewN _ _ _, HS.out.own.kept (Kept.drewN [] _ _) (by simp), HS.out.kept.size⟩
            clear hwq
            have hbw := HBW.out
            have q0 : ∀ w', Below w.heap.size wq.drew w' → w'.cell? ⟨b, o + k * 2, none⟩ = some (.int .i64 (m : Int)) := fun w' h => below_cell h hbw (below_cell ((HQ.out.1.trans (Kept.drew _ _)).below HS.out.kept.size (by simp)) hbw c0)
            have q1 : ∀ w', Below w.heap.size wq.drew w' → w'.cell? ⟨b, o + k * 2 + 1, none⟩ = some (.string (strL p)) := fun w' h => below_cell h hbw (below_cell ((HQ.out.1.trans (Kept.drew _ _)).below HS.out.kept.size (by simp)) hbw c1)
            have hw1 : IntKind.u8.wrap (m : Int) = m := by simp [IntKind.wrap, IntKind.signed, IntKind.bits]; omega
            have hw2 : IntKind.u8.wrap (p.length : Int) = p.length := by simp [IntKind.wrap, IntKind.signed, IntKind.bits]; omega
            have hsp : (strL p).size = p.length := strL_size p
            obtain ⟨v2, w2, hrun, ho2, hap2, hbl2⟩ := app_newB w.heap.size wq.drew u4 (entsL (l.take k)) [loB m, loB p.length] HQ.out.2.1.drew HQ.out.2.2 (by have := HE1.out; simp; omega)
            have e1 : bvA [loB m, loB p.length] = #[.int .u8 (m : Int), .int .u8 (p.length : Int)] := by
              have h1 : ((loB m).toNat : Int) = m := by simp [loB]; omega
              have h2 : ((loB p.length).toNat : Int) = p.length := by simp [loB]; omega
              simp [bvA, bv, h1, h2]
            rw [e1] at hrun hbl2
            have HRUN := Lib.hid hrun
            have H2 := Lib.hid (And.intro ho2 (AppB.pre (HQ.out.1.trans (Kept.drew _ _)) hap2))
            have HB2 := Lib.hid hbl2
            clear hrun ho2 hap2 e1 c0 c1 hbl2
            go_wp2_with fail
            refine wp_region_ordR (R := (Below w.heap.size)) [(true, 0), (true, 1), (true, 2), (true, 3), (true, 4), (true, 5), (true, 6), (true, 7), (true, 8), (true, 9), (true, 10), (true, 11), (true, 12), (true, 13), (false, 14), (false, 15), (true, 16)] (fun _ => Below.refl _ _) (fun _ _ _ h k => h.trans k) (by kernel_rfl) (fun _ _ d _ _ h => by cases d <;> exact h) (by kernel_rfl) rfl (by kernel_rfl) (by kernel_rfl) ?_
            simp only [named, List.getD_cons_zero, List.getD_cons_succ]
            repeat (first | (apply wpR_take; (case hw => rfl); (case hv => intro w' hk; go_simp; with_reducible rfl); simp only [Act.put, List.setIfInBounds_toArray, List.set_cons_zero, List.set_cons_succ]) | (refine wpR_pass (by rfl) ?_; simp only [Act.put, List.setIfInBounds_toArray, List.set_cons_zero, List.set_cons_succ]))
            refine wpR_force (by rfl) (fun K hK => ?_)
            go_simp
            have hb1 : Below w.heap.size wq.drew (wq.alloc (.cells #[.int .u8 (m : Int), .int .u8 (p.length : Int)] 5)).drew := (Kept.alloc [] wq.drew _).below HQ.out.2.2 (by simp)
            refine hK _ _ hb1 ?_
            clear hK K
            refine wpR_force (by rfl) (fun K hK => ?_)
            refine wp_append_run _ _ _ rfl _ _ _ rfl rfl HRUN.out ?_
            refine hK _ _ HB2.out ?_
            clear hK K
            have c1 := q1 _ (hb1.trans HB2.out)
            clear hb1 HB2 HRUN q0 q1
            repeat (first | (apply wpR_take; (case hw => rfl); (case hv => intro w' hk; go_simp; with_reducible rfl); simp only [Act.put, List.setIfInBounds_toArray, List.set_cons_zero, List.set_cons_succ]) | (refine wpR_pass (by rfl) ?_; simp only [Act.put, List.setIfInBounds_toArray, List.set_cons_zero, List.set_cons_succ]))
            refine wpR_nil ?_
            clear HQ
            have hcv := run_bytes_of_string (P := Tryd.prog) w2 9 22 5 (strL p) Tryd.underlying9 Tryd.underlying22 Tryd.underlying5
            generalize grownCap w2 (strL p).size 0 5 = gc at hcv
            generalize hob : Obj.cells (bytesRow (strL p) gc) 5 _ = ob at hcv
            obtain ⟨v4, w4, hrun4, ho4, hap4⟩ := app_str w.heap.size w2.drew v2 _ p H2.out.1.drew (by have := H2.out.2.kept.size; have := HS.out.kept.size; show _ ≤ w2.heap.size; omega) (by have := HE1.out; simp; omega) ob gc gc _ hob.symm
            obtain ⟨w3, hw3⟩ : ∃ w3, w2.drew.alloc ob = w3 := ⟨_, rfl⟩
            rw [hw3] at hrun4 hcv
            rw [hsp] at hcv
            have HRUN := Lib.hid hrun4
            have H4 := Lib.hid (And.intro ho4 (H2.out.2.trans (AppB.pre (Kept.drew _ _) hap4)))
            clear hrun4 ho4 hap4 hw3 hob
            obtain ⟨N, hN⟩ : ∃ N : Nat, N = 32 * (k + 1) := ⟨_, rfl⟩
            have e32 : 32 * ((k : Int) + 1) = (N : Int) := by omega
            have HNN := Lib.hid hN
            clear hN hw1 hw2
            go_wp2_with (at_builtin; refine wpList_append_run rfl _ _ 22 rfl _ _ _ rfl rfl HRUN.out ?_)
            refine (rpad_any w.heap.size _ _ N _ H4.out.1 (by have := H4.out.2.kept.size; have := HS.out.kept.size; omega) (by have := HNN.out; omega)).mono ?_
            rintro e w5 ⟨v5, rfl, H5⟩
            have HN5 : Hid (ReSt w l (k + 1) v5 w5) := by
              have h5 := H5.out.1
              rw [HNN.out] at h5
              exact HS.out.step hll HN.out HP.out (by rw [HE.out]; exact HB.out) (fun h => absurd H0.out (by omega)) (H4.out.2.trans H5.out.2) h5
            clear H5 H4 H2 HS
            go_wp2_with fail
            go_roundw
            case rel => exact ⟨k + 1, by omega, by go_num, HN5⟩
            case measure => simp [intOf]; omega
          · obtain ⟨q, hq⟩ : ∃ q, k = q + 1 := ⟨k - 1, by omega⟩
            have hql : q < l.length := by omega
            obtain ⟨-, c3⟩ := HC.out q hql
            obtain ⟨p2, hp2⟩ : ∃ p2, l[q].2 = p2 := ⟨_, rfl⟩
            rw [hp2] at c3
            have hp2' : (l[k - 1]'(Nat.lt_of_le_of_lt (Nat.sub_le _ _) hll)).2 = p2 := by
              rw [← hp2]
              congr 2
              omega
            have HP2 := Lib.hid hp2'
            clear hp2 hp2'
            have d3 : decide (0 < k) = true := decide_eq_true (by omega)
            have wq1 : IntKind.i64.wrap ((k : Int) - 1) = (q : Int) := by rw [IntKind.wrap_i64]; omega
            have hqlt : q < len := by omega
            have hqI : (q : Int) < (len : Int) := by omega
            have HTRI := Lib.hid (less_tri p2 p)
            clear h0 hq hql
            cases hs : lessB p2 p
            · have HG : Hid (goodB l = false) := not_good k hll (.inr ⟨by have := of_decide_eq_true d3; omega, by rw [HP.out, HP2.out]; exact hs⟩)
              have ht := HTRI.out
              rw [hs] at ht
              clear hs
              by_cases he : p = p2
              · have s1 : ((strL p).toList == (strL p2).toList) = true := by rw [strL_bytes, strL_bytes]; simpa using he
                clear ht he
                go_wp2_with fail
                go_quiet ((go_at_call 17; exact Calls.quiet_of_same (HNM _)))
                go_wp2_with fail
                go_ret2
                exact ⟨HS.out.kept.trans (Kept.drewN _ _ _), .inr (.inl ⟨by rw [HLL.out]; exact h16, HG.out, rfl⟩)⟩
              · have s1 : Op.bytesLess (strL p).toList (strL p2).toList = true := by
                  rw [strL_bytes, strL_bytes]
                  simpa [he, lessB] using ht
                clear ht he
                go_wp2_with fail
                go_quiet ((go_at_call 17; exact Calls.quiet_of_same (HNM _)))
                go_wp2_with fail
                go_ret2
                exact ⟨HS.out.kept.trans (Kept.drewN _ _ _), .inr (.inl ⟨by rw [HLL.out]; exact h16, HG.out, rfl⟩)⟩
            · have HLS : Hid (lessB (l[k - 1]'(by omega)).2 l[k].2 = true) := by
                show _ = _
                rw [HP.out, HP2.out]
                exact hs
              have ht := HTRI.out
              rw [hs] at ht
              have s1 : ((strL p).toList == (strL p2).toList) = false := by
                rw [strL_bytes, strL_bytes]
                by_cases he : p = p2
                · simp [he] at ht
                · simpa using he
              have s2 : Op.bytesLess (strL p).toList (strL p2).toList = false := by
                rw [strL_bytes, strL_bytes]
                cases hx : Op.bytesLess p p2
                · rfl
                · simp [lessB, hx] at ht
              clear hs ht
              go_wp2_with fail
              go_quiet ((go_at_call 17; exact Calls.quiet_of_same (HNM _)))
              clear HNM
              generalize hwq : World.drewN wr _ = wq
              have HQ : Hid (Kept [] wr wq ∧ OwnB w.heap.size wq u4 (entsL (l.take k)) ∧ w.heap.size ≤ wq.heap.size) := by
                rw [← hwq]
                exact ⟨Kept.drewN _ _ _, HS.out.own.kept (Kept.drewN [] _ _) (by simp), HS.out.kept.size⟩
              clear hwq
              have hbw := HBW.out
              have q0 : ∀ w', Below w.heap.size wq.drew w' → w'.cell? ⟨b, o + k * 2, none⟩ = some (.int .i64 (m : Int)) := fun w' h => below_cell h hbw (below_cell ((HQ.out.1.trans (Kept.drew _ _)).below HS.out.kept.size (by simp)) hbw c0)
              have q1 : ∀ w', Below w.heap.size wq.drew w' → w'.cell? ⟨b, o + k * 2 + 1, none⟩ = some (.string (strL p)) := fun w' h => below_cell h hbw (below_cell ((HQ.out.1.trans (Kept.drew _ _)).below HS.out.kept.size (by simp)) hbw c1)
              have hw1 : IntKind.u8.wrap (m : Int) = m := by simp [IntKind.wrap, IntKind.signed, IntKind.bits]; omega
              have hw2 : IntKind.u8.wrap (p.length : Int) = p.length := by simp [IntKind.wrap, IntKind.signed, IntKind.bits]; omega
              have hsp : (strL p).size = p.length := strL_size p
              obtain ⟨v2, w2, hrun, ho2, hap2, hbl2⟩ := app_newB w.heap.size wq.drew u4 (entsL (l.take k)) [loB m, loB p.length] HQ.out.2.1.drew HQ.out.2.2 (by have := HE1.out; simp; omega)
              have e1 : bvA [loB m, loB p.length] = #[.int .u8 (m : Int), .int .u8 (p.length : Int)] := by
                have h1 : ((loB m).toNat : Int) = m := by simp [loB]; omega
                have h2 : ((loB p.length).toNat : Int) = p.length := by simp [loB]; omega
                simp [bvA, bv, h1, h2]
              rw [e1] at hrun hbl2
              have HRUN := Lib.hid hrun
              have H2 := Lib.hid (And.intro ho2 (AppB.pre (HQ.out.1.trans (Kept.drew _ _)) hap2))
              have HB2 := Lib.hid hbl2
              clear hrun ho2 hap2 e1 c0 c1 hbl2
              go_wp2_with fail
              refine wp_region_ordR (R := (Below w.heap.size)) [(true, 0), (true, 1), (true, 2), (true, 3), (true, 4), (true, 5), (true, 6), (true, 7), (true, 8), (true, 9), (true, 10), (true, 11), (true, 12), (true, 13), (false, 14), (false, 15), (true, 16)] (fun _ => Below.refl _ _) (fun _ _ _ h k => h.trans k) (by kernel_rfl) (fun _ _ d _ _ h => by cases d <;> exact h) (by kernel_rfl) rfl (by kernel_rfl) (by kernel_rfl) ?_
              simp only [named, List.getD_cons_zero, List.getD_cons_succ]
              repeat (first | (apply wpR_take; (case hw => rfl); (case hv => intro w' hk; go_simp; with_reducible rfl); simp only [Act.put, List.setIfInBounds_toArray, List.set_cons_zero, List.set_cons_succ]) | (refine wpR_pass (by rfl) ?_; simp only [Act.put, List.setIfInBounds_toArray, List.set_cons_zero, List.set_cons_succ]))
              refine wpR_force (by rfl) (fun K hK => ?_)
              go_simp
              have hb1 : Below w.heap.size wq.drew (wq.alloc (.cells #[.int .u8 (m : Int), .int .u8 (p.length : Int)] 5)).drew := (Kept.alloc [] wq.drew _).below HQ.out.2.2 (by simp)
              refine hK _ _ hb1 ?_
              clear hK K
              refine wpR_force (by rfl) (fun K hK => ?_)
              refine wp_append_run _ _ _ rfl _ _ _ rfl rfl HRUN.out ?_
              refine hK _ _ HB2.out ?_
              clear hK K
              have c1 := q1 _ (hb1.trans HB2.out)
              clear hb1 HB2 HRUN q0 q1
              repeat (first | (apply wpR_take; (case hw => rfl); (case hv => intro w' hk; go_simp; with_reducible rfl); simp only [Act.put, List.setIfInBounds_toArray, List.set_cons_zero, List.set_cons_succ]) | (refine wpR_pass (by rfl) ?_; simp only [Act.put, List.setIfInBounds_toArray, List.set_cons_zero, List.set_cons_succ]))
              refine wpR_nil ?_
              clear HQ
              have hcv := run_bytes_of_string (P := Tryd.prog) w2 9 22 5 (strL p) Tryd.underlying9 Tryd.underlying22 Tryd.underlying5
              generalize grownCap w2 (strL p).size 0 5 = gc at hcv
              generalize hob : Obj.cells (bytesRow (strL p) gc) 5 _ = ob at hcv
              obtain ⟨v4, w4, hrun4, ho4, hap4⟩ := app_str w.heap.size w2.drew v2 _ p H2.out.1.drew (by have := H2.out.2.kept.size; have := HS.out.kept.size; show _ ≤ w2.heap.size; omega) (by have := HE1.out; simp; omega) ob gc gc _ hob.symm
              obtain ⟨w3, hw3⟩ : ∃ w3, w2.drew.alloc ob = w3 := ⟨_, rfl⟩
              rw [hw3] at hrun4 hcv
              rw [hsp] at hcv
              have HRUN := Lib.hid hrun4
              have H4 := Lib.hid (And.intro ho4 (H2.out.2.trans (AppB.pre (Kept.drew _ _) hap4)))
              clear hrun4 ho4 hap4 hw3 hob
              obtain ⟨N, hN⟩ : ∃ N : Nat, N = 32 * (k + 1) := ⟨_, rfl⟩
              have e32 : 32 * ((k : Int) + 1) = (N : Int) := by omega
              have HNN := Lib.hid hN
              clear hN hw1 hw2
              go_wp2_with (at_builtin; refine wpList_append_run rfl _ _ 22 rfl _ _ _ rfl rfl HRUN.out ?_)
              refine (rpad_any w.heap.size _ _ N _ H4.out.1 (by have := H4.out.2.kept.size; have := HS.out.kept.size; omega) (by have := HNN.out; omega)).mono ?_
              rintro e w5 ⟨v5, rfl, H5⟩
              have HN5 : Hid (ReSt w l (k + 1) v5 w5) := by
                have h5 := H5.out.1
                rw [HNN.out] at h5
                exact HS.out.step hll HN.out HP.out (by rw [HE.out]; exact HB.out) (fun _ => HLS.out) (H4.out.2.trans H5.out.2) h5
              clear H5 H4 H2 HS
              go_wp2_with fail
              go_roundw
              case rel => exact ⟨k + 1, by omega, by go_num, HN5⟩
              case measure => simp [intOf]; omega
    · have HF : Hid (goodB l = true) := good_of fun i hi => HS.out.good i hi (by rw [HLL.out] at hi; omega)
      have HO : Hid (SlIs wr u4 (entsL l)) := by
        have := HS.out.own.slIs
        rw [List.take_of_length_le (by rw [HLL.out]; omega)] at this
        exact this
      have HCP : Hid (CapOk u4) := OwnB.cap HS.out.own
      go_wp2_with fail
      go_ret2
      exact ⟨HS.out.kept, .inr (.inr ⟨by rw [HLL.out]; exact h16, HF.out, _, rfl, HO.out, HCP.out⟩)⟩

set_option maxHeartbeats 1000000 in
theorem rputE_long (ao : Option Addr) (len cap : Nat) (l : List Ent) (w : World) (hl : EntsIs w ao len l) (h : 16 < len) :
    Calls Tryd.prog 15 #[.slice ao len cap] w (PutEOut l w) := by
  have HLL := Lib.hid hl.1
  have hlen := hl.2.1
  clear hl
  have h' : (16 : Int) < len := by omega
  go_enter Tryd.func15, Tryd.ntmps15
  go_wp2_with fail
  go_ret2
  exact ⟨Kept.refl _ _, .inl ⟨by rw [HLL.out]; exact h, rfl⟩⟩

/-- The bytes of a row of entries are taken as the row. -/
theorem recAt_ents {l : List Ent} (h : ∀ x ∈ l, x.2.length ≤ 30) (i : Nat) (hi : i < l.length) : recAt (entsL l) i = entL l[i].1.toNat l[i].2 := by
  have e : entsL l = entsL (l.take i) ++ (entL l[i].1.toNat l[i].2 ++ entsL (l.drop (i + 1))) := by
    have hs : l = l.take i ++ (l[i] :: l.drop (i + 1)) := by rw [← List.drop_eq_getElem_cons hi, List.take_append_drop]
    have := congrArg entsL hs
    unfold entsL at this ⊢
    rw [List.flatMap_append, List.flatMap_cons] at this
    exact this
  have e1 : (entsL (l.take i)).length = 32 * i := by rw [entsL_length fun x hx => h x (List.mem_of_mem_take hx), List.length_take]; omega
  have e2 : (entL l[i].1.toNat l[i].2).length = 32 := entL_length (h _ (List.getElem_mem hi))
  unfold recAt
  rw [e, ← e1, List.drop_left, ← e2, List.take_left]
theorem nmL_entL {n : Nat} {p : List UInt8} (hp : p.length ≤ 30) : nmL (entL n p) = p := by
  have : byteN (entL n p) 1 = p.length := by simp [byteN, entL, loB]; omega
  unfold nmL
  rw [this]
  show (p ++ zerosL (30 - p.length)).take (min (2 + p.length) 32 - 2) = p
  rw [show min (2 + p.length) 32 - 2 = p.length by omega, List.take_left]
theorem ents_back {l : List Ent} (h : goodB l = true) : entsOf (entsL l) l.length = l := by
  refine List.ext_getElem (entsOf_length _ _) fun i h1 h2 => ?_
  have e : (entsOf (entsL l) l.length)[i] = entAt (entsL l) i := by simp [entsOf]
  rw [e]
  obtain ⟨⟨g1, g2⟩, g3⟩ := good_ent h i h2
  unfold entAt
  rw [recAt_ents (good_len h) i h2, nmL_entL (by have := (nameB_le g3).2; omega)]
  refine Prod.ext ?_ rfl
  show ((byteN (entL l[i].1.toNat l[i].2) 0 : Nat) : Int) = l[i].1
  simp [byteN, entL, loB]
  omega
theorem takeE_back {l : List Ent} (h : goodB l = true) : takeEB (entsL l) l.length = true := by
  unfold takeEB
  rw [ents_back h, h]
  simp

/-- 'append([]api.Entry{}, l...)'. -/
theorem copy_ents (ao : Option Addr) (len cap : Nat) (l : List Ent) (w : World) (hl : EntsIs w ao len l) (hb : len * 24 ≤ 140737488355328) (hnil : ao = none → cap = 0) :
    ∃ ao' cap' w7, (Builtin.append_ #[34, 34] 34 #[.slice (some ⟨w.heap.size, 0, none⟩) 0 0, .slice ao len cap]).run Tryd.prog (w.alloc (.cells #[] 38)) = .ok (.slice ao' len cap') w7 ∧ EntsIs w7 ao' len l ∧ Kept [] w w7 := by
  have how : (w.alloc (.cells #[] 38)).ownsRow w.heap.size 38 2 (.slice (some ⟨w.heap.size, 0, none⟩) 0 0) 0 [] :=
    ⟨by simp, .inr ⟨w.heap.size, 0, #[], rfl, Nat.le_refl _, heap_alloc_last _ _, Nat.le_refl _, by unfold maxLen; omega, rfl, rfl⟩⟩
  have hs0 : w.heap.size ≤ (w.alloc (.cells #[] 38)).heap.size := by rw [size_alloc]; omega
  have hk0 : Kept [] w (w.alloc (.cells #[] 38)) := Kept.alloc _ _ _
  have hll := hl.1
  have go : ∀ ad, (∀ j u, (ev l)[j]? = some u → (w.alloc (.cells #[] 38)).cell? (Addr.add ad j) = some u) → ao = some ad → ∃ ao' cap' w7, (Builtin.append_ #[34, 34] 34 #[.slice (some ⟨w.heap.size, 0, none⟩) 0 0, .slice ao len cap]).run Tryd.prog (w.alloc (.cells #[] 38)) = .ok (.slice ao' len cap') w7 ∧ EntsIs w7 ao' len l ∧ Kept [] w w7 := by
    rintro ad hsrc rfl
    obtain ⟨v7, w7, hrun, hown, hk7, _⟩ := own_app elemEnt 34 (w.alloc (.cells #[] 38)) w.heap.size _ 0 [] how ad len cap (ev l) (by rw [ev_length]; omega) hsrc (ev_one _) (by unfold maxLen; omega) (by omega) hs0
    rw [Nat.zero_add, List.nil_append] at hown
    obtain ⟨ao', cap', rfl, hc, _, hi⟩ := own_entsG hown (by omega) hl.2.2.2
    exact ⟨ao', cap', w7, hrun, hi, hk0.own how (Nat.le_refl _) hk7⟩
  rcases hl.2.2.1 with h0 | ⟨b, o, rfl, hbl, hr⟩
  · subst h0
    obtain rfl : l = [] := List.eq_nil_of_length_eq_zero hll
    cases ao with
    | some ad => exact go ad (fun j u hu => by simp [ev] at hu) rfl
    | none =>
      obtain ⟨i, hi, _⟩ := info_parts elemEnt.info
      have hrun := run_append_owned_none (P := Tryd.prog) (w := w.alloc (.cells #[] 38)) w.heap.size 34 34 38 i 2 Tryd.underlying34 hi _ 0 [] how
      rw [hnil rfl]
      exact ⟨_, _, _, hrun, ⟨rfl, by omega, .inl rfl, hl.2.2.2⟩, hk0⟩
  · exact go ⟨b, o, none⟩ (fun j u hu => by rw [Addr.add_mid]; exact hk0.range hbl (by simp) hr j u hu) rfl
end Go.Proofs.YtbggmeilkfpbgaaDoor

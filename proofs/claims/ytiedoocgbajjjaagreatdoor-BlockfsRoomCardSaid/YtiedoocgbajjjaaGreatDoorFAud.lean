/-
  Layer 4: Audit: what each block is for.
  Conditions: those that each theorem states.
-/
import Derived.Test.YtiedoocgbajjjaaGreatDoorFIo
import Derived.BigQuiet
namespace Go.Proofs.YtiedoocgbajjjaaGreatDoor
open Go.RowKit Go.Maps
set_option maxRecDepth 100000

/-- A row of numbers of the call's own. -/
def Aud (base : Nat) (w : World) (v : Value) (l : List Nat) : Prop := w.ownsRow base 3 1 v l.length (iv (natI l))
theorem Aud.nil (base : Nat) (w : World) : Aud base w (.slice none 0 0) [] := by simpa [Aud, iv, natI] using World.ownsRow_nil w base 3 1
theorem Aud.val {base : Nat} {w : World} {v : Value} {l : List Nat} (h : Aud base w v l) (hn : l.length ≤ 100000) : ∃ ao cap, v = .slice ao l.length cap := by
  obtain ⟨ao, cap, e, _⟩ := own_ints h hn
  exact ⟨ao, cap, e⟩
theorem Aud.kept {base : Nat} {w w' : World} {v : Value} {l : List Nat} {ex : List Nat} (h : Aud base w v l) (hk : Kept ex w w') (hx : ∀ q, v.ownBlock = some q → q ∉ ex) : Aud base w' v l := owns_kept h hk hx
theorem Aud.lt {base : Nat} {w : World} {v : Value} {l : List Nat} (h : Aud base w v l) {q : Nat} (hq : v.ownBlock = some q) : base ≤ q ∧ q < w.heap.size := World.ownsRow.lt h q hq
theorem Aud.blk {base : Nat} {w : World} {v : Value} {l : List Nat} (h : Aud base w v l) {q : Nat} (hq : v.ownBlock = some q) : ∃ cs, w.heap[q]? = some (.cells cs 3) := by
  obtain ⟨h1, ⟨rfl, h2⟩ | ⟨g, cap, cur, rfl, hb, hg, _⟩⟩ := h
  · cases hq
  · injection hq with hq
    subst hq
    exact ⟨_, hg⟩
theorem Aud.app {base : Nat} {w : World} {v : Value} {l : List Nat} (h : Aud base w v l) (x : Nat) (hn : l.length + 1 ≤ 100000) (hb : base ≤ w.heap.size) :
    ∃ v' w', (Builtin.append_ #[56, 56] 56 #[v, .slice (some ⟨w.heap.size, 0, none⟩) 1 1]).run Tryz.prog (w.alloc (.cells #[.int .i64 (x : Int)] 3)) = .ok v' w' ∧
      Hid (Aud base w' v' (l ++ [x]) ∧ Kept v.ownBlock.toList w w' ∧ (v'.ownBlock = v.ownBlock ∨ v'.ownBlock = some (w.heap.size + 1))) := by
  have ho : w.ownsRow base 3 1 v l.length (iv (natI l)) := h
  obtain ⟨v', w7, hrun, hown', hk7, hob⟩ := own_app elemInt 56 (w.alloc (.cells #[.int .i64 (x : Int)] 3)) base _ _ _ (World.ownsRow.alloc ho _) ⟨w.heap.size, 0, none⟩ 1 1 (iv (natI [x])) rfl
    (fun q u hu => by
      rw [Addr.add_mid, Nat.zero_add, cell_of_row _ _ q _ _ _ (heap_alloc_last w _)]
      simpa [iv, natI] using hu) (iv_one _) (by unfold maxLen; omega) (by omega) (by rw [size_alloc]; omega)
  have e2 : iv (natI l) ++ iv (natI [x]) = iv (natI (l ++ [x])) := by simp [iv, natI]
  rw [e2] at hown'
  rw [size_alloc] at hob
  refine ⟨v', w7, hrun, ?_, (Kept.alloc _ _ _).trans hk7, hob⟩
  show w7.ownsRow _ _ _ _ _ _
  rw [List.length_append]
  exact hown'
/-- Two rows in blocks of their own. -/
def Sep (v u : Value) : Prop := ∀ q, v.ownBlock = some q → u.ownBlock ≠ some q
theorem Sep.symm {v u : Value} (h : Sep v u) : Sep u v := fun q hq hh => h q hh hq
/-- The three rows of Audit. -/
structure Aud3 (base : Nat) (w wr : World) (v2 v3 v4 : Value) (l2 l3 l4 : List Nat) : Prop where
  kept : Kept [] w wr
  a2 : Aud base wr v2 l2
  a3 : Aud base wr v3 l3
  a4 : Aud base wr v4 l4
  s23 : Sep v2 v3
  s24 : Sep v2 v4
  s34 : Sep v3 v4
theorem sep_new {base : Nat} {w : World} {v u : Value} {k : List Nat} {v' : Value} (h : Sep v u) (hu : Aud base w u k) (hv : v'.ownBlock = v.ownBlock ∨ v'.ownBlock = some (w.heap.size + 1)) : Sep v' u := fun q hq hh => by
  rcases hv with e | e
  · exact h q (by rw [← e]; exact hq) hh
  · rw [e] at hq
    injection hq with hq
    have := (hu.lt hh).2
    omega
theorem sep_ex {v u : Value} (h : Sep v u) : ∀ q, u.ownBlock = some q → q ∉ v.ownBlock.toList := fun q hq hh => h q (by simpa using hh) hq
theorem Aud3.go {base : Nat} {w wr w' : World} {v2 v3 v4 : Value} {l2 l3 l4 : List Nat} (h : Aud3 base w wr v2 v3 v4 l2 l3 l4) (hk : Kept [] wr w') : Aud3 base w w' v2 v3 v4 l2 l3 l4 :=
  ⟨h.kept.trans hk, h.a2.kept hk (by simp), h.a3.kept hk (by simp), h.a4.kept hk (by simp), h.s23, h.s24, h.s34⟩
theorem Aud3.one {base : Nat} {w wr w' : World} {v2 v3 v4 v' : Value} {l2 l3 l4 : List Nat} (h : Aud3 base w wr v2 v3 v4 l2 l3 l4) (hb : w.heap.size ≤ base) {x : Nat} (ha : Aud base w' v' (l2 ++ [x])) (hk : Kept v2.ownBlock.toList wr w') (hv : v'.ownBlock = v2.ownBlock ∨ v'.ownBlock = some (wr.heap.size + 1)) : Aud3 base w w' v' v3 v4 (l2 ++ [x]) l3 l4 :=
  ⟨h.kept.andThen hk (fun q hq => .inr (by have := (h.a2.lt (by simpa using hq)).1; omega)), ha, h.a3.kept hk (sep_ex h.s23), h.a4.kept hk (sep_ex h.s24), sep_new h.s23 h.a3 hv, sep_new h.s24 h.a4 hv, h.s34⟩
theorem Aud3.two {base : Nat} {w wr w' : World} {v2 v3 v4 v' : Value} {l2 l3 l4 : List Nat} (h : Aud3 base w wr v2 v3 v4 l2 l3 l4) (hb : w.heap.size ≤ base) {x : Nat} (ha : Aud base w' v' (l3 ++ [x])) (hk : Kept v3.ownBlock.toList wr w') (hv : v'.ownBlock = v3.ownBlock ∨ v'.ownBlock = some (wr.heap.size + 1)) : Aud3 base w w' v2 v' v4 l2 (l3 ++ [x]) l4 :=
  ⟨h.kept.andThen hk (fun q hq => .inr (by have := (h.a3.lt (by simpa using hq)).1; omega)), h.a2.kept hk (sep_ex h.s23.symm), ha, h.a4.kept hk (sep_ex h.s34), (sep_new h.s23.symm h.a2 hv).symm, h.s24, sep_new h.s34 h.a4 hv⟩
theorem Aud3.three {base : Nat} {w wr w' : World} {v2 v3 v4 v' : Value} {l2 l3 l4 : List Nat} (h : Aud3 base w wr v2 v3 v4 l2 l3 l4) (hb : w.heap.size ≤ base) {x : Nat} (ha : Aud base w' v' (l4 ++ [x])) (hk : Kept v4.ownBlock.toList wr w') (hv : v'.ownBlock = v4.ownBlock ∨ v'.ownBlock = some (wr.heap.size + 1)) : Aud3 base w w' v2 v3 v' l2 l3 (l4 ++ [x]) :=
  ⟨h.kept.andThen hk (fun q hq => .inr (by have := (h.a4.lt (by simpa using hq)).1; omega)), h.a2.kept hk (sep_ex h.s24.symm), h.a3.kept hk (sep_ex h.s34.symm), ha, h.s23, (sep_new h.s24.symm h.a2 hv).symm, (sep_new h.s34.symm h.a3 hv).symm⟩

/-- The blocks that are someone's, and those that are free, below j. -/
def usedL (D : Nat) (F : List Bool) (j : Nat) : List Nat := (List.range j).filter fun i => decide (D ≤ i) && F.getD i false
def looseL (D : Nat) (F : List Bool) (j : Nat) : List Nat := (List.range j).filter fun i => decide (D ≤ i) && !F.getD i false
theorem used_step (D : Nat) (F : List Bool) (j : Nat) : usedL D F (j + 1) = usedL D F j ++ if D ≤ j ∧ F.getD j false = true then [j] else [] := by
  unfold usedL
  rw [List.range_succ, List.filter_append]
  congr 1
  by_cases h : D ≤ j ∧ F.getD j false = true
  · rw [if_pos h, List.filter_cons_of_pos (by simpa using h)]; rfl
  · rw [if_neg h, List.filter_cons_of_neg (by simpa using h)]; rfl
theorem loose_step (D : Nat) (F : List Bool) (j : Nat) : looseL D F (j + 1) = looseL D F j ++ if D ≤ j ∧ F.getD j false = false then [j] else [] := by
  unfold looseL
  rw [List.range_succ, List.filter_append]
  congr 1
  by_cases h : D ≤ j ∧ F.getD j false = false
  · rw [if_pos h, List.filter_cons_of_pos (by simpa using h)]; rfl
  · rw [if_neg h, List.filter_cons_of_neg (by simpa using h)]; rfl
theorem filter_range_len (p : Nat → Bool) (j : Nat) : ((List.range j).filter p).length ≤ j := by
  have := List.length_filter_le p (List.range j)
  simpa using this
/-- What Audit answers. -/
def AudOut (w : World) (N D : Nat) (F : List Bool) (e : Ending) (w' : World) : Prop :=
  ∃ v2 v3 v4, e = .returned (.tuple #[v2, v3, v4]) ∧ Hid (Aud3 w.heap.size w w' v2 v3 v4 (List.range D) (usedL D F N) (looseL D F N))
set_option maxRecDepth 100000 in
set_option maxHeartbeats 8000000 in
theorem fAudit_any (f d j N q g base : Nat) (S : DiskS) (t : ATr) (w : World) (h : FsIs w f d j N q g base S t) :
    Calls Tryz.prog 23 #[.pointer (some ⟨f, 0, none⟩)] w (AudOut w N (233 + q) (setAll (setAll (List.replicate N false) (List.range (233 + q))) (t.all.flatMap ATr.blks))) := by
  have hrow := h.row
  unfold fsRow at hrow
  obtain ⟨D, hD⟩ : ∃ D : Nat, 233 + q = D := ⟨_, rfl⟩
  obtain ⟨E, hE⟩ : ∃ E : Int, ((201 + q : Nat) : Int) = E := ⟨_, rfl⟩
  rw [hD, hE] at hrow
  rw [hD]
  obtain ⟨F, hF⟩ : ∃ F, setAll (setAll (List.replicate N false) (List.range D)) (t.all.flatMap ATr.blks) = F := ⟨_, rfl⟩
  rw [hF]
  have HROW := Lib.hid hrow
  have hdr := h.kept (Kept.drew [] w)
  have HA := Lib.hid (nall_any t.ht t w.drew (Nat.le_refl _) hdr.allSm.1 hdr.allSm.2.1 hdr.allSm.2.2)
  have hFl : F.length = N := by rw [← hF, setAll_length, setAll_length]; simp
  have HTK : Hid (∀ (v : Value) (w' : World), Kept [] w w' → OwnN w.drew.heap.size w' v t.all → Calls Tryz.prog 59 #[.agg #[.int .i64 N, .int .i64 0, .int .i64 1, .int .i64 2, .int .i64 201, .int .i64 E, .int .i64 D, .int .i64 64], v] w' fun e w2 => e = .returned (.slice (some ⟨w'.heap.size + 1, 0, none⟩) N N) ∧ Hid (ShelfSt w' (w'.heap.size + 1) F w2)) := fun v w' hk ho => by
    have hh := h.kept hk
    have h1 := takenBlocks_any t.all w.drew.heap.size v w' N 0 1 2 201 E 64 D ho (by have := t.all_pos; omega) h.allSm.2.2 (fun s hs => by
      have hnd : s.nd ∈ t.nds := List.mem_map.2 ⟨s, hs, rfl⟩
      have hset := h.st.set
      have hin : ∀ b ∈ s.nd.blks, b < N := fun b hb => (hset.rng b (List.mem_flatMap.2 ⟨_, hnd, hb⟩)).2
      have hfs := fine_all h.st.fine s hs
      refine ⟨(hh.allSm.1.mem hh.allSm.2.1 s hs).1, ?_, fun b hb => hin b (by unfold Nd.blks; exact List.mem_append.2 (.inl hb)), ?_⟩
      · have h2 : s.rc.blocks.length = s.cont := (hset.full _ hnd).1
        have h3 := (fine_cost hfs).2.2.2
        omega
      · by_cases hm : 0 < s.rc.more
        · refine hin _ ?_
          unfold Nd.blks
          refine List.mem_append.2 (.inr ?_)
          have hm' : 0 < s.nd.rc.more := hm
          rw [if_pos hm']
          exact List.mem_singleton.2 rfl
        · have := hset.low
          omega) (by have := h.ok.hi; omega) (by have := h.ok.lo; have := h.ok.q; omega)
    unfold layW at h1
    rw [hF] at h1
    exact h1
  have hN : N ≤ 4096 := h.ok.hi
  have hDN : D ≤ N := by have := h.ok.lo; have := h.ok.q; omega
  have zz : ∀ (x : Nat) (v : Value), (fsRow d j t.addr N q false)[x]? = some v → ∀ w', Kept [] w.drew w' → w'.cell? ⟨f, x, none⟩ = some v := fun x v hv w' hk => by
    rw [cell_of_row _ _ x _ _ _ (((Kept.drew [] w).trans hk).heap (by simp) h.row)]; exact hv
  have z1 := zz 1 (.int .i64 N) rfl
  have z2 := zz 2 (.int .i64 0) rfl
  have z3 := zz 3 (.int .i64 1) rfl
  have z4 := zz 4 (.int .i64 2) rfl
  have z5 := zz 5 (.int .i64 201) rfl
  have z6 := zz 6 (.int .i64 E) (by rw [← hE]; rfl)
  have z7 := zz 7 (.int .i64 D) (by rw [← hD]; rfl)
  have z8 := zz 8 (.int .i64 64) rfl
  have z10 := zz 10 (.pointer (some ⟨t.addr, 0, none⟩)) rfl
  have HFR : Hid (∀ w', Kept [] w w' → w'.cell? ⟨f, 7, none⟩ = some (.int .i64 D)) := fun w' hk => by rw [cell_of_row _ _ 7 _ _ _ (hk.heap (by simp) HROW.out)]; rfl
  have HFL := Lib.hid hFl
  clear h hdr hF zz hrow hD hE hFl
  go_enter Tryz.func23, Tryz.ntmps23
  go_wp2_with fail
  refine wp_region_ordZ (R := (Kept [])) 10 [(true, 0), (true, 1), (true, 2), (true, 3), (true, 4), (true, 5), (true, 6), (true, 7), (false, 8), (false, 9)] (fun _ => Kept.refl _ _) (fun _ _ _ h k => h.trans k) (by kernel_rfl) (fun _ _ d _ _ h => by cases d <;> exact h) (by kernel_rfl) rfl (by decide) (by kernel_rfl) (by kernel_rfl) ?_
  simp only [named, List.getD_cons_zero, List.getD_cons_succ]
  repeat (first | (apply wpR_take; (case hw => rfl); (case hv => intro w' hk; go_simp; with_reducible rfl); simp only [Act.put, List.setIfInBounds_toArray, List.set_cons_zero, List.set_cons_succ]) | (refine wpR_pass (by rfl) ?_; simp only [Act.put, List.setIfInBounds_toArray, List.set_cons_zero, List.set_cons_succ]))
  clear z1 z2 z3 z4 z5 z6 z7 z8 z10
  refine wpR_force (by rfl) (fun K hK => ?_)
  go_simp
  refine HA.out.mono ?_
  rintro e w2 ⟨v, rfl, H2⟩
  refine hK _ _ H2.out.1 ?_
  clear hK K
  repeat (first | (apply wpR_take; (case hw => rfl); (case hv => intro w' hk; go_simp; with_reducible rfl); simp only [Act.put, List.setIfInBounds_toArray, List.set_cons_zero, List.set_cons_succ]) | (refine wpR_pass (by rfl) ?_; simp only [Act.put, List.setIfInBounds_toArray, List.set_cons_zero, List.set_cons_succ]))
  refine wpR_force (by rfl) (fun K hK => ?_)
  go_simp
  refine (HTK.out v w2 ((Kept.drew _ _).trans H2.out.1) H2.out.2).mono ?_
  rintro e w3 ⟨rfl, H3⟩
  refine hK _ _ H3.out.kept ?_
  clear hK K
  repeat (first | (apply wpR_take; (case hw => rfl); (case hv => intro w' hk; go_simp; with_reducible rfl); simp only [Act.put, List.setIfInBounds_toArray, List.set_cons_zero, List.set_cons_succ]) | (refine wpR_pass (by rfl) ?_; simp only [Act.put, List.setIfInBounds_toArray, List.set_cons_zero, List.set_cons_succ]))
  refine wpR_nil ?_; refine lastQ_go rfl ?_
  go_simp
  obtain ⟨Q, hQ⟩ : ∃ Q, w2.heap.size + 1 = Q := ⟨_, rfl⟩
  rw [hQ] at H3 ⊢
  have HQ : Hid (w.heap.size ≤ Q) := by have := H2.out.1.size; have h2 : w.drew.heap.size = w.heap.size := rfl; show _ ≤ _; omega
  have HS : Hid (Aud3 w.heap.size w w3 (.slice none 0 0) (.slice none 0 0) (.slice none 0 0) (List.range (min 0 D)) (usedL D F 0) (looseL D F 0) ∧ w3.heap[Q]? = some (.cells (bvl F).toArray 4)) := by
    refine ⟨⟨((Kept.drew _ _).trans H2.out.1).trans H3.out.kept, ?_, Aud.nil _ _, Aud.nil _ _, (fun q hq => by cases hq), (fun q hq => by cases hq), (fun q hq => by cases hq)⟩, H3.out.row⟩
    rw [Nat.zero_min]
    exact Aud.nil _ _
  clear H2 H3 hQ HA HTK
  go_wp2_with fail
  go_loopw [2, 3, 4, 20] (fun v2 v3 v4 i wr => ∃ k : Nat, k ≤ N ∧ i = .int .i64 k ∧ Hid (Aud3 w.heap.size w wr v2 v3 v4 (List.range (min k D)) (usedL D F k) (looseL D F k) ∧ wr.heap[Q]? = some (.cells (bvl F).toArray 4))) (fun _ _ _ i _ => N - (intOf i).toNat)
  case atStart => exact ⟨0, by omega, rfl, HS.out⟩
  case round =>
    clear HS
    obtain ⟨k, hk, rfl, HR⟩ := hrel
    by_cases hlt : k < N
    · have hkF : k < F.length := by rw [HFL.out]; exact hlt
      have hcell : wr.cell? ⟨Q, k, none⟩ = some (.bool F[k]) := by
        rw [cell_of_row _ _ k _ _ _ HR.out.2]
        simp [bvl, hkF]
      obtain ⟨b, hb⟩ : ∃ b, F[k] = b := ⟨_, rfl⟩
      have hgd : F.getD k false = b := by rw [List.getD_eq_getElem?_getD, List.getElem?_eq_getElem hkF, hb]; rfl
      rw [hb] at hcell
      have hl2 : (List.range (min k D)).length + 1 ≤ 100000 := by simp; omega
      have hl3 : (usedL D F k).length + 1 ≤ 100000 := by have := filter_range_len (fun i => decide (D ≤ i) && F.getD i false) k; unfold usedL; omega
      have hl4 : (looseL D F k).length + 1 ≤ 100000 := by have := filter_range_len (fun i => decide (D ≤ i) && !F.getD i false) k; unfold looseL; omega
      have hbase : w.heap.size ≤ wr.heap.size := HR.out.1.kept.size
      have hfr := HFR.out wr HR.out.1.kept
      have hor : (k < D) ∨ (D ≤ k ∧ b = true) ∨ (D ≤ k ∧ b = false) := by cases b <;> simp <;> omega
      rcases hor with h1 | ⟨h1, rfl⟩ | ⟨h1, rfl⟩
      · obtain ⟨v', w', hrun, HN⟩ := HR.out.1.a2.app k hl2 hbase
        have HF : Hid (Aud3 w.heap.size w w' v' u3 u4 (List.range (min (k + 1) D)) (usedL D F (k + 1)) (looseL D F (k + 1)) ∧ w'.heap[Q]? = some (.cells (bvl F).toArray 4)) := by
          refine ⟨?_, HN.out.2.1.heap (fun hh => ?_) HR.out.2⟩
          · have e1 : List.range (min (k + 1) D) = List.range (min k D) ++ [k] := by rw [show min (k + 1) D = k + 1 by omega, show min k D = k by omega, List.range_succ]
            have e2 : usedL D F (k + 1) = usedL D F k := by rw [used_step, if_neg (by omega), List.append_nil]
            have e3 : looseL D F (k + 1) = looseL D F k := by rw [loose_step, if_neg (by omega), List.append_nil]
            rw [e1, e2, e3]
            exact HR.out.1.one (Nat.le_refl _) HN.out.1 HN.out.2.1 HN.out.2.2
          · obtain ⟨cs, hc⟩ := HR.out.1.a2.blk (by simpa using hh)
            rw [HR.out.2] at hc
            injection hc with hc; injection hc with _ hc; exact absurd hc (by decide)
        have q1 : (k : Int) < (D : Int) := by omega
        clear hb hgd hl2 hl3 hl4 hbase HN hkF
        go_wp2_with (at_builtin; refine wpList_append_run rfl _ _ _ rfl _ _ _ rfl rfl hrun ?_)
        go_roundw
        case rel => exact ⟨k + 1, by omega, by go_num, HF⟩
        case measure => simp [intOf]; omega
      · obtain ⟨v', w', hrun, HN⟩ := HR.out.1.a3.app k hl3 hbase
        have HF : Hid (Aud3 w.heap.size w w' u2 v' u4 (List.range (min (k + 1) D)) (usedL D F (k + 1)) (looseL D F (k + 1)) ∧ w'.heap[Q]? = some (.cells (bvl F).toArray 4)) := by
          refine ⟨?_, HN.out.2.1.heap (fun hh => ?_) HR.out.2⟩
          · have e1 : List.range (min (k + 1) D) = List.range (min k D) := by rw [show min (k + 1) D = min k D by omega]
            have e2 : usedL D F (k + 1) = usedL D F k ++ [k] := by rw [used_step, if_pos ⟨h1, hgd⟩]
            have e3 : looseL D F (k + 1) = looseL D F k := by rw [loose_step, if_neg (by rw [hgd]; simp), List.append_nil]
            rw [e1, e2, e3]
            exact HR.out.1.two (Nat.le_refl _) HN.out.1 HN.out.2.1 HN.out.2.2
          · obtain ⟨cs, hc⟩ := HR.out.1.a3.blk (by simpa using hh)
            rw [HR.out.2] at hc
            injection hc with hc; injection hc with _ hc; exact absurd hc (by decide)
        have q1 : ¬ (k : Int) < (D : Int) := by omega
        clear hb hgd hl2 hl3 hl4 hbase HN hkF
        go_wp2_with (at_builtin; refine wpList_append_run rfl _ _ _ rfl _ _ _ rfl rfl hrun ?_)
        go_roundw
        case rel => exact ⟨k + 1, by omega, by go_num, HF⟩
        case measure => simp [intOf]; omega
      · obtain ⟨v', w', hrun, HN⟩ := HR.out.1.a4.app k hl4 hbase
        have HF : Hid (Aud3 w.heap.size w w' u2 u3 v' (List.range (min (k + 1) D)) (usedL D F (k + 1)) (looseL D F (k + 1)) ∧ w'.heap[Q]? = some (.cells (bvl F).toArray 4)) := by
          refine ⟨?_, HN.out.2.1.heap (fun hh => ?_) HR.out.2⟩
          · have e1 : List.range (min (k + 1) D) = List.range (min k D) := by rw [show min (k + 1) D = min k D by omega]
            have e2 : usedL D F (k + 1) = usedL D F k := by rw [used_step, if_neg (by rw [hgd]; simp), List.append_nil]
            have e3 : looseL D F (k + 1) = looseL D F k ++ [k] := by rw [loose_step, if_pos ⟨h1, hgd⟩]
            rw [e1, e2, e3]
            exact HR.out.1.three (Nat.le_refl _) HN.out.1 HN.out.2.1 HN.out.2.2
          · obtain ⟨cs, hc⟩ := HR.out.1.a4.blk (by simpa using hh)
            rw [HR.out.2] at hc
            injection hc with hc; injection hc with _ hc; exact absurd hc (by decide)
        have q1 : ¬ (k : Int) < (D : Int) := by omega
        clear hb hgd hl2 hl3 hl4 hbase HN hkF
        go_wp2_with (at_builtin; refine wpList_append_run rfl _ _ _ rfl _ _ _ rfl rfl hrun ?_)
        go_roundw
        case rel => exact ⟨k + 1, by omega, by go_num, HF⟩
        case measure => simp [intOf]; omega
    · obtain rfl : k = N := by omega
      have HF : Hid (Aud3 w.heap.size w wr u2 u3 u4 (List.range D) (usedL D F k) (looseL D F k)) := by
        have := HR.out.1
        rw [show min k D = D by omega] at this
        exact this
      go_wp2_with fail
      exact bodyPost_ret (v := .tuple #[u2, u3, u4]) (by simp [results, Tryz.results23, go_sem]) rfl ⟨_, _, _, rfl, HF⟩
end Go.Proofs.YtiedoocgbajjjaaGreatDoor

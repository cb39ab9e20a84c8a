/-
  The journal in memory, and its call setHead.
  Conditions: those that each theorem states.
-/
import Derived.Test.YtmckapfncnoddaaHead
namespace Go.Proofs.Ytmckapfncnoddaa
open Go.RowKit Go.Maps

structure JourS where
  a : Nat
  at_ : Nat
  g : Nat
  owed : Bool
  n : Nat
def JourS.cells (J : JourS) : Array Value := #[.pointer (some ⟨J.a, 0, none⟩), .int .i64 J.at_, .int .i64 J.g, .bool J.owed, .int .i64 J.n]
def IsJour (w : World) (j : Nat) (J : JourS) : Prop := w.heap[j]? = some (.cells J.cells 71)

theorem IsJour.kept {w w' : World} {j : Nat} {J : JourS} (h : IsJour w j J) {ex : List Nat} (hk : Kept ex w w') (hj : j ∉ ex) : IsJour w' j J := hk.heap hj h
theorem IsJour.lt {w : World} {j : Nat} {J : JourS} (h : IsJour w j J) : j < w.heap.size := (Array.getElem?_eq_some_iff.1 h).1
theorem IsJour.cell {w : World} {j : Nat} {J : JourS} (h : IsJour w j J) (k : Nat) : w.cell? ⟨j, k, none⟩ = J.cells[k]? := cell_of_row w j k _ _ _ h
theorem IsJour.free {w : World} {j : Nat} {J : JourS} (h : IsJour w j J) (k : Nat) : w.frozen? ⟨j, k, none⟩ = false := frozen_of_row w j k _ _ h
theorem IsJour.ne_disk {w : World} {j a : Nat} {J : JourS} {S : DiskS} (h : IsJour w j J) (hd : IsDisk w a S) : j ≠ a := fun e => by
  have h1 := hd.here
  rw [← e, h] at h1
  simp [DiskS.cells, JourS.cells] at h1
theorem IsJour.ne_map {w : World} {j a : Nat} {J : JourS} {S : DiskS} (h : IsJour w j J) (hd : IsDisk w a S) : j ≠ S.m := fun e => hd.map.notCells (e ▸ h)

theorem store_any {P : Program} (w : World) (b : Nat) (t : TypeId) (cs : Array Value) (L : List UInt8) (hg : w.heap[b]? = some (.cells cs t)) (hl : cs.size = L.length) :
    (storeCells ⟨b, 0, none⟩ (bvA L).toList 0).run P w = .ok () (w.setRow b (bvA L)) := by
  rw [bvA_toList, run_storeCells_at P b 0 t (bv L) 0 cs w hg (by rw [hl, bv_length]; omega) (bv_one L), bv_length]
  simp only [Nat.add_zero, Nat.zero_add, List.take_zero, List.nil_append]
  rw [List.drop_of_length_le (by rw [Array.length_toList]; omega), List.append_nil]
  rfl

theorem heap_alloc2 (w : World) (o1 o2 : Obj) : ((w.alloc o1).alloc o2).heap[w.heap.size + 1]? = some o2 := by
  have := heap_alloc_last (w.alloc o1) o2
  rwa [size_alloc] at this

def JourS.head (J : JourS) (g : Nat) (owed : Bool) (n : Nat) : JourS := ⟨J.a, J.at_, g, owed, n⟩

theorem DiskS.wr_m (S : DiskS) (i : Int) (l : List UInt8) : (S.wr i l).2.m = S.m ∧ (S.wr i l).2.size = S.size := by
  unfold DiskS.wr
  split
  · split
    · split
      · exact ⟨S.burn_m.1, S.burn_m.2.2.2⟩
      · exact ⟨S.burn_m.1, S.burn_m.2.2.2⟩
    · exact ⟨rfl, rfl⟩
  · exact ⟨rfl, rfl⟩

structure ShSt (w : World) (E : List UInt8) (g n : Nat) (owed : Bool) (p : Nat) (w6 : World) : Prop where
  h : w6.heap[w.heap.size]? = some (.cells #[.int .i64 g, .bool owed, .int .i64 n] 69)
  b : w6.heap[p]? = some (.cells (bvA E) 79)
  plt : w.heap.size < p
  kept : Kept [] w w6

theorem write_row (a p : Nat) (S : DiskS) (i : Int) (E : List UInt8) (hE : E.length = 64) (w : World) (hd : IsDisk w a S) (hlw : S.writes < 4611686018427387904) (t : TypeId) (hp : w.heap[p]? = some (.cells (bvA E) t)) (hpa : p ≠ a) :
    Calls Try.prog 42 #[.pointer (some ⟨a, 0, none⟩), .int .i64 i, .slice (some ⟨p, 0, none⟩) 64 64] w fun e w' => e = .returned (.int .i64 (S.wr i E).1) ∧ IsDisk w' a (S.wr i E).2 ∧ Kept [a, S.m] w w' :=
  write_any a S i _ E w hd hlw (.inl ⟨p, 0, 64, by rw [hE], (Array.getElem?_eq_some_iff.1 hp).1, range_row hp⟩) (by intro b o n c h; simp at h; omega)

set_option maxRecDepth 100000 in
set_option maxHeartbeats 1000000 in
theorem setHead_walk (j : Nat) (J J' : JourS) (S S' : DiskS) (x : Int) (g n : Nat) (owed : Bool) (w : World) (hj : IsJour w j J) (hd : IsDisk w J.a S) (hlw : S.writes < 4611686018427387904)
    (hr : S.wr J.at_ (encL J.at_ g n owed) = (x, S')) (hJ : J' = if x = 0 then J.head g owed n else J) :
    Calls Try.prog 32 #[.pointer (some ⟨j, 0, none⟩), .agg #[.int .i64 g, .bool owed, .int .i64 n]] w fun e w' =>
      e = .returned (.int .i64 x) ∧ IsDisk w' J.a S' ∧ IsJour w' j J' ∧ Kept [J.a, S.m, j] w w' := by
  have HR := Lib.hid hr
  have HJ' := Lib.hid hJ
  clear hr hJ
  have HJ := Lib.hid hj
  have HD := Lib.hid hd
  obtain ⟨a, at_, g0, o0, n0⟩ := J
  have c1 : w.cell? ⟨j, 1, none⟩ = some (.int .i64 at_) := hj.cell 1
  have hjlt := hj.lt
  clear hj hd
  go_enter Try.func32, Try.ntmps32
  go_wp2_with fail
  have hst : ∀ (W : World) (c : Array Value), c.size = 64 → (storeCells ⟨W.heap.size, 0, none⟩ (bvA (encL at_ g n owed)).toList 0).run Try.prog (W.alloc (.cells c 79)) = .ok () (W.alloc (.cells (bvA (encL at_ g n owed)) 79)) := fun W c hc =>
    run_storeCells_new W 79 c _ (by rw [bvA_size, encL_length]; exact sizeArr) (by rw [bvA_size, encL_length, hc]) (bvA_one _)
  go_region_with (go_at_call 44; refine (encode_any at_ g n owed _).mono ?_; rintro e w5 ⟨rfl, hk5⟩; try have hst2 := store_any (P := Try.prog) w5 (w.heap.size + 1) 79 _ (encL at_ g n owed) (hk5.heap (by simp) (heap_alloc2 w _ _)) (by rw [encL_length]; rfl))
  all_goals
    try (exfalso; rename_i hno; exact hno (by rw [bvA_size, encL_length]))
  all_goals
    first
      | (generalize hw6 : World.alloc w5 _ = w6
         have HS : ShSt w (encL at_ g n owed) g n owed w5.heap.size w6 := by
           have hs := hk5.size
           rw [show (World.drew (World.alloc w _)).heap.size = w.heap.size + 1 from size_alloc _ _] at hs
           rw [← hw6]
           exact ⟨(Kept.alloc [] _ _).heap (by simp) (hk5.heap (by simp) (heap_alloc_last w _)), heap_alloc_last _ _, by omega, (Kept.alloc [] _ _).trans ((Kept.drew [] _).trans (hk5.trans (Kept.alloc [] _ _)))⟩
         clear hw6 hst hk5
         generalize w5.heap.size = p at HS ⊢)
      | (generalize hw6 : World.setRow w5 _ _ = w6
         have HS : ShSt w (encL at_ g n owed) g n owed (w.heap.size + 1) w6 := by
           rw [← hw6]
           exact ⟨(setRow_kept w5 _ _).heap (by simp) (hk5.heap (by simp) ((Kept.alloc [] _ _).heap (by simp) (heap_alloc_last w _))), setRow_heap _ _ _ _ _ _ (hk5.heap (by simp) (heap_alloc2 w _ _)), by omega, ((Kept.alloc [] _ _).trans ((Kept.alloc [] _ _).trans ((Kept.drew [] _).trans hk5))).into (setRow_kept w5 _ _) (by simp)⟩
         clear hw6 hst hk5 hst2
         generalize w.heap.size + 1 = p at HS ⊢)
    clear w5
    obtain ⟨E, hE⟩ : ∃ E, encL at_ g n owed = E := ⟨_, rfl⟩
    have hEl : E.length = 64 := by rw [← hE]; exact encL_length _ _ _ _
    simp only [hE] at HS HR
    have hk6 : Kept [] w w6.drew := HS.kept.trans (Kept.drew _ _)
    have hd6 := HD.out.kept hk6 (by simp) (by simp)
    have hj6 := HJ.out.kept hk6 (by simp)
    have hja := HJ.out.ne_disk HD.out
    have hjm := HJ.out.ne_map HD.out
    have hpa : p ≠ a := by have := HD.out.lt; have := HS.plt; omega
    have hpm : p ≠ S.m := by have := HD.out.map.lt; have := HS.plt; omega
    have CA : ∀ w', Kept [a, S.m] w6.drew w' → w'.cell? ⟨j, 0, none⟩ = some (.pointer (some ⟨a, 0, none⟩)) := fun w' hk => (hj6.kept hk (by simp; exact ⟨hja, hjm⟩)).cell 0
    have CB : ∀ w', Kept [a, S.m] w6.drew w' → w'.cell? ⟨j, 1, none⟩ = some (.int .i64 at_) := fun w' hk => (hj6.kept hk (by simp; exact ⟨hja, hjm⟩)).cell 1
    have HD6 := Lib.hid hd6
    have HJ6 := Lib.hid hj6
    have HP := Lib.hid (show w6.drew.heap[p]? = some (.cells (bvA E) 79) from HS.b)
    have HH := Lib.hid (show w6.drew.heap[w.heap.size]? = some (.cells #[.int .i64 g, .bool owed, .int .i64 n] 69) from HS.h)
    have HK6 := Lib.hid hk6
    have HE := Lib.hid hE
    have hplt := HS.plt
    clear hd6 hj6 hk6 HS hE
    go_wp2_with fail
    refine wp_region_grow (List.replicate 9 true ++ [false, true]) [a, S.m] (by kernel_rfl) (fun _ _ d _ _ h => by cases d <;> exact h) (by kernel_rfl) rfl (by kernel_rfl) ?_
    simp only [List.replicate_succ, List.replicate_zero, List.cons_append, List.nil_append, List.zip_cons_cons, List.zip_nil_left]
    repeat (apply wpGrow_take; (case hw => rfl); (case hv => intro w' hk; go_simp; with_reducible rfl); simp only [Act.put, List.setIfInBounds_toArray, List.set_cons_zero, List.set_cons_succ])
    refine wpGrow_force (by rfl) (fun K hK => ?_)
    go_simp
    refine (write_row a p S at_ E hEl _ HD6.out hlw _ HP.out hpa).mono ?_
    rw [HR.out]
    rintro e w7 ⟨rfl, hd7, hk7⟩
    refine hK _ _ hk7 ?_
    clear hK K CA CB
    have hkk : Kept [a, S.m] w w7 := (HK6.out.mono (by simp)).trans hk7
    have hj7 : IsJour w7 j ⟨a, at_, g0, o0, n0⟩ := HJ6.out.kept hk7 (by simp; exact ⟨hja, hjm⟩)
    have hh7 : w7.heap[w.heap.size]? = _ := hk7.heap (by simp; have := HD.out.lt; have := HD.out.map.lt; omega) HH.out
    have HD7 := Lib.hid hd7
    have HJ7 := Lib.hid hj7
    have HK7 := Lib.hid hkk
    have HH7 := Lib.hid hh7
    clear hd7 hk7 hkk hj7 hh7 HP HH HK6 HD6 HJ6
    simp only at HD7 ⊢
    by_cases hx : x = 0
    · subst hx
      have c0 : w7.cell? ⟨w.heap.size, 0, none⟩ = some (.int .i64 g) := cell_of_row w7 _ 0 _ _ _ HH7.out
      have c1 : w7.cell? ⟨w.heap.size, 1, none⟩ = some (.bool owed) := cell_of_row w7 _ 1 _ _ _ HH7.out
      have c2 : w7.cell? ⟨w.heap.size, 2, none⟩ = some (.int .i64 n) := cell_of_row w7 _ 2 _ _ _ HH7.out
      have d2 : w7.cell? ⟨j, 2, none⟩ = some (.int .i64 g0) := HJ7.out.cell 2
      have d3 : w7.cell? ⟨j, 3, none⟩ = some (.bool o0) := HJ7.out.cell 3
      have d4 : w7.cell? ⟨j, 4, none⟩ = some (.int .i64 n0) := HJ7.out.cell 4
      have f0 : ∀ k, w7.frozen? ⟨j, k, none⟩ = false := HJ7.out.free
      repeat (apply wpGrow_take; (case hw => rfl); (case hv => intro w' hk; go_simp; with_reducible rfl); simp only [Act.put, List.setIfInBounds_toArray, List.set_cons_zero, List.set_cons_succ])
      refine wpGrow_nil ?_
      go_wp2_with fail
      go_ret
      have k1 : Kept [j] w7 _ := ((Kept.setCell [j] w7 ⟨j, 2, none⟩ (.int .i64 g) (by simp)).trans (Kept.setCell [j] _ ⟨j, 3, none⟩ (.bool owed) (by simp))).trans (Kept.setCell [j] _ ⟨j, 4, none⟩ (.int .i64 n) (by simp))
      refine ⟨rfl, HD7.out.kept k1 (by simpa using hja.symm) ?_, ?_, (HK7.out.mono (by simp)).trans (k1.mono (by simp))⟩
      · have := (S.wr_m at_ E).1
        rw [HR.out] at this
        simp only at this
        rw [this]
        simpa using hjm.symm
      · rw [HJ'.out]
        simp only [if_true]
        unfold IsJour
        rw [heap_setCell_same _ j 4 _ _ _ (heap_setCell_same _ j 3 _ _ _ (heap_setCell_same _ j 2 _ _ _ HJ7.out))]
        rfl
    · have hx' : (x != 0) = true := by rw [bne_iff_ne]; exact hx
      repeat (apply wpGrow_take; (case hw => rfl); (case hv => intro w' hk; go_simp; with_reducible rfl); simp only [Act.put, List.setIfInBounds_toArray, List.set_cons_zero, List.set_cons_succ])
      refine wpGrow_nil ?_
      go_wp2_with fail
      go_ret
      exact ⟨rfl, HD7.out, by rw [HJ'.out, if_neg hx]; exact HJ7.out, HK7.out.mono (by intro k hk _; simp at hk ⊢; omega)⟩

theorem setHead_any (j : Nat) (J : JourS) (S : DiskS) (g n : Nat) (owed : Bool) (w : World) (hj : IsJour w j J) (hd : IsDisk w J.a S) (hlw : S.writes < 4611686018427387904) :
    Calls Try.prog 32 #[.pointer (some ⟨j, 0, none⟩), .agg #[.int .i64 g, .bool owed, .int .i64 n]] w fun e w' =>
      e = .returned (.int .i64 (S.wr J.at_ (encL J.at_ g n owed)).1) ∧ IsDisk w' J.a (S.wr J.at_ (encL J.at_ g n owed)).2 ∧ IsJour w' j (if (S.wr J.at_ (encL J.at_ g n owed)).1 = 0 then J.head g owed n else J) ∧ Kept [J.a, S.m, j] w w' :=
  setHead_walk j J _ S _ _ g n owed w hj hd hlw rfl rfl

end Go.Proofs.Ytmckapfncnoddaa

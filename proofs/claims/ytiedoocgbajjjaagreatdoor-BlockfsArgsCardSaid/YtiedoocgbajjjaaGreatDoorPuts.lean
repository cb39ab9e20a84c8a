/-
  The journal in memory, and its call setHead.
  Conditions: those that each theorem states.
  A group of writes in memory; a row of writes done one behind the other; the journal's call perform.
  Conditions: those that each theorem states.
-/
import Derived.Test.YtiedoocgbajjjaaGreatDoorLTakeE
import Derived.Test.YtiedoocgbajjjaaGreatDoorHead
namespace Go.Proofs.YtiedoocgbajjjaaGreatDoor
open Go.RowKit Go.Maps
set_option maxRecDepth 100000

structure JourS where
  a : Nat
  at_ : Nat
  g : Nat
  owed : Bool
  n : Nat
def JourS.cells (J : JourS) : Array Value := #[.pointer (some ⟨J.a, 0, none⟩), .int .i64 J.at_, .int .i64 J.g, .bool J.owed, .int .i64 J.n]
def IsJour (w : World) (j : Nat) (J : JourS) : Prop := w.heap[j]? = some (.cells J.cells 118)

theorem IsJour.kept {w w' : World} {j : Nat} {J : JourS} (h : IsJour w j J) {ex : List Nat} (hk : Kept ex w w') (hj : j ∉ ex) : IsJour w' j J := hk.heap hj h
theorem IsJour.lt {w : World} {j : Nat} {J : JourS} (h : IsJour w j J) : j < w.heap.size := (Array.getElem?_eq_some_iff.1 h).1
theorem IsJour.cell {w : World} {j : Nat} {J : JourS} (h : IsJour w j J) (k : Nat) : w.cell? ⟨j, k, none⟩ = J.cells[k]? := cell_of_row w j k _ _ _ h
theorem IsJour.free {w : World} {j : Nat} {J : JourS} (h : IsJour w j J) (k : Nat) : w.frozen? ⟨j, k, none⟩ = false := frozen_of_row w j k _ _ h
theorem IsJour.ne_disk {w : World} {j a : Nat} {J : JourS} {S : DiskS} (h : IsJour w j J) (hd : IsDisk w a S) : j ≠ a := fun e => by
  have h1 := hd.here
  rw [← e, h] at h1
  simp [DiskS.cells, JourS.cells] at h1
theorem IsJour.ne_map {w : World} {j a : Nat} {J : JourS} {S : DiskS} (h : IsJour w j J) (hd : IsDisk w a S) : j ≠ S.m := fun e => hd.map.notCells (e ▸ h)

theorem store_any {P : Program} (w : World) (b : Nat) (t : TypeId) (cs : Array Value) (L : List UInt8) (hg : w.heap[b]? = some (.cells cs t)) (hl : cs.size = L.length) :
    (storeCells ⟨b, 0, none⟩ (bvA L).toList 0).run P w = .ok () (w.setRow b (bvA L)) := by
  rw [bvA_toList, run_storeCells_at P b 0 t (bv L) 0 cs w hg (by rw [hl, bv_length]; omega) (bv_one L), bv_length]
  simp only [Nat.add_zero, Nat.zero_add, List.take_zero, List.nil_append]
  rw [List.drop_of_length_le (by rw [Array.length_toList]; omega), List.append_nil]
  rfl

theorem heap_alloc2 (w : World) (o1 o2 : Obj) : ((w.alloc o1).alloc o2).heap[w.heap.size + 1]? = some o2 := by
  have := heap_alloc_last (w.alloc o1) o2
  rwa [size_alloc] at this

def JourS.head (J : JourS) (g : Nat) (owed : Bool) (n : Nat) : JourS := ⟨J.a, J.at_, g, owed, n⟩

theorem DiskS.wr_m (S : DiskS) (i : Int) (l : List UInt8) : (S.wr i l).2.m = S.m ∧ (S.wr i l).2.size = S.size := by
  unfold DiskS.wr
  split
  · split
    · split
      · exact ⟨S.burn_m.1, S.burn_m.2.2.2⟩
      · exact ⟨S.burn_m.1, S.burn_m.2.2.2⟩
    · exact ⟨rfl, rfl⟩
  · exact ⟨rfl, rfl⟩

structure ShSt (w : World) (E : List UInt8) (g n : Nat) (owed : Bool) (p : Nat) (w6 : World) : Prop where
  h : w6.heap[w.heap.size]? = some (.cells #[.int .i64 g, .bool owed, .int .i64 n] 116)
  b : w6.heap[p]? = some (.cells (bvA E) 72)
  plt : w.heap.size < p
  kept : Kept [] w w6

theorem write_row (a p : Nat) (S : DiskS) (i : Int) (E : List UInt8) (hE : E.length = 64) (w : World) (hd : IsDisk w a S) (hlw : S.writes < 4611686018427387904) (t : TypeId) (hp : w.heap[p]? = some (.cells (bvA E) t)) (hpa : p ≠ a) :
    Calls Tryz.prog 11 #[.pointer (some ⟨a, 0, none⟩), .int .i64 i, .slice (some ⟨p, 0, none⟩) 64 64] w fun e w' => e = .returned (.int .i64 (S.wr i E).1) ∧ IsDisk w' a (S.wr i E).2 ∧ Kept [a, S.m] w w' :=
  write_any a S i _ E w hd hlw (.inl ⟨p, 0, 64, by rw [hE], (Array.getElem?_eq_some_iff.1 hp).1, range_row hp⟩) (by intro b o n c h; simp at h; omega)

set_option maxRecDepth 100000 in
set_option maxHeartbeats 1000000 in
theorem setHead_walk (j : Nat) (J J' : JourS) (S S' : DiskS) (x : Int) (g n : Nat) (owed : Bool) (w : World) (hj : IsJour w j J) (hd : IsDisk w J.a S) (hlw : S.writes < 4611686018427387904)
    (hr : S.wr J.at_ (encL J.at_ g n owed) = (x, S')) (hJ : J' = if x = 0 then J.head g owed n else J) :
    Calls Tryz.prog 68 #[.pointer (some ⟨j, 0, none⟩), .agg #[.int .i64 g, .bool owed, .int .i64 n]] w fun e w' =>
      e = .returned (.int .i64 x) ∧ IsDisk w' J.a S' ∧ IsJour w' j J' ∧ Kept [J.a, S.m, j] w w' := by
  have HR := Lib.hid hr
  have HJ' := Lib.hid hJ
  clear hr hJ
  have HJ := Lib.hid hj
  have HD := Lib.hid hd
  obtain ⟨a, at_, g0, o0, n0⟩ := J
  have c1 : w.cell? ⟨j, 1, none⟩ = some (.int .i64 at_) := hj.cell 1
  have hjlt := hj.lt
  clear hj hd
  go_enter Tryz.func68, Tryz.ntmps68
  go_wp2_with fail
  have hst : ∀ (W : World) (c : Array Value), c.size = 64 → (storeCells ⟨W.heap.size, 0, none⟩ (bvA (encL at_ g n owed)).toList 0).run Tryz.prog (W.alloc (.cells c 72)) = .ok () (W.alloc (.cells (bvA (encL at_ g n owed)) 72)) := fun W c hc =>
    run_storeCells_new W 72 c _ (by rw [bvA_size, encL_length]; exact sizeArr) (by rw [bvA_size, encL_length, hc]) (bvA_one _)
  go_region_with (go_at_call 89; refine (encode_any at_ g n owed _).mono ?_; rintro e w5 ⟨rfl, hk5⟩; try have hst2 := store_any (P := Tryz.prog) w5 (w.heap.size + 1) 72 _ (encL at_ g n owed) (hk5.heap (by simp) (heap_alloc2 w _ _)) (by rw [encL_length]; rfl))
  all_goals
    try (exfalso; rename_i hno; exact hno (by rw [bvA_size, encL_length]))
  all_goals
    first
      | (generalize hw6 : World.alloc w5 _ = w6
         have HS : ShSt w (encL at_ g n owed) g n owed w5.heap.size w6 := by
           have hs := hk5.size
           rw [show (World.drew (World.alloc w _)).heap.size = w.heap.size + 1 from size_alloc _ _] at hs
           rw [← hw6]
           exact ⟨(Kept.alloc [] _ _).heap (by simp) (hk5.heap (by simp) (heap_alloc_last w _)), heap_alloc_last _ _, by omega, (Kept.alloc [] _ _).trans ((Kept.drew [] _).trans (hk5.trans (Kept.alloc [] _ _)))⟩
         clear hw6 hst hk5
         generalize w5.heap.size = p at HS ⊢)
      | (generalize hw6 : World.setRow w5 _ _ = w6
         have HS : ShSt w (encL at_ g n owed) g n owed (w.heap.size + 1) w6 := by
           rw [← hw6]
           exact ⟨(setRow_kept w5 _ _).heap (by simp) (hk5.heap (by simp) ((Kept.alloc [] _ _).heap (by simp) (heap_alloc_last w _))), setRow_heap _ _ _ _ _ _ (hk5.heap (by simp) (heap_alloc2 w _ _)), by omega, ((Kept.alloc [] _ _).trans ((Kept.alloc [] _ _).trans ((Kept.drew [] _).trans hk5))).into (setRow_kept w5 _ _) (by simp)⟩
         clear hw6 hst hk5 hst2
         generalize w.heap.size + 1 = p at HS ⊢)
    clear w5
    obtain ⟨E, hE⟩ : ∃ E, encL at_ g n owed = E := ⟨_, rfl⟩
    have hEl : E.length = 64 := by rw [← hE]; exact encL_length _ _ _ _
    simp only [hE] at HS HR
    have hk6 : Kept [] w w6.drew := HS.kept.trans (Kept.drew _ _)
    have hd6 := HD.out.kept hk6 (by simp) (by simp)
    have hj6 := HJ.out.kept hk6 (by simp)
    have hja := HJ.out.ne_disk HD.out
    have hjm := HJ.out.ne_map HD.out
    have hpa : p ≠ a := by have := HD.out.lt; have := HS.plt; omega
    have hpm : p ≠ S.m := by have := HD.out.map.lt; have := HS.plt; omega
    have CA : ∀ w', Kept [a, S.m] w6.drew w' → w'.cell? ⟨j, 0, none⟩ = some (.pointer (some ⟨a, 0, none⟩)) := fun w' hk => (hj6.kept hk (by simp; exact ⟨hja, hjm⟩)).cell 0
    have CB : ∀ w', Kept [a, S.m] w6.drew w' → w'.cell? ⟨j, 1, none⟩ = some (.int .i64 at_) := fun w' hk => (hj6.kept hk (by simp; exact ⟨hja, hjm⟩)).cell 1
    have HD6 := Lib.hid hd6
    have HJ6 := Lib.hid hj6
    have HP := Lib.hid (show w6.drew.heap[p]? = some (.cells (bvA E) 72) from HS.b)
    have HH := Lib.hid (show w6.drew.heap[w.heap.size]? = some (.cells #[.int .i64 g, .bool owed, .int .i64 n] 116) from HS.h)
    have HK6 := Lib.hid hk6
    have HE := Lib.hid hE
    have hplt := HS.plt
    clear hd6 hj6 hk6 HS hE
    go_wp2_with fail
    refine wp_region_grow (List.replicate 9 true ++ [false, true]) [a, S.m] (by kernel_rfl) (fun _ _ d _ _ h => by cases d <;> exact h) (by kernel_rfl) rfl (by kernel_rfl) ?_
    simp only [List.replicate_succ, List.replicate_zero, List.cons_append, List.nil_append, List.zip_cons_cons, List.zip_nil_left]
    repeat (apply wpGrow_take; (case hw => rfl); (case hv => intro w' hk; go_simp; with_reducible rfl); simp only [Act.put, List.setIfInBounds_toArray, List.set_cons_zero, List.set_cons_succ])
    refine wpGrow_force (by rfl) (fun K hK => ?_)
    go_simp
    refine (write_row a p S at_ E hEl _ HD6.out hlw _ HP.out hpa).mono ?_
    rw [HR.out]
    rintro e w7 ⟨rfl, hd7, hk7⟩
    refine hK _ _ hk7 ?_
    clear hK K CA CB
    have hkk : Kept [a, S.m] w w7 := (HK6.out.mono (by simp)).trans hk7
    have hj7 : IsJour w7 j ⟨a, at_, g0, o0, n0⟩ := HJ6.out.kept hk7 (by simp; exact ⟨hja, hjm⟩)
    have hh7 : w7.heap[w.heap.size]? = _ := hk7.heap (by simp; have := HD.out.lt; have := HD.out.map.lt; omega) HH.out
    have HD7 := Lib.hid hd7
    have HJ7 := Lib.hid hj7
    have HK7 := Lib.hid hkk
    have HH7 := Lib.hid hh7
    clear hd7 hk7 hkk hj7 hh7 HP HH HK6 HD6 HJ6
    simp only at HD7 ⊢
    by_cases hx : x = 0
    · subst hx
      have c0 : w7.cell? ⟨w.heap.size, 0, none⟩ = some (.int .i64 g) := cell_of_row w7 _ 0 _ _ _ HH7.out
      have c1 : w7.cell? ⟨w.heap.size, 1, none⟩ = some (.bool owed) := cell_of_row w7 _ 1 _ _ _ HH7.out
      have c2 : w7.cell? ⟨w.heap.size, 2, none⟩ = some (.int .i64 n) := cell_of_row w7 _ 2 _ _ _ HH7.out
      have d2 : w7.cell? ⟨j, 2, none⟩ = some (.int .i64 g0) := HJ7.out.cell 2
      have d3 : w7.cell? ⟨j, 3, none⟩ = some (.bool o0) := HJ7.out.cell 3
      have d4 : w7.cell? ⟨j, 4, none⟩ = some (.int .i64 n0) := HJ7.out.cell 4
      have f0 : ∀ k, w7.frozen? ⟨j, k, none⟩ = false := HJ7.out.free
      repeat (apply wpGrow_take; (case hw => rfl); (case hv => intro w' hk; go_simp; with_reducible rfl); simp only [Act.put, List.setIfInBounds_toArray, List.set_cons_zero, List.set_cons_succ])
      refine wpGrow_nil ?_
      go_wp2_with fail
      go_ret
      have k1 : Kept [j] w7 _ := ((Kept.setCell [j] w7 ⟨j, 2, none⟩ (.int .i64 g) (by simp)).trans (Kept.setCell [j] _ ⟨j, 3, none⟩ (.bool owed) (by simp))).trans (Kept.setCell [j] _ ⟨j, 4, none⟩ (.int .i64 n) (by simp))
      refine ⟨rfl, HD7.out.kept k1 (by simpa using hja.symm) ?_, ?_, (HK7.out.mono (by simp)).trans (k1.mono (by simp))⟩
      · have := (S.wr_m at_ E).1
        rw [HR.out] at this
        simp only at this
        rw [this]
        simpa using hjm.symm
      · rw [HJ'.out]
        simp only [if_true]
        unfold IsJour
        rw [heap_setCell_same _ j 4 _ _ _ (heap_setCell_same _ j 3 _ _ _ (heap_setCell_same _ j 2 _ _ _ HJ7.out))]
        rfl
    · have hx' : (x != 0) = true := by rw [bne_iff_ne]; exact hx
      repeat (apply wpGrow_take; (case hw => rfl); (case hv => intro w' hk; go_simp; with_reducible rfl); simp only [Act.put, List.setIfInBounds_toArray, List.set_cons_zero, List.set_cons_succ])
      refine wpGrow_nil ?_
      go_wp2_with fail
      go_ret
      exact ⟨rfl, HD7.out, by rw [HJ'.out, if_neg hx]; exact HJ7.out, HK7.out.mono (by intro k hk _; simp at hk ⊢; omega)⟩

theorem setHead_any (j : Nat) (J : JourS) (S : DiskS) (g n : Nat) (owed : Bool) (w : World) (hj : IsJour w j J) (hd : IsDisk w J.a S) (hlw : S.writes < 4611686018427387904) :
    Calls Tryz.prog 68 #[.pointer (some ⟨j, 0, none⟩), .agg #[.int .i64 g, .bool owed, .int .i64 n]] w fun e w' =>
      e = .returned (.int .i64 (S.wr J.at_ (encL J.at_ g n owed)).1) ∧ IsDisk w' J.a (S.wr J.at_ (encL J.at_ g n owed)).2 ∧ IsJour w' j (if (S.wr J.at_ (encL J.at_ g n owed)).1 = 0 then J.head g owed n else J) ∧ Kept [J.a, S.m, j] w w' :=
  setHead_walk j J _ S _ _ g n owed w hj hd hlw rfl rfl

end Go.Proofs.YtiedoocgbajjjaaGreatDoor

namespace Go.Proofs.YtiedoocgbajjjaaGreatDoor
open Go.RowKit Go.Maps
set_option maxRecDepth 100000

abbrev PutL := Int × List UInt8

/-- Block b holds a byte or a slice. -/
def Plain (w : World) (b : Nat) : Prop := ∃ k v, w.cell? ⟨b, k, none⟩ = some v ∧ ((∃ x, v = .int .u8 x) ∨ ∃ a n c, v = .slice a n c)
/-- No block of ex does. -/
def Off (w : World) (ex : List Nat) : Prop := ∀ b, Plain w b → b ∉ ex

theorem Off.nil (w : World) : Off w [] := fun _ _ => by simp

theorem BlkMap.nocell {P : Program} {k : TypeId} {w : World} {m n : Nat} {f : Int → List UInt8} (h : BlkMap P k w m n f) (o : Nat) : w.cell? ⟨m, o, none⟩ = none := by
  obtain ⟨D, ⟨es, clock, hb, _⟩, _⟩ := h
  simp [World.cell?, hb]

theorem IsDisk.off {w : World} {a : Nat} {S : DiskS} (h : IsDisk w a S) : Off w [a, S.m] := by
  rintro b ⟨k, v, hc, hv⟩ hm
  simp at hm
  rcases hm with rfl | rfl
  · rw [h.cell k] at hc
    rcases k with _ | _ | _ | _ | _ | _ | k <;> simp [DiskS.cells] at hc <;> subst hc <;> simp at hv
  · rw [h.map.nocell] at hc
    cases hc
theorem IsJour.off {w : World} {j : Nat} {J : JourS} (h : IsJour w j J) : Off w [j] := by
  rintro b ⟨k, v, hc, hv⟩ hm
  simp at hm
  subst hm
  rw [h.cell k] at hc
  rcases k with _ | _ | _ | _ | _ | k <;> simp [JourS.cells] at hc <;> subst hc <;> simp at hv
theorem Off.append {w : World} {e1 e2 : List Nat} (h1 : Off w e1) (h2 : Off w e2) : Off w (e1 ++ e2) := fun b hb hm => by
  rcases List.mem_append.1 hm with h | h
  · exact h1 b hb h
  · exact h2 b hb h
theorem Off.mono {w : World} {e1 e2 : List Nat} (h1 : Off w e1) (h : ∀ k ∈ e2, k ∈ e1) : Off w e2 := fun b hb hm => h1 b hb (h b hm)

theorem plain_slIs {w : World} {b o n cap : Nat} {l : List UInt8} (h : SlIs w (.slice (some ⟨b, o, none⟩) n cap) l) (hl : 0 < l.length) : Plain w b := by
  rcases h with ⟨b', o', cap', he, hlt, hc⟩ | ⟨he, _⟩
  · simp at he
    obtain ⟨⟨rfl, rfl⟩, _⟩ := he
    exact ⟨o + 0, _, hc 0 _ (by simp [bv, hl]; rfl), .inl ⟨_, rfl⟩⟩
  · simp at he

theorem SlIs.keptO {w w' : World} {v : Value} {l : List UInt8} (h : SlIs w v l) {ex : List Nat} (hk : Kept ex w w') (hx : Off w ex) : SlIs w' v l := by
  have h0 := h
  rcases h with ⟨b, o, cap, rfl, hlt, hc⟩ | h
  · refine .inl ⟨b, o, cap, rfl, Nat.lt_of_lt_of_le hlt hk.size, ?_⟩
    by_cases hl : 0 < l.length
    · exact hk.range hlt (hx b (plain_slIs h0 hl)) hc
    · intro j v hv
      have : l = [] := List.length_eq_zero_iff.1 (by omega)
      subst this
      simp [bv] at hv
  · exact .inr h

/-- .. or an empty slice, wherever it lies. -/
def SlW (w : World) (v : Value) (l : List UInt8) : Prop := SlIs w v l ∨ ∃ a cap, v = .slice a 0 cap ∧ l = []
theorem SlW.kept {w w' : World} {v : Value} {l : List UInt8} (h : SlW w v l) {ex : List Nat} (hk : Kept ex w w') (hx : Off w ex) : SlW w' v l := by
  rcases h with h | h
  · exact .inl (h.keptO hk hx)
  · exact .inr h

/-- 'Write', whatever is asked; bytes never lie where the disk does. -/
theorem write_put (a : Nat) (S : DiskS) (i : Int) (v : Value) (l : List UInt8) (w : World) (h : IsDisk w a S) (hlw : S.writes < 4611686018427387904) (hv0 : SlW w v l) (x : Int) (S' : DiskS) (hx : S.wr i l = (x, S')) :
    Calls Tryz.prog 11 #[.pointer (some ⟨a, 0, none⟩), .int .i64 i, v] w fun e w' => e = .returned (.int .i64 x) ∧ IsDisk w' a S' ∧ Kept [a, S.m] w w' := by
  have key : Calls Tryz.prog 11 #[.pointer (some ⟨a, 0, none⟩), .int .i64 i, v] w fun e w' => e = .returned (.int .i64 (S.wr i l).1) ∧ IsDisk w' a (S.wr i l).2 ∧ Kept [a, S.m] w w' := by
    by_cases hl : 0 < l.length
    · have hv : SlIs w v l := by
        rcases hv0 with h | ⟨a', c', _, h⟩
        · exact h
        · rw [h] at hl; simp at hl
      refine write_any a S i v l w h hlw hv fun b o n c he hb => ?_
      subst he
      exact h.off b (plain_slIs hv hl) (by simp [hb])
    · have hl0 : l = [] := List.length_eq_zero_iff.1 (by omega)
      subst hl0
      unfold DiskS.wr
      by_cases hr : S.reach i = 0
      · rw [if_pos hr, if_neg (by simp)]
        rcases hv0 with (⟨b, o, cap, rfl, _⟩ | ⟨rfl, _⟩) | ⟨a', c', rfl, _⟩
        · exact (write_len a S i _ 0 cap w h hr (by decide)).mono fun e w' ⟨he, hw⟩ => ⟨he, hw ▸ h, hw ▸ Kept.refl _ _⟩
        · exact (write_len a S i _ 0 0 w h hr (by decide)).mono fun e w' ⟨he, hw⟩ => ⟨he, hw ▸ h, hw ▸ Kept.refl _ _⟩
        · exact (write_len a S i _ 0 c' w h hr (by decide)).mono fun e w' ⟨he, hw⟩ => ⟨he, hw ▸ h, hw ▸ Kept.refl _ _⟩
      · rw [if_neg hr]
        exact (write_away a S i v w h (by rw [bne_iff_ne]; exact hr)).mono fun e w' ⟨he, hw⟩ => ⟨he, hw ▸ h, hw ▸ Kept.refl _ _⟩
  rw [hx] at key
  exact key

def PutsAt (w : World) (b o : Nat) (l : List PutL) : Prop :=
  ∀ k (hk : k < l.length), ∃ ao n cap, w.cell? ⟨b, o + k * 2, none⟩ = some (.int .i64 l[k].1) ∧ w.cell? ⟨b, o + k * 2 + 1, none⟩ = some (.slice ao n cap) ∧ SlW w (.slice ao n cap) l[k].2 ∧
    -9223372036854775808 ≤ l[k].1 ∧ l[k].1 ≤ 9223372036854775807 ∧ n ≤ 9223372036854775807

theorem PutsAt.kept {w w' : World} {b o : Nat} {l : List PutL} (h : PutsAt w b o l) {ex : List Nat} (hk : Kept ex w w') (hx : Off w ex) : PutsAt w' b o l := by
  intro k hkl
  obtain ⟨ao, n, cap, h1, h2, h3, h4⟩ := h k hkl
  have hp : b ∉ ex := hx b ⟨_, _, h2, .inr ⟨_, _, _, rfl⟩⟩
  have hb := World.block_lt_of_cell? w _ h2
  exact ⟨ao, n, cap, by rw [hk.cell (p := ⟨b, o + k * 2, none⟩) hb hp]; exact h1, by rw [hk.cell (p := ⟨b, o + k * 2 + 1, none⟩) hb hp]; exact h2, h3.kept hk hx, h4⟩

/-- A slice value of writes. -/
def PutsIs (w : World) (ao : Option Addr) (len : Nat) (l : List PutL) : Prop :=
  l.length = len ∧ len ≤ 9223372036854775807 ∧ (0 < len → ∃ b o, ao = some ⟨b, o, none⟩ ∧ PutsAt w b o l)
theorem PutsIs.kept {w w' : World} {ao : Option Addr} {len : Nat} {l : List PutL} (h : PutsIs w ao len l) {ex : List Nat} (hk : Kept ex w w') (hx : Off w ex) : PutsIs w' ao len l := by
  obtain ⟨h1, h2, h3⟩ := h
  refine ⟨h1, h2, fun h0 => ?_⟩
  obtain ⟨b, o, rfl, h4⟩ := h3 h0
  exact ⟨b, o, rfl, h4.kept hk hx⟩

/-- Writes, one behind the other, up to the first that is refused. -/
def DiskS.wrs (S : DiskS) : List PutL → Int × DiskS
  | [] => (0, S)
  | p :: r => if (S.wr p.1 p.2).1 = 0 then (S.wr p.1 p.2).2.wrs r else S.wr p.1 p.2

theorem DiskS.wrs_append (S : DiskS) (l r : List PutL) : S.wrs (l ++ r) = if (S.wrs l).1 = 0 then (S.wrs l).2.wrs r else S.wrs l := by
  induction l generalizing S with
  | nil => simp [DiskS.wrs]
  | cons p l ih =>
    by_cases h : (S.wr p.1 p.2).1 = 0
    · rw [show S.wrs (p :: l ++ r) = (S.wr p.1 p.2).2.wrs (l ++ r) from if_pos h, show S.wrs (p :: l) = (S.wr p.1 p.2).2.wrs l from if_pos h]
      exact ih _
    · rw [show S.wrs (p :: l ++ r) = S.wr p.1 p.2 from if_neg h, show S.wrs (p :: l) = S.wr p.1 p.2 from if_neg h, if_neg h]

theorem DiskS.wrs_m (S : DiskS) (l : List PutL) : (S.wrs l).2.m = S.m ∧ (S.wrs l).2.size = S.size := by
  induction l generalizing S with
  | nil => exact ⟨rfl, rfl⟩
  | cons p l ih =>
    unfold DiskS.wrs
    split
    · have := ih (S.wr p.1 p.2).2
      exact ⟨this.1.trans (S.wr_m _ _).1, this.2.trans (S.wr_m _ _).2⟩
    · exact S.wr_m _ _

theorem DiskS.wr_writes (S : DiskS) (i : Int) (l : List UInt8) : (S.wr i l).2.writes ≤ S.writes + 1 := by
  unfold DiskS.wr
  split
  · split
    · split
      · exact Int.le_refl _
      · simp only; rw [S.burn_m.2.2.1]; omega
    · simp only; omega
  · simp only; omega
theorem DiskS.wrs_writes (S : DiskS) (l : List PutL) : (S.wrs l).2.writes ≤ S.writes + l.length := by
  induction l generalizing S with
  | nil => simp [DiskS.wrs]
  | cons p l ih =>
    have h1 := S.wr_writes p.1 p.2
    unfold DiskS.wrs
    simp only [List.length_cons]
    split
    · have := ih (S.wr p.1 p.2).2; omega
    · omega

/-- What a loop of writes knows when it has done k of them. -/
structure WrsSt (w : World) (a : Nat) (S : DiskS) (l : List PutL) (k : Nat) (Sk : DiskS) (wr : World) : Prop where
  disk : IsDisk wr a Sk
  m : Sk.m = S.m
  size : Sk.size = S.size
  writes : Sk.writes ≤ S.writes + k
  same : S.wrs l = Sk.wrs (l.drop k)
  kept : Kept [a, S.m] w wr

theorem WrsSt.start {w w' : World} {a : Nat} {S : DiskS} (l : List PutL) (hd : IsDisk w' a S) (hk : Kept [a, S.m] w w') : WrsSt w a S l 0 S w' :=
  ⟨hd, rfl, rfl, by simp, rfl, hk⟩

theorem WrsSt.ok {w : World} {a : Nat} {S : DiskS} {l : List PutL} {k : Nat} {Sk : DiskS} {wr w' : World} (R : WrsSt w a S l k Sk wr) (hk : k < l.length) (S' : DiskS) (hr : Sk.wr l[k].1 l[k].2 = (0, S'))
    (hd : IsDisk w' a S') (hkk : Kept [a, S.m] wr w') : WrsSt w a S l (k + 1) S' w' := by
  have e1 := Sk.wr_m l[k].1 l[k].2
  have e2 := Sk.wr_writes l[k].1 l[k].2
  rw [hr] at e1 e2
  refine ⟨hd, e1.1.trans R.m, e1.2.trans R.size, ?_, ?_, R.kept.trans hkk⟩
  · have := R.writes
    simp only at e2
    push_cast
    omega
  · rw [R.same, List.drop_eq_getElem_cons hk]
    simp only [DiskS.wrs, hr, if_true]

theorem WrsSt.bad {w : World} {a : Nat} {S : DiskS} {l : List PutL} {k : Nat} {Sk : DiskS} {wr : World} (R : WrsSt w a S l k Sk wr) (hk : k < l.length) (x : Int) (S' : DiskS) (hr : Sk.wr l[k].1 l[k].2 = (x, S')) (hx : x ≠ 0) :
    S.wrs l = (x, S') := by
  rw [R.same, List.drop_eq_getElem_cons hk]
  simp only [DiskS.wrs, hr, if_neg hx]

theorem WrsSt.all {w : World} {a : Nat} {S : DiskS} {l : List PutL} {Sk : DiskS} {wr : World} (R : WrsSt w a S l l.length Sk wr) : S.wrs l = (0, Sk) := by
  rw [R.same, List.drop_length]; rfl

theorem WrsSt.grow {w : World} {a : Nat} {S : DiskS} {l : List PutL} {k : Nat} {Sk : DiskS} {wr w' : World} (R : WrsSt w a S l k Sk wr) (hk : Kept [] wr w') : WrsSt w a S l k Sk w' :=
  ⟨R.disk.kept hk (by simp) (by simp), R.m, R.size, R.writes, R.same, R.kept.trans (hk.mono (by simp))⟩

theorem setHead_at (j : Nat) (J J' : JourS) (S S' : DiskS) (x : Int) (g n : Nat) (owed : Bool) (g' n' : Int) (hg : g' = g) (hn : n' = n) (w : World) (hj : IsJour w j J) (hd : IsDisk w J.a S) (hlw : S.writes < 4611686018427387904)
    (hr : S.wr J.at_ (encL J.at_ g n owed) = (x, S')) (hJ : J' = if x = 0 then J.head g owed n else J) :
    Calls Tryz.prog 68 #[.pointer (some ⟨j, 0, none⟩), .agg #[.int .i64 g', .bool owed, .int .i64 n']] w fun e w' =>
      e = .returned (.int .i64 x) ∧ IsDisk w' J.a S' ∧ IsJour w' j J' ∧ Kept [J.a, S.m, j] w w' := by
  subst hg hn
  exact setHead_walk j J J' S S' x g n owed w hj hd hlw hr hJ

set_option maxRecDepth 100000 in
set_option maxHeartbeats 1000000 in
theorem perform_walk (j : Nat) (J J' : JourS) (S S' : DiskS) (x : Int) (ao : Option Addr) (len cap : Nat) (l : List PutL) (w : World) (hj : IsJour w j J) (hd : IsDisk w J.a S) (hl : PutsIs w ao len l)
    (hlw : S.writes + len + 1 < 4611686018427387904) (hlen : len ≤ 192) (hg : J.g < 4611686018427387904)
    (hr : S.wrs (l ++ [((J.at_ : Int), encL J.at_ (J.g + 1) 0 false)]) = (x, S')) (hJ : J' = if x = 0 then J.head (J.g + 1) false 0 else J) :
    Calls Tryz.prog 108 #[.pointer (some ⟨j, 0, none⟩), .slice ao len cap] w fun e w' =>
      e = .returned (.int .i64 x) ∧ IsDisk w' J.a S' ∧ IsJour w' j J' ∧ Kept [J.a, S.m, j] w w' := by
  have HJ := Lib.hid hj
  have HD := Lib.hid hd
  have HL := Lib.hid hl
  have HR := Lib.hid hr
  have HJ' := Lib.hid hJ
  have HW := Lib.hid hlw
  have hja := Lib.hid (hj.ne_disk hd)
  have hjm := Lib.hid (hj.ne_map hd)
  obtain ⟨a, at_, g0, o0, n0⟩ := J
  clear hj hd hl hr hJ hlw
  go_enter Tryz.func108, Tryz.ntmps108
  go_wp2_with fail
  go_loopw [10] (fun i wr => ∃ (k : Nat) (Sk : DiskS), k ≤ len ∧ i = .int .i64 k ∧ Hid (WrsSt w a S l k Sk wr)) (fun i _ => len - (intOf i).toNat)
  case atStart => exact ⟨0, S, by omega, rfl, WrsSt.start l HD.out (Kept.refl _ _)⟩
  case round =>
    obtain ⟨k, Sk, hkl, rfl, HS⟩ := hrel
    have hj' := Lib.hid (HJ.out.kept HS.out.kept (by simp; exact ⟨hja.out, hjm.out⟩))
    by_cases hlt : k < len
    · have hkl' : k < l.length := by rw [HL.out.1]; exact hlt
      obtain ⟨b, o, hao, hat⟩ := (HL.out.kept HS.out.kept HD.out.off).2.2 (by omega)
      subst hao
      obtain ⟨ao', n', cap', q1, q2, q3, q4, q5, q6⟩ := hat k hkl'
      obtain ⟨p, hp⟩ : ∃ p, p = l[k] := ⟨_, rfl⟩
      rw [← hp] at q1 q3 q4 q5
      have HQ3 := Lib.hid q3
      have HP := Lib.hid hp
      clear hat q3 hp
      go_wp2_with fail
      generalize hw4 : World.alloc wr _ = w4
      have hk4 : Kept [] wr w4 := by rw [← hw4]; exact Kept.alloc _ _ _
      have hb4 : w4.drew.heap[wr.heap.size]? = some (.cells #[.int .i64 p.1, .slice ao' n' cap'] 169) := by rw [← hw4]; exact heap_alloc_last wr _
      have HS4 := Lib.hid (HS.out.grow (hk4.trans (Kept.drew [] w4)))
      have hq4 := Lib.hid (HQ3.out.kept (hk4.trans (Kept.drew [] w4)) (Off.nil _))
      have hj4 := Lib.hid (hj'.out.kept (hk4.trans (Kept.drew [] w4)) (by simp))
      have hn4 : wr.heap.size ∉ [a, S.m] := by
        have h1 := HS.out.disk.lt
        have h2 := HS.out.disk.map.lt
        rw [HS.out.m] at h2
        simp; omega
      have CA : ∀ w', Kept [a, S.m] w4.drew w' → w'.cell? ⟨j, 0, none⟩ = some (.pointer (some ⟨a, 0, none⟩)) := fun w' hk => (hj4.out.kept hk (by simp; exact ⟨hja.out, hjm.out⟩)).cell 0
      have CB : ∀ w', Kept [a, S.m] w4.drew w' → w'.cell? ⟨wr.heap.size, 0, none⟩ = some (.int .i64 p.1) := fun w' hk => cell_of_row w' _ 0 _ _ _ (hk.heap hn4 hb4)
      have CC : ∀ w', Kept [a, S.m] w4.drew w' → w'.cell? ⟨wr.heap.size, 1, none⟩ = some (.slice ao' n' cap') := fun w' hk => cell_of_row w' _ 1 _ _ _ (hk.heap hn4 hb4)
      clear hw4 hk4 hb4 hn4 q1 q2
      refine wp_region_grow (List.replicate 8 true ++ [false, true]) [a, S.m] (by kernel_rfl) (fun _ _ d _ _ h => by cases d <;> exact h) (by kernel_rfl) rfl (by kernel_rfl) ?_
      simp only [List.replicate_succ, List.replicate_zero, List.cons_append, List.nil_append, List.zip_cons_cons, List.zip_nil_left]
      repeat (apply wpGrow_take; (case hw => rfl); (case hv => intro w' hk; go_simp; with_reducible rfl); simp only [Act.put, List.setIfInBounds_toArray, List.set_cons_zero, List.set_cons_succ])
      refine wpGrow_force (by rfl) (fun K hK => ?_)
      go_simp
      obtain ⟨⟨y, Sy⟩, hy⟩ : ∃ y, Sk.wr p.1 p.2 = y := ⟨_, rfl⟩
      refine (write_put a Sk p.1 _ p.2 _ HS4.out.disk (by have := HS4.out.writes; have := HW.out; omega) hq4.out y Sy hy).mono ?_
      rw [HS4.out.m]
      rintro e w5 ⟨rfl, hd5, hk5⟩
      refine hK _ _ hk5 ?_
      clear hK K CA CB CC
      rw [HP.out] at hy
      have HD5 := Lib.hid hd5
      have HK5 := Lib.hid hk5
      have HY := Lib.hid hy
      have hj5 := Lib.hid (hj4.out.kept hk5 (by simp; exact ⟨hja.out, hjm.out⟩))
      clear hd5 hk5 hy
      by_cases hy0 : y = 0
      · subst hy0
        have HN := Lib.hid (HS4.out.ok hkl' Sy HY.out HD5.out HK5.out)
        repeat (apply wpGrow_take; (case hw => rfl); (case hv => intro w' hk; go_simp; with_reducible rfl); simp only [Act.put, List.setIfInBounds_toArray, List.set_cons_zero, List.set_cons_succ])
        refine wpGrow_nil ?_
        go_wp2_with fail
        go_roundw
        case rel => exact ⟨k + 1, Sy, by omega, by go_num, HN⟩
        case measure => simp [intOf]; omega
      · have hy' : (y != 0) = true := by rw [bne_iff_ne]; exact hy0
        repeat (apply wpGrow_take; (case hw => rfl); (case hv => intro w' hk; go_simp; with_reducible rfl); simp only [Act.put, List.setIfInBounds_toArray, List.set_cons_zero, List.set_cons_succ])
        refine wpGrow_nil ?_
        go_wp2_with fail
        go_ret
        have hb := HS4.out.bad hkl' y Sy HY.out hy0
        have hr := HR.out
        rw [DiskS.wrs_append, hb, if_neg hy0] at hr
        simp only [Prod.mk.injEq] at hr
        obtain ⟨rfl, rfl⟩ := hr
        exact ⟨rfl, HD5.out, by rw [HJ'.out, if_neg hy0]; exact hj5.out, ((HS4.out.kept.trans HK5.out).mono (by intro k hk _; simp at hk ⊢; omega))⟩
    · obtain rfl : k = len := by omega
      have c2 : wr.cell? ⟨j, 2, none⟩ = some (.int .i64 g0) := hj'.out.cell 2
      have hall := HS.out
      rw [← HL.out.1] at hall
      have hr := HR.out
      rw [DiskS.wrs_append, hall.all, if_pos rfl] at hr
      have hr2 : Sk.wr at_ (encL at_ (g0 + 1) 0 false) = (x, S') := by
        rw [← hr]
        simp only [DiskS.wrs]
        split
        · rename_i h; rw [← h]
        · rfl
      have HR2 := Lib.hid hr2
      clear hall hr hr2
      go_wp2_with fail
      refine (setHead_at j ⟨a, at_, g0, o0, n0⟩ J' Sk S' x (g0 + 1) 0 false _ _ (by omega) rfl _ hj'.out HS.out.disk (by have := HS.out.writes; have := HW.out; omega) HR2.out HJ'.out).mono ?_
      rw [HS.out.m]
      rintro e w5 ⟨rfl, hd5, hj5, hk5⟩
      go_wp2_with fail
      go_ret
      exact ⟨rfl, hd5, hj5, (HS.out.kept.mono (by intro k hk _; simp at hk ⊢; omega)).trans hk5⟩
end Go.Proofs.YtiedoocgbajjjaaGreatDoor

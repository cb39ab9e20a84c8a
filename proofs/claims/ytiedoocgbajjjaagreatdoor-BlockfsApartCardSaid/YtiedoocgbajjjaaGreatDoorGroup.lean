/-
  The journal's call isGroup: it tells whether writes are a group.
  Conditions: those that each theorem states.
-/
import Derived.Test.YtiedoocgbajjjaaGreatDoorLTakeE
import Derived.Test.YtiedoocgbajjjaaGreatDoorPuts
namespace Go.Proofs.YtiedoocgbajjjaaGreatDoor
open Go.RowKit Go.Maps
set_option maxRecDepth 100000

/-- A write that a group may have. -/
def PutOk (at_ : Nat) (size : Int) (p : PutL) : Prop := 0 ≤ p.1 ∧ p.1 < size ∧ p.2.length = 64 ∧ ¬ ((at_ : Int) ≤ p.1 ∧ p.1 < at_ + 199)
structure Grp (at_ : Nat) (size : Int) (l : List PutL) : Prop where
  len : l.length ≤ 192
  each : ∀ p ∈ l, PutOk at_ size p
  nodup : (l.map (·.1)).Nodup

theorem zeroSeen (w : World) : (zeroValue 188).run Tryz.prog w = .ok (.agg (List.replicate 4096 (Value.bool false)).toArray) w := by kernel_rfl

def boolA (Z : List Bool) : Array Value := (Z.map Value.bool).toArray
theorem boolA_set (Z : List Bool) (k : Nat) (c : Bool) : (boolA Z).setIfInBounds k (.bool c) = boolA (Z.set k c) := by
  apply Array.toList_inj.1
  simp [boolA, List.map_set]

theorem len_any (a : Nat) (S : DiskS) (w : World) (h : IsDisk w a S) :
    Calls Tryz.prog 25 #[.pointer (some ⟨a, 0, none⟩)] w fun e w' => e = .returned (.int .i64 S.size) ∧ w = w' := by
  have c2 : w.cell? ⟨a, 0, none⟩ = some (.int .i64 S.size) := h.cell 0
  clear h
  go_enter Tryz.func25, Tryz.ntmps25
  go_wp2
  go_ret
  exact ⟨rfl, rfl⟩

theorem rep_get (n b : Nat) : (List.replicate n false).getD b false = false := by
  rw [List.getD_eq_getElem?_getD, List.getElem?_replicate]
  split <;> rfl

structure GrSt (w : World) (at_ : Nat) (size : Int) (l : List PutL) (k : Nat) (Z : List Bool) (s : Nat) (wr : World) : Prop where
  each : ∀ p ∈ l.take k, PutOk at_ size p
  nodup : ((l.take k).map (·.1)).Nodup
  here : wr.heap[s]? = some (.cells (boolA Z) 188)
  len : Z.length = 4096
  seen : ∀ b, b < 4096 → (Z.getD b false = true ↔ (b : Int) ∈ (l.take k).map (·.1))
  new : w.heap.size ≤ s
  kept : Kept [] w wr

theorem GrSt.next {w : World} {at_ : Nat} {size : Int} {l : List PutL} {k : Nat} {Z : List Bool} {s : Nat} {wr w' : World} (R : GrSt w at_ size l k Z s wr) (hk : k < l.length) {B : Nat} {pl : List UInt8} (hp : l[k] = ((B : Int), pl)) (hB : B < 4096)
    (hok : PutOk at_ size ((B : Int), pl)) (hz : Z.getD B false = false) (hkk : Kept [] wr w') : GrSt w at_ size l (k + 1) (Z.set B true) s (w'.setCell ⟨s, B, none⟩ (.bool true)) := by
  have ht : l.take (k + 1) = l.take k ++ [((B : Int), pl)] := by rw [List.take_succ_eq_append_getElem hk, hp]
  have hn : ¬ (B : Int) ∈ (l.take k).map (·.1) := fun h => by
    have := (R.seen B hB).2 h
    rw [hz] at this; cases this
  refine ⟨?_, ?_, ?_, by simpa using R.len, ?_, R.new, ?_⟩
  · rw [ht]
    intro p hp
    rcases List.mem_append.1 hp with h | h
    · exact R.each p h
    · simp at h; rw [h]; exact hok
  · rw [ht, List.map_append, List.nodup_append]
    refine ⟨R.nodup, by simp, ?_⟩
    intro a ha b hb
    simp at hb
    subst hb
    intro e
    exact hn (e ▸ ha)
  · rw [heap_setCell_same w' s B _ _ _ (hkk.heap (by simp) R.here), boolA_set]
  · intro b hb
    rw [ht, List.map_append, List.mem_append]
    have hlen := R.len
    by_cases e : B = b
    · subst e
      simp only [List.getD_eq_getElem?_getD]
      rw [List.getElem?_set_self (by omega)]
      simp
    · simp only [List.getD_eq_getElem?_getD]
      rw [List.getElem?_set_ne e]
      have := R.seen b hb
      simp only [List.getD_eq_getElem?_getD] at this
      rw [this]
      simp only [List.map_cons, List.map_nil, List.mem_singleton]
      constructor
      · exact fun h => .inl h
      · rintro (h | h)
        · exact h
        · omega
  · exact (R.kept.trans hkk).into (Kept.setCell [s] _ _ _ (by simp)) (by simpa using R.new)

theorem GrSt.dup {w : World} {at_ : Nat} {size : Int} {l : List PutL} {k : Nat} {Z : List Bool} {s : Nat} {wr : World} (R : GrSt w at_ size l k Z s wr) (hk : k < l.length) (B : Nat) {pl : List UInt8} (hp : l[k] = ((B : Int), pl)) (hB : B < 4096)
    (hz : Z.getD B false = true) (hn : (l.map (·.1)).Nodup) : False := by
  have h1 := (R.seen B hB).1 hz
  have e : l = l.take k ++ l.drop k := (List.take_append_drop k l).symm
  rw [e, List.map_append, List.nodup_append] at hn
  refine hn.2.2 _ h1 (B : Int) ?_ rfl
  rw [List.drop_eq_getElem_cons hk, hp]
  simp

set_option maxRecDepth 100000 in
set_option maxHeartbeats 4000000 in
theorem isGroup_walk (j : Nat) (J : JourS) (S : DiskS) (ao : Option Addr) (len cap : Nat) (l : List PutL) (w : World) (hj : IsJour w j J) (hd : IsDisk w J.a S) (hl : PutsIs w ao len l) (hat : J.at_ < 4611686018427387904)
    (y : Bool) (hy : y = true ↔ Grp J.at_ S.size l) :
    Calls Tryz.prog 106 #[.pointer (some ⟨j, 0, none⟩), .slice ao len cap] w fun e w' => e = .returned (.bool y) ∧ Kept [] w w' := by
  have HJ := Lib.hid hj
  have HD := Lib.hid hd
  have HL := Lib.hid hl
  have HY := Lib.hid hy
  have hs1 := hd.s1
  obtain ⟨a, at_, g0, o0, n0⟩ := J
  simp only at hat
  clear hj hd hl hy
  by_cases hlen : len ≤ 192
  · obtain ⟨Z0, hZ0⟩ : ∃ Z0, Z0 = (List.replicate 4096 (Value.bool false)).toArray := ⟨_, rfl⟩
    have hz := zeroSeen
    rw [← hZ0] at hz
    have HZ := Lib.hid hZ0
    clear hZ0
    go_enter Tryz.func106, Tryz.ntmps106
    go_wp2_with fail
    clear hz
    go_loopw [13] (fun i wr => ∃ (k : Nat) (Z : List Bool), k ≤ len ∧ i = .int .i64 k ∧ Hid (GrSt w at_ S.size l k Z w.heap.size wr)) (fun i _ => len - (intOf i).toNat)
    case atStart =>
      refine ⟨0, List.replicate 4096 false, by omega, rfl, by simp, by simp, ?_, List.length_replicate, fun b hb => by rw [rep_get]; simp, Nat.le_refl _, Kept.alloc _ _ _⟩
      rw [HZ.out, heap_alloc_last, boolA, List.map_replicate]
    case round =>
      obtain ⟨k, Z, hkl, rfl, HS⟩ := hrel
      by_cases hlt : k < len
      · have hkl' : k < l.length := by rw [HL.out.1]; exact hlt
        obtain ⟨b, o, hao, hat'⟩ := (HL.out.kept HS.out.kept (Off.nil _)).2.2 (by omega)
        subst hao
        obtain ⟨ao', n', cap', q1, q2, q3, q4, q5, q6⟩ := hat' k hkl'
        obtain ⟨⟨pb, pl⟩, hp⟩ : ∃ p, p = l[k] := ⟨_, rfl⟩
        have hmem : (pb, pl) ∈ l := by rw [hp]; exact List.getElem_mem _
        have hpl : (n' : Int) = pl.length := by
          rw [← hp] at q3
          rcases q3 with (⟨b', o', c', he, _⟩ | ⟨he, hnil⟩) | ⟨a', c', he, hnil⟩
          · simp at he; simp [he.2.1]
          · simp at he; simp only at hnil; rw [hnil]; simp [he.2.1]
          · simp at he; simp only at hnil; rw [hnil]; simp [he.2.1]
        rw [← hp] at q1 q4 q5
        simp only at q1 q4 q5
        have HP := Lib.hid hp
        have HM := Lib.hid hmem
        have HPL := Lib.hid hpl
        clear hat' q3 hp hmem hpl
        go_wp2_with fail
        generalize hw4 : World.alloc wr _ = w4
        have hk4 : Kept [] wr w4 := by rw [← hw4]; exact Kept.alloc _ _ _
        have hb4 : w4.drew.heap[wr.heap.size]? = some (.cells #[.int .i64 pb, .slice ao' n' cap'] 169) := by rw [← hw4]; exact heap_alloc_last wr _
        have hk4d : Kept [] wr w4.drew := hk4.trans (Kept.drew [] w4)
        have HD4 := Lib.hid (HD.out.kept (HS.out.kept.trans hk4d) (by simp) (by simp))
        have HJ4 := Lib.hid (HJ.out.kept (HS.out.kept.trans hk4d) (by simp))
        have CA : ∀ w', Kept [] w4.drew w' → w'.cell? ⟨j, 0, none⟩ = some (.pointer (some ⟨a, 0, none⟩)) := fun w' hk => (HJ4.out.kept hk (by simp)).cell 0
        have CB : ∀ w', Kept [] w4.drew w' → w'.cell? ⟨wr.heap.size, 0, none⟩ = some (.int .i64 pb) := fun w' hk => cell_of_row w' _ 0 _ _ _ (hk.heap (by simp) hb4)
        have CC : ∀ w', Kept [] w4.drew w' → w'.cell? ⟨wr.heap.size, 1, none⟩ = some (.slice ao' n' cap') := fun w' hk => cell_of_row w' _ 1 _ _ _ (hk.heap (by simp) hb4)
        have HK4 := Lib.hid (HS.out.kept.trans hk4)
        have HB4 := Lib.hid hb4
        have HKR := Lib.hid hk4
        clear hw4 hk4 hb4 q1 q2 hk4d
        by_cases r1 : pb < 0
        · refine wp_region_grow (List.replicate 10 true ++ [false] ++ List.replicate 8 true) [] (by kernel_rfl) (fun _ _ d _ _ h => by cases d <;> exact h) (by kernel_rfl) rfl (by kernel_rfl) ?_
          simp only [List.replicate_succ, List.replicate_zero, List.cons_append, List.nil_append, List.zip_cons_cons, List.zip_nil_left]
          repeat (first | (apply wpGrow_take; (case hw => rfl); (case hv => intro w' hk; go_simp; with_reducible rfl); simp only [Act.put, List.setIfInBounds_toArray, List.set_cons_zero, List.set_cons_succ]) | (refine wpGrow_pass (by rfl) ?_; simp only [Act.put, List.setIfInBounds_toArray, List.set_cons_zero, List.set_cons_succ]))
          refine wpGrow_nil ?_
          go_wp2_with fail
          go_ret
          refine ⟨?_, HK4.out.trans (Kept.drew _ _)⟩
          have hno : y = false := by
            cases y
            · rfl
            · exact absurd ( (HY.out.1 rfl).each _ HM.out) (by intro h; have := h.1; simp only at this; omega)
          subst hno
          rfl
        · by_cases r2 : S.size ≤ pb
          · refine wp_region_grow (List.replicate 10 true ++ [false] ++ List.replicate 8 true) [] (by kernel_rfl) (fun _ _ d _ _ h => by cases d <;> exact h) (by kernel_rfl) rfl (by kernel_rfl) ?_
            simp only [List.replicate_succ, List.replicate_zero, List.cons_append, List.nil_append, List.zip_cons_cons, List.zip_nil_left]
            repeat (first | (apply wpGrow_take; (case hw => rfl); (case hv => intro w' hk; go_simp; with_reducible rfl); simp only [Act.put, List.setIfInBounds_toArray, List.set_cons_zero, List.set_cons_succ]) | (refine wpGrow_pass (by rfl) ?_; simp only [Act.put, List.setIfInBounds_toArray, List.set_cons_zero, List.set_cons_succ]))
            refine wpGrow_force (by rfl) (fun K hK => ?_)
            go_simp
            refine (len_any a S _ HD4.out).mono ?_
            rintro e w5 ⟨rfl, rfl⟩
            refine hK _ _ (Kept.refl _ _) ?_
            clear hK K
            repeat (first | (apply wpGrow_take; (case hw => rfl); (case hv => intro w' hk; go_simp; with_reducible rfl); simp only [Act.put, List.setIfInBounds_toArray, List.set_cons_zero, List.set_cons_succ]) | (refine wpGrow_pass (by rfl) ?_; simp only [Act.put, List.setIfInBounds_toArray, List.set_cons_zero, List.set_cons_succ]))
            refine wpGrow_nil ?_
            go_wp2_with fail
            go_ret
            refine ⟨?_, HK4.out.trans (Kept.drew _ _)⟩
            have hno : y = false := by
              cases y
              · rfl
              · exact absurd ( (HY.out.1 rfl).each _ HM.out) (by intro h; have := h.2.1; simp only at this; omega)
            subst hno
            rfl
          · by_cases r3 : n' = 64
            · subst r3
              refine wp_region_grow (List.replicate 10 true ++ [false] ++ List.replicate 8 true) [] (by kernel_rfl) (fun _ _ d _ _ h => by cases d <;> exact h) (by kernel_rfl) rfl (by kernel_rfl) ?_
              simp only [List.replicate_succ, List.replicate_zero, List.cons_append, List.nil_append, List.zip_cons_cons, List.zip_nil_left]
              repeat (first | (apply wpGrow_take; (case hw => rfl); (case hv => intro w' hk; go_simp; with_reducible rfl); simp only [Act.put, List.setIfInBounds_toArray, List.set_cons_zero, List.set_cons_succ]) | (refine wpGrow_pass (by rfl) ?_; simp only [Act.put, List.setIfInBounds_toArray, List.set_cons_zero, List.set_cons_succ]))
              refine wpGrow_force (by rfl) (fun K hK => ?_)
              go_simp
              refine (len_any a S _ HD4.out).mono ?_
              rintro e w5 ⟨rfl, rfl⟩
              refine hK _ _ (Kept.refl _ _) ?_
              clear hK K
              repeat (first | (apply wpGrow_take; (case hw => rfl); (case hv => intro w' hk; go_simp; with_reducible rfl); simp only [Act.put, List.setIfInBounds_toArray, List.set_cons_zero, List.set_cons_succ]) | (refine wpGrow_pass (by rfl) ?_; simp only [Act.put, List.setIfInBounds_toArray, List.set_cons_zero, List.set_cons_succ]))
              refine wpGrow_nil ?_
              obtain ⟨B, hB⟩ : ∃ B : Nat, pb = B := ⟨pb.toNat, by omega⟩
              subst hB
              have hB : B < 4096 := by omega
              have hBI : (B : Int) < 4096 := by omega
              have HB := Lib.hid hB
              have hpl : pl.length = 64 := by have := HPL.out; omega
              have hok : ¬ ((at_ : Int) ≤ B ∧ (B : Int) < at_ + 199) → PutOk at_ S.size ((B : Int), pl) := fun h => ⟨by simp only; omega, by simp only; omega, hpl, h⟩
              clear hpl
              have HH4 := Lib.hid (HKR.out.heap (by simp) HS.out.here)
              have hcs : w4.cell? ⟨w.heap.size, B, none⟩ = some (.bool (Z.getD B false)) := by
                rw [cell_of_row w4 _ B _ _ _ HH4.out]
                have : B < Z.length := by rw [HS.out.len]; exact hB
                simp [boolA, this]
              have HCS := Lib.hid hcs
              have CS : ∀ w', Kept [] w4.drew.drew w' → w'.cell? ⟨w.heap.size, B, none⟩ = some (.bool (Z.getD B false)) := fun w' hk => by
                rw [((Kept.drew [] w4).trans ((Kept.drew [] _).trans hk)).cell (p := ⟨w.heap.size, B, none⟩) (World.block_lt_of_cell? _ _ hcs) (by simp)]; exact hcs
              have CE : ∀ w', Kept [] w4.drew.drew w' → w'.cell? ⟨j, 1, none⟩ = some (.int .i64 at_) := fun w' hk => (HJ4.out.kept ((Kept.drew [] _).trans hk) (by simp)).cell 1
              have CB' : ∀ w', Kept [] w4.drew.drew w' → w'.cell? ⟨wr.heap.size, 0, none⟩ = some (.int .i64 B) := fun w' hk => CB w' ((Kept.drew [] _).trans hk)
              clear CA CB CC hcs
              go_wp2_with fail
              by_cases t1 : (at_ : Int) ≤ B
              · have e1 : IntKind.i64.wrap ((at_ : Int) + 199) = (at_ : Int) + 199 := by rw [IntKind.wrap_i64]; omega
                by_cases t2 : (B : Int) < at_ + 199
                · clear CS
                  refine wp_region_grow (List.replicate 23 true) [] (by kernel_rfl) (fun _ _ d _ _ h => by cases d <;> exact h) (by kernel_rfl) rfl (by kernel_rfl) ?_
                  simp only [List.replicate_succ, List.replicate_zero, List.zip_cons_cons, List.zip_nil_left]
                  repeat (first | (apply wpGrow_take; (case hw => rfl); (case hv => intro w' hk; go_simp; with_reducible rfl); simp only [Act.put, List.setIfInBounds_toArray, List.set_cons_zero, List.set_cons_succ]) | (refine wpGrow_pass (by rfl) ?_; simp only [Act.put, List.setIfInBounds_toArray, List.set_cons_zero, List.set_cons_succ]))
                  refine wpGrow_nil ?_
                  go_wp2_with fail
                  go_ret
                  refine ⟨?_, HK4.out.trans ((Kept.drew _ _).trans (Kept.drew _ _))⟩
                  have hno : y = false := by
                    cases y
                    · rfl
                    · exfalso
                      exact ((HY.out.1 rfl).each _ HM.out).2.2.2 ⟨t1, t2⟩
                  subst hno
                  rfl
                · have t2' : (at_ : Int) + 199 ≤ B := by omega
                  cases hz : Z.getD B false
                  · rw [hz] at CS
                    have fr : ∀ k, w4.frozen? ⟨w.heap.size, k, none⟩ = false := fun k => frozen_of_row w4 _ k _ _ HH4.out
                    have cs := HCS.out
                    rw [hz] at cs
                    have HZB := Lib.hid hz
                    clear hz
                    refine wp_region_grow (List.replicate 23 true) [] (by kernel_rfl) (fun _ _ d _ _ h => by cases d <;> exact h) (by kernel_rfl) rfl (by kernel_rfl) ?_
                    simp only [List.replicate_succ, List.replicate_zero, List.zip_cons_cons, List.zip_nil_left]
                    repeat (first | (apply wpGrow_take; (case hw => rfl); (case hv => intro w' hk; go_simp; with_reducible rfl); simp only [Act.put, List.setIfInBounds_toArray, List.set_cons_zero, List.set_cons_succ]) | (refine wpGrow_pass (by rfl) ?_; simp only [Act.put, List.setIfInBounds_toArray, List.set_cons_zero, List.set_cons_succ]))
                    refine wpGrow_nil ?_
                    clear CS CB' CE
                    have cb : w4.cell? ⟨wr.heap.size, 0, none⟩ = some (.int .i64 B) := cell_of_row w4 _ 0 _ _ _ HB4.out
                    go_wp2_with fail
                    go_roundw
                    case rel => exact ⟨k + 1, Z.set B true, by omega, by go_num, HS.out.next hkl' (by rw [← HP.out]) HB.out (hok (by omega)) HZB.out (HKR.out.trans ((Kept.drew _ _).trans (Kept.drew _ _)))⟩
                    case measure => simp [intOf]; omega
                  · rw [hz] at CS
                    refine wp_region_grow (List.replicate 23 true) [] (by kernel_rfl) (fun _ _ d _ _ h => by cases d <;> exact h) (by kernel_rfl) rfl (by kernel_rfl) ?_
                    simp only [List.replicate_succ, List.replicate_zero, List.zip_cons_cons, List.zip_nil_left]
                    repeat (first | (apply wpGrow_take; (case hw => rfl); (case hv => intro w' hk; go_simp; with_reducible rfl); simp only [Act.put, List.setIfInBounds_toArray, List.set_cons_zero, List.set_cons_succ]) | (refine wpGrow_pass (by rfl) ?_; simp only [Act.put, List.setIfInBounds_toArray, List.set_cons_zero, List.set_cons_succ]))
                    refine wpGrow_nil ?_
                    go_wp2_with fail
                    go_ret
                    refine ⟨?_, HK4.out.trans ((Kept.drew _ _).trans (Kept.drew _ _))⟩
                    have hno : y = false := by
                      cases y
                      · rfl
                      · exfalso
                        exact HS.out.dup hkl' B (by rw [← HP.out]) HB.out hz (HY.out.1 rfl).nodup
                    subst hno
                    rfl
              · have t1' : (B : Int) < at_ := by omega
                cases hz : Z.getD B false
                · rw [hz] at CS
                  have fr : ∀ k, w4.frozen? ⟨w.heap.size, k, none⟩ = false := fun k => frozen_of_row w4 _ k _ _ HH4.out
                  have cs := HCS.out
                  rw [hz] at cs
                  have HZB := Lib.hid hz
                  clear hz
                  refine wp_region_grow (List.replicate 23 true) [] (by kernel_rfl) (fun _ _ d _ _ h => by cases d <;> exact h) (by kernel_rfl) rfl (by kernel_rfl) ?_
                  simp only [List.replicate_succ, List.replicate_zero, List.zip_cons_cons, List.zip_nil_left]
                  repeat (first | (apply wpGrow_take; (case hw => rfl); (case hv => intro w' hk; go_simp; with_reducible rfl); simp only [Act.put, List.setIfInBounds_toArray, List.set_cons_zero, List.set_cons_succ]) | (refine wpGrow_pass (by rfl) ?_; simp only [Act.put, List.setIfInBounds_toArray, List.set_cons_zero, List.set_cons_succ]))
                  refine wpGrow_nil ?_
                  clear CS CB' CE
                  have cb : w4.cell? ⟨wr.heap.size, 0, none⟩ = some (.int .i64 B) := cell_of_row w4 _ 0 _ _ _ HB4.out
                  go_wp2_with fail
                  go_roundw
                  case rel => exact ⟨k + 1, Z.set B true, by omega, by go_num, HS.out.next hkl' (by rw [← HP.out]) HB.out (hok (by omega)) HZB.out (HKR.out.trans ((Kept.drew _ _).trans (Kept.drew _ _)))⟩
                  case measure => simp [intOf]; omega
                · rw [hz] at CS
                  refine wp_region_grow (List.replicate 23 true) [] (by kernel_rfl) (fun _ _ d _ _ h => by cases d <;> exact h) (by kernel_rfl) rfl (by kernel_rfl) ?_
                  simp only [List.replicate_succ, List.replicate_zero, List.zip_cons_cons, List.zip_nil_left]
                  repeat (first | (apply wpGrow_take; (case hw => rfl); (case hv => intro w' hk; go_simp; with_reducible rfl); simp only [Act.put, List.setIfInBounds_toArray, List.set_cons_zero, List.set_cons_succ]) | (refine wpGrow_pass (by rfl) ?_; simp only [Act.put, List.setIfInBounds_toArray, List.set_cons_zero, List.set_cons_succ]))
                  refine wpGrow_nil ?_
                  go_wp2_with fail
                  go_ret
                  refine ⟨?_, HK4.out.trans ((Kept.drew _ _).trans (Kept.drew _ _))⟩
                  have hno : y = false := by
                    cases y
                    · rfl
                    · exfalso
                      exact HS.out.dup hkl' B (by rw [← HP.out]) HB.out hz (HY.out.1 rfl).nodup
                  subst hno
                  rfl
            · have r3' : ((n' : Int) != 64) = true := by rw [bne_iff_ne]; omega
              refine wp_region_grow (List.replicate 10 true ++ [false] ++ List.replicate 8 true) [] (by kernel_rfl) (fun _ _ d _ _ h => by cases d <;> exact h) (by kernel_rfl) rfl (by kernel_rfl) ?_
              simp only [List.replicate_succ, List.replicate_zero, List.cons_append, List.nil_append, List.zip_cons_cons, List.zip_nil_left]
              repeat (first | (apply wpGrow_take; (case hw => rfl); (case hv => intro w' hk; go_simp; with_reducible rfl); simp only [Act.put, List.setIfInBounds_toArray, List.set_cons_zero, List.set_cons_succ]) | (refine wpGrow_pass (by rfl) ?_; simp only [Act.put, List.setIfInBounds_toArray, List.set_cons_zero, List.set_cons_succ]))
              refine wpGrow_force (by rfl) (fun K hK => ?_)
              go_simp
              refine (len_any a S _ HD4.out).mono ?_
              rintro e w5 ⟨rfl, rfl⟩
              refine hK _ _ (Kept.refl _ _) ?_
              clear hK K
              repeat (first | (apply wpGrow_take; (case hw => rfl); (case hv => intro w' hk; go_simp; with_reducible rfl); simp only [Act.put, List.setIfInBounds_toArray, List.set_cons_zero, List.set_cons_succ]) | (refine wpGrow_pass (by rfl) ?_; simp only [Act.put, List.setIfInBounds_toArray, List.set_cons_zero, List.set_cons_succ]))
              refine wpGrow_nil ?_
              go_wp2_with fail
              go_ret
              refine ⟨?_, HK4.out.trans (Kept.drew _ _)⟩
              have hno : y = false := by
                cases y
                · rfl
                · exact absurd ( (HY.out.1 rfl).each _ HM.out) (by intro h; have := h.2.2.1; have := HPL.out; simp only at *; omega)
              subst hno
              rfl
      · obtain rfl : k = len := by omega
        have hyes : y = true := by
          refine HY.out.2 ⟨by rw [HL.out.1]; exact hlen, ?_, ?_⟩
          · have := HS.out.each
            rwa [← HL.out.1, List.take_length] at this
          · have := HS.out.nodup
            rwa [← HL.out.1, List.take_length] at this
        subst hyes
        go_wp2_with fail
        go_ret
        exact ⟨rfl, HS.out.kept⟩
  · have hno : y = false := by
      cases y
      · rfl
      · have := (HY.out.1 rfl).len
        have := HL.out.1
        omega
    subst hno
    have hlen' : (192 : Int) < len := by omega
    go_enter Tryz.func106, Tryz.ntmps106
    go_wp2_with fail
    go_ret
    exact ⟨rfl, Kept.refl _ _⟩
end Go.Proofs.YtiedoocgbajjjaaGreatDoor

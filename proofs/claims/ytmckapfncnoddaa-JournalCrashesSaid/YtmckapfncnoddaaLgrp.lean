/-
  Law 2's group: whether writes are a group.
  Conditions: those that the theorem states.
-/
import Derived.Test.YtmckapfncnoddaaFused
namespace Go.Proofs.Ytmckapfncnoddaa
open Go.RowKit Go.Maps

structure GlSt (w : World) (at_ : Nat) (size : Int) (l : List PutL) (k : Nat) (wr : World) : Prop where
  each : ∀ p ∈ l.take k, PutOk at_ size p
  nodup : ((l.take k).map (·.1)).Nodup
  kept : Kept [] w wr

theorem GlSt.next {w : World} {at_ : Nat} {size : Int} {l : List PutL} {k : Nat} {wr w' : World} (R : GlSt w at_ size l k wr) (hk : k < l.length) (hok : PutOk at_ size l[k])
    (hne : ∀ q (hq : q < l.length), q < k → l[q].1 ≠ l[k].1) (hkk : Kept [] w w') : GlSt w at_ size l (k + 1) w' := by
  have ht : l.take (k + 1) = l.take k ++ [l[k]] := List.take_succ_eq_append_getElem hk
  refine ⟨?_, ?_, hkk⟩
  · rw [ht]
    intro p hp
    rcases List.mem_append.1 hp with h | h
    · exact R.each p h
    · simp at h; rw [h]; exact hok
  · rw [ht, List.map_append, List.nodup_append]
    refine ⟨R.nodup, by simp, ?_⟩
    intro a ha b hb
    simp at hb
    obtain ⟨p, hp, rfl⟩ := List.mem_map.1 ha
    obtain ⟨q, hq, rfl⟩ := List.mem_iff_getElem.1 hp
    rw [List.length_take] at hq
    rw [hb, List.getElem_take]
    exact hne q (by omega) (by omega)

theorem nodup_not {l : List PutL} (h : (l.map (·.1)).Nodup) {q k : Nat} (hk : k < l.length) (hq : q < k) : l[q].1 ≠ l[k].1 := by
  have := List.pairwise_iff_getElem.1 h q k (by simp; omega) (by simpa using hk) hq
  simpa using this

set_option maxRecDepth 100000 in
set_option maxHeartbeats 4000000 in
theorem group_any (w : World) (ao : Option Addr) (len cap : Nat) (l : List PutL) (hl : PutsIs w ao len l) (at_ : Nat) (size at' : Int) (hat' : at' = at_) (hat : at_ < 4611686018427387904) (y : Bool) (hy : y = true ↔ Grp at_ size l) :
    Calls Try.prog 15 #[.slice ao len cap, .int .i64 at', .int .i64 size] w fun e w' => e = .returned (.bool y) ∧ Kept [] w w' := by
  subst hat'
  have HL := Lib.hid hl
  have HY := Lib.hid hy
  have hlm := hl.2.1
  clear hl hy
  by_cases hlen : len ≤ 192
  · go_enter Try.func15, Try.ntmps15
    go_wp2_with fail
    go_loopw [7] (fun i wr => ∃ (k : Nat), k ≤ len ∧ i = .int .i64 k ∧ Hid (GlSt w at_ size l k wr)) (fun i _ => len - (intOf i).toNat)
    case atStart => exact ⟨0, by omega, rfl, by simp, by simp, Kept.refl _ _⟩
    case round =>
      obtain ⟨k, hkl, rfl, HS⟩ := hrel
      by_cases hlt : k < len
      · have hkl' : k < l.length := by rw [HL.out.1]; exact hlt
        obtain ⟨b, o, hao, hat'⟩ := HL.out.2.2 (by omega)
        subst hao
        have HAT := Lib.hid hat'
        obtain ⟨ao', n', cap', q1, q2, q3, q4, q5, q6⟩ := hat'.kept HS.out.kept (Off.nil _) k hkl'
        obtain ⟨⟨pb, pl⟩, hp⟩ : ∃ p, p = l[k] := ⟨_, rfl⟩
        have hmem : (pb, pl) ∈ l := by rw [hp]; exact List.getElem_mem _
        have hpl : (n' : Int) = pl.length := by
          rw [← hp] at q3
          rcases q3 with (⟨b', o', c', he, _⟩ | ⟨he, hnil⟩) | ⟨a', c', he, hnil⟩
          · simp at he; simp [he.2.1]
          · simp at he; simp only at hnil; rw [hnil]; simp [he.2.1]
          · simp at he; simp only at hnil; rw [hnil]; simp [he.2.1]
        rw [← hp] at q1 q4 q5
        simp only at q1 q4 q5
        have HP := Lib.hid hp
        have HM := Lib.hid hmem
        have HPL := Lib.hid hpl
        have e1 : IntKind.i64.wrap ((at_ : Int) + 199) = (at_ : Int) + 199 := by rw [IntKind.wrap_i64]; omega
        clear hat' q3 hp hmem hpl
        by_cases r1 : pb < 0
        · go_wp2_with fail
          go_ret
          refine ⟨?_, HS.out.kept.trans (Kept.alloc _ _ _)⟩
          have hno : y = false := by
            cases y
            · rfl
            · exact absurd ((HY.out.1 rfl).each _ HM.out) (by intro h; have := h.1; simp only at this; omega)
          subst hno
          rfl
        · by_cases r2 : size ≤ pb
          · go_wp2_with fail
            go_ret
            refine ⟨?_, HS.out.kept.trans (Kept.alloc _ _ _)⟩
            have hno : y = false := by
              cases y
              · rfl
              · exact absurd ((HY.out.1 rfl).each _ HM.out) (by intro h; have := h.2.1; simp only at this; omega)
            subst hno
            rfl
          · by_cases t0 : (at_ : Int) ≤ pb ∧ pb < at_ + 199
            · obtain ⟨t1, t2⟩ := t0
              go_wp2_with fail
              go_ret
              refine ⟨?_, HS.out.kept.trans (Kept.alloc _ _ _)⟩
              have hno : y = false := by
                cases y
                · rfl
                · exact absurd ⟨t1, t2⟩ ((HY.out.1 rfl).each _ HM.out).2.2.2
              subst hno
              rfl
            · have T0 := Lib.hid t0
              have tt : pb < at_ ∨ ((at_ : Int) ≤ pb ∧ (at_ : Int) + 199 ≤ pb) := by omega
              clear t0
              by_cases r3 : n' = 64
              · subst r3
                have HOK : Hid (PutOk at_ size l[k]) := by rw [← HP.out]; exact ⟨by simp only; omega, by simp only; omega, by have := HPL.out; simp only; omega, T0.out⟩
                rcases tt with t1 | ⟨t1, t2⟩
                all_goals
                  go_wp2_with fail
                  generalize hw4 : World.alloc wr _ = w4
                  have hk4 : Kept [] wr w4 := by rw [← hw4]; exact Kept.alloc _ _ _
                  have hb4 : w4.heap[wr.heap.size]? = some (.cells #[.int .i64 pb, .slice ao' 64 cap'] 54) := by rw [← hw4]; exact heap_alloc_last wr _
                  have HK4 := Lib.hid (HS.out.kept.trans hk4)
                  have HB4 := Lib.hid hb4
                  obtain ⟨pp, hpp⟩ : ∃ pp, pp = wr.heap.size := ⟨_, rfl⟩
                  rw [← hpp] at HB4 ⊢
                  clear hw4 hk4 hb4 q1 q2 hpp
                  go_loopw [9] (fun i wq => ∃ (kk : Nat), kk ≤ k ∧ i = .int .i64 kk ∧ Hid ((∀ q (hq : q < l.length), q < kk → l[q].1 ≠ l[k].1) ∧ Kept [] w4 wq)) (fun i _ => k - (intOf i).toNat)
                  case atStart => exact ⟨0, by omega, rfl, fun q _ h0 => by omega, Kept.refl _ _⟩
                  case round =>
                    obtain ⟨kk, hkk, rfl, HI⟩ := hrel
                    by_cases hlt2 : kk < k
                    · have hkI : (kk : Int) < (k : Int) := by omega
                      have hkL : (kk : Int) < (len : Int) := by omega
                      have hkkl : kk < l.length := by omega
                      obtain ⟨xo, xn, xc, z1, _, _, z4, z5, _⟩ := HAT.out kk hkkl
                      have hbw := World.block_lt_of_cell? w _ z1
                      have hkw : Kept [] w wr.drew := HK4.out.trans (HI.out.2.trans (Kept.drew _ _))
                      have CQ : ∀ w', Kept [] wr.drew w' → w'.cell? ⟨b, o + kk * 2, none⟩ = some (.int .i64 l[kk].1) := fun w' hk => by
                        rw [(hkw.trans hk).cell (p := ⟨b, o + kk * 2, none⟩) hbw (by simp)]; exact z1
                      have CP : ∀ w', Kept [] wr.drew w' → w'.cell? ⟨pp, 0, none⟩ = some (.int .i64 pb) := fun w' hk => cell_of_row w' _ 0 _ _ _ (((HI.out.2.trans (Kept.drew _ _)).trans hk).heap (by simp) HB4.out)
                      obtain ⟨x, hx⟩ : ∃ x, x = l[kk].1 := ⟨_, rfl⟩
                      rw [← hx] at CQ z4 z5
                      have HX := Lib.hid hx
                      have HKW := Lib.hid hkw
                      clear z1 hkw hx hbw
                      by_cases hxp : x = pb
                      · subst hxp
                        go_wp2_with fail
                        refine wp_region_grow (List.replicate 8 true) [] (by kernel_rfl) (fun _ _ d _ _ h => by cases d <;> exact h) (by kernel_rfl) rfl (by kernel_rfl) ?_
                        simp only [List.replicate_succ, List.replicate_zero, List.zip_cons_cons, List.zip_nil_left]
                        repeat (first | (apply wpGrow_take; (case hw => rfl); (case hv => intro w' hk; go_simp; with_reducible rfl); simp only [Act.put, List.setIfInBounds_toArray, List.set_cons_zero, List.set_cons_succ]) | (refine wpGrow_pass (by rfl) ?_; simp only [Act.put, List.setIfInBounds_toArray, List.set_cons_zero, List.set_cons_succ]))
                        refine wpGrow_nil ?_
                        clear CQ CP
                        go_wp2_with fail
                        go_ret
                        refine ⟨?_, HKW.out⟩
                        have hno : y = false := by
                          cases y
                          · rfl
                          · exfalso
                            refine nodup_not (HY.out.1 rfl).nodup hkl' hlt2 ?_
                            rw [← HX.out, ← HP.out]
                        subst hno
                        rfl
                      · have hxb : (x == pb) = false := by simp [hxp]
                        have HXP := Lib.hid hxp
                        clear hxp
                        go_wp2_with fail
                        refine wp_region_grow (List.replicate 8 true) [] (by kernel_rfl) (fun _ _ d _ _ h => by cases d <;> exact h) (by kernel_rfl) rfl (by kernel_rfl) ?_
                        simp only [List.replicate_succ, List.replicate_zero, List.zip_cons_cons, List.zip_nil_left]
                        repeat (first | (apply wpGrow_take; (case hw => rfl); (case hv => intro w' hk; go_simp; with_reducible rfl); simp only [Act.put, List.setIfInBounds_toArray, List.set_cons_zero, List.set_cons_succ]) | (refine wpGrow_pass (by rfl) ?_; simp only [Act.put, List.setIfInBounds_toArray, List.set_cons_zero, List.set_cons_succ]))
                        refine wpGrow_nil ?_
                        clear CQ CP
                        go_wp2_with fail
                        go_roundw
                        case rel =>
                          refine ⟨kk + 1, by omega, by go_num, fun q hq hqk => ?_, HI.out.2.trans (Kept.drew _ _)⟩
                          by_cases e : q = kk
                          · subst e
                            rw [← HX.out, ← HP.out]; exact HXP.out
                          · exact HI.out.1 q hq (by omega)
                        case measure => simp [intOf]; omega
                    · obtain rfl : kk = k := by omega
                      have HN : Hid (GlSt w at_ size l (kk + 1) wr) := HS.out.next hkl' HOK.out HI.out.1 (HK4.out.trans HI.out.2)
                      go_wp2_with fail
                      go_roundw
                      case rel => exact ⟨kk + 1, by omega, by go_num, HN⟩
                      case measure => simp [intOf]; omega
              · have r3' : ((n' : Int) != 64) = true := by rw [bne_iff_ne]; omega
                rcases tt with t1 | ⟨t1, t2⟩
                all_goals
                  go_wp2_with fail
                  go_ret
                  refine ⟨?_, HS.out.kept.trans (Kept.alloc _ _ _)⟩
                  have hno : y = false := by
                    cases y
                    · rfl
                    · exact absurd ((HY.out.1 rfl).each _ HM.out) (by intro h; have := h.2.2.1; have := HPL.out; simp only at *; omega)
                  subst hno
                  rfl
      · obtain rfl : k = len := by omega
        have hyes : y = true := by
          refine HY.out.2 ⟨by rw [HL.out.1]; exact hlen, ?_, ?_⟩
          · have := HS.out.each
            rwa [← HL.out.1, List.take_length] at this
          · have := HS.out.nodup
            rwa [← HL.out.1, List.take_length] at this
        subst hyes
        go_wp2_with fail
        go_ret
        exact ⟨rfl, HS.out.kept⟩
  · have hno : y = false := by
      cases y
      · rfl
      · have := (HY.out.1 rfl).len
        have := HL.out.1
        omega
    subst hno
    have hlen' : (192 : Int) < len := by omega
    go_enter Try.func15, Try.ntmps15
    go_wp2_with fail
    go_ret
    exact ⟨rfl, Kept.refl _ _⟩
end Go.Proofs.Ytmckapfncnoddaa

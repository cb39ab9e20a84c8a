/-
  The walk of the statement that a block has what was written there last, and that a write changes no other block.
-/
import Derived.Test.YthhcopipamjelaaShown
import Derived.Test.YthhcopipamjelaaOps
import Derived.Deep.LoopGhost
namespace Go.Proofs.Ythhcopipamjelaa
open Go.RowKit Go.Maps

/-- What holds of the disk and of the bytes that are to be there, at every round's head. -/
structure LastRel (w : World) (a m h : Nat) (k : Nat) (has : List UInt8) (S : DiskS) (wr : World) : Prop where
  disk : IsDisk wr a S
  off : S.off = false
  fused : S.fused = false
  size : S.size = 8
  map : S.m = m
  writes : S.writes = k
  len : has.length = 8
  here : wr.heap[h]? = some (.cells (bvA has) 46)
  holds : ∀ j (hj : j < has.length), S.blk j = fullL has[j]
  kept : Kept [] w wr

theorem LastRel.write {w : World} {a m h k : Nat} {has : List UInt8} {S : DiskS} {wr : World} (R : LastRel w a m h k has S wr) (p : Nat) (hp : p < 8) (c : UInt8) :
    (S.wr p (fullL c)).1 = 0 ∧ (S.wr p (fullL c)).2 = { S with blk := updL S.blk p (fullL c), writes := S.writes + 1 } := by
  have hr : S.reach p = 0 := by
    unfold DiskS.reach
    rw [R.off, R.size]
    simp; omega
  have hb : S.burn = (true, S) := by unfold DiskS.burn; rw [R.fused]; simp
  unfold DiskS.wr
  rw [if_pos hr, if_pos (fullL_length c), hb]
  exact ⟨rfl, rfl⟩

theorem cell_bvA {w : World} {h : Nat} {l : List UInt8} {t : TypeId} (hh : w.heap[h]? = some (.cells (bvA l) t)) (k : Nat) (hk : k < l.length) : w.cell? ⟨h, k, none⟩ = some (.int .u8 (l[k].toNat : Int)) := by
  rw [cell_of_row w h k _ _ _ hh]
  simp [bvA, bv, hk]

/-- Behind a round's write and the note of it. -/
theorem LastRel.next {w : World} {a m h k : Nat} {has : List UInt8} {S : DiskS} {wr w3 : World} (R : LastRel w a m h k has S wr) (p : Nat) (hp : p < 8) (c : UInt8) (hma : m ≠ h) (haa : a ≠ h) (hwa : w.heap.size ≤ a) (hwm : w.heap.size ≤ m) (hwh : w.heap.size ≤ h)
    (hd : IsDisk w3 a (S.wr p (fullL c)).2) (hk : Kept [a, S.m] wr w3) :
    LastRel w a m h (k + 1) (has.set p c) (S.wr p (fullL c)).2 (w3.setCell ⟨h, p, none⟩ (.int .u8 (c.toNat : Int))) := by
  have e := (R.write p hp c).2
  have hh : w3.heap[h]? = some (.cells (bvA has) 46) := hk.heap (by rw [R.map]; simp; exact ⟨fun e => haa e.symm, fun e => hma e.symm⟩) R.here
  have ks : Kept [h] w3 (w3.setCell ⟨h, p, none⟩ (.int .u8 (c.toNat : Int))) := Kept.setCell _ _ _ _ (by simp)
  rw [e] at hd ⊢
  refine ⟨hd.kept ks (by simpa using haa) (by simpa [R.map] using hma), R.off, R.fused, R.size, R.map, ?_, by simpa using R.len, ?_, fun j hj => ?_, ?_⟩
  · show S.writes + 1 = _
    rw [R.writes]; omega
  · rw [heap_setCell_same w3 h p _ _ _ hh, bvA_set]
  · show updL S.blk p (fullL c) j = _
    unfold updL
    by_cases e2 : j = p
    · subst e2
      simp
    · have : ¬ ((j : Int) = (p : Int)) := by omega
      rw [if_neg this, R.holds j (by simpa using hj)]
      rw [List.getElem_set_ne (fun e => e2 e.symm)]
  · refine (R.kept.into hk ?_).into ks (by simpa using hwh)
    rw [R.map]; simp; exact ⟨hwa, hwm⟩

theorem LastRel.grow {w : World} {a m h k : Nat} {has : List UInt8} {S : DiskS} {wr wq : World} (R : LastRel w a m h k has S wr) (hk : Kept [] wr wq) : LastRel w a m h k has S wq :=
  ⟨R.disk.kept hk (by simp) (by simp), R.off, R.fused, R.size, R.map, R.writes, R.len, hk.heap (by simp) R.here, R.holds, R.kept.trans hk⟩

theorem LastRel.reach {w : World} {a m h k : Nat} {has : List UInt8} {S : DiskS} {wr : World} (R : LastRel w a m h k has S wr) (q : Nat) (hq : q < 8) : S.reach q = 0 := by
  unfold DiskS.reach
  rw [R.off, R.size]
  simp; omega

set_option maxHeartbeats 4000000 in
set_option maxRecDepth 100000 in
theorem last_walk (b o cap : Nat) (l : List OpV) (w : World) (hb : b < w.heap.size) (hc : OpsAt w b o l) (hf : ∀ x ∈ l, x.fits) (hl : l.length ≤ 9223372036854775807) :
    Calls Try.prog 5 #[.slice (some ⟨b, o, none⟩) l.length cap] w fun e w' => e = .returned (.bool true) ∧ Kept [] w w' := by
  have HC := Lib.hid hc
  have HFT := Lib.hid hf
  clear hc hf
  go_enter Try.func5, Try.ntmps5
  go_wp2_with fail
  refine (shown_true w).mono ?_
  rintro e w1 ⟨rfl, hk1⟩
  have HK1 := Lib.hid hk1
  clear hk1
  go_wp2_with fail
  refine (new_ok 8 _ (by omega) (by omega)).mono ?_
  rintro e w2 ⟨rfl, hd2, hk2⟩
  obtain ⟨a, ha⟩ : ∃ a, a = w1.heap.size + 1 := ⟨_, rfl⟩
  obtain ⟨m, hm⟩ : ∃ m, m = w1.heap.size := ⟨_, rfl⟩
  rw [← ha, ← hm] at hd2
  rw [← ha]
  have HA := Lib.hid ha
  have HM := Lib.hid hm
  have HD2 := Lib.hid hd2
  have HK2 := Lib.hid hk2
  clear hd2 hk2 ha hm
  go_wp2_with fail
  obtain ⟨h, hh⟩ : ∃ h, h = w2.heap.size := ⟨_, rfl⟩
  rw [← hh]
  have HH := Lib.hid hh
  clear hh
  have HX := HD2.out.lt
  go_loopw [7] (fun i wr => ∃ (k : Nat) (has : List UInt8) (S : DiskS), k ≤ l.length ∧ k ≤ 100 ∧ i = .int .i64 k ∧ LastRel w a m h k has S wr) (fun i _ => 100 - (intOf i).toNat)
  case atStart =>
    refine ⟨0, List.replicate 8 0, DiskS.new 8 m, by omega, by omega, rfl, ?_⟩
    have hk : Kept [] w2 (w2.alloc (.cells (bvA (List.replicate 8 0)) 46)) := Kept.alloc _ _ _
    refine ⟨HD2.out.kept hk (by simp) (by simp), rfl, rfl, rfl, rfl, rfl, by simp, ?_, fun j hj => ?_, HK1.out.trans (HK2.out.trans hk)⟩
    · rw [HH.out]; exact heap_alloc_last _ _
    · have e : ∀ (n i : Nat) (hi : i < (List.replicate n (0 : UInt8)).length), (List.replicate n (0 : UInt8))[i] = 0 := fun n i hi => by simp
      rw [e]; rfl
  case round =>
    obtain ⟨k, has, S, hkl, hk100, rfl, HR⟩ := hrel
    by_cases h1 : k < l.length
    · by_cases h2 : k < 100
      · obtain ⟨x, hx⟩ : ∃ x, x = l[k] := ⟨_, rfl⟩
        have hfit : x.fits := by rw [hx]; exact HFT.out _ (List.getElem_mem _)
        have hcl := HC.out k h1
        rw [← hx] at hcl
        have hp1 : wr.cell? ⟨b, o + k * 4 + 1, none⟩ = some (.int .i64 x.pos) := by
          rw [HR.kept.cell (p := ⟨b, o + k * 4 + 1, none⟩) hb (by simp)]; exact hcl 1 _ rfl
        have hp3 : wr.cell? ⟨b, o + k * 4 + 3, none⟩ = some (.int .u8 (x.byte.toNat : Int)) := by
          rw [HR.kept.cell (p := ⟨b, o + k * 4 + 3, none⟩) hb (by simp)]; exact hcl 3 _ rfl
        obtain ⟨⟨_, _⟩, ⟨q1, q2⟩, _⟩ := hfit
        clear hcl hx
        obtain ⟨p, hp⟩ : ∃ p : Nat, kindF x.pos 8 = p := ⟨(kindF x.pos 8).toNat, by have := kindF_range x.pos 8 (by omega); omega⟩
        have hp8 : p < 8 := by have := kindF_range x.pos 8 (by omega); omega
        have HP := Lib.hid hp
        clear hp
        go_wp2_with fail
        refine (kind_any x.pos 8 _ (by omega) (by omega) (by omega) (by omega)).mono ?_
        rw [HP.out]
        rintro e w3 ⟨rfl, rfl⟩
        go_wp2_with fail
        refine (full_any x.byte _).mono ?_
        rintro e w3 ⟨rfl, rfl⟩
        go_wp2_with fail
        refine (write_new a S p (fullL x.byte) 64 _ _ HR.disk (by rw [HR.writes]; omega) (fullL_length _)).mono ?_
        rw [(HR.write p hp8 x.byte).1]
        rintro e w3 ⟨rfl, hd3, hk3⟩
        have s1 := HK1.out.size
        have s2 := HK2.out.size
        have ea := HA.out
        have em := HM.out
        have eh := HH.out
        have hma : m ≠ h := by omega
        have haa : a ≠ h := by omega
        have hh3 : w3.heap[h]? = some (.cells (bvA has) 46) := hk3.heap (by rw [HR.map]; simp; exact ⟨fun e => haa e.symm, fun e => hma e.symm⟩) HR.here
        have HN := Lib.hid (HR.next p hp8 x.byte hma haa (by omega) (by omega) (by omega) hd3 hk3)
        have hc3 := cell_bvA hh3 p (by rw [HR.len]; exact hp8)
        have hf3 : w3.frozen? ⟨h, p, none⟩ = false := frozen_of_row w3 h p _ _ hh3
        have hp3' : w3.cell? ⟨b, o + k * 4 + 3, none⟩ = some (.int .u8 (x.byte.toNat : Int)) := by
          rw [hk3.cell (p := ⟨b, o + k * 4 + 3, none⟩) (by have := HR.kept.size; show b < _; omega) (by rw [HR.map]; simp; omega)]; exact hp3
        clear s1 s2 ea em eh hma haa hh3 hd3 hk3 hp3 hp1
        go_wp2_with fail
        generalize (S.wr p (fullL x.byte)).2 = S1 at *
        generalize has.set p x.byte = has1 at *
        clear hc3 hf3 hp3'
        go_loopw [10] (fun i wq => ∃ q : Nat, q ≤ 8 ∧ i = .int .i64 q ∧ LastRel w a m h (k + 1) has1 S1 wq) (fun i _ => 8 - (intOf i).toNat)
        case atStart => exact ⟨0, by omega, rfl, HN.out⟩
        case round =>
          obtain ⟨q, hq8, rfl, HQ⟩ := hrel
          by_cases hq : q < 8
          · have hql : q < has1.length := by rw [HQ.len]; exact hq
            go_wp2_with fail
            refine (read_ok a S1 q _ HQ.disk (HQ.reach q hq)).mono ?_
            rw [HQ.holds q hql]
            obtain ⟨c, hc⟩ : ∃ c, has1[q] = c := ⟨_, rfl⟩
            rw [hc]
            rintro e w5 ⟨rfl, hw5⟩
            have hk5 : Kept [] wr w5 := by rw [hw5]; exact Kept.alloc _ _ _
            have HQ5 := Lib.hid (HQ.grow hk5)
            have cvR : ∀ w', Kept [] w5.drew w' → (convert 36 9 (.slice (some ⟨wr.heap.size, 0, none⟩) 64 64)).run Try.prog w' = .ok (.string (strL (fullL c))) w' := fun w' hk =>
              conv_range w' wr.heap.size 0 64 (fullL c) 64 (fullL_length _) (((Kept.drew [] w5).trans hk).range (by rw [hw5]; simp) (by simp) (by rw [hw5]; exact range_new _ _ _))
            have cvC : ∀ w', Kept [] w5.drew w' → w'.cell? ⟨h, q, none⟩ = some (.int .u8 (c.toNat : Int)) := fun w' hk => by
              rw [cell_bvA ((HQ5.out.grow ((Kept.drew [] w5).trans hk)).here) q hql, hc]
            have Hc := Lib.hid hc
            clear hc hw5 hk5
            go_wp2_with fail
            refine wp_region_grow (List.replicate 8 true ++ [false] ++ List.replicate 3 true) [] (by kernel_rfl) (fun _ _ d _ _ h => by cases d <;> exact h) (by kernel_rfl) rfl (by kernel_rfl) ?_
            simp only [List.replicate_succ, List.replicate_zero, List.cons_append, List.nil_append, List.zip_cons_cons, List.zip_nil_left]
            repeat (apply wpGrow_take; (case hw => rfl); (case hv => intro w' hk; go_simp; with_reducible rfl); simp only [Act.put, List.setIfInBounds_toArray, List.set_cons_zero, List.set_cons_succ])
            refine wpGrow_force (by rfl) (fun K hK => ?_)
            go_simp
            refine (full_any c _).mono ?_
            rintro e w6 ⟨rfl, hw6⟩
            have hk6 : Kept [] w5.drew w6 := by rw [hw6]; exact Kept.alloc _ _ _
            refine hK _ _ hk6 ?_
            clear hK K cvR cvC
            have cvF : ∀ w', Kept [] w6 w' → (convert 36 9 (.slice (some ⟨w5.heap.size, 0, none⟩) 64 64)).run Try.prog w' = .ok (.string (strL (fullL c))) w' := fun w' hk =>
              conv_range w' w5.heap.size 0 64 (fullL c) 64 (fullL_length _) (hk.range (by rw [hw6]; simp) (by simp) (by rw [hw6]; exact range_new w5.drew _ _))
            have HQ6 := Lib.hid (HQ5.out.grow ((Kept.drew [] w5).trans hk6))
            clear hw6 hk6
            repeat (apply wpGrow_take; (case hw => rfl); (case hv => intro w' hk; go_simp; with_reducible rfl); simp only [Act.put, List.setIfInBounds_toArray, List.set_cons_zero, List.set_cons_succ])
            refine wpGrow_nil ?_
            clear cvF
            go_wp2_with fail
            go_roundw
            case rel => exact ⟨q + 1, by omega, by go_num, HQ6.out⟩
            case measure => simp [intOf]; omega
          · obtain rfl : q = 8 := by omega
            go_wp2_with fail
            go_roundw
            case rel => exact ⟨k + 1, has1, S1, by omega, by omega, by go_num, HQ⟩
            case measure => simp [intOf]; omega
      · obtain rfl : k = 100 := by omega
        go_wp2_with fail
        go_ret
        exact ⟨rfl, HR.kept⟩
    · go_wp2_with fail
      go_ret
      exact ⟨rfl, HR.kept⟩

set_option maxHeartbeats 4000000 in
set_option maxRecDepth 100000 in
theorem last_empty (ao : Option Addr) (cap : Nat) (w : World) :
    Calls Try.prog 5 #[.slice ao 0 cap] w fun e w' => e = .returned (.bool true) ∧ Kept [] w w' := by
  go_enter Try.func5, Try.ntmps5
  go_wp2_with fail
  refine (shown_true w).mono ?_
  rintro e w1 ⟨rfl, hk1⟩
  have HK1 := Lib.hid hk1
  clear hk1
  go_wp2_with fail
  refine (new_ok 8 _ (by omega) (by omega)).mono ?_
  rintro e w2 ⟨rfl, hd2, hk2⟩
  have HK2 := Lib.hid hk2
  clear hd2 hk2
  go_wp2_with fail
  refine wp_loop_rounds 1 ?_
  rw [rounds_succ]
  go_wp2_with fail
  go_ret
  exact ⟨rfl, HK1.out.trans (HK2.out.trans (Kept.alloc _ _ _))⟩

theorem last_any (ao : Option Addr) (len cap : Nat) (l : List OpV) (w : World) (h : OpsArg w ao len l) :
    Calls Try.prog 5 #[.slice ao len cap] w fun e w' => e = .returned (.bool true) ∧ Kept [] w w' := by
  obtain ⟨rfl, hl, hf, h0 | ⟨b, o, rfl, hb, hc⟩⟩ := h
  · rw [h0]; exact last_empty ao cap w
  · exact last_walk b o cap l w hb hc hf hl

end Go.Proofs.Ythhcopipamjelaa

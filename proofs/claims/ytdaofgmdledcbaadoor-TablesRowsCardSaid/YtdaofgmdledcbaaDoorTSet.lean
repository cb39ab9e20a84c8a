/-
  Layer 5: the program's Drop, placeFor and Set.
  Conditions: those that each theorem states.
-/
import Derived.Test.YtdaofgmdledcbaaDoorTCopy
import Derived.Test.YtdaofgmdledcbaaDoorTGet
namespace Go.Proofs.YtdaofgmdledcbaaDoor
open Go.RowKit Go.Maps

def dropR (l : List TRow) (k : List UInt8) : List TRow := l.filter fun r => decide (r.1 ≠ k)
theorem dropR_snoc (l : List TRow) (k : List UInt8) (i : Nat) (hi : i < l.length) : dropR (l.take (i + 1)) k = dropR (l.take i) k ++ (if l[i].1 = k then [] else [l[i]]) := by
  unfold dropR
  rw [List.take_succ_eq_append_getElem hi, List.filter_append]
  congr 1
  by_cases h : l[i].1 = k <;> simp [h]
theorem dropR_len (l : List TRow) (k : List UInt8) : (dropR l k).length ≤ l.length := List.length_filter_le _ _

structure DrSt (D : Option Nat) (w : World) (L : List TRow) (v : Value) (wr : World) : Prop where
  own : OwnRows D w.heap.size wr v L
  kept : Kept [] w wr
theorem CopyOut.cells {c : List (List UInt8)} {w w' : World} {v : Value} (h : DeepCell w.heap.size w' v c ∧ CellsIs w' v c ∧ Kept [] w w') (b : Nat) (hb : b ≤ w.heap.size) : CellsD (some b) w' v c := ⟨h.2.1, fun base e => by
  injection e with e
  subst e
  rcases h.1 with h1 | ⟨g, h1, h2, h3⟩
  · exact .inl h1
  · exact .inr ⟨g, h1, by omega, h3⟩⟩
theorem DeepCell.off {b : Nat} {w : World} {v : Value} {c : List (List UInt8)} (h : DeepCell b w v c) (D : Option Nat) (ex : List Nat) (hx : ∀ q ∈ ex, q < b) : OffV D ex v := fun b' o n c' e _ hm => by
  rcases h with ⟨h1, _⟩ | ⟨g, h1, h2, _⟩
  · rw [h1] at e
    simp at e
  · rw [h1] at e
    simp at e
    have := hx b' hm
    omega

set_option maxRecDepth 100000 in
set_option maxHeartbeats 4000000 in
theorem drop_any (ao : Option Addr) (len cap : Nat) (l : List TRow) (key : List UInt8) (w : World) (hl : RowsIs w ao len l) :
    Calls Tryd.prog 23 #[.slice ao len cap, .string (strL key)] w fun e w' => ∃ v, e = .returned v ∧ Hid (DrSt (some w.heap.size) w (dropR l key) v w') := by
  have HL := Lib.hid hl
  have hlen : len * 40 ≤ 140737488355328 := hl.bytes
  have HLL := Lib.hid hl.hlen
  clear hl
  go_enter Tryd.func23, Tryd.ntmps23
  go_wp2_with fail
  go_loopw [5, 10] (fun v i wr => ∃ k : Nat, k ≤ len ∧ i = .int .i64 k ∧ Hid (DrSt (some w.heap.size) w (dropR (l.take k) key) v wr)) (fun _ i _ => len - (intOf i).toNat)
  case atStart => exact ⟨0, by omega, rfl, ⟨OwnRows.nil _ _ _, Kept.refl _ _⟩⟩
  case round =>
    obtain ⟨k, hk, rfl, HS⟩ := hrel
    by_cases hlt : k < len
    · obtain ⟨b, o, rfl, hb, hc⟩ := (HL.out.kept HS.out.kept).cell (by omega)
      have hll : k < l.length := by rw [HLL.out]; exact hlt
      obtain ⟨cv, c0, c1, hcv⟩ := hc k hll
      obtain ⟨p, hp⟩ : ∃ p, l[k].1 = p := ⟨_, rfl⟩
      obtain ⟨cs, hcs⟩ : ∃ cs, l[k].2 = cs := ⟨_, rfl⟩
      have HE : Hid (dropR (l.take (k + 1)) key = dropR (l.take k) key ++ (if p = key then [] else [(p, cs)])) := by show _ = _; rw [dropR_snoc l key k hll, ← hp, ← hcs]
      have HPL : Hid (p.length ≤ 140737488355328) := by show _ ≤ _; rw [← hp]; exact HL.out.keys _ (List.getElem_mem hll)
      rw [hp] at c0
      rw [hcs] at hcv
      have HCV := Lib.hid hcv
      have hvs : ∃ u m c, cv = .slice u m c := by obtain ⟨u, c, rfl, _⟩ := hcv.val; exact ⟨u, _, c, rfl⟩
      obtain ⟨vu, vm, vc, rfl⟩ := hvs
      clear hp hc hcs hcv
      have ka : Kept [] wr (wr.alloc (.cells #[.string (strL p), .slice vu vm vc] 34)) := Kept.alloc _ _ _
      have HKA := Lib.hid ka
      have HLEN : Hid ((dropR (l.take k) key).length ≤ k) := by show _ ≤ _; have := dropR_len (l.take k) key; rw [List.length_take] at this; omega
      clear ka
      by_cases hpk : p = key
      · have q1 : ((strL p).toList != (strL key).toList) = false := by rw [bne, str_beq2, decide_eq_true hpk]; rfl
        have q1' : ((strL p).toList == (strL key).toList) = true := by rw [str_beq2, decide_eq_true hpk]
        have HS2 : Hid (DrSt (some w.heap.size) w (dropR (l.take (k + 1)) key) u5 (wr.alloc (.cells #[.string (strL p), .slice vu vm vc] 34))) := by
          refine ⟨?_, HS.out.kept.trans HKA.out⟩
          rw [HE.out, if_pos hpk, List.append_nil]
          exact HS.out.own.kept HKA.out
        clear hpk
        go_wp2_with fail
        go_roundw
        case rel => exact ⟨k + 1, by omega, by go_num, HS2⟩
        case measure => simp [intOf]; omega
      · have q1 : ((strL p).toList != (strL key).toList) = true := by rw [bne, str_beq2, decide_eq_false hpk]; rfl
        have q1' : ((strL p).toList == (strL key).toList) = false := by rw [str_beq2, decide_eq_false hpk]
        have HE2 : Hid (dropR (l.take (k + 1)) key = dropR (l.take k) key ++ [(p, cs)]) := by show _ = _; rw [HE.out, if_neg hpk]
        clear hpk
        go_wp2_with fail
        refine (copyRow_any p _ cs _ (HCV.out.kept HKA.out)).mono ?_
        rintro e w3 ⟨v', rfl, HV⟩
        have hvs : ∃ u m c, v' = .slice u m c := by obtain ⟨u, c, rfl, _⟩ := HV.out.2.1.val; exact ⟨u, _, c, rfl⟩
        obtain ⟨vu', vm', vc', rfl⟩ := hvs
        have hk3 : Kept [] wr w3 := HKA.out.trans HV.out.2.2
        have ho3 := HS.out.own.kept hk3
        have hs3 : w.heap.size ≤ (wr.alloc (.cells #[.string (strL p), .slice vu vm vc] 34)).heap.size := by rw [size_alloc]; have := HS.out.kept.size; omega
        obtain ⟨v4, w4, hrun, ho4, hap, _⟩ := ho3.app (by have := hk3.size; have := HS.out.kept.size; omega) (p, cs) _ (CopyOut.cells HV.out w.heap.size hs3) (HV.out.1.off _ _ (fun q hq => by
          have := (HS.out.own.blk q (by simpa using hq)).2
          rw [size_alloc]
          omega)) (by have := HLEN.out; omega) HPL.out
        have HR := Lib.hid hrun
        have HS4 : Hid (DrSt (some w.heap.size) w (dropR (l.take (k + 1)) key) v4 w4) := ⟨by rw [HE2.out]; exact ho4, AppB.intoR (HS.out.kept.trans hk3) hap ho3 (Nat.le_refl _)⟩
        clear hrun ho4 hap ho3 hk3 hs3 HV
        unfold rowV
        go_wp2_with (at_builtin; refine wpList_append_run rfl _ _ 22 rfl _ _ _ rfl rfl HR.out ?_)
        go_roundw
        case rel => exact ⟨k + 1, by omega, by go_num, HS4⟩
        case measure => simp [intOf]; omega
    · have HF : Hid (DrSt (some w.heap.size) w (dropR l key) u5 wr) := by
        have := HS.out
        rw [List.take_of_length_le (by rw [HLL.out]; omega)] at this
        exact this
      go_wp2_with fail
      go_ret
      exact ⟨_, rfl, HF⟩

/-- The place of the first row with a greater key. -/
def placeN (l : List TRow) (k : List UInt8) : Nat := l.findIdx fun r => lessB k r.1
theorem placeN_le (l : List TRow) (k : List UInt8) : placeN l k ≤ l.length := List.findIdx_le_length
theorem placeN_at {l : List TRow} {k : List UInt8} (i : Nat) (hi : i < l.length) (h : lessB k l[i].1 = true) (hn : ∀ j (hj : j < l.length), j < i → lessB k l[j].1 = false) : placeN l k = i := by
  unfold placeN
  rw [List.findIdx_eq hi]
  exact ⟨h, fun j hj => by simpa using hn j (by omega) hj⟩
theorem placeN_no {l : List TRow} {k : List UInt8} (hn : ∀ j (hj : j < l.length), lessB k l[j].1 = false) : placeN l k = l.length := by
  unfold placeN
  rw [List.findIdx_eq_length]
  intro x hx
  obtain ⟨i, hi, rfl⟩ := List.getElem_of_mem hx
  exact hn i hi

set_option maxRecDepth 100000 in
set_option maxHeartbeats 4000000 in
theorem placeFor_any (ao : Option Addr) (len cap : Nat) (l : List TRow) (key : List UInt8) (w : World) (hl : RowsIs w ao len l) :
    Calls Tryd.prog 34 #[.slice ao len cap, .string (strL key)] w fun e w' => e = .returned (.int .i64 (placeN l key : Nat)) ∧ Kept [] w w' := by
  have HL := Lib.hid hl
  have hlen : len * 40 ≤ 140737488355328 := hl.bytes
  have HLL := Lib.hid hl.hlen
  clear hl
  go_enter Tryd.func34, Tryd.ntmps34
  go_wp2_with fail
  go_loopw [9] (fun i wr => ∃ k : Nat, k ≤ len ∧ i = .int .i64 k ∧ Hid (∀ j (hj : j < l.length), j < k → lessB key l[j].1 = false) ∧ Hid (Kept [] w wr)) (fun i _ => len - (intOf i).toNat)
  case atStart => exact ⟨0, by omega, rfl, fun j hj h => by omega, Kept.refl _ _⟩
  case round =>
    obtain ⟨k, hk, rfl, HJ, HW⟩ := hrel
    by_cases hlt : k < len
    · obtain ⟨b, o, rfl, hb, hc⟩ := (HL.out.kept HW.out).cell (by omega)
      have hll : k < l.length := by rw [HLL.out]; exact hlt
      obtain ⟨cv, c0, c1, hcv⟩ := hc k hll
      obtain ⟨p, hp⟩ : ∃ p, l[k].1 = p := ⟨_, rfl⟩
      rw [hp] at c0
      have HP := Lib.hid hp
      have hvs : ∃ u m c, cv = .slice u m c := by obtain ⟨u, c, rfl, _⟩ := hcv.val; exact ⟨u, _, c, rfl⟩
      obtain ⟨vu, vm, vc, rfl⟩ := hvs
      clear hp hc hcv
      have HKA := Lib.hid (HW.out.trans (Kept.alloc [] wr (.cells #[.string (strL p), .slice vu vm vc] 34)))
      have HTRI := Lib.hid (less_tri key p)
      cases hs : lessB key p
      · have q1 : Op.bytesLess (strL key).toList (strL p).toList = false := by rw [strL_bytes, strL_bytes]; exact hs
        have HJ2 : Hid (∀ j (hj : j < l.length), j < k + 1 → lessB key l[j].1 = false) := fun j hj hjk => by
          by_cases e : j = k
          · subst e; rw [HP.out]; exact hs
          · exact HJ.out j hj (by omega)
        have ht := HTRI.out
        rw [hs] at ht
        clear hs
        by_cases he : p = key
        · have s1 : ((strL p).toList == (strL key).toList) = true := by rw [strL_bytes, strL_bytes]; simpa using he
          clear ht he
          go_wp2_with fail
          go_roundw
          case rel => exact ⟨k + 1, by omega, by go_num, HJ2, HKA⟩
          case measure => simp [intOf]; omega
        · have s1 : Op.bytesLess (strL p).toList (strL key).toList = true := by
            rw [strL_bytes, strL_bytes]
            simpa [he, lessB] using ht
          have s2 : ((strL p).toList == (strL key).toList) = false := by rw [strL_bytes, strL_bytes]; simpa using he
          clear ht he
          go_wp2_with fail
          go_roundw
          case rel => exact ⟨k + 1, by omega, by go_num, HJ2, HKA⟩
          case measure => simp [intOf]; omega
      · have q1 : Op.bytesLess (strL key).toList (strL p).toList = true := by rw [strL_bytes, strL_bytes]; exact hs
        have HF : Hid (placeN l key = k) := placeN_at k hll (by rw [HP.out]; exact hs) HJ.out
        have ht := HTRI.out
        rw [hs] at ht
        have s1 : ((strL p).toList == (strL key).toList) = false := by
          rw [strL_bytes, strL_bytes]
          by_cases he : p = key
          · simp [he] at ht
          · simpa using he
        have s2 : Op.bytesLess (strL p).toList (strL key).toList = false := by
          rw [strL_bytes, strL_bytes]
          cases hx : Op.bytesLess p key
          · rfl
          · simp [lessB, hx] at ht
        clear hs ht
        go_wp2_with fail
        go_ret
        exact ⟨ret1 (by rw [HF.out]), HKA.out⟩
    · have HF : Hid (placeN l key = len) := by show _ = _; rw [placeN_no fun j hj => HJ.out j hj (by rw [HLL.out] at hj; omega), HLL.out]
      go_wp2_with fail
      go_ret
      exact ⟨ret1 (by rw [HF.out]), HW.out⟩
end Go.Proofs.YtdaofgmdledcbaaDoor

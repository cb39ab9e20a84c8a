/-
  Layer 11: what the program cuts off a text: comment, name, number, variable, quoted, sign.
  Conditions: those that each theorem states.
-/
import Derived.Test.YtfmhpjpalfepjaaUSpan
namespace Go.Proofs.Ytfmhpjpalfepjaa
open Go.RowKit Go.Maps

theorem inC_tl : inC [3, 5, 6] = tlB := by
  funext c
  unfold inC tlB
  have h6 : decide (c.toNat = 95) = decide (clsN c.toNat = 6) := by
    have := cls_eq c 6 95 (by simp)
    rw [← UInt8.toNat_inj] at this
    exact decide_eq_decide.2 this
  rw [cls_sm, cls_dg, h6]
  generalize clsN c.toNat = n
  rw [Bool.eq_iff_iff]
  simp
  omega
theorem inC_dg : inC [5] = dgB := by
  funext c
  unfold inC
  rw [cls_dg]
  generalize clsN c.toNat = n
  rw [Bool.eq_iff_iff]
  simp
  omega
theorem bl_nil {S : ByteArray} (h : S.size = 0) : bl S = [] := by
  apply List.eq_nil_of_length_eq_zero
  rw [bl_len, h]
theorem bl_cons {S : ByteArray} (h : 0 < S.size) : bl S = S[0] :: bl (S.extract 1 S.size) := by
  rw [bl_ext, List.take_of_length_le (by rw [List.length_drop, bl_len]; omega)]
  have := List.drop_eq_getElem_cons (l := bl S) (i := 0) (by rw [bl_len]; exact h)
  rw [List.drop_zero] at this
  exact this
theorem bl_from (S : ByteArray) (k : Nat) : bl (S.extract k S.size) = (bl S).drop k := by
  rw [bl_ext, List.take_of_length_le (by rw [List.length_drop, bl_len]; omega)]
theorem size_from (S : ByteArray) (k : Nat) : (S.extract k S.size).size = S.size - k := by
  rw [← bl_len, bl_from, List.length_drop, bl_len]

set_option maxHeartbeats 4000000 in
theorem part_any (S : ByteArray) (p : UInt8 → Bool) (f : Nat) (w : World) (hs : S.size ≤ 9223372036854775807) (hp : ∀ c, p c = decide (clsN c.toNat = f)) :
    Calls Try.prog 26 #[.string S, .int .i64 (f : Int)] w fun e w' => e = .returned (.int .i64 (partN p (bl S))) ∧ Kept [] w w' := by
  by_cases h0 : S.size = 0
  · have HP : Hid (partN p (bl S) = 0) := by show _ = _; rw [bl_nil h0]; rfl
    have he : (S.toList == []) = true := by rw [Lib.toList_data, show S.data.toList = [] from bl_nil h0]; rfl
    clear hp
    go_enter Try.func26, Try.ntmps26
    go_wp2_with fail
    go_ret
    exact ⟨ret1 (by rw [HP.out]; rfl), Kept.refl _ _⟩
  · have hpos : 0 < S.size := by omega
    have he : (S.toList == []) = false := by rw [Lib.toList_data, show S.data.toList = _ from bl_cons hpos]; rfl
    have hc := UInt8.toNat_lt S[0]
    obtain ⟨n, hn⟩ : ∃ n, clsN (S[0]'hpos).toNat = n := ⟨_, rfl⟩
    by_cases hf : n = f
    · subst hf
      have HP : Hid (partN p (bl S) = 1 + spanN tlB (bl (S.extract 1 S.size))) := by
        show _ = _
        rw [bl_cons hpos]
        simp only [partN]
        rw [if_pos (by rw [hp, hn]; simp)]
      have HN := Lib.hid hn
      clear hp hn
      obtain ⟨w2, hw2⟩ : ∃ w2, w.alloc (.cells #[.int .i64 3, .int .i64 5, .int .i64 6] 36) = w2 := ⟨_, rfl⟩
      have HCI : Hid (ClsIs w2 (.slice (some ⟨w.heap.size, 0, none⟩) 3 3) [3, 5, 6]) := by rw [← hw2]; exact ClsIs.made w [3, 5, 6] _
      have HK : Hid (Kept [] w w2) := by rw [← hw2]; exact Kept.alloc _ _ _
      go_enter Try.func26, Try.ntmps26
      go_wp2_with fail
      refine (classOf_any _ _ (by omega)).mono ?_
      rw [HN.out]
      rintro e w3 ⟨rfl, rfl⟩
      go_wp2_with fail
      refine (span_any (S.extract 1 S.size) _ [3, 5, 6] _ (by rw [size_from]; omega) HCI.out (by decide) (by decide)).mono ?_
      rw [inC_tl]
      obtain ⟨q, hq⟩ : ∃ q, spanN tlB (bl (S.extract 1 S.size)) = q := ⟨_, rfl⟩
      have hql : q + 1 ≤ S.size := by have := spanN_le tlB (bl (S.extract 1 S.size)); rw [hq, bl_len, size_from] at this; omega
      have HQ := Lib.hid hq
      rw [hq]
      clear hq
      rintro e w4 ⟨rfl, hk4⟩
      have HK4 : Hid (Kept [] w w4) := HK.out.trans hk4
      clear hk4
      go_wp2_with fail
      go_ret
      exact ⟨ret1 (by rw [HP.out, HQ.out]; go_num), HK4.out⟩
    · have HP : Hid (partN p (bl S) = 0) := by
        show _ = _
        rw [bl_cons hpos]
        simp only [partN]
        rw [if_neg (by rw [hp, hn]; simpa using hf)]
      have HN := Lib.hid hn
      have hf2 : ¬ (n : Int) = (f : Int) := by omega
      clear hp hn
      go_enter Try.func26, Try.ntmps26
      go_wp2_with fail
      refine (classOf_any _ _ (by omega)).mono ?_
      rw [HN.out]
      rintro e w3 ⟨rfl, rfl⟩
      go_wp2_with fail
      go_ret
      exact ⟨ret1 (by rw [HP.out]; rfl), Kept.refl _ _⟩

theorem idx_span : ∀ (l : List UInt8) (c : UInt8), Lib.indexByte l c = if spanN (notB c) l = l.length then -1 else (spanN (notB c) l : Int)
  | [], c => rfl
  | b :: l, c => by
    unfold Lib.indexByte
    rw [idx_span l c]
    have hle := spanN_le (notB c) l
    by_cases hb : b = c
    · subst hb
      simp [spanN, notB]
    · have h1 : notB c b = true := by simp [notB, hb]
      have h2 : (b == c) = false := by simpa using hb
      simp only [spanN, h1, h2, if_true, Bool.false_eq_true, if_false, List.length_cons]
      by_cases hf : spanN (notB c) l = l.length
      · simp [hf]
      · have : ¬ (spanN (notB c) l : Int) = -1 := by omega
        simp [hf, this]
theorem idxByte_any (S : ByteArray) (c : UInt8) (w : World) :
    Calls Try.prog 37 #[.string S, .int .u8 (c.toNat : Int)] w fun e w' => e = .returned (.int .i64 (if spanN (notB c) (bl S) = S.size then -1 else (spanN (notB c) (bl S) : Int))) ∧ w = w' := by
  refine (Any.strings_IndexByte Try.lays137 S (c.toNat : Int) w).mono fun e w' ⟨he, hw⟩ => ⟨?_, hw.symm⟩
  rw [he, idx_span]
  have : (c.toNat : Int).toNat.toUInt8 = c := by simp
  rw [this, ← bl_len S]
theorem prefix_any (S T : ByteArray) (w : World) :
    Calls Try.prog 35 #[.string S, .string T] w fun e w' => e = .returned (.bool (decide ((bl S).take (bl T).length = bl T))) ∧ w = w' := by
  refine (Any.strings_HasPrefix Try.lays99 S T w).mono fun e w' ⟨he, hw⟩ => ⟨?_, hw.symm⟩
  rw [he]
  refine retB ?_
  show Lib.hasPrefix (bl S) (bl T) = _
  rw [Bool.eq_iff_iff]
  simp only [Lib.hasPrefix, decide_eq_true_eq, List.isPrefixOf_iff_prefix]
  rw [List.prefix_iff_eq_take]
  exact eq_comm

set_option maxHeartbeats 4000000 in
theorem comment_any (S : ByteArray) (w : World) :
    Calls Try.prog 28 #[.string S] w fun e w' => e = .returned (.int .i64 (spanN (notB 10) (bl S))) ∧ w = w' := by
  have hle := spanN_le (notB 10) (bl S)
  rw [bl_len] at hle
  obtain ⟨n, hn⟩ : ∃ n, spanN (notB 10) (bl S) = n := ⟨_, rfl⟩
  rw [hn] at hle ⊢
  have HN := Lib.hid hn
  clear hn
  by_cases he : n = S.size
  · have HE : Hid ((if n = S.size then (-1 : Int) else n) = -1) := by show _ = _; rw [if_pos he]
    go_enter Try.func28, Try.ntmps28
    go_wp2_with fail
    refine (idxByte_any S 10 w).mono ?_
    rw [HN.out, HE.out]
    rintro e w2 ⟨rfl, rfl⟩
    go_wp2_with fail
    go_ret
    exact ⟨ret1 (by rw [he]), rfl⟩
  · have HE : Hid ((if n = S.size then (-1 : Int) else n) = n) := by show _ = _; rw [if_neg he]
    go_enter Try.func28, Try.ntmps28
    go_wp2_with fail
    refine (idxByte_any S 10 w).mono ?_
    rw [HN.out, HE.out]
    rintro e w2 ⟨rfl, rfl⟩
    go_wp2_with fail
    go_ret
    exact ⟨rfl, rfl⟩

set_option maxHeartbeats 4000000 in
theorem number_any (S : ByteArray) (w : World) (hs : S.size ≤ 9223372036854775807) :
    Calls Try.prog 29 #[.string S] w fun e w' => e = .returned (.int .i64 (numN (bl S))) ∧ Kept [] w w' := by
  have hle := spanN_le dgB (bl S)
  rw [bl_len] at hle
  obtain ⟨n, hn⟩ : ∃ n, spanN dgB (bl S) = n := ⟨_, rfl⟩
  rw [hn] at hle
  have HN := Lib.hid hn
  obtain ⟨w2, hw2⟩ : ∃ w2, w.alloc (.cells #[.int .i64 5] 36) = w2 := ⟨_, rfl⟩
  have HCI : Hid (ClsIs w2 (.slice (some ⟨w.heap.size, 0, none⟩) 1 1) [5]) := by rw [← hw2]; exact ClsIs.made w [5] _
  have HK : Hid (Kept [] w w2) := by rw [← hw2]; exact Kept.alloc _ _ _
  by_cases h9 : n ≤ 9
  all_goals
    have HU : Hid (numN (bl S) = if n ≤ 9 then n else 0) := by show _ = _; unfold numN; rw [hn]
    clear hn
    go_enter Try.func29, Try.ntmps29
    go_wp2_with fail
    refine (span_any S _ [5] _ hs HCI.out (by decide) (by decide)).mono ?_
    rw [inC_dg, HN.out]
    rintro e w4 ⟨rfl, hk4⟩
    have HK4 : Hid (Kept [] w w4) := HK.out.trans hk4
    clear hk4
    go_wp2_with fail
    go_ret
    refine ⟨ret1 ?_, HK4.out⟩
    rw [HU.out]
    simp [h9]

set_option maxHeartbeats 4000000 in
theorem variable_any (S : ByteArray) (w : World) (hs : S.size ≤ 9223372036854775807) (hp : 0 < S.size) :
    Calls Try.prog 30 #[.string S] w fun e w' => e = .returned (.int .i64 (varN (bl S))) ∧ Kept [] w w' := by
  have hle := partN_le smB (bl (S.extract 1 S.size))
  rw [bl_len, size_from] at hle
  obtain ⟨n, hn⟩ : ∃ n, partN smB (bl (S.extract 1 S.size)) = n := ⟨_, rfl⟩
  rw [hn] at hle
  have HN := Lib.hid hn
  have HU : Hid (varN (bl S) = if n = 0 then 0 else 1 + n) := by
    show _ = _
    unfold varN
    have : (bl S).tail = bl (S.extract 1 S.size) := by rw [bl_from, List.drop_one]
    rw [this, hn]
  clear hn
  by_cases h0 : n = 0
  · have HV : Hid (varN (bl S) = 0) := by show _ = _; rw [HU.out, if_pos h0]
    go_enter Try.func30, Try.ntmps30
    go_wp2_with fail
    refine (part_any (S.extract 1 S.size) smB 3 _ (by rw [size_from]; omega) cls_sm).mono ?_
    rw [HN.out, h0]
    rintro e w2 ⟨rfl, hk2⟩
    have HK2 := Lib.hid hk2
    clear hk2
    go_wp2_with fail
    go_ret
    exact ⟨ret1 (by rw [HV.out]; rfl), HK2.out⟩
  · have HV : Hid (varN (bl S) = 1 + n) := by show _ = _; rw [HU.out, if_neg h0]
    have hn0 : ¬ (n : Int) = 0 := by omega
    go_enter Try.func30, Try.ntmps30
    go_wp2_with fail
    refine (part_any (S.extract 1 S.size) smB 3 _ (by rw [size_from]; omega) cls_sm).mono ?_
    rw [HN.out]
    rintro e w2 ⟨rfl, hk2⟩
    have HK2 := Lib.hid hk2
    clear hk2
    go_wp2_with fail
    go_ret
    exact ⟨ret1 (by rw [HV.out]; go_num), HK2.out⟩

set_option maxHeartbeats 4000000 in
theorem quoted_any (S : ByteArray) (w : World) (hs : S.size ≤ 9223372036854775807) (hp : 0 < S.size) :
    Calls Try.prog 31 #[.string S] w fun e w' => e = .returned (.int .i64 (quoN (bl S))) ∧ Kept [] w w' := by
  have hle := spanN_le (notB S[0]) (bl (S.extract 1 S.size))
  rw [bl_len, size_from] at hle
  obtain ⟨n, hn⟩ : ∃ n, spanN (notB S[0]) (bl (S.extract 1 S.size)) = n := ⟨_, rfl⟩
  rw [hn] at hle
  have HN := Lib.hid hn
  have HU : Hid (quoN (bl S) = if n = S.size - 1 then 0 else n + 2) := by
    show _ = _
    unfold quoN
    have : (bl S).tail = bl (S.extract 1 S.size) := by rw [bl_from, List.drop_one]
    have hh : (bl S).headD 0 = S[0] := by rw [bl_cons hp]; rfl
    rw [this, hh, hn, bl_len, size_from]
  clear hn
  by_cases h0 : n = S.size - 1
  · have HV : Hid (quoN (bl S) = 0) := by show _ = _; rw [HU.out, if_pos h0]
    have HE : Hid (∀ wx, Calls Try.prog 37 #[.string (S.extract 1 S.size), .int .u8 ((S[0]'hp).toNat : Int)] wx fun e w' => e = .returned (.int .i64 (-1)) ∧ w' = wx) := fun wx => by
      have := idxByte_any (S.extract 1 S.size) S[0] wx
      rw [HN.out, size_from, if_pos h0] at this
      exact this.mono fun e w' ⟨a, b⟩ => ⟨a, b.symm⟩
    have N := HE.out
    have h1s : 1 ≤ S.size := hp
    go_enter Try.func31, Try.ntmps31
    go_wp2_with fail
    go_quiet ((go_at_call 37; exact Calls.quiet_of_same (N _)))
    go_wp2_with fail
    go_ret
    exact ⟨ret1 (by rw [HV.out]; rfl), Kept.drewN _ _ _⟩
  · have HV : Hid (quoN (bl S) = n + 2) := by show _ = _; rw [HU.out, if_neg h0]
    have HE : Hid (∀ wx, Calls Try.prog 37 #[.string (S.extract 1 S.size), .int .u8 ((S[0]'hp).toNat : Int)] wx fun e w' => e = .returned (.int .i64 n) ∧ w' = wx) := fun wx => by
      have := idxByte_any (S.extract 1 S.size) S[0] wx
      rw [HN.out, size_from, if_neg h0] at this
      exact this.mono fun e w' ⟨a, b⟩ => ⟨a, b.symm⟩
    have N := HE.out
    have h1s : 1 ≤ S.size := hp
    go_enter Try.func31, Try.ntmps31
    go_wp2_with fail
    go_quiet ((go_at_call 37; exact Calls.quiet_of_same (N _)))
    go_wp2_with fail
    go_ret
    exact ⟨ret1 (by rw [HV.out]; go_num), Kept.drewN _ _ _⟩

theorem col_lit : ({ data := #[58, 58] } : ByteArray) = strL [58, 58] := rfl
set_option maxHeartbeats 4000000 in
theorem name_any (S : ByteArray) (w : World) (hs : S.size ≤ 9223372036854775807) :
    Calls Try.prog 24 #[.string S] w fun e w' => e = .returned (.int .i64 (nameN (bl S))) ∧ Kept [] w w' := by
  obtain ⟨n, hn⟩ : ∃ n, partN smB (bl S) = n := ⟨_, rfl⟩
  have hnl := partN_le smB (bl S)
  rw [hn, bl_len] at hnl
  have HN := Lib.hid hn
  have HU : Hid (nameN (bl S) = if n = 0 then 0 else n + moreN ((bl S).drop n)) := by show _ = _; unfold nameN; rw [hn]
  clear hn
  by_cases h0 : n = 0
  · have HV : Hid (nameN (bl S) = 0) := by show _ = _; rw [HU.out, if_pos h0]
    go_enter Try.func24, Try.ntmps24
    go_wp2_with fail
    refine (part_any S smB 3 _ hs cls_sm).mono ?_
    rw [HN.out, h0]
    rintro e w2 ⟨rfl, hk2⟩
    have HK2 := Lib.hid hk2
    clear hk2
    go_wp2_with fail
    go_loopw [3] (fun i wr => i = .int .i64 0 ∧ wr = w2) (fun _ _ => 0)
    case atStart => exact ⟨rfl, rfl⟩
    case round =>
      obtain ⟨rfl, rfl⟩ := hrel
      go_wp2_with fail
      go_ret
      exact ⟨ret1 (by rw [HV.out]; rfl), HK2.out⟩
  · have HV : Hid (nameN (bl S) = n + moreN ((bl S).drop n)) := by show _ = _; rw [HU.out, if_neg h0]
    go_enter Try.func24, Try.ntmps24
    go_wp2_with fail
    refine (part_any S smB 3 _ hs cls_sm).mono ?_
    rw [HN.out]
    rintro e w2 ⟨rfl, hk2⟩
    have HK2 := Lib.hid hk2
    clear hk2
    go_wp2_with fail
    go_loopw [3] (fun i wr => ∃ q : Nat, i = .int .i64 q ∧ 0 < q ∧ q ≤ S.size ∧ Hid (nameN (bl S) = q + moreN ((bl S).drop q) ∧ Kept [] w wr)) (fun i _ => S.size - (intOf i).toNat)
    case atStart => exact ⟨n, rfl, by omega, hnl, HV.out, HK2.out⟩
    case round =>
      obtain ⟨q, rfl, hq0, hq, HS⟩ := hrel
      have hle : moreN ((bl S).drop q) ≤ S.size - q := by have := moreN_le ((bl S).drop q); rwa [List.length_drop, bl_len] at this
      by_cases ht : ((bl S).drop q).take 2 = [58, 58]
      · have HP : Hid (decide ((bl (S.extract q S.size)).take (bl (strL [58, 58])).length = bl (strL [58, 58])) = true) := by show _ = _; rw [bl_from]; exact decide_eq_true ht
        have hq2 : q + 2 ≤ S.size := by have := congrArg List.length ht; simp at this; omega
        obtain ⟨m, hm⟩ : ∃ m, partN smB (bl (S.extract (q + 2) S.size)) = m := ⟨_, rfl⟩
        have hml := partN_le smB (bl (S.extract (q + 2) S.size))
        rw [hm, bl_len, size_from] at hml
        have HM := Lib.hid hm
        have hm2 : partN smB (((bl S).drop q).drop 2) = m := by rw [List.drop_drop, ← bl_from]; exact hm
        clear hm
        by_cases hm0 : m = 0
        · have HE : Hid (nameN (bl S) = q) := by
            show _ = _
            rw [HS.out.1, moreN, if_neg (fun h => by rw [hm2] at h; omega)]
            rfl
          clear hm2 ht hle
          go_wp2_with fail
          rw [col_lit]
          refine (prefix_any _ _ _).mono ?_
          rw [HP.out]
          rintro e w3 ⟨rfl, rfl⟩
          go_wp2_with fail
          refine (part_any (S.extract (q + 2) S.size) smB 3 _ (by rw [size_from]; omega) cls_sm).mono ?_
          rw [HM.out, hm0]
          rintro e w4 ⟨rfl, hk4⟩
          have HK4 : Hid (Kept [] w w4) := HS.out.2.trans hk4
          clear hk4
          go_wp2_with fail
          go_ret
          exact ⟨ret1 (by rw [HE.out]), HK4.out⟩
        · have HE : Hid (nameN (bl S) = (q + (2 + m)) + moreN ((bl S).drop (q + (2 + m)))) := by
            show _ = _
            rw [HS.out.1, moreN, if_pos ⟨ht, by rw [hm2]; omega⟩, hm2, List.drop_drop]
            omega
          have hmi : ¬ (m : Int) = 0 := by omega
          clear hm2 ht hle
          go_wp2_with fail
          rw [col_lit]
          refine (prefix_any _ _ _).mono ?_
          rw [HP.out]
          rintro e w3 ⟨rfl, rfl⟩
          go_wp2_with fail
          refine (part_any (S.extract (q + 2) S.size) smB 3 _ (by rw [size_from]; omega) cls_sm).mono ?_
          rw [HM.out]
          rintro e w4 ⟨rfl, hk4⟩
          have HK4 : Hid (Kept [] w w4) := HS.out.2.trans hk4
          clear hk4
          go_wp2_with fail
          go_roundw
          case rel => exact ⟨q + (2 + m), by go_num, by omega, by omega, HE.out, HK4.out⟩
          case measure => simp [intOf]; omega
      · have HP : Hid (decide ((bl (S.extract q S.size)).take (bl (strL [58, 58])).length = bl (strL [58, 58])) = false) := by show _ = _; rw [bl_from]; exact decide_eq_false ht
        have HE : Hid (nameN (bl S) = q) := by
          show _ = _
          rw [HS.out.1, moreN, if_neg (fun h => ht h.1)]
          rfl
        clear ht hle
        go_wp2_with fail
        rw [col_lit]
        refine (prefix_any _ _ _).mono ?_
        rw [HP.out]
        rintro e w3 ⟨rfl, rfl⟩
        go_wp2_with fail
        go_ret
        exact ⟨ret1 (by rw [HE.out]), HS.out.2⟩
end Go.Proofs.Ytfmhpjpalfepjaa

/-
  Layer 11: what a text is as a word, the document's way.
  Conditions: those that each theorem states.
-/
import Derived.Test.YtlbenaodpfhjeaaUName
import Derived.Laws.ResultCell
import Derived.Deep.DeepCutAuto
namespace Go.Proofs.Ytlbenaodpfhjeaa
open Go.RowKit Go.Maps

def wdA (p : Nat × List UInt8) : Array Value := #[.int .i64 (p.1 : Int), .string (strL p.2), .int .i64 0]
def isVar (l : List UInt8) : Bool := decide (1 < l.length ∧ l.headD 0 = 36 ∧ partB l.tail = true)
def isQuo (q : UInt8) (l : List UInt8) : Bool := decide (1 < l.length ∧ l.headD 0 = q ∧ l.getD (l.length - 1) 0 = q)
theorem wordO_eq (l : List UInt8) : wordO l = if nameB l then (1, l) else if typeB l then (2, l) else if isVar l then (3, l.tail) else if isQuo 39 l then (4, (l.drop 1).take (l.length - 1 - 1)) else if isQuo 34 l then (5, (l.drop 1).take (l.length - 1 - 1)) else if sgnB l then (7, l) else if allDg l = false then (0, []) else if 0 < l.length then (6, l) else (0, []) := by
  unfold wordO isVar isQuo
  simp only [decide_eq_true_eq]

theorem isVar_short {S : ByteArray} (h : ¬ 1 < S.size) : isVar (bl S) = false := decide_eq_false (fun hh => by rw [bl_len] at hh; exact h hh.1)
theorem isVar_other {S : ByteArray} (h : 0 < S.size) (h36 : ¬ (S[0].toNat : Int) = 36) : isVar (bl S) = false := decide_eq_false (fun hh => by rw [hd_S h, byte_eq] at hh; exact h36 hh.2.1)
theorem isVar_part {S : ByteArray} (h : 1 < S.size) (h36 : (S[0].toNat : Int) = 36) : isVar (bl S) = partB (bl (S.extract 1 S.size)) := by
  have hc : S[0] = 36 := by rw [byte_eq]; exact h36
  unfold isVar
  rw [Bool.eq_iff_iff, decide_eq_true_iff, bl_len, hd_S (by omega), bl_from, List.drop_one]
  exact ⟨fun hh => hh.2.2, fun hh => ⟨h, hc, hh⟩⟩
theorem isVar_long {S : ByteArray} (h : isVar (bl S) = true) : 1 < S.size := by
  have := (of_decide_eq_true h).1
  rwa [bl_len] at this
theorem isQuo_short {q : UInt8} {S : ByteArray} (h : ¬ 1 < S.size) : isQuo q (bl S) = false := decide_eq_false (fun hh => by rw [bl_len] at hh; exact h hh.1)
theorem isQuo_long {q : UInt8} {S : ByteArray} (h : isQuo q (bl S) = true) : 1 < S.size := by
  have := (of_decide_eq_true h).1
  rwa [bl_len] at this
theorem isQuo_val {q : UInt8} {S : ByteArray} (h : 1 < S.size) : isQuo q (bl S) = decide ((S[0].toNat : Int) = q.toNat ∧ ((S[S.size - 1]'(by omega)).toNat : Int) = q.toNat) := by
  unfold isQuo
  rw [Bool.eq_iff_iff, decide_eq_true_iff, decide_eq_true_iff, last_S (by omega), bl_len, hd_S (by omega), byte_eq, byte_eq]
  exact ⟨fun hh => hh.2, fun hh => ⟨h, hh⟩⟩
set_option maxRecDepth 100000 in
set_option maxHeartbeats 8000000 in
theorem word_any (S : ByteArray) (w : World) (hs : S.size ≤ 4611686018427387904) : Calls Try.prog 17 #[.string S] w fun e w' => e = .returned (.agg (wdA (wordO (bl S)))) ∧ Kept [] w w' := by
  have ht : S.toList = bl S := Lib.toList_data S
  have HW := Lib.hid (wordO_eq (bl S))
  cases q1 : nameB (bl S)
  case true =>
    have H1 := Lib.hid q1
    have HE : Hid (wordO (bl S) = (1, bl S)) := by show _ = _; rw [HW.out, if_pos q1]
    clear q1 ht
    go_enter Try.func17, Try.ntmps17
    go_wp2_with fail
    refine (rname_any S _ hs).mono ?_
    rw [H1.out]
    rintro e w2 ⟨rfl, rfl⟩
    go_wp2_with fail
    refine bodyPost_ret_by (results_cell_row rfl _ _ w.heap.size 37 _ (0, 0) _ rfl (heap_alloc_last _ _) Try.underlying37 rfl (by kernel_rfl)) rfl ⟨by rw [HE.out]; rfl, Kept.alloc _ _ _⟩
  case false =>
  cases q2 : typeB (bl S)
  case true =>
    have H1 := Lib.hid q1
    have H2 := Lib.hid q2
    have HE : Hid (wordO (bl S) = (2, bl S)) := by show _ = _; rw [HW.out, if_neg (by rw [q1]; simp), if_pos q2]
    clear q1 q2 ht
    go_enter Try.func17, Try.ntmps17
    go_wp2_with fail
    refine (rname_any S _ hs).mono ?_
    rw [H1.out]
    rintro e w2 ⟨rfl, rfl⟩
    go_wp2_with fail
    refine (rtype_any S _ (by omega)).mono ?_
    rw [H2.out]
    rintro e w2 ⟨rfl, rfl⟩
    go_wp2_with fail
    refine bodyPost_ret_by (results_cell_row rfl _ _ w.heap.size 37 _ (0, 0) _ rfl (heap_alloc_last _ _) Try.underlying37 rfl (by kernel_rfl)) rfl ⟨by rw [HE.out]; rfl, Kept.alloc _ _ _⟩
  case false =>
  have H1 := Lib.hid q1
  have H2 := Lib.hid q2
  have HE : Hid (wordO (bl S) = if isVar (bl S) then (3, (bl S).tail) else if isQuo 39 (bl S) then (4, ((bl S).drop 1).take ((bl S).length - 1 - 1)) else if isQuo 34 (bl S) then (5, ((bl S).drop 1).take ((bl S).length - 1 - 1)) else if sgnB (bl S) then (7, (bl S)) else if allDg (bl S) = false then (0, []) else if 0 < (bl S).length then (6, (bl S)) else (0, [])) := by
    show _ = _
    rw [HW.out, if_neg (by rw [q1]; simp), if_neg (by rw [q2]; simp)]
  obtain ⟨b6, hb6⟩ : ∃ b, isVar (bl S) = b := ⟨_, rfl⟩
  obtain ⟨b8, hb8⟩ : ∃ b, isQuo 39 (bl S) = b := ⟨_, rfl⟩
  obtain ⟨b10, hb10⟩ : ∃ b, isQuo 34 (bl S) = b := ⟨_, rfl⟩
  rw [hb6, hb8, hb10] at HE
  have HB6 := Lib.hid hb6
  have HB8 := Lib.hid hb8
  have HB10 := Lib.hid hb10
  clear q1 q2 hb6 hb8 hb10 HW
  go_enter Try.func17, Try.ntmps17
  go_wp2_with fail
  refine (rname_any S _ hs).mono ?_
  rw [H1.out]
  rintro e w2 ⟨rfl, rfl⟩
  go_wp2_with fail
  refine (rtype_any S _ (by omega)).mono ?_
  rw [H2.out]
  rintro e w2 ⟨rfl, rfl⟩
  go_upto_region 6 with (fail)
  go_cut [17] (fun s wx => s = .bool b6 ∧ wx = w.alloc (.cells #[.int .i64 0, .string ⟨#[]⟩, .int .i64 0] 37))
  case first =>
    by_cases h1 : 1 < S.size
    · have hpos : 0 < S.size := by omega
      by_cases h36 : (S[0].toNat : Int) = 36
      · have HP : Hid (partB (bl (S.extract 1 S.size)) = b6) := by
          show _ = _
          rw [← HB6.out, isVar_part h1 h36]
        go_wp2_with fail
        refine (rpart_any (S.extract 1 S.size) _ (by rw [size_from]; omega)).mono ?_
        rw [HP.out]
        rintro e w2 ⟨rfl, rfl⟩
        go_wp2_with fail
        go_meet
        exact ⟨rfl, rfl⟩
      · have hb : b6 = false := by rw [← HB6.out, isVar_other hpos h36]
        subst hb
        go_wp2_with fail
        go_meet
        exact ⟨rfl, rfl⟩
    · have hb : b6 = false := by rw [← HB6.out, isVar_short h1]
      subst hb
      go_wp2_with fail
      go_meet
      exact ⟨rfl, rfl⟩
  case rest =>
  obtain ⟨rfl, rfl⟩ := hcut
  cases b6
  case true =>
    have h1 : 1 < S.size := isVar_long HB6.out
    have HT : Hid (wordO (bl S) = (3, bl (S.extract 1 S.size))) := by
      show _ = _
      rw [HE.out, if_pos rfl, bl_from, List.drop_one]
    go_wp2_with fail
    refine bodyPost_ret_by (results_cell_row rfl _ _ w.heap.size 37 _ (0, 0) _ rfl (heap_alloc_last _ _) Try.underlying37 rfl (by kernel_rfl)) rfl ⟨by rw [HT.out]; rfl, Kept.alloc _ _ _⟩
  case false =>
  go_upto_region 8 with (fail)
  go_cut [33] (fun s wx => s = .bool b8 ∧ wx = w.alloc (.cells #[.int .i64 0, .string ⟨#[]⟩, .int .i64 0] 37))
  case first =>
    by_cases h1 : 1 < S.size
    · have hpos : 0 < S.size := by omega
      have hlast : S.size - 1 < S.size := by omega
      have HBE : Hid (b8 = decide ((S[0].toNat : Int) = 39 ∧ (S[S.size - 1].toNat : Int) = 39)) := by
        show _ = _
        rw [← HB8.out]
        exact isQuo_val h1
      have i1 := get_i (S.size - 1) hlast
      obtain ⟨c1, hc1⟩ : ∃ c : Int, (S[S.size - 1].toNat : Int) = c := ⟨_, rfl⟩
      have hsub : IntKind.i64.wrap ((S.size : Int) - 1) = ((S.size - 1 : Nat) : Int) := by rw [IntKind.wrap_i64]; omega
      obtain ⟨m, hm⟩ : ∃ m, S.size - 1 = m := ⟨_, rfl⟩
      rw [hc1] at HBE
      rw [hc1] at i1
      rw [hm] at i1 hsub
      clear hc1 hm hlast
      cases e0 : ((S[0].toNat : Int) == 39)
      · have hb : b8 = false := by rw [HBE.out]; exact decide_eq_false (fun h => by have := beq_eq_false_iff_ne.1 e0; exact this h.1)
        subst hb
        clear HBE
        go_wp2_with fail
        go_meet
        exact ⟨rfl, rfl⟩
      · cases e1 : (c1 == 39)
        · have hb : b8 = false := by rw [HBE.out]; exact decide_eq_false (fun h => by have := beq_eq_false_iff_ne.1 e1; exact this h.2)
          subst hb
          clear HBE
          go_wp2_with fail
          go_meet
          exact ⟨rfl, rfl⟩
        · have hb : b8 = true := by rw [HBE.out]; exact decide_eq_true ⟨beq_iff_eq.1 e0, beq_iff_eq.1 e1⟩
          subst hb
          clear HBE
          go_wp2_with fail
          go_meet
          exact ⟨rfl, rfl⟩
    · have hb : b8 = false := by rw [← HB8.out, isQuo_short h1]
      subst hb
      go_wp2_with fail
      go_meet
      exact ⟨rfl, rfl⟩
  case rest =>
  obtain ⟨rfl, rfl⟩ := hcut
  cases b8
  case true =>
    have h1 : 1 < S.size := isQuo_long HB8.out
    have HT : Hid (wordO (bl S) = (4, bl (S.extract 1 (S.size - 1)))) := by
      show _ = _
      rw [HE.out, bl_ext, bl_len]
      simp only [if_true, if_false, Bool.false_eq_true]
    go_wp2_with fail
    refine bodyPost_ret_by (results_cell_row rfl _ _ w.heap.size 37 _ (0, 0) _ rfl (heap_alloc_last _ _) Try.underlying37 rfl (by kernel_rfl)) rfl ⟨by rw [HT.out]; rfl, Kept.alloc _ _ _⟩
  case false =>
  go_upto_region 10 with (fail)
  go_cut [53] (fun s wx => s = .bool b10 ∧ wx = w.alloc (.cells #[.int .i64 0, .string ⟨#[]⟩, .int .i64 0] 37))
  case first =>
    by_cases h1 : 1 < S.size
    · have hpos : 0 < S.size := by omega
      have hlast : S.size - 1 < S.size := by omega
      have HBE : Hid (b10 = decide ((S[0].toNat : Int) = 34 ∧ (S[S.size - 1].toNat : Int) = 34)) := by
        show _ = _
        rw [← HB10.out]
        exact isQuo_val h1
      have i1 := get_i (S.size - 1) hlast
      obtain ⟨c1, hc1⟩ : ∃ c : Int, (S[S.size - 1].toNat : Int) = c := ⟨_, rfl⟩
      have hsub : IntKind.i64.wrap ((S.size : Int) - 1) = ((S.size - 1 : Nat) : Int) := by rw [IntKind.wrap_i64]; omega
      obtain ⟨m, hm⟩ : ∃ m, S.size - 1 = m := ⟨_, rfl⟩
      rw [hc1] at HBE
      rw [hc1] at i1
      rw [hm] at i1 hsub
      clear hc1 hm hlast
      cases e0 : ((S[0].toNat : Int) == 34)
      · have hb : b10 = false := by rw [HBE.out]; exact decide_eq_false (fun h => by have := beq_eq_false_iff_ne.1 e0; exact this h.1)
        subst hb
        clear HBE
        go_wp2_with fail
        go_meet
        exact ⟨rfl, rfl⟩
      · cases e1 : (c1 == 34)
        · have hb : b10 = false := by rw [HBE.out]; exact decide_eq_false (fun h => by have := beq_eq_false_iff_ne.1 e1; exact this h.2)
          subst hb
          clear HBE
          go_wp2_with fail
          go_meet
          exact ⟨rfl, rfl⟩
        · have hb : b10 = true := by rw [HBE.out]; exact decide_eq_true ⟨beq_iff_eq.1 e0, beq_iff_eq.1 e1⟩
          subst hb
          clear HBE
          go_wp2_with fail
          go_meet
          exact ⟨rfl, rfl⟩
    · have hb : b10 = false := by rw [← HB10.out, isQuo_short h1]
      subst hb
      go_wp2_with fail
      go_meet
      exact ⟨rfl, rfl⟩
  case rest =>
  obtain ⟨rfl, rfl⟩ := hcut
  cases b10
  case true =>
    have h1 : 1 < S.size := isQuo_long HB10.out
    have HT : Hid (wordO (bl S) = (5, bl (S.extract 1 (S.size - 1)))) := by
      show _ = _
      rw [HE.out, bl_ext, bl_len]
      simp only [if_true, if_false, Bool.false_eq_true]
    go_wp2_with fail
    refine bodyPost_ret_by (results_cell_row rfl _ _ w.heap.size 37 _ (0, 0) _ rfl (heap_alloc_last _ _) Try.underlying37 rfl (by kernel_rfl)) rfl ⟨by rw [HT.out]; rfl, Kept.alloc _ _ _⟩
  case false =>
  have HS : Hid (wordO (bl S) = if sgnB (bl S) then (7, (bl S)) else if allDg (bl S) = false then (0, []) else if 0 < (bl S).length then (6, (bl S)) else (0, [])) := by
    show _ = _
    rw [HE.out]
    simp only [if_false, Bool.false_eq_true]
  cases hsg : sgnB (bl S)
  case true =>
    have HT : Hid (wordO (bl S) = (7, bl S)) := by
      show _ = _
      rw [HS.out, if_pos hsg]
    have hm : bl S ∈ sgn1 ++ sgn2 := of_decide_eq_true hsg
    have hm2 : bl S = [123] ∨ bl S = [125] ∨ bl S = [40] ∨ bl S = [41] ∨ bl S = [91] ∨ bl S = [93] ∨ bl S = [44] ∨ bl S = [58] ∨ bl S = [61] ∨ bl S = [33] ∨ bl S = [61, 62] ∨ bl S = [61, 61] ∨ bl S = [33, 61] ∨ bl S = [45, 62] ∨ bl S = [126, 62] := by simpa [sgn1, sgn2] using hm
    clear hm hsg
    rcases hm2 with h | h | h | h | h | h | h | h | h | h | h | h | h | h | h
    all_goals
      rw [h] at ht
      clear h
      go_wp2_with fail
      refine bodyPost_ret_by (results_cell_row rfl _ _ w.heap.size 37 _ (0, 0) _ rfl (heap_alloc_last _ _) Try.underlying37 rfl (by kernel_rfl)) rfl ⟨by rw [HT.out]; rfl, Kept.alloc _ _ _⟩
  case false =>
    have hm : bl S ∉ sgn1 ++ sgn2 := of_decide_eq_false hsg
    have hn : (S.toList == [123]) = false ∧ (S.toList == [125]) = false ∧ (S.toList == [40]) = false ∧ (S.toList == [41]) = false ∧ (S.toList == [91]) = false ∧ (S.toList == [93]) = false ∧ (S.toList == [44]) = false ∧ (S.toList == [58]) = false ∧ (S.toList == [61]) = false ∧ (S.toList == [33]) = false ∧ (S.toList == [61, 62]) = false ∧ (S.toList == [61, 61]) = false ∧ (S.toList == [33, 61]) = false ∧ (S.toList == [45, 62]) = false ∧ (S.toList == [126, 62]) = false := by
      rw [ht]
      simpa [sgn1, sgn2] using hm
    obtain ⟨n0, n1, n2, n3, n4, n5, n6, n7, n8, n9, n10, n11, n12, n13, n14⟩ := hn
    have HT : Hid (wordO (bl S) = if allDg (bl S) = false then (0, []) else if 0 < (bl S).length then (6, (bl S)) else (0, [])) := by
      show _ = _
      rw [HS.out, if_neg (by rw [hsg]; simp)]
    clear hm hsg ht
    go_wp2_with fail
    go_loop [4] (fun i => ∃ k : Nat, i = .int .i64 k ∧ k ≤ S.size ∧ Hid (∀ j (hj : j < S.size), j < k → dgB S[j] = true)) (fun i => S.size - (intOf i).toNat)
    case atStart => exact ⟨0, rfl, by omega, fun j hj h0 => by omega⟩
    case round =>
      obtain ⟨k, rfl, hk, HK⟩ := hrel
      by_cases hlt : k < S.size
      · have hc := UInt8.toNat_lt S[k]
        cases q : dgB (S[k]'hlt)
        · have HQ := Lib.hid q
          have HF : Hid (wordO (bl S) = (0, [])) := by
            show _ = _
            rw [HT.out, if_pos]
            rw [Bool.eq_false_iff]
            intro hh
            unfold allDg at hh
            rw [List.all_eq_true] at hh
            have := hh S[k] (by rw [← bl_get S k hlt]; exact List.getElem_mem _)
            rw [this] at q
            cases q
          clear q
          go_wp2_with fail
          refine (rdigit_any S[k] _).mono ?_
          rw [HQ.out]
          rintro e w2 ⟨rfl, rfl⟩
          go_wp2_with fail
          refine bodyPost_ret_by (results_cell_row rfl _ _ w.heap.size 37 _ (0, 0) _ rfl (heap_alloc_last _ _) Try.underlying37 rfl (by kernel_rfl)) rfl ⟨by rw [HF.out]; rfl, Kept.alloc _ _ _⟩
        · have HQ := Lib.hid q
          clear q
          go_wp2_with fail
          refine (rdigit_any S[k] _).mono ?_
          rw [HQ.out]
          rintro e w2 ⟨rfl, rfl⟩
          go_wp2_with fail
          go_round
          case rel =>
            refine ⟨k + 1, by go_num, by omega, fun j hj h0 => ?_⟩
            by_cases e : j = k
            · subst e; exact HQ.out
            · exact HK.out j hj (by omega)
          case measure => simp [intOf]; omega
      · have HA : Hid (allDg (bl S) = true) := by
          show _ = _
          unfold allDg
          rw [List.all_eq_true]
          intro x hx
          obtain ⟨j, hj, rfl⟩ := List.getElem_of_mem hx
          have hj2 : j < S.size := by rw [bl_len] at hj; exact hj
          exact HK.out j hj2 (by omega)
        by_cases h0 : 0 < S.size
        · have HF : Hid (wordO (bl S) = (6, bl S)) := by
            show _ = _
            rw [HT.out, HA.out, if_neg (by simp), bl_len, if_pos h0]
          go_wp2_with fail
          refine bodyPost_ret_by (results_cell_row rfl _ _ w.heap.size 37 _ (0, 0) _ rfl (heap_alloc_last _ _) Try.underlying37 rfl (by kernel_rfl)) rfl ⟨by rw [HF.out]; rfl, Kept.alloc _ _ _⟩
        · have HF : Hid (wordO (bl S) = (0, [])) := by
            show _ = _
            rw [HT.out, HA.out, if_neg (by simp), bl_len, if_neg h0]
          go_wp2_with fail
          refine bodyPost_ret_by (results_cell_row rfl _ _ w.heap.size 37 _ (0, 0) _ rfl (heap_alloc_last _ _) Try.underlying37 rfl (by kernel_rfl)) rfl ⟨by rw [HF.out]; rfl, Kept.alloc _ _ _⟩
end Go.Proofs.Ytlbenaodpfhjeaa

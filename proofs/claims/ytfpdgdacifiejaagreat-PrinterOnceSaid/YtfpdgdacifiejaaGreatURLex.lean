/-
  Layer 11: what a text is as a word, the document's way.
  Conditions: those that each theorem states.
  Layer 11: the document's Lex.
  Conditions: those that each theorem states.
-/
import Derived.Test.YtfpdgdacifiejaaGreatVPar
import Derived.Laws.ResultCell
import Derived.Deep.DeepCutAuto
import Derived.Test.YtfpdgdacifiejaaGreatULex
import Derived.Test.YtfpdgdacifiejaaGreatUReachN
namespace Go.Proofs.YtfpdgdacifiejaaGreat
open Go.RowKit Go.Maps

def wdA (p : Nat × List UInt8) : Array Value := #[.int .i64 (p.1 : Int), .string (strL p.2), .int .i64 0]
def isVar (l : List UInt8) : Bool := decide (1 < l.length ∧ l.headD 0 = 36 ∧ partB l.tail = true)
def isQuo (q : UInt8) (l : List UInt8) : Bool := decide (1 < l.length ∧ l.headD 0 = q ∧ l.getD (l.length - 1) 0 = q)
theorem wordO_eq (l : List UInt8) : wordO l = if nameB l then (1, l) else if typeB l then (2, l) else if isVar l then (3, l.tail) else if isQuo 39 l then (4, (l.drop 1).take (l.length - 1 - 1)) else if isQuo 34 l then (5, (l.drop 1).take (l.length - 1 - 1)) else if sgnB l then (7, l) else if allDg l = false then (0, []) else if 0 < l.length then (6, l) else (0, []) := by
  unfold wordO isVar isQuo
  simp only [decide_eq_true_eq]

theorem isVar_short {S : ByteArray} (h : ¬ 1 < S.size) : isVar (bl S) = false := decide_eq_false (fun hh => by rw [bl_len] at hh; exact h hh.1)
theorem isVar_other {S : ByteArray} (h : 0 < S.size) (h36 : ¬ (S[0].toNat : Int) = 36) : isVar (bl S) = false := decide_eq_false (fun hh => by rw [hd_S h, byte_eq] at hh; exact h36 hh.2.1)
theorem isVar_part {S : ByteArray} (h : 1 < S.size) (h36 : (S[0].toNat : Int) = 36) : isVar (bl S) = partB (bl (S.extract 1 S.size)) := by
  have hc : S[0] = 36 := by rw [byte_eq]; exact h36
  unfold isVar
  rw [Bool.eq_iff_iff, decide_eq_true_iff, bl_len, hd_S (by omega), bl_from, List.drop_one]
  exact ⟨fun hh => hh.2.2, fun hh => ⟨h, hc, hh⟩⟩
theorem isVar_long {S : ByteArray} (h : isVar (bl S) = true) : 1 < S.size := by
  have := (of_decide_eq_true h).1
  rwa [bl_len] at this
theorem isQuo_short {q : UInt8} {S : ByteArray} (h : ¬ 1 < S.size) : isQuo q (bl S) = false := decide_eq_false (fun hh => by rw [bl_len] at hh; exact h hh.1)
theorem isQuo_long {q : UInt8} {S : ByteArray} (h : isQuo q (bl S) = true) : 1 < S.size := by
  have := (of_decide_eq_true h).1
  rwa [bl_len] at this
theorem isQuo_val {q : UInt8} {S : ByteArray} (h : 1 < S.size) : isQuo q (bl S) = decide ((S[0].toNat : Int) = q.toNat ∧ ((S[S.size - 1]'(by omega)).toNat : Int) = q.toNat) := by
  unfold isQuo
  rw [Bool.eq_iff_iff, decide_eq_true_iff, decide_eq_true_iff, last_S (by omega), bl_len, hd_S (by omega), byte_eq, byte_eq]
  exact ⟨fun hh => hh.2, fun hh => ⟨h, hh⟩⟩
set_option maxRecDepth 100000 in
set_option maxHeartbeats 8000000 in
theorem word_any (S : ByteArray) (w : World) (hs : S.size ≤ 4611686018427387904) : Calls Tryz.prog 52 #[.string S] w fun e w' => e = .returned (.agg (wdA (wordO (bl S)))) ∧ Kept [] w w' := by
  have ht : S.toList = bl S := Lib.toList_data S
  have HW := Lib.hid (wordO_eq (bl S))
  cases q1 : nameB (bl S)
  case true =>
    have H1 := Lib.hid q1
    have HE : Hid (wordO (bl S) = (1, bl S)) := by show _ = _; rw [HW.out, if_pos q1]
    clear q1 ht
    go_enter Tryz.func52, Tryz.ntmps52
    go_wp2_with fail
    refine (rname_any S _ hs).mono ?_
    rw [H1.out]
    rintro e w2 ⟨rfl, rfl⟩
    go_wp2_with fail
    refine bodyPost_ret_by (results_cell_row rfl _ _ w.heap.size 38 _ (0, 0) _ rfl (heap_alloc_last _ _) Tryz.underlying38 rfl (by kernel_rfl)) rfl ⟨by rw [HE.out]; rfl, Kept.alloc _ _ _⟩
  case false =>
  cases q2 : typeB (bl S)
  case true =>
    have H1 := Lib.hid q1
    have H2 := Lib.hid q2
    have HE : Hid (wordO (bl S) = (2, bl S)) := by show _ = _; rw [HW.out, if_neg (by rw [q1]; simp), if_pos q2]
    clear q1 q2 ht
    go_enter Tryz.func52, Tryz.ntmps52
    go_wp2_with fail
    refine (rname_any S _ hs).mono ?_
    rw [H1.out]
    rintro e w2 ⟨rfl, rfl⟩
    go_wp2_with fail
    refine (rtype_any S _ (by omega)).mono ?_
    rw [H2.out]
    rintro e w2 ⟨rfl, rfl⟩
    go_wp2_with fail
    refine bodyPost_ret_by (results_cell_row rfl _ _ w.heap.size 38 _ (0, 0) _ rfl (heap_alloc_last _ _) Tryz.underlying38 rfl (by kernel_rfl)) rfl ⟨by rw [HE.out]; rfl, Kept.alloc _ _ _⟩
  case false =>
  have H1 := Lib.hid q1
  have H2 := Lib.hid q2
  have HE : Hid (wordO (bl S) = if isVar (bl S) then (3, (bl S).tail) else if isQuo 39 (bl S) then (4, ((bl S).drop 1).take ((bl S).length - 1 - 1)) else if isQuo 34 (bl S) then (5, ((bl S).drop 1).take ((bl S).length - 1 - 1)) else if sgnB (bl S) then (7, (bl S)) else if allDg (bl S) = false then (0, []) else if 0 < (bl S).length then (6, (bl S)) else (0, [])) := by
    show _ = _
    rw [HW.out, if_neg (by rw [q1]; simp), if_neg (by rw [q2]; simp)]
  obtain ⟨b6, hb6⟩ : ∃ b, isVar (bl S) = b := ⟨_, rfl⟩
  obtain ⟨b8, hb8⟩ : ∃ b, isQuo 39 (bl S) = b := ⟨_, rfl⟩
  obtain ⟨b10, hb10⟩ : ∃ b, isQuo 34 (bl S) = b := ⟨_, rfl⟩
  rw [hb6, hb8, hb10] at HE
  have HB6 := Lib.hid hb6
  have HB8 := Lib.hid hb8
  have HB10 := Lib.hid hb10
  clear q1 q2 hb6 hb8 hb10 HW
  go_enter Tryz.func52, Tryz.ntmps52
  go_wp2_with fail
  refine (rname_any S _ hs).mono ?_
  rw [H1.out]
  rintro e w2 ⟨rfl, rfl⟩
  go_wp2_with fail
  refine (rtype_any S _ (by omega)).mono ?_
  rw [H2.out]
  rintro e w2 ⟨rfl, rfl⟩
  go_upto_region 6 with (fail)
  go_cut [17] (fun s wx => s = .bool b6 ∧ wx = w.alloc (.cells #[.int .i64 0, .string ⟨#[]⟩, .int .i64 0] 38))
  case first =>
    by_cases h1 : 1 < S.size
    · have hpos : 0 < S.size := by omega
      by_cases h36 : (S[0].toNat : Int) = 36
      · have HP : Hid (partB (bl (S.extract 1 S.size)) = b6) := by
          show _ = _
          rw [← HB6.out, isVar_part h1 h36]
        go_wp2_with fail
        refine (rpart_any (S.extract 1 S.size) _ (by rw [size_from]; omega)).mono ?_
        rw [HP.out]
        rintro e w2 ⟨rfl, rfl⟩
        go_wp2_with fail
        go_meet
        exact ⟨rfl, rfl⟩
      · have hb : b6 = false := by rw [← HB6.out, isVar_other hpos h36]
        subst hb
        go_wp2_with fail
        go_meet
        exact ⟨rfl, rfl⟩
    · have hb : b6 = false := by rw [← HB6.out, isVar_short h1]
      subst hb
      go_wp2_with fail
      go_meet
      exact ⟨rfl, rfl⟩
  case rest =>
  obtain ⟨rfl, rfl⟩ := hcut
  cases b6
  case true =>
    have h1 : 1 < S.size := isVar_long HB6.out
    have HT : Hid (wordO (bl S) = (3, bl (S.extract 1 S.size))) := by
      show _ = _
      rw [HE.out, if_pos rfl, bl_from, List.drop_one]
    go_wp2_with fail
    refine bodyPost_ret_by (results_cell_row rfl _ _ w.heap.size 38 _ (0, 0) _ rfl (heap_alloc_last _ _) Tryz.underlying38 rfl (by kernel_rfl)) rfl ⟨by rw [HT.out]; rfl, Kept.alloc _ _ _⟩
  case false =>
  go_upto_region 8 with (fail)
  go_cut [33] (fun s wx => s = .bool b8 ∧ wx = w.alloc (.cells #[.int .i64 0, .string ⟨#[]⟩, .int .i64 0] 38))
  case first =>
    by_cases h1 : 1 < S.size
    · have hpos : 0 < S.size := by omega
      have hlast : S.size - 1 < S.size := by omega
      have HBE : Hid (b8 = decide ((S[0].toNat : Int) = 39 ∧ (S[S.size - 1].toNat : Int) = 39)) := by
        show _ = _
        rw [← HB8.out]
        exact isQuo_val h1
      have i1 := get_i (S.size - 1) hlast
      obtain ⟨c1, hc1⟩ : ∃ c : Int, (S[S.size - 1].toNat : Int) = c := ⟨_, rfl⟩
      have hsub : IntKind.i64.wrap ((S.size : Int) - 1) = ((S.size - 1 : Nat) : Int) := by rw [IntKind.wrap_i64]; omega
      obtain ⟨m, hm⟩ : ∃ m, S.size - 1 = m := ⟨_, rfl⟩
      rw [hc1] at HBE
      rw [hc1] at i1
      rw [hm] at i1 hsub
      clear hc1 hm hlast
      cases e0 : ((S[0].toNat : Int) == 39)
      · have hb : b8 = false := by rw [HBE.out]; exact decide_eq_false (fun h => by have := beq_eq_false_iff_ne.1 e0; exact this h.1)
        subst hb
        clear HBE
        go_wp2_with fail
        go_meet
        exact ⟨rfl, rfl⟩
      · cases e1 : (c1 == 39)
        · have hb : b8 = false := by rw [HBE.out]; exact decide_eq_false (fun h => by have := beq_eq_false_iff_ne.1 e1; exact this h.2)
          subst hb
          clear HBE
          go_wp2_with fail
          go_meet
          exact ⟨rfl, rfl⟩
        · have hb : b8 = true := by rw [HBE.out]; exact decide_eq_true ⟨beq_iff_eq.1 e0, beq_iff_eq.1 e1⟩
          subst hb
          clear HBE
          go_wp2_with fail
          go_meet
          exact ⟨rfl, rfl⟩
    · have hb : b8 = false := by rw [← HB8.out, isQuo_short h1]
      subst hb
      go_wp2_with fail
      go_meet
      exact ⟨rfl, rfl⟩
  case rest =>
  obtain ⟨rfl, rfl⟩ := hcut
  cases b8
  case true =>
    have h1 : 1 < S.size := isQuo_long HB8.out
    have HT : Hid (wordO (bl S) = (4, bl (S.extract 1 (S.size - 1)))) := by
      show _ = _
      rw [HE.out, bl_ext, bl_len]
      simp only [if_true, if_false, Bool.false_eq_true]
    go_wp2_with fail
    refine bodyPost_ret_by (results_cell_row rfl _ _ w.heap.size 38 _ (0, 0) _ rfl (heap_alloc_last _ _) Tryz.underlying38 rfl (by kernel_rfl)) rfl ⟨by rw [HT.out]; rfl, Kept.alloc _ _ _⟩
  case false =>
  go_upto_region 10 with (fail)
  go_cut [53] (fun s wx => s = .bool b10 ∧ wx = w.alloc (.cells #[.int .i64 0, .string ⟨#[]⟩, .int .i64 0] 38))
  case first =>
    by_cases h1 : 1 < S.size
    · have hpos : 0 < S.size := by omega
      have hlast : S.size - 1 < S.size := by omega
      have HBE : Hid (b10 = decide ((S[0].toNat : Int) = 34 ∧ (S[S.size - 1].toNat : Int) = 34)) := by
        show _ = _
        rw [← HB10.out]
        exact isQuo_val h1
      have i1 := get_i (S.size - 1) hlast
      obtain ⟨c1, hc1⟩ : ∃ c : Int, (S[S.size - 1].toNat : Int) = c := ⟨_, rfl⟩
      have hsub : IntKind.i64.wrap ((S.size : Int) - 1) = ((S.size - 1 : Nat) : Int) := by rw [IntKind.wrap_i64]; omega
      obtain ⟨m, hm⟩ : ∃ m, S.size - 1 = m := ⟨_, rfl⟩
      rw [hc1] at HBE
      rw [hc1] at i1
      rw [hm] at i1 hsub
      clear hc1 hm hlast
      cases e0 : ((S[0].toNat : Int) == 34)
      · have hb : b10 = false := by rw [HBE.out]; exact decide_eq_false (fun h => by have := beq_eq_false_iff_ne.1 e0; exact this h.1)
        subst hb
        clear HBE
        go_wp2_with fail
        go_meet
        exact ⟨rfl, rfl⟩
      · cases e1 : (c1 == 34)
        · have hb : b10 = false := by rw [HBE.out]; exact decide_eq_false (fun h => by have := beq_eq_false_iff_ne.1 e1; exact this h.2)
          subst hb
          clear HBE
          go_wp2_with fail
          go_meet
          exact ⟨rfl, rfl⟩
        · have hb : b10 = true := by rw [HBE.out]; exact decide_eq_true ⟨beq_iff_eq.1 e0, beq_iff_eq.1 e1⟩
          subst hb
          clear HBE
          go_wp2_with fail
          go_meet
          exact ⟨rfl, rfl⟩
    · have hb : b10 = false := by rw [← HB10.out, isQuo_short h1]
      subst hb
      go_wp2_with fail
      go_meet
      exact ⟨rfl, rfl⟩
  case rest =>
  obtain ⟨rfl, rfl⟩ := hcut
  cases b10
  case true =>
    have h1 : 1 < S.size := isQuo_long HB10.out
    have HT : Hid (wordO (bl S) = (5, bl (S.extract 1 (S.size - 1)))) := by
      show _ = _
      rw [HE.out, bl_ext, bl_len]
      simp only [if_true, if_false, Bool.false_eq_true]
    go_wp2_with fail
    refine bodyPost_ret_by (results_cell_row rfl _ _ w.heap.size 38 _ (0, 0) _ rfl (heap_alloc_last _ _) Tryz.underlying38 rfl (by kernel_rfl)) rfl ⟨by rw [HT.out]; rfl, Kept.alloc _ _ _⟩
  case false =>
  have HS : Hid (wordO (bl S) = if sgnB (bl S) then (7, (bl S)) else if allDg (bl S) = false then (0, []) else if 0 < (bl S).length then (6, (bl S)) else (0, [])) := by
    show _ = _
    rw [HE.out]
    simp only [if_false, Bool.false_eq_true]
  cases hsg : sgnB (bl S)
  case true =>
    have HT : Hid (wordO (bl S) = (7, bl S)) := by
      show _ = _
      rw [HS.out, if_pos hsg]
    have hm : bl S ∈ sgn1 ++ sgn2 := of_decide_eq_true hsg
    have hm2 : bl S = [123] ∨ bl S = [125] ∨ bl S = [40] ∨ bl S = [41] ∨ bl S = [91] ∨ bl S = [93] ∨ bl S = [44] ∨ bl S = [58] ∨ bl S = [61] ∨ bl S = [33] ∨ bl S = [61, 62] ∨ bl S = [61, 61] ∨ bl S = [33, 61] ∨ bl S = [45, 62] ∨ bl S = [126, 62] := by simpa [sgn1, sgn2] using hm
    clear hm hsg
    rcases hm2 with h | h | h | h | h | h | h | h | h | h | h | h | h | h | h
    all_goals
      rw [h] at ht
      clear h
      go_wp2_with fail
      refine bodyPost_ret_by (results_cell_row rfl _ _ w.heap.size 38 _ (0, 0) _ rfl (heap_alloc_last _ _) Tryz.underlying38 rfl (by kernel_rfl)) rfl ⟨by rw [HT.out]; rfl, Kept.alloc _ _ _⟩
  case false =>
    have hm : bl S ∉ sgn1 ++ sgn2 := of_decide_eq_false hsg
    have hn : (S.toList == [123]) = false ∧ (S.toList == [125]) = false ∧ (S.toList == [40]) = false ∧ (S.toList == [41]) = false ∧ (S.toList == [91]) = false ∧ (S.toList == [93]) = false ∧ (S.toList == [44]) = false ∧ (S.toList == [58]) = false ∧ (S.toList == [61]) = false ∧ (S.toList == [33]) = false ∧ (S.toList == [61, 62]) = false ∧ (S.toList == [61, 61]) = false ∧ (S.toList == [33, 61]) = false ∧ (S.toList == [45, 62]) = false ∧ (S.toList == [126, 62]) = false := by
      rw [ht]
      simpa [sgn1, sgn2] using hm
    obtain ⟨n0, n1, n2, n3, n4, n5, n6, n7, n8, n9, n10, n11, n12, n13, n14⟩ := hn
    have HT : Hid (wordO (bl S) = if allDg (bl S) = false then (0, []) else if 0 < (bl S).length then (6, (bl S)) else (0, [])) := by
      show _ = _
      rw [HS.out, if_neg (by rw [hsg]; simp)]
    clear hm hsg ht
    go_wp2_with fail
    go_loop [4] (fun i => ∃ k : Nat, i = .int .i64 k ∧ k ≤ S.size ∧ Hid (∀ j (hj : j < S.size), j < k → dgB S[j] = true)) (fun i => S.size - (intOf i).toNat)
    case atStart => exact ⟨0, rfl, by omega, fun j hj h0 => by omega⟩
    case round =>
      obtain ⟨k, rfl, hk, HK⟩ := hrel
      by_cases hlt : k < S.size
      · have hc := UInt8.toNat_lt S[k]
        cases q : dgB (S[k]'hlt)
        · have HQ := Lib.hid q
          have HF : Hid (wordO (bl S) = (0, [])) := by
            show _ = _
            rw [HT.out, if_pos]
            rw [Bool.eq_false_iff]
            intro hh
            unfold allDg at hh
            rw [List.all_eq_true] at hh
            have := hh S[k] (by rw [← bl_get S k hlt]; exact List.getElem_mem _)
            rw [this] at q
            cases q
          clear q
          go_wp2_with fail
          refine (rdigit_any S[k] _).mono ?_
          rw [HQ.out]
          rintro e w2 ⟨rfl, rfl⟩
          go_wp2_with fail
          refine bodyPost_ret_by (results_cell_row rfl _ _ w.heap.size 38 _ (0, 0) _ rfl (heap_alloc_last _ _) Tryz.underlying38 rfl (by kernel_rfl)) rfl ⟨by rw [HF.out]; rfl, Kept.alloc _ _ _⟩
        · have HQ := Lib.hid q
          clear q
          go_wp2_with fail
          refine (rdigit_any S[k] _).mono ?_
          rw [HQ.out]
          rintro e w2 ⟨rfl, rfl⟩
          go_wp2_with fail
          go_round
          case rel =>
            refine ⟨k + 1, by go_num, by omega, fun j hj h0 => ?_⟩
            by_cases e : j = k
            · subst e; exact HQ.out
            · exact HK.out j hj (by omega)
          case measure => simp [intOf]; omega
      · have HA : Hid (allDg (bl S) = true) := by
          show _ = _
          unfold allDg
          rw [List.all_eq_true]
          intro x hx
          obtain ⟨j, hj, rfl⟩ := List.getElem_of_mem hx
          have hj2 : j < S.size := by rw [bl_len] at hj; exact hj
          exact HK.out j hj2 (by omega)
        by_cases h0 : 0 < S.size
        · have HF : Hid (wordO (bl S) = (6, bl S)) := by
            show _ = _
            rw [HT.out, HA.out, if_neg (by simp), bl_len, if_pos h0]
          go_wp2_with fail
          refine bodyPost_ret_by (results_cell_row rfl _ _ w.heap.size 38 _ (0, 0) _ rfl (heap_alloc_last _ _) Tryz.underlying38 rfl (by kernel_rfl)) rfl ⟨by rw [HF.out]; rfl, Kept.alloc _ _ _⟩
        · have HF : Hid (wordO (bl S) = (0, [])) := by
            show _ = _
            rw [HT.out, HA.out, if_neg (by simp), bl_len, if_neg h0]
          go_wp2_with fail
          refine bodyPost_ret_by (results_cell_row rfl _ _ w.heap.size 38 _ (0, 0) _ rfl (heap_alloc_last _ _) Tryz.underlying38 rfl (by kernel_rfl)) rfl ⟨by rw [HF.out]; rfl, Kept.alloc _ _ _⟩
end Go.Proofs.YtfpdgdacifiejaaGreat

namespace Go.Proofs.YtfpdgdacifiejaaGreat
open Go.RowKit Go.Maps

theorem LxSt.land {S : ByteArray} {k en : Nat} {ws : List Wd} (h : LxSt S k en ws) : LxSt S en en ws := ⟨Nat.le_refl _, h.top, fun hh => absurd hh (Nat.lt_irrefl _), h.few, h.all⟩
theorem hdC_at {S : ByteArray} {k : Nat} (hk : k < S.size) : hdC ((bl S).drop k) = clsN (S[k]'hk).toNat := by
  unfold hdC
  rw [List.headD_eq_head?_getD, List.head?_drop, bl_get? S k hk]
  rfl
theorem pc_white {S : ByteArray} {k : Nat} (hk : k < S.size) (hc : clsN (S[k]'hk).toNat = 1) : pcO ((bl S).drop k) = ⟨0, 1, 0, 0⟩ := by
  unfold pcO
  rw [hdC_at hk, hc]
  rfl
theorem pc_note {S : ByteArray} {k : Nat} (hk : k < S.size) (hc : clsN (S[k]'hk).toNat = 2) : pcO ((bl S).drop k) = ⟨0, spanN (notB 10) ((bl S).drop k), 0, 0⟩ := by
  unfold pcO
  rw [hdC_at hk, hc]
  rfl
theorem cls_white {n : Nat} : clsN n = 1 ↔ n = 9 ∨ n = 10 ∨ n = 13 ∨ n = 32 := by
  unfold clsN
  repeat' split
  all_goals omega
theorem cls_hash {n : Nat} : clsN n = 2 ↔ n = 35 := by
  unfold clsN
  repeat' split
  all_goals omega
theorem dn_step {l : List UInt8} {m : Nat} (h0 : 0 < m) (hz : (wordO (l.take m)).1 = 0) : dnO l m = dnO l (m - 1) := by
  obtain ⟨n, rfl⟩ : ∃ n, m = n + 1 := ⟨m - 1, by omega⟩
  show (if _ then _ else _) = _
  rw [if_pos hz]
  rfl
theorem dn_le (l : List UInt8) : ∀ n, dnO l n ≤ n
  | 0 => Nat.le_refl _
  | n + 1 => by
    have := dn_le l n
    unfold dnO
    split <;> omega
theorem three_cells {w : World} {g : Nat} {t : TypeId} {a b c : Value} (h : w.heap[g]? = some (.cells #[a, b, c] t)) :
    w.cell? ⟨g, 0, none⟩ = some a ∧ w.cell? ⟨g, 1, none⟩ = some b ∧ w.cell? ⟨g, 2, none⟩ = some c ∧ w.frozen? ⟨g, 0, none⟩ = false ∧ w.frozen? ⟨g, 1, none⟩ = false ∧ w.frozen? ⟨g, 2, none⟩ = false :=
  ⟨cell_of_row _ _ 0 _ _ _ h, cell_of_row _ _ 1 _ _ _ h, cell_of_row _ _ 2 _ _ _ h, frozen_of_row _ _ _ _ _ h, frozen_of_row _ _ _ _ _ h, frozen_of_row _ _ _ _ _ h⟩

set_option maxRecDepth 100000 in
set_option maxHeartbeats 8000000 in
theorem rlex_any (S : ByteArray) (w : World) (hs : S.size ≤ 9223372036854775807) : Calls Tryz.prog 26 #[.string S] w (LexOut (bl S) w) := by
  by_cases hl : 65536 < S.size
  · have H1 : Hid (lxA (bl S) = 0 ∧ lxE (bl S) = 5 ∧ lxW (bl S) = []) := by
      show _ ∧ _ ∧ _
      unfold lxA lxE lxW
      rw [bl_len, if_pos hl, if_pos hl, if_pos hl]
      exact ⟨rfl, rfl, rfl⟩
    go_enter Tryz.func26, Tryz.ntmps26
    go_wp2_with fail
    go_ret3
    exact ⟨_, by rw [H1.out.1, H1.out.2.1]; rfl, by rw [H1.out.2.2]; exact OwnW.nil _ _, Kept.refl _ _⟩
  · go_enter Tryz.func26, Tryz.ntmps26
    go_wp2_with fail
    go_loopw [5, 6] (fun sl si wr => ∃ (k : Nat) (ws : List Wd) (v2 : Value), v2 = sl ∧ si = .int .i64 k ∧ k ≤ S.size ∧ Hid (LxSt S k k ws ∧ OwnW w.heap.size wr v2 ws ∧ Kept [] w wr)) (fun _ si _ => S.size - (intOf si).toNat)
    case atStart => exact ⟨0, [], _, rfl, rfl, by omega, LxSt.first S, OwnW.nil _ _, Kept.refl _ _⟩
    case round =>
      obtain ⟨k, ws, v2, rfl, rfl, hkt, HS⟩ := hrel
      by_cases hlt : k < S.size
      · have hix := get_i k hlt
        obtain ⟨c, hc⟩ : ∃ c : Int, (S[k].toNat : Int) = c := ⟨_, rfl⟩
        rw [hc] at hix
        by_cases hw : clsN (S[k]'hlt).toNat = 1
        · have HN : Hid (LxSt S (k + 1) (k + 1) ws) := by
            have := (HS.out.1.skip hlt (by rw [pc_white hlt hw]; simp) (by rw [pc_white hlt hw])).land
            rw [pc_white hlt hw] at this
            exact this
          have hcc : c = 9 ∨ c = 10 ∨ c = 13 ∨ c = 32 := by have := cls_white.1 hw; omega
          clear hc hw
          rcases hcc with h | h | h | h
          all_goals
            subst h
            go_wp2_with fail
            go_roundw
            case rel => exact ⟨k + 1, ws, v2, rfl, by go_num, by omega, HN.out, HS.out.2.1, HS.out.2.2⟩
            case measure => simp [intOf]; omega
        · have n9 : (c == 9) = false := by rw [beqI]; exact decide_eq_false (fun h => hw (cls_white.2 (by omega)))
          have n10 : (c == 10) = false := by rw [beqI]; exact decide_eq_false (fun h => hw (cls_white.2 (by omega)))
          have n13 : (c == 13) = false := by rw [beqI]; exact decide_eq_false (fun h => hw (cls_white.2 (by omega)))
          have n32 : (c == 32) = false := by rw [beqI]; exact decide_eq_false (fun h => hw (cls_white.2 (by omega)))
          by_cases hh : clsN (S[k]'hlt).toNat = 2
          · obtain ⟨N, hN⟩ : ∃ N, k + spanN (notB 10) ((bl S).drop k) = N := ⟨_, rfl⟩
            have HN := Lib.hid hN
            have hNt : N ≤ S.size := by rw [← hN]; exact spanN_top S (by omega)
            have hc35 : c = 35 := by have := cls_hash.1 hh; omega
            have hkN : k < N := by
              rw [← hN]
              have h1 := spanN_is (p := notB 10) (l := (bl S).drop k) (n := spanN (notB 10) ((bl S).drop k)) (spanN_le _ _) (fun j hj hn => spanN_all _ _ j hj hn) (fun hx => spanN_stop _ _ hx)
              apply Nat.lt_add_of_pos_right
              apply Nat.pos_of_ne_zero
              intro h0
              have h2 := spanN_out (p := notB 10) (S := S) (n := k) (k := k) (by omega) (by rw [h0]; rfl) hlt
              unfold notB at h2
              simp at h2
              rw [h2] at hc
              simp at hc
              omega
            have HNX : Hid (LxSt S N N ws) := by
              have := (HS.out.1.skip hlt (by rw [pc_note hlt hh]; simp only; omega) (by rw [pc_note hlt hh])).land
              rw [pc_note hlt hh] at this
              simp only at this
              rw [hN] at this
              exact this
            subst hc35
            clear hN hc hw hh
            go_wp2_with fail
            go_loop [6] (fun i => ∃ q : Nat, i = .int .i64 q ∧ k ≤ q ∧ q ≤ N) (fun i => S.size - (intOf i).toNat)
            case atStart => exact ⟨k, rfl, by omega, by omega⟩
            case round =>
              obtain ⟨q, rfl, hq1, hqn⟩ := hrel
              obtain ⟨bt, hbt⟩ : ∃ b, decide (q < N) = b := ⟨_, rfl⟩
              have HBT := Lib.hid hbt
              clear hbt hix n9 n10 n13 n32
              go_upto_region 10 with (fail)
              go_cut [47] (fun sv wx => sv = .bool bt ∧ wr = wx)
              case first =>
                by_cases hlq : q < S.size
                · have hiq := get_i q hlq
                  obtain ⟨d, hd⟩ : ∃ d : Int, (S[q].toNat : Int) = d := ⟨_, rfl⟩
                  rw [hd] at hiq
                  have HQ : (d == 10) = !bt := by
                    rw [← HBT.out, beqI]
                    by_cases hkq : q < N
                    · rw [decide_eq_true hkq]
                      have := (spanN_in (S := S) (p := notB 10) (n := k) hq1 (by rw [HN.out]; exact hkq)).2
                      unfold notB at this
                      simp at this
                      refine decide_eq_false (fun h => this ?_)
                      apply UInt8.toNat_inj.1
                      show _ = 10
                      omega
                    · rw [decide_eq_false hkq]
                      have := spanN_out (p := notB 10) (S := S) (n := k) (k := q) (by omega) (by rw [HN.out]; omega) hlq
                      unfold notB at this
                      simp at this
                      refine decide_eq_true ?_
                      rw [← hd, this]
                      rfl
                  clear hd
                  cases bt
                  all_goals
                    simp only [Bool.not_true, Bool.not_false] at HQ
                    have HQ2 : (d != 10) = !(d == 10) := rfl
                    rw [HQ] at HQ2
                    go_wp2_with fail
                    go_meet
                    exact ⟨rfl, rfl⟩
                · have hb : bt = false := by rw [← HBT.out]; exact decide_eq_false (by omega)
                  subst hb
                  go_wp2_with fail
                  go_meet
                  exact ⟨rfl, rfl⟩
              case rest =>
              obtain ⟨rfl, rfl⟩ := hcut
              cases bt
              case true =>
                have hkq : q < N := of_decide_eq_true HBT.out
                go_wp2_with fail
                go_round
                case rel => exact ⟨q + 1, by go_num, by omega, by omega⟩
                case measure => simp [intOf]; omega
              case false =>
                have hkq : q = N := by have := of_decide_eq_false HBT.out; omega
                subst hkq
                go_wp2_with fail
                go_roundw
                case rel => exact ⟨q, ws, v2, rfl, rfl, by omega, HNX.out, HS.out.2.1, HS.out.2.2⟩
                case measure => simp [intOf]; omega
          · have n35 : (c == 35) = false := by rw [beqI]; exact decide_eq_false (fun h => hh (cls_hash.2 (by omega)))
            obtain ⟨l, hll⟩ : ∃ l, (bl S).drop k = l := ⟨_, rfl⟩
            have HR : Hid (RefOk l) := by rw [← hll]; exact ref_ok _ (drop_ne hlt) (by rw [hdC_at hlt]; exact hw) (by rw [hdC_at hlt]; exact hh)
            obtain ⟨N, hN⟩ : ∃ N, reachO l = N := ⟨_, rfl⟩
            have hNt : k + N ≤ S.size := by
              have := HR.out.le
              rw [hN, ← hll, List.length_drop, bl_len] at this
              omega
            have HRC : Hid (∀ wx, Calls Tryz.prog 51 #[.string (S.extract k S.size)] wx fun e w' => e = .returned (.int .i64 (N : Int)) ∧ wx = w') := fun wx => by
              have := reach_any (S.extract k S.size) wx (by rw [size_from]; omega) (by rw [size_from]; omega)
              rw [bl_from, hll, hN] at this
              exact this
            have HWC : Hid (∀ (m : Nat) (wx : World), m ≤ N → Calls Tryz.prog 52 #[.string (S.extract k (k + m))] wx fun e w' => e = .returned (.agg (wdA (wordO (l.take m)))) ∧ Kept [] wx w') := fun m wx hm => by
              have := word_any (S.extract k (k + m)) wx (by rw [← bl_len, bl_ext, List.length_take, List.length_drop, bl_len]; omega)
              rw [bl_ext, hll, show k + m - k = m by omega] at this
              exact this
            obtain ⟨D, hD⟩ : ∃ D, dnO l N = D := ⟨_, rfl⟩
            have HD := Lib.hid hD
            have HLL := Lib.hid hll
            have HNN := Lib.hid hN
            obtain ⟨z0, hz0⟩ : ∃ z, wordO (l.take N) = z := ⟨_, rfl⟩
            have HZ0 := Lib.hid hz0
            clear hll hN hD hw hh hc hz0
            go_wp2_with fail
            refine (HRC.out _).mono ?_
            rintro e w2 ⟨rfl, rfl⟩
            go_wp2_with fail
            refine (HWC.out N _ (Nat.le_refl _)).mono ?_
            rw [HZ0.out]
            rintro e w2 ⟨rfl, hk2⟩
            have hwd0 : Value.agg (wdA z0) = .agg #[.int .i64 (z0.1 : Int), .string (strL z0.2), .int .i64 0] := rfl
            rw [hwd0]
            have HKW2 := Lib.hid hk2
            clear hk2 hix n9 n10 n13 n32 n35 hwd0
            go_wp2_with fail
            obtain ⟨w3, hw3⟩ : ∃ w3, w2.alloc (.cells #[.int .i64 (z0.1 : Int), .string (strL z0.2), .int .i64 0] 38) = w3 := ⟨_, rfl⟩
            obtain ⟨P, hP⟩ : ∃ P, w2.heap.size = P := ⟨_, rfl⟩
            have H3 : Hid (w3.heap[P]? = some (.cells (wdA z0) 38) ∧ Kept [] wr w3 ∧ wr.heap.size ≤ P) := by
              rw [← hw3, ← hP]
              exact ⟨heap_alloc_last _ _, HKW2.out.trans (Kept.alloc _ _ _), HKW2.out.size⟩
            rw [hw3, hP]
            clear hw3 hP HKW2
            obtain ⟨wo, rfl⟩ : ∃ wo, wo = wr := ⟨_, rfl⟩
            go_loopw [8] (fun sn wx => ∃ m : Nat, sn = .int .i64 m ∧ m ≤ N ∧ Hid (dnO l m = D ∧ wx.heap[P]? = some (.cells (wdA (wordO (l.take m))) 38) ∧ Kept [] wo wx)) (fun sn _ => (intOf sn).toNat)
            case atStart => exact ⟨N, rfl, Nat.le_refl _, HD.out, by rw [HZ0.out]; exact H3.out.1, H3.out.2.1⟩
            case round =>
              obtain ⟨m, rfl, hmN, HI⟩ := hrel
              obtain ⟨z, hz⟩ : ∃ z, wordO (l.take m) = z := ⟨_, rfl⟩
              have HZ := Lib.hid hz
              obtain ⟨zk, hzk⟩ : ∃ n, z.1 = n := ⟨_, rfl⟩
              obtain ⟨zs, hzs⟩ : ∃ S, strL z.2 = S := ⟨_, rfl⟩
              have HROW : Hid (wr.heap[P]? = some (.cells #[.int .i64 (zk : Int), .string zs, .int .i64 0] 38)) := by
                have := HI.out.2.1
                rw [hz] at this
                rw [← hzk, ← hzs]
                exact this
              have HZK := Lib.hid hzk
              have HZS := Lib.hid hzs
              clear hz hzk hzs
              obtain ⟨c0, c1, c2, f0, f1, f2⟩ := three_cells HROW.out
              obtain ⟨bt, hbt⟩ : ∃ b, decide (D < m) = b := ⟨_, rfl⟩
              have HBT := Lib.hid hbt
              have HB0 : Hid (0 < m → ((zk : Int) == 0) = bt) := fun h0 => by
                rw [← hbt, beqI]
                refine decide_eq_decide.2 ⟨fun h => ?_, fun h => ?_⟩
                · have h1 := dn_step (l := l) h0 (by rw [HZ.out, HZK.out]; omega)
                  rw [HI.out.1] at h1
                  have h2 := dn_le l (m - 1)
                  omega
                · apply Classical.byContradiction
                  intro hne
                  have := dnO_is (l := l) (n := m) (.inr (by rw [HZ.out, HZK.out]; omega))
                  rw [HI.out.1] at this
                  omega
              clear hbt
              go_upto_region 14 with (fail)
              go_cut [67] (fun sv wx => sv = .bool bt ∧ wr = wx)
              case first =>
                by_cases h0 : 0 < m
                · have HB1 := HB0.out h0
                  go_wp2_with fail
                  go_meet
                  exact ⟨rfl, rfl⟩
                · have hb : bt = false := by rw [← HBT.out]; exact decide_eq_false (by omega)
                  subst hb
                  go_wp2_with fail
                  go_meet
                  exact ⟨rfl, rfl⟩
              case rest =>
              obtain ⟨rfl, rfl⟩ := hcut
              cases bt
              case true =>
                have hDm : D < m := of_decide_eq_true HBT.out
                obtain ⟨q, rfl⟩ : ∃ q, m = q + 1 := ⟨m - 1, by omega⟩
                obtain ⟨z1, hz1⟩ : ∃ z, wordO (l.take q) = z := ⟨_, rfl⟩
                have HNX : Hid (dnO l q = D) := by
                  show _ = _
                  have h1 := dn_step (l := l) (m := q + 1) (by omega) (by
                    have := HB0.out (by omega)
                    rw [HZ.out, HZK.out]
                    have := beq_iff_eq.1 this
                    omega)
                  rw [HI.out.1] at h1
                  exact h1.symm
                have HZ1 := Lib.hid hz1
                clear hz1
                clear c0 c1 c2 f0 f1 f2
                go_wp2_with fail
                refine (HWC.out q _ (by omega)).mono ?_
                rw [HZ1.out]
                rintro e w2 ⟨rfl, hk2⟩
                have hwd1 : Value.agg (wdA z1) = .agg #[.int .i64 (z1.1 : Int), .string (strL z1.2), .int .i64 0] := rfl
                rw [hwd1]
                have HROW2 : Hid (w2.heap[P]? = some (.cells #[.int .i64 (zk : Int), .string zs, .int .i64 0] 38)) := hk2.heap (by simp) HROW.out
                obtain ⟨c0, c1, c2, f0, f1, f2⟩ := three_cells HROW2.out
                have HKX : Hid (Kept [] wo w2) := HI.out.2.2.trans hk2
                have hPo : wo.heap.size ≤ P := H3.out.2.2
                clear hk2 hwd1
                go_wp2_with fail
                go_roundw
                case rel =>
                  refine ⟨q, by go_num, by omega, HNX.out, ?_, ((HKX.out.setNew _ _ hPo).setNew _ _ hPo).setNew _ _ hPo⟩
                  rw [HZ1.out]
                  exact heap_setCell_same _ _ 2 _ _ _ (heap_setCell_same _ _ 1 _ _ _ (heap_setCell_same _ _ 0 _ _ _ HROW2.out))
                case measure => simp [intOf]
              case false =>
                have hDm : D = m := by
                  have h1 := of_decide_eq_false HBT.out
                  have h2 := dn_le l m
                  rw [HI.out.1] at h2
                  omega
                subst hDm
                by_cases hp0 : (pcO l).sz = 0
                · have H1 : Hid (lxA (bl S) = k ∧ lxE (bl S) = 110 ∧ lxW (bl S) = []) := by
                    have := HS.out.1.bad hlt (by rw [HLL.out]; exact hp0)
                    show _ ∧ _ ∧ _
                    unfold lxA lxE lxW
                    rw [bl_len, if_neg hl, if_neg hl, if_neg hl, this]
                    exact ⟨rfl, rfl, rfl⟩
                  have hbad := HR.out.bad hp0
                  rw [HNN.out, HD.out, HZ.out, HZK.out] at hbad
                  have HKR : Hid (Kept [] w wr) := HS.out.2.2.trans HI.out.2.2
                  clear c1 c2 f0 f1 f2 hp0
                  by_cases h0 : D = 0
                  · clear hbad
                    subst h0
                    go_wp2_with fail
                    go_ret3
                    exact ⟨_, by rw [H1.out.1, H1.out.2.1]; rfl, by rw [H1.out.2.2]; exact OwnW.nil _ _, HKR.out⟩
                  · obtain ⟨h6, h9⟩ : zk = 6 ∧ 9 < D := by
                      rcases hbad with h | h
                      · exact absurd h h0
                      · exact h
                    subst h6
                    have h0i : ¬ (D : Int) = 0 := by omega
                    clear hbad
                    go_wp2_with fail
                    go_ret3
                    exact ⟨_, by rw [H1.out.1, H1.out.2.1]; rfl, by rw [H1.out.2.2]; exact OwnW.nil _ _, HKR.out⟩
                · obtain ⟨g1, g2, g3⟩ := HR.out.good hp0
                  rw [HNN.out, HD.out] at g1
                  rw [← g1, HZ.out] at g2
                  have hzk2 : zk = (pcO l).kd := by rw [← HZK.out, g2]
                  have hD0 : D ≠ 0 := by omega
                  have h0i : ¬ (D : Int) = 0 := by omega
                  have h9 : (zk : Int) = 6 → (D : Int) ≤ 9 := fun h => by
                    have := g3 (by omega)
                    omega
                  have hk0 : (pcO l).kd ≠ 0 := by
                    intro h
                    have h3 := HB0.out (by omega)
                    rw [beqI] at h3
                    have := of_decide_eq_false h3
                    omega
                  obtain ⟨wd, hwd⟩ : ∃ wd : Wd, wd = ⟨zk, z.2, k⟩ := ⟨_, rfl⟩
                  have HN2 : Hid (LxSt S (k + D) (k + D) (ws ++ [wd])) := by
                    have := (HS.out.1.word hlt (by rw [HLL.out]; exact hp0) (by rw [HLL.out]; exact hk0)).land
                    rw [HLL.out, ← g1, ← hzk2, ← (show z.2 = txO l (pcO l) by rw [g2]), ← hwd] at this
                    exact this
                  obtain ⟨w5, hw5⟩ : ∃ w5, wr.setCell ⟨P, 2, none⟩ (.int .i64 (k : Int)) = w5 := ⟨_, rfl⟩
                  have HR5 : Hid (w5.heap[P]? = some (.cells #[.int .i64 (zk : Int), .string zs, .int .i64 (k : Int)] 38)) := by
                    rw [← hw5]
                    exact heap_setCell_same _ _ 2 _ _ _ HROW.out
                  have HK5 : Hid (Kept [] wo w5) := by
                    rw [← hw5]
                    exact HI.out.2.2.setNew _ _ H3.out.2.2
                  have hfew := HS.out.1.few
                  obtain ⟨v3, w6, hrun, hown6, hap, hk6⟩ := (HS.out.2.1.kept HK5.out).app (show w.heap.size ≤ w5.heap.size by have h1 := HS.out.2.2.size; have h2 := HK5.out.size; omega) wd (by omega)
                  have HKD : Hid (wd.kd = zk ∧ wd.at' = k ∧ strL wd.tx = zs) := by rw [hwd]; exact ⟨rfl, rfl, HZS.out⟩
                  rw [HKD.out.1, HKD.out.2.1, HKD.out.2.2] at hrun hk6
                  have HRUN := Lib.hid hrun
                  have HOW := Lib.hid hown6
                  have HKW : Hid (Kept [] w w6) := (HS.out.2.2.trans (HK5.out.trans (Kept.alloc _ _ _))).into hk6 (fun q hq => (HS.out.2.1.blk q (by simpa using hq)).1)
                  have htop : k + D ≤ S.size := HN2.out.top
                  have HW5 := Lib.hid hw5
                  have h0b : ((D : Int) == 0) = false := by rw [beqI]; exact decide_eq_false h0i
                  clear hw5 hwd hrun hown6 hap hk6 g1 g2 g3 hzk2 hk0 hp0
                  go_upto_region 17 with (fail)
                  go_cut [87] (fun sv wy => sv = .bool false ∧ wr = wy)
                  case first =>
                    clear c1 c2 f0 f1 f2
                    by_cases h6 : (zk : Int) = 6
                    · have h9d := h9 h6
                      have h6b : ((zk : Int) == 6) = true := by rw [beqI]; exact decide_eq_true h6
                      have h9b : decide ((9 : Int) < (D : Int)) = false := decide_eq_false (by omega)
                      clear h6
                      go_wp2_with fail
                      go_meet
                      exact ⟨rfl, rfl⟩
                    · have h6b : ((zk : Int) == 6) = false := by rw [beqI]; exact decide_eq_false h6
                      clear h6
                      go_wp2_with fail
                      go_meet
                      exact ⟨rfl, rfl⟩
                  case rest =>
                  obtain ⟨rfl, rfl⟩ := hcut
                  clear h9 h0i h0b c0 c1
                  have hw5 := HW5.out
                  obtain ⟨d0, d1, d2, _, _, _⟩ := three_cells HR5.out
                  go_wp2_with (at_builtin; refine wpList_append_run rfl _ _ 23 rfl _ _ _ rfl rfl HRUN.out ?_)
                  go_roundw
                  case rel => exact ⟨k + D, ws ++ [wd], v3, rfl, by go_num, htop, HN2.out, HOW.out, HKW.out⟩
                  case measure => simp [intOf]; omega
      · have H1 : Hid (lxA (bl S) = 0 ∧ lxE (bl S) = 0 ∧ lxW (bl S) = ws) := by
          have := HS.out.1.done (by omega)
          show _ ∧ _ ∧ _
          unfold lxA lxE lxW
          rw [bl_len, if_neg hl, if_neg hl, if_neg hl, this]
          exact ⟨rfl, rfl, rfl⟩
        go_wp2_with fail
        go_ret3
        exact ⟨_, by rw [H1.out.1, H1.out.2.1]; rfl, by rw [H1.out.2.2]; exact HS.out.2.1, HS.out.2.2⟩
end Go.Proofs.YtfpdgdacifiejaaGreat

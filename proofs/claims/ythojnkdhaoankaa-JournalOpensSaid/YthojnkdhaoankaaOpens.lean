/-
  The walk through JournalOpens: opening a journal at which no group is at hand changes nothing, however often.
  Conditions: none.
-/
import Derived.Test.YthojnkdhaoankaaOwnPuts
import Derived.Test.YthojnkdhaoankaaBytesArg
namespace Go.Proofs.Ythojnkdhaoankaa
open Go.RowKit Go.Maps

/-- A write for each byte, side by side from a block on. -/
def grpO (base : Nat) (d : Nat → UInt8) (l : List UInt8) : List PutL := l.mapIdx fun i c => ((base : Int) + i, fullE c (d i))
theorem grpO_length (base : Nat) (d : Nat → UInt8) (l : List UInt8) : (grpO base d l).length = l.length := by simp [grpO]
theorem grpO_get (base : Nat) (d : Nat → UInt8) (l : List UInt8) (k : Nat) (h : k < (grpO base d l).length) : (grpO base d l)[k] = ((base : Int) + k, fullE (l[k]'(by simpa [grpO] using h)) (d k)) := by simp [grpO]
theorem grpO_take (base : Nat) (d : Nat → UInt8) (l : List UInt8) (k : Nat) (h : k < l.length) : grpO base d (l.take (k + 1)) = grpO base d (l.take k) ++ [((base : Int) + k, fullE l[k] (d k))] := by
  unfold grpO
  rw [List.take_succ_eq_append_getElem h, List.mapIdx_append]
  congr 1
  simp [Nat.min_eq_left (Nat.le_of_lt h)]
theorem grpO_grp (base : Nat) (d : Nat → UInt8) (l : List UInt8) (at_ : Nat) (size : Int) (h1 : at_ + 199 ≤ base) (h2 : (base : Int) + l.length ≤ size) (h3 : l.length ≤ 192) : Grp at_ size (grpO base d l) := by
  refine ⟨by rw [grpO_length]; exact h3, fun p hp => ?_, ?_⟩
  · obtain ⟨k, hk, rfl⟩ := List.getElem_of_mem hp
    rw [grpO_get]
    rw [grpO_length] at hk
    exact ⟨by simp only; omega, by simp only; omega, fullE_length _ _, by simp only; omega⟩
  · rw [List.nodup_iff_pairwise_ne, List.pairwise_map]
    rw [List.pairwise_iff_getElem]
    intro i j hi hj hij
    rw [grpO_get, grpO_get]
    simp only
    omega

structure OpSt (w : World) (a m j : Nat) (B : Nat) (base : Nat) (d : Nat → UInt8) (l : List UInt8) (k : Nat) (v : Value) (xs : List Value) (wr : World) : Prop where
  live : JLive wr a j 7 0 (grS m 7)
  own : OwnPuts wr B v (grpO base d (l.take k)) xs
  kept : Kept [] w wr

set_option maxHeartbeats 4000000 in
set_option maxRecDepth 100000 in
theorem opens_walk (ao : Option Addr) (len cap : Nat) (l : List UInt8) (times : Int) (w : World) (hl : BytesArg w ao len l) (h1 : -9223372036854775808 ≤ times) (h2 : times ≤ 9223372036854775807) :
    Calls Try.prog 7 #[.slice ao len cap, .int .i64 times] w fun e w' => e = .returned (.bool true) ∧ Kept [] w w' := by
  obtain ⟨rfl, hlen, harg⟩ := hl
  have HARG := Lib.hid harg
  clear harg
  go_enter Try.func7, Try.ntmps7
  go_wp2_with fail
  refine (shown_true w).mono ?_
  rintro e w1 ⟨rfl, hk1⟩
  have HK1 := Lib.hid hk1
  clear hk1
  go_wp2_with fail
  refine (ground_any 7 _ rfl (by omega) w1).mono ?_
  rintro e w2 ⟨a, m, j, rfl, hd, hj, ha, hm, hjl, hk2⟩
  have H2 : Hid (JLive w2 a j 7 0 (grS m 7)) := ⟨⟨hd, rfl, rfl⟩, hj, grS_ready m 7, by show (7 : Int) + 199 ≤ 259; omega⟩
  have HK2 := Lib.hid (HK1.out.trans hk2)
  have HA : Hid (w.heap.size ≤ a ∧ w.heap.size ≤ m ∧ w.heap.size ≤ j) := by have := HK1.out.size; exact ⟨by omega, by omega, by omega⟩
  clear hd hj hk2 ha hm hjl
  go_wp2_with fail
  obtain ⟨N, hN⟩ : ∃ N, N = min l.length 40 := ⟨_, rfl⟩
  have hNl : N ≤ l.length := by omega
  have hN40 : N ≤ 40 := by omega
  have hway : (N = l.length) ∨ (N = 40 ∧ 40 < l.length) := by omega
  have HW := Lib.hid hway
  clear hN hway
  go_loopw [8, 9] (fun v i wr => ∃ (k : Nat) (xs : List Value), k ≤ N ∧ i = .int .i64 k ∧ Hid (OpSt w a m j w2.heap.size 206 (fun _ => 1) l k v xs wr)) (fun _ i _ => N - (intOf i).toNat)
  case atStart =>
    have hk := Kept.alloc [] w2 (.cells #[] 54)
    exact ⟨0, [], by omega, rfl, H2.out.kept hk (by simp) (by simp) (by simp), OwnPuts.start w2, HK2.out.trans hk⟩
  case round =>
    obtain ⟨k, xs, hkN, rfl, HS⟩ := hrel
    by_cases hlt : k < N
    · have hkl : k < l.length := by omega
      have hk40 : k < 40 := by omega
      have hkI : (k : Int) < (l.length : Int) := by omega
      have hk40I : (k : Int) < 40 := by omega
      obtain ⟨b, o, hao, hb, hr⟩ := HARG.out.resolve_left (by omega)
      subst hao
      obtain ⟨c, hc⟩ : ∃ c, l[k] = c := ⟨_, rfl⟩
      have hcell : wr.cell? ⟨b, o + k, none⟩ = some (.int .u8 (c.toNat : Int)) := by
        rw [HS.out.kept.cell (p := ⟨b, o + k, none⟩) hb (by simp)]
        exact hr k _ (by simp [bv, hkl, hc])
      have HC := Lib.hid hc
      clear hc
      go_wp2_with fail
      refine (full2_at _ 1 _ (by omega) (by have := UInt8.toNat_lt c; omega) (by omega) (by omega)).mono ?_
      rw [show UInt8.ofNat ((c.toNat : Int).toNat) = c by simp]
      rintro e w3 ⟨rfl, hw3⟩
      obtain ⟨w4, hw4⟩ : ∃ w4, w4 = w3.alloc (.cells #[.int .i64 (206 + (k : Int)), .slice (some ⟨wr.heap.size, 0, none⟩) 64 64] 54) := ⟨_, rfl⟩
      have hk4 : Kept [] wr w4 := by rw [hw4, hw3]; exact (Kept.alloc _ _ _).trans (Kept.alloc _ _ _)
      have hown4 := HS.out.own.kept hk4 (by simp)
      obtain ⟨v', w5, xs', hrun, hown5, hk5⟩ := hown4.append (206 + (k : Int)) (fullE c 1) wr.heap.size w3.heap.size (by rw [hw4, hw3]; exact (Kept.alloc [] _ _).heap (by simp) (heap_alloc_last wr _)) (fullE_length _ _) (by rw [hw4]; exact heap_alloc_last _ _) (by
        have s1 := hk4.size
        obtain ⟨g, cap', cur, _, hb', hg, _⟩ := HS.out.own.shape
        have := (Array.getElem?_eq_some_iff.1 hg).1
        omega) (by rw [grpO_length]; simp; omega) (by omega) (by omega)
      have HN : Hid (OpSt w a m j w2.heap.size 206 (fun _ => 1) l (k + 1) v' xs' w5) := by
        have hw : w.heap.size ≤ w2.heap.size := HK2.out.size
        have hlive4 := HS.out.live.kept hk4 (by simp) (by simp) (by simp)
        have hne : ∀ q, (∀ cs t, w4.heap[q]? = some (.cells cs t) → t ≠ 54) → q ∉ u8.ownBlock.toList := fun q hq hm => by
          obtain ⟨g, cap', cur, rfl, hb', hg, _⟩ := hown4.shape
          simp [Value.ownBlock] at hm
          subst hm
          exact hq _ _ hg rfl
        refine ⟨hlive4.kept hk5 (hne a ?_) (hne _ ?_) (hne j ?_), ?_, (HS.out.kept.trans hk4).into hk5 (fun q hq => Nat.le_trans hw (hown4.lt q hq))⟩
        · intro cs t h
          rw [hlive4.live.disk.here] at h
          simp at h
          rw [← h.2]; decide
        · intro cs t h
          exact absurd h hlive4.live.disk.map.notCells
        · intro cs t h
          rw [hlive4.jour] at h
          simp at h
          rw [← h.2]; decide
        · rw [grpO_take _ _ _ _ hkl, HC.out]
          exact hown5
      have HRUN := Lib.hid hrun
      have HW4 := Lib.hid hw4
      clear hrun hown5 hk5 hown4 hk4 hw4 hw3
      rw [HW4.out] at HRUN
      go_wp2_with (refine wpList_append_run rfl _ _ 32 rfl _ _ _ rfl rfl HRUN.out ?_)
      go_roundw
      case rel => exact ⟨k + 1, xs', by omega, by go_num, HN⟩
      case measure => simp [intOf]; omega
    · obtain rfl : k = N := by omega
      have hgl : (grpO 206 (fun _ => 1) (l.take k)).length = k := by rw [grpO_length, List.length_take]; omega
      obtain ⟨gao, gcap, hv, hputs⟩ := HS.out.own.puts (by rw [hgl]; omega)
      rw [hgl] at hv hputs
      have hgrp : Grp 7 (grS m 7).size (grpO 206 (fun _ => 1) (l.take k)) := grpO_grp _ _ _ _ _ (by omega) (by show ((206 : Nat) : Int) + _ ≤ 259; rw [List.length_take]; omega) (by rw [List.length_take]; omega)
      subst hv
      have HP := Lib.hid hputs
      have HG := Lib.hid hgrp
      have hq : (True ∧ ¬ ((k : Int) < (l.length : Int))) ∨ ((k : Int) < (l.length : Int) ∧ ¬ ((k : Int) < 40)) := by
        rcases HW.out with h | ⟨h, h'⟩
        · exact .inl ⟨trivial, by omega⟩
        · exact .inr ⟨by omega, by omega⟩
      clear hputs hgrp hgl hlt hkN
      rcases hq with ⟨hq1, hq2⟩ | ⟨hq1, hq2⟩
      all_goals
        go_wp2_with fail
        refine (commit_j wr a j 7 0 (grS m 7) HS.out.live gao k gcap _ HP.out HG.out (by omega) (by show (1 : Int) < _; omega)).mono ?_
        rintro e w3 ⟨rfl, S3, h3, hs3, hm3, hw3, hb3, hk3⟩
        have H3 := Lib.hid h3
        obtain ⟨NB, hNB⟩ : ∃ n : Nat, n = 259 := ⟨_, rfl⟩
        have hNB2 : NB ≤ 4096 := by omega
        have HS3 : Hid (S3.size = (NB : Int)) := by show _ = _; rw [hs3, hNB]; rfl
        have HRM : Hid ((7 : Int) + 199 ≤ S3.size) := by show _ ≤ _; rw [hs3]; show (7 : Int) + 199 ≤ 259; omega
        have HK3 : Hid (Kept [] w w3) := HS.out.kept.into hk3 (by have := HA.out; simp; exact ⟨this.1, this.2.1, this.2.2⟩)
        clear h3 hs3 hm3 hw3 hb3 hk3 hq1 hq2 hNB
        go_wp2_with fail
        refine (rows_any w3 a 7 NB _ rfl S3 H3.out.live.disk H3.out.live.off HS3.out (by omega)).mono ?_
        rintro e w4 ⟨vw, rfl, hr4, hk4⟩
        have HR4 := Lib.hid hr4
        have H4 := Lib.hid (H3.out.kept hk4 (by simp) (by simp) (by simp))
        have HK4 := Lib.hid (HK3.out.trans hk4)
        clear hr4 hk4
        go_wp2_with fail
        obtain ⟨T, hT⟩ : ∃ T : Nat, kindF times 10 = T := ⟨(kindF times 10).toNat, by have := kindF_range times 10 (by omega); omega⟩
        have hT10 : T < 10 := by have := kindF_range times 10 (by omega); omega
        have HT := Lib.hid hT
        clear hT
        go_loopw [13] (fun i wq => ∃ (q : Nat), q ≤ T ∧ i = .int .i64 q ∧ Hid (JLive wq a j 7 1 S3 ∧ RowsIs wq vw (rowsK S3.blk 7 NB) ∧ Kept [] w wq)) (fun i _ => T - (intOf i).toNat)
        case atStart => exact ⟨0, by omega, rfl, H4.out, HR4.out, HK4.out⟩
        case round =>
          obtain ⟨q, hqT, rfl, HQ⟩ := hrel
          go_wp2_with fail
          refine (among_any times 10 _ (by omega) (by omega) (by omega) (by omega)).mono ?_
          rw [HT.out]
          rintro e w5 ⟨rfl, rfl⟩
          by_cases hqt : q < T
          · have hqI : (q : Int) < (T : Int) := by omega
            go_wp2_with fail
            refine (open_ready a S3 7 _ 1 _ HQ.out.1.live.disk rfl HRM.out HQ.out.1.live.off HQ.out.1.ready (by omega)).mono ?_
            rintro e w6 ⟨j2, rfl, hj6, hjl6, hk6⟩
            have HN : Hid (JLive w6 a j 7 1 S3 ∧ RowsIs w6 vw (rowsK S3.blk 7 NB) ∧ Kept [] w w6) := ⟨HQ.out.1.kept hk6 (by simp) (by simp) (by simp), HQ.out.2.1.kept hk6 (Off.nil _), HQ.out.2.2.trans hk6⟩
            have HJ6 := Lib.hid hj6
            clear hj6 hjl6 hk6
            go_wp2_with fail
            refine (groups_any j2 _ _ HJ6.out).mono ?_
            rintro e w7 ⟨rfl, rfl⟩
            go_wp2_with fail
            go_roundw
            case rel => exact ⟨q + 1, by omega, by go_num, HN⟩
            case measure => simp [intOf]; omega
          · obtain rfl : q = T := by omega
            go_wp2_with fail
            refine (rows_any _ a 7 NB _ rfl S3 HQ.out.1.live.disk HQ.out.1.live.off HS3.out (by omega)).mono ?_
            rintro e w6 ⟨vn, rfl, hr6, hk6⟩
            have HR6 := Lib.hid hr6
            have HRW := Lib.hid (HQ.out.2.1.kept hk6 (Off.nil _))
            have HK6 := Lib.hid (HQ.out.2.2.trans hk6)
            clear hr6 hk6
            go_wp2_with fail
            refine (same_any w6 vw vn _ _ HRW.out HR6.out (by have := rowsK_length_le S3.blk 7 NB; omega) true ⟨fun _ => rfl, fun _ => rfl⟩).mono ?_
            rintro e w7 ⟨rfl, hk7⟩
            have HK7 := Lib.hid (HK6.out.trans hk7)
            clear hk7
            go_wp2_with fail
            go_ret
            exact ⟨rfl, HK7.out⟩
end Go.Proofs.Ythojnkdhaoankaa

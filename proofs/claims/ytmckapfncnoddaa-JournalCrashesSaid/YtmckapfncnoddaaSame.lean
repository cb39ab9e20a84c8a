/-
  Rows of blocks, as layer 2's statements keep them: rows, same.
  Conditions: those that each theorem states.
-/
import Derived.Test.YtmckapfncnoddaaShown2
import Derived.Laws.OwnMore
import Derived.Lib.Strings
namespace Go.Proofs.Ytmckapfncnoddaa
open Go.RowKit Go.Maps

/-- A block of 64 bytes, as a slice. -/
def RowV (w : World) (v : Value) (l : List UInt8) : Prop :=
  ∃ rb c cs t, v = .slice (some ⟨rb, 0, none⟩) 64 c ∧ w.heap[rb]? = some (.cells cs t) ∧ t ≠ 48 ∧ w.rangeAt rb 0 (bv l) ∧ l.length = 64

theorem RowV.kept' {w w' : World} {v : Value} {l : List UInt8} (h : RowV w v l) {ex : List Nat} (hk : Kept ex w w') (hx : ∀ b ∈ ex, ∀ cs t, w.heap[b]? = some (.cells cs t) → t = 48) : RowV w' v l := by
  obtain ⟨rb, c, cs, t, rfl, hb, ht, hr, hl⟩ := h
  have hn : rb ∉ ex := fun hm => ht (hx rb hm cs t hb)
  exact ⟨rb, c, cs, t, rfl, hk.heap hn hb, ht, hk.range (Array.getElem?_eq_some_iff.1 hb).1 hn hr, hl⟩
theorem RowV.kept {w w' : World} {v : Value} {l : List UInt8} (h : RowV w v l) {ex : List Nat} (hk : Kept ex w w') (hx : Off w ex) : RowV w' v l := by
  obtain ⟨rb, c, cs, t, rfl, hb, ht, hr, hl⟩ := h
  have hn : rb ∉ ex := hx rb ⟨0 + 0, _, hr 0 _ (by simp [bv, hl]; rfl), .inl ⟨_, rfl⟩⟩
  exact ⟨rb, c, cs, t, rfl, hk.heap hn hb, ht, hk.range (Array.getElem?_eq_some_iff.1 hb).1 hn hr, hl⟩

/-- A slice of blocks. -/
def RowsIs (w : World) (v : Value) (L : List (List UInt8)) : Prop :=
  ∃ b cap, v = .slice (some ⟨b, 0, none⟩) L.length cap ∧ ∀ k (hk : k < L.length), ∃ u, w.cell? ⟨b, k, none⟩ = some u ∧ RowV w u L[k]
theorem RowsIs.kept {w w' : World} {v : Value} {L : List (List UInt8)} (h : RowsIs w v L) {ex : List Nat} (hk : Kept ex w w') (hx : Off w ex) : RowsIs w' v L := by
  obtain ⟨b, cap, rfl, h⟩ := h
  refine ⟨b, cap, rfl, fun k hkl => ?_⟩
  obtain ⟨u, h1, h2⟩ := h k hkl
  have hp : b ∉ ex := hx b ⟨k, u, h1, .inr (by obtain ⟨rb, c, cs, t, rfl, _⟩ := h2; exact ⟨_, _, _, rfl⟩)⟩
  exact ⟨u, by rw [hk.cell (p := ⟨b, k, none⟩) (World.block_lt_of_cell? w _ h1) hp]; exact h1, h2.kept hk hx⟩

theorem str_ne {a b : List UInt8} (h : a ≠ b) : ((strL a).toList == (strL b).toList) = false := by
  rw [beq_eq_false_iff_ne]
  intro e
  apply h
  rw [Lib.toList_data, Lib.toList_data] at e
  simpa [strL] using e

set_option maxHeartbeats 1000000 in
theorem same_any (w : World) (v1 v2 : Value) (L1 L2 : List (List UInt8)) (h1 : RowsIs w v1 L1) (h2 : RowsIs w v2 L2) (hl1 : L1.length ≤ 4096) (y : Bool) (hy : y = true ↔ L1 = L2) :
    Calls Try.prog 23 #[v1, v2] w fun e w' => e = .returned (.bool y) ∧ Kept [] w w' := by
  obtain ⟨b1, cap1, rfl, r1⟩ := h1
  obtain ⟨b2, cap2, rfl, r2⟩ := h2
  have R1 := Lib.hid r1
  have R2 := Lib.hid r2
  have HY := Lib.hid hy
  clear r1 r2 hy
  by_cases hne : L1.length = L2.length
  · obtain ⟨n, hn⟩ : ∃ n, L1.length = n := ⟨_, rfl⟩
    have hn2 : L2.length = n := by omega
    have HN1 := Lib.hid hn
    have HN2 := Lib.hid hn2
    rw [hn] at hl1 ⊢
    rw [hn2]
    clear hn hn2 hne
    go_enter Try.func23, Try.ntmps23
    go_wp2_with fail
    go_loopw [5] (fun i wr => ∃ (k : Nat), k ≤ n ∧ i = .int .i64 k ∧ Hid ((∀ q, q < k → L1[q]? = L2[q]?) ∧ Kept [] w wr)) (fun i _ => n - (intOf i).toNat)
    case atStart => exact ⟨0, by omega, rfl, fun q hq => by omega, Kept.refl _ _⟩
    case round =>
      obtain ⟨k, hkn, rfl, HS⟩ := hrel
      by_cases hlt : k < n
      · have q1 : k < L1.length := by rw [HN1.out]; exact hlt
        have q2 : k < L2.length := by rw [HN2.out]; exact hlt
        obtain ⟨u1, c1, m1⟩ := R1.out k q1
        obtain ⟨u2, c2, m2⟩ := R2.out k q2
        obtain ⟨rb1, cc1, cs1, t1, rfl, hb1, ht1, hr1, hl64⟩ := m1
        obtain ⟨rb2, cc2, cs2, t2, rfl, hb2, ht2, hr2, hl642⟩ := m2
        have lt1 := World.block_lt_of_cell? w _ c1
        have lt2 := World.block_lt_of_cell? w _ c2
        obtain ⟨l1, hl1'⟩ : ∃ l, L1[k] = l := ⟨_, rfl⟩
        obtain ⟨l2, hl2'⟩ : ∃ l, L2[k] = l := ⟨_, rfl⟩
        rw [hl1'] at hr1 hl64
        rw [hl2'] at hr2 hl642
        have hkd : Kept [] w wr.drew := HS.out.2.trans (Kept.drew _ _)
        have CA : ∀ w', Kept [] wr.drew w' → w'.cell? ⟨b1, k, none⟩ = some (.slice (some ⟨rb1, 0, none⟩) 64 cc1) := fun w' hk => by rw [(hkd.trans hk).cell (p := ⟨b1, k, none⟩) lt1 (by simp)]; exact c1
        have CB : ∀ w', Kept [] wr.drew w' → w'.cell? ⟨b2, k, none⟩ = some (.slice (some ⟨rb2, 0, none⟩) 64 cc2) := fun w' hk => by rw [(hkd.trans hk).cell (p := ⟨b2, k, none⟩) lt2 (by simp)]; exact c2
        have V1 : ∀ w', Kept [] wr.drew w' → (convert 48 9 (.slice (some ⟨rb1, 0, none⟩) 64 cc1)).run Try.prog w' = .ok (.string (strL l1)) w' := fun w' hk =>
          conv_range w' rb1 0 cc1 l1 64 hl64 ((hkd.trans hk).range (Array.getElem?_eq_some_iff.1 hb1).1 (by simp) hr1)
        have V2 : ∀ w', Kept [] wr.drew w' → (convert 48 9 (.slice (some ⟨rb2, 0, none⟩) 64 cc2)).run Try.prog w' = .ok (.string (strL l2)) w' := fun w' hk =>
          conv_range w' rb2 0 cc2 l2 64 hl642 ((hkd.trans hk).range (Array.getElem?_eq_some_iff.1 hb2).1 (by simp) hr2)
        have HL1 := Lib.hid hl1'
        have HL2 := Lib.hid hl2'
        clear hb1 hb2 hr1 hr2 hl64 hl642 c1 c2 lt1 lt2 hl1' hl2' hkd
        go_wp2_with fail
        refine wp_region_grow (List.replicate 11 true) [] (by kernel_rfl) (fun _ _ d _ _ h => by cases d <;> exact h) (by kernel_rfl) rfl (by kernel_rfl) ?_
        simp only [List.replicate_succ, List.replicate_zero, List.zip_cons_cons, List.zip_nil_left]
        by_cases he : l1 = l2
        · subst he
          repeat (apply wpGrow_take; (case hw => rfl); (case hv => intro w' hk; go_simp; with_reducible rfl); simp only [Act.put, List.setIfInBounds_toArray, List.set_cons_zero, List.set_cons_succ])
          refine wpGrow_nil ?_
          have HN : Hid ((∀ q, q < k + 1 → L1[q]? = L2[q]?) ∧ Kept [] w wr.drew) := ⟨fun q hq => by
            by_cases e : q = k
            · subst e
              rw [List.getElem?_eq_getElem q1, List.getElem?_eq_getElem q2, HL1.out, HL2.out]
            · exact HS.out.1 q (by omega), HS.out.2.trans (Kept.drew _ _)⟩
          clear CA CB V1 V2
          go_wp2_with fail
          go_roundw
          case rel => exact ⟨k + 1, by omega, by go_num, HN⟩
          case measure => simp [intOf]; omega
        · have hs := str_ne he
          repeat (apply wpGrow_take; (case hw => rfl); (case hv => intro w' hk; go_simp; with_reducible rfl); simp only [Act.put, List.setIfInBounds_toArray, List.set_cons_zero, List.set_cons_succ])
          refine wpGrow_nil ?_
          have hno : y = false := by
            cases y
            · rfl
            · refine absurd ?_ he
              have e := HY.out.1 rfl
              subst e
              rw [← HL1.out, ← HL2.out]
          subst hno
          go_wp2_with fail
          go_ret
          exact ⟨rfl, HS.out.2.trans (Kept.drew _ _)⟩
      · obtain rfl : k = n := by omega
        have hyes : y = true := by
          refine HY.out.2 (List.ext_getElem? fun q => ?_)
          by_cases hq : q < k
          · exact HS.out.1 q hq
          · rw [List.getElem?_eq_none (by rw [HN1.out]; omega), List.getElem?_eq_none (by rw [HN2.out]; omega)]
        subst hyes
        go_wp2_with fail
        go_ret
        exact ⟨rfl, HS.out.2⟩
  · have hno : y = false := by
      cases y
      · rfl
      · exact absurd (congrArg List.length (HY.out.1 rfl)) hne
    subst hno
    have hne' : ((L1.length : Int) != (L2.length : Int)) = true := by rw [bne_iff_ne]; omega
    go_enter Try.func23, Try.ntmps23
    go_wp2_with fail
    go_ret
    exact ⟨rfl, Kept.refl _ _⟩

/-- The blocks below n that are not the journal's. -/
def rowsK (f : Int → List UInt8) (at_ : Nat) : Nat → List (List UInt8)
  | 0 => []
  | n + 1 => if at_ ≤ n ∧ n < at_ + 199 then rowsK f at_ n else rowsK f at_ n ++ [f n]
theorem rowsK_length_le (f : Int → List UInt8) (at_ n : Nat) : (rowsK f at_ n).length ≤ n := by
  induction n with
  | zero => simp [rowsK]
  | succ n ih =>
    unfold rowsK
    split
    · omega
    · simp; omega
theorem rowsK_congr {f g : Int → List UInt8} {at_ n : Nat} (h : ∀ i : Int, Out at_ i → f i = g i) : rowsK f at_ n = rowsK g at_ n := by
  induction n with
  | zero => rfl
  | succ n ih =>
    unfold rowsK
    split
    · exact ih
    · rename_i hn
      rw [ih, h n (by unfold Out; omega)]

structure RwSt (w : World) (a at_ : Nat) (S : DiskS) (k : Nat) (v : Value) (xs : List Value) (wr : World) : Prop where
  disk : IsDisk wr a S
  own : wr.ownsRow w.heap.size 48 1 v (rowsK S.blk at_ k).length xs
  some_ : v.ownBlock ≠ none
  each : ∀ q (hq : q < (rowsK S.blk at_ k).length), ∃ u, xs[q]? = some u ∧ RowV wr u (rowsK S.blk at_ k)[q]
  kept : Kept [] w wr

theorem RwSt.rows {w : World} {a at_ : Nat} {S : DiskS} {k : Nat} {v : Value} {xs : List Value} {wr : World} (R : RwSt w a at_ S k v xs wr) : RowsIs wr v (rowsK S.blk at_ k) := by
  obtain ⟨h1, ⟨rfl, h2⟩ | ⟨g, cap, cur, rfl, hb, hg, hc1, hc2, hcs, htk⟩⟩ := R.own
  · exact absurd rfl R.some_
  · refine ⟨g, cap, rfl, fun q hq => ?_⟩
    obtain ⟨u, hu, hr⟩ := R.each q hq
    refine ⟨u, ?_, hr⟩
    rw [cell_of_row wr g q _ _ _ hg]
    rw [← htk] at hu
    rw [List.getElem?_take_of_lt (by omega)] at hu
    simpa using hu

theorem ownBlock_type {w : World} {base : Nat} {v : Value} {n : Nat} {xs : List Value} (h : w.ownsRow base 48 1 v n xs) : ∀ b ∈ v.ownBlock.toList, ∀ cs t, w.heap[b]? = some (.cells cs t) → t = 48 := by
  intro b hb cs t hc
  obtain ⟨h1, ⟨rfl, h2⟩ | ⟨g, cap, cur, rfl, hb', hg, _⟩⟩ := h
  · simp [Value.ownBlock] at hb
  · simp [Value.ownBlock] at hb
    subst hb
    rw [hg] at hc
    simp at hc
    exact hc.2.symm

theorem infoRow : (Try.prog.info? 48).map (fun i => (i.zero, i.size, i.bytes)) = some (some (.slice none 0 0), 1, 24) := by kernel_rfl

/-- One more row. -/
theorem append_row {w : World} {base : Nat} {v : Value} {n : Nat} {xs : List Value} (h : w.ownsRow base 48 1 v n xs) (u : Value) (hu1 : u.oneCell' = true) (b : Nat) (hb : w.cell? ⟨b, 0, none⟩ = some u) (hn : n ≤ 4096) (hbase : base ≤ w.heap.size) :
    ∃ v' w', (Builtin.append_ #[29, 29] 29 #[v, .slice (some ⟨b, 0, none⟩) 1 1]).run Try.prog w = .ok v' w' ∧ w'.ownsRow base 48 1 v' (n + 1) (xs ++ [u]) ∧ v'.ownBlock ≠ none ∧ Kept v.ownBlock.toList w w' := by
  obtain ⟨i, hi', hz, hsz, hby⟩ := info_parts infoRow
  obtain ⟨v', w', hrun, hown, hgr, hiff⟩ := run_append_own (P := Try.prog) w base 29 29 48 i _ 1 24 Try.underlying29 hi' hz hsz hby rfl (by omega) v n xs h ⟨b, 0, none⟩ 1 1 [u] (by simp)
    (fun q x hx => by
      rcases q with _ | q
      · simp at hx; subst hx; simpa [Addr.add_mid] using hb
      · simp at hx) (fun x hx => by simp at hx; subst hx; exact hu1) (by unfold maxLen; omega) (by omega) hbase
  refine ⟨v', w', hrun, hown, ?_, Kept.grown hgr (fun q hq => by simp [hq])⟩
  obtain ⟨h1, ⟨rfl, h2⟩ | ⟨g, cap, cur, rfl, _⟩⟩ := hown
  · omega
  · simp [Value.ownBlock]

set_option maxRecDepth 100000 in
set_option maxHeartbeats 1000000 in
theorem rows_any (w : World) (a at_ N : Nat) (at' : Int) (hat' : at' = at_) (S : DiskS) (hd : IsDisk w a S) (hoff : S.off = false) (hN : S.size = N) (hat : at_ ≤ 4096) :
    Calls Try.prog 12 #[.pointer (some ⟨a, 0, none⟩), .int .i64 at'] w fun e w' => ∃ v, e = .returned (.tuple #[v, .bool true]) ∧ RowsIs w' v (rowsK S.blk at_ N) ∧ Kept [] w w' := by
  subst hat'
  have HD := Lib.hid hd
  have HO := Lib.hid hoff
  have HNN := Lib.hid hN
  have hN1 : N ≤ 4096 := by have := hd.s1; omega
  clear hd hoff hN
  go_enter Try.func12, Try.ntmps12
  go_wp2_with fail
  go_loopw [6, 7] (fun v i wr => ∃ (k : Nat) (xs : List Value), k ≤ N ∧ i = .int .i64 k ∧ Hid (RwSt w a at_ S k v xs wr)) (fun _ i _ => N - (intOf i).toNat)
  case atStart =>
    refine ⟨0, [], by omega, rfl, HD.out.kept (Kept.alloc [] _ _) (by simp) (by simp), ⟨by simp [rowsK], .inr ⟨w.heap.size, 0, #[], rfl, Nat.le_refl _, heap_alloc_last _ _, by simp [rowsK], by unfold maxLen; omega, by simp, by simp⟩⟩, by simp [Value.ownBlock], fun q hq => by simp [rowsK] at hq, Kept.alloc _ _ _⟩
  case round =>
    obtain ⟨k, xs, hkN, rfl, HS⟩ := hrel
    go_wp2_with fail
    refine (len_any a S _ HS.out.disk).mono ?_
    rw [HNN.out]
    rintro e w2 ⟨rfl, rfl⟩
    by_cases hlt : k < N
    · by_cases hin : at_ ≤ k ∧ k < at_ + 199
      · obtain ⟨t1, t2⟩ := hin
        have t1' : (at_ : Int) ≤ k := by omega
        have t2' : (k : Int) < at_ + 199 := by omega
        have hrk : rowsK S.blk at_ (k + 1) = rowsK S.blk at_ k := by rw [rowsK, if_pos ⟨t1, t2⟩]
        have HN : Hid (RwSt w a at_ S (k + 1) u6 xs wr) := by
          have h := HS.out
          exact ⟨h.disk, by rw [hrk]; exact h.own, h.some_, by rw [hrk]; exact h.each, h.kept⟩
        clear hrk
        go_wp2_with fail
        go_roundw
        case rel => exact ⟨k + 1, xs, by omega, by go_num, HN⟩
        case measure => simp [intOf]; omega
      · have hrk : rowsK S.blk at_ (k + 1) = rowsK S.blk at_ k ++ [S.blk k] := by rw [rowsK, if_neg hin]
        have HRK := Lib.hid hrk
        clear hrk
        have hin2 : (k : Int) < at_ ∨ ((at_ : Int) ≤ k ∧ (at_ : Int) + 199 ≤ k) := by omega
        clear hin
        rcases hin2 with t1 | ⟨t1, t2⟩
        all_goals
          go_wp2_with fail
          refine (read_ok a S k _ HS.out.disk (reach_in (by omega) (by rw [HNN.out]; omega) HO.out)).mono ?_
          rintro e w3 ⟨rfl, hw3⟩
          have hk3 : Kept [] wr w3 := by rw [hw3]; exact Kept.alloc _ _ _
          have hr3 : RowV w3 (.slice (some ⟨wr.heap.size, 0, none⟩) 64 64) (S.blk k) := ⟨wr.heap.size, 64, _, 80, rfl, by rw [hw3]; exact heap_alloc_last _ _, by decide, by rw [hw3]; exact range_row (heap_alloc_last _ _), HS.out.disk.blk64 _⟩
          have ho3 : w3.ownsRow w.heap.size 48 1 u6 (rowsK S.blk at_ k).length xs := by rw [hw3]; exact HS.out.own.alloc _
          have HK3 := Lib.hid hk3
          have HR3 := Lib.hid hr3
          have HO3 := Lib.hid ho3
          clear hw3 hk3 hr3 ho3
          have hw4 : ∃ w4, w4 = w3.alloc (.cells #[.slice (some ⟨wr.heap.size, 0, none⟩) 64 64] 48) := ⟨_, rfl⟩
          obtain ⟨w4, hw4⟩ := hw4
          have hlen4 := rowsK_length_le S.blk at_ k
          obtain ⟨v', w5, hrun, hown, hsome, hk5⟩ := append_row (w := w4) (by rw [hw4]; exact HO3.out.alloc _) (.slice (some ⟨wr.heap.size, 0, none⟩) 64 64) rfl w3.heap.size (by rw [hw4]; exact cell_of_row _ _ 0 _ _ _ (heap_alloc_last w3 _)) (by omega) (by rw [hw4, size_alloc]; have := HS.out.kept.size; have := HK3.out.size; omega)
          have hk4 : Kept [] w3 w4 := by rw [hw4]; exact Kept.alloc _ _ _
          have hown4 : w4.ownsRow w.heap.size 48 1 u6 (rowsK S.blk at_ k).length xs := by rw [hw4]; exact HO3.out.alloc _
          have HN : Hid (RwSt w a at_ S (k + 1) v' (xs ++ [.slice (some ⟨wr.heap.size, 0, none⟩) 64 64]) w5) := by
            have hkk : Kept [] w w5 := (HS.out.kept.trans (HK3.out.trans hk4)).into hk5 (fun q hq => (HS.out.own.lt q (by simpa using hq)).1)
            have htyp := ownBlock_type hown4
            have hxl : xs.length = (rowsK S.blk at_ k).length := by have := HS.out.own.1; omega
            refine ⟨HD.out.kept hkk (by simp) (by simp), by rw [HRK.out, List.length_append]; exact hown, hsome, ?_, hkk⟩
            rw [HRK.out]
            intro q hq
            by_cases hq2 : q < (rowsK S.blk at_ k).length
            · obtain ⟨u, e1, e2⟩ := HS.out.each q hq2
              refine ⟨u, by rw [List.getElem?_append_left (by omega)]; exact e1, ?_⟩
              rw [List.getElem_append_left hq2]
              exact ((e2.kept HK3.out (Off.nil _)).kept hk4 (Off.nil _)).kept' hk5 htyp
            · obtain rfl : q = (rowsK S.blk at_ k).length := by simp at hq; omega
              refine ⟨_, by rw [List.getElem?_append_right (by omega), hxl]; simp; rfl, ?_⟩
              rw [List.getElem_append_right (by omega)]
              simp only [Nat.sub_self, List.getElem_cons_zero]
              exact (HR3.out.kept hk4 (Off.nil _)).kept' hk5 htyp
          have HRUN := Lib.hid hrun
          have HW4 := Lib.hid hw4
          clear hrun hown hsome hk5 hk4 hown4 hw4 hlen4
          rw [HW4.out] at HRUN
          go_wp2_with (refine wpList_append_run rfl _ _ 29 rfl _ _ _ rfl rfl HRUN.out ?_)
          go_roundw
          case rel => exact ⟨k + 1, _, by omega, by go_num, HN⟩
          case measure => simp [intOf]; omega
    · obtain rfl : k = N := by omega
      go_wp2_with fail
      go_ret2
      exact ⟨u6, rfl, HS.out.rows, HS.out.kept⟩
end Go.Proofs.Ytmckapfncnoddaa

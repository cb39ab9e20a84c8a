/-
  The journal's calls unpack and load: a group is read back from the journal.
  Conditions: those that each theorem states.
-/
import Derived.Test.YtmckapfncnoddaaPack
import Derived.Laws.AppendOwn
import Derived.Laws.Append
namespace Go.Proofs.Ytmckapfncnoddaa
open Go.RowKit Go.Maps

theorem infoPut : (Try.prog.info? 54).map (fun i => (i.zero, i.size, i.bytes)) = some (some (.agg #[.int .i64 0, .slice none 0 0]), 2, 32) := by kernel_rfl

theorem run_make_puts (w : World) (n : Nat) (h : n ≤ 4096) : ∃ A : Array Value, A.size = 2 * n ∧
    (Instr.makeSlice 32 (.int .i64 (n : Int)) (.int .i64 (n : Int))).run Try.prog w = .ok (.slice (some ⟨w.heap.size, 0, none⟩) n n) (w.alloc (.cells A 54)) := by
  obtain ⟨i, hi', hz, hs, hb⟩ := info_parts infoPut
  have hr := run_make (P := Try.prog) w 32 54 i _ Try.underlying32 hi' hz .i64 .i64 n n (by omega) (Int.le_refl _) (by rw [hb]; omega) (by omega)
  refine ⟨_, ?_, hr⟩
  rw [hs]
  simp [madeCells]
  omega

def numM (M : List UInt8) (i : Nat) : Nat := 256 * (M.getD (2 * i) 0).toNat + (M.getD (2 * i + 1) 0).toNat
def unpackL (M : List UInt8) (n : Nat) : List PutL := (List.range n).map fun (i : Nat) => ((numM M i : Int), blkOf M (tabN n + i))

structure UpSt (w : World) (M : List UInt8) (n k mb : Nat) (A : Array Value) (pb : Nat) (wr : World) : Prop where
  here : wr.heap[pb]? = some (.cells A 54)
  size : A.size = 2 * n
  each : ∀ i, i < k → A[i * 2]? = some (.int .i64 (numM M i)) ∧ A[i * 2 + 1]? = some (.slice (some ⟨mb, (tabN n + i) * 64, none⟩) 64 64)
  new : w.heap.size ≤ pb
  kept : Kept [] w wr

set_option maxRecDepth 100000 in
set_option maxHeartbeats 2000000 in
theorem unpack_walk (mao : Option Addr) (mb len cap n : Nat) (M : List UInt8) (w : World) (hn : n ≤ 192) (hM : M.length = len) (hlen : len = spanN n * 64) (hcap : len ≤ cap) (hcap2 : cap ≤ 9223372036854775807)
    (hm : 0 < n → mao = some ⟨mb, 0, none⟩ ∧ mb < w.heap.size ∧ w.rangeAt mb 0 (bv M)) :
    Calls Try.prog 47 #[.slice mao len cap, .int .i64 n] w fun e w' => ∃ pb A, e = .returned (.slice (some ⟨pb, 0, none⟩) n n) ∧ UpSt w M n n mb A pb w' := by
  have HM := Lib.hid hm
  have HL := Lib.hid hlen
  obtain ⟨A0, hA0, hmk⟩ := run_make_puts w n (by omega)
  clear hm hlen
  go_enter Try.func47, Try.ntmps47
  go_wp2_with fail
  clear hmk
  go_loopw [10] (fun i wr => ∃ (k : Nat) (A : Array Value), k ≤ n ∧ i = .int .i64 k ∧ Hid (UpSt w M n k mb A w.heap.size wr)) (fun i _ => n - (intOf i).toNat)
  case atStart => exact ⟨0, A0, by omega, rfl, heap_alloc_last _ _, hA0, fun i h0 => by omega, Nat.le_refl _, Kept.alloc _ _ _⟩
  case round =>
    obtain ⟨k, A, hkl, rfl, HS⟩ := hrel
    by_cases hlt : k < n
    · obtain ⟨rfl, hmb, hr⟩ := HM.out (by omega)
      have hk2 : 2 * k + 1 < len := by rw [HL.out]; unfold spanN tabN; omega
      have hlen2 : len < 4611686018427387904 := by rw [HL.out]; unfold spanN tabN; omega
      have hr1 := HS.out.kept.range hmb (by simp) hr
      have g1 : M.getD (2 * k) 0 = M[2 * k]'(by omega) := by simp [List.getD_eq_getElem?_getD, show 2 * k < M.length by omega]
      have g2 : M.getD (2 * k + 1) 0 = M[2 * k + 1]'(by omega) := by simp [List.getD_eq_getElem?_getD, show 2 * k + 1 < M.length by omega]
      have hnm : numM M k = 256 * (M[2 * k]'(by omega)).toNat + (M[2 * k + 1]'(by omega)).toNat := by unfold numM; rw [g1, g2]
      have HNM := Lib.hid hnm
      have HR1 := Lib.hid hr1
      clear hr hr1 g1 g2 hnm
      go_wp2_with fail
      refine (takeNumber_any mb 0 len cap k M _ HR1.out hM hk2 hlen2).mono ?_
      rw [← HNM.out]
      rintro e w3 ⟨rfl, hd3⟩
      have HD3 : Hid (Drawn wr w3) := hd3
      clear hd3
      go_wp2_with fail
      refine (tables_any n _ (by omega)).mono ?_
      rintro e w4 ⟨rfl, rfl⟩
      have htn : tabN n ≤ 192 := by unfold tabN; omega
      go_wp2_with fail
      refine (piece_any mb 0 len cap (tabN n + k) _ (by rw [HL.out]; unfold spanN; omega) hcap hcap2).mono ?_
      rintro e w4 ⟨rfl, rfl⟩
      have hh : w3.heap[w.heap.size]? = some (.cells A 54) := by rw [HD3.out.heap]; exact HS.out.here
      have hsz := HS.out.size
      have c0 : w3.cell? ⟨w.heap.size, k * 2, none⟩ = some (A[k * 2]'(by omega)) := by rw [cell_of_row w3 _ _ _ _ _ hh]; simp
      have c1 : w3.cell? ⟨w.heap.size, k * 2 + 1, none⟩ = some (A[k * 2 + 1]'(by omega)) := by rw [cell_of_row w3 _ _ _ _ _ hh]; simp
      have fr : ∀ q, w3.frozen? ⟨w.heap.size, q, none⟩ = false := fun q => frozen_of_row w3 _ q _ _ hh
      have HH := Lib.hid hh
      clear hh
      go_wp2_with fail
      go_roundw
      case rel =>
        refine ⟨k + 1, (A.setIfInBounds (k * 2) (.int .i64 (numM M k))).setIfInBounds (k * 2 + 1) (.slice (some ⟨mb, (tabN n + k) * 64, none⟩) 64 64), by omega, by go_num, ?_⟩
        have hkk := HD3.out.kept
        refine ⟨heap_setCell_same _ _ _ _ _ _ (heap_setCell_same _ _ _ _ _ _ HH.out), by simpa using hsz, fun i hi => ?_, Nat.le_refl _, ((HS.out.kept.trans hkk).into (Kept.setCell [w.heap.size] _ _ _ (by simp)) (by simp)).into (Kept.setCell [w.heap.size] _ _ _ (by simp)) (by simp)⟩
        simp only [Array.getElem?_setIfInBounds, Array.size_setIfInBounds]
        by_cases e : i = k
        · subst e
          constructor
          · rw [if_neg (by omega), if_pos rfl, if_pos (by omega)]
          · rw [if_pos rfl, if_pos (by omega)]
        · obtain ⟨p1, p2⟩ := HS.out.each i (by omega)
          constructor
          · rw [if_neg (by omega), if_neg (by omega)]; exact p1
          · rw [if_neg (by omega), if_neg (by omega)]; exact p2
      case measure => simp [intOf]; omega
    · obtain rfl : k = n := by omega
      go_wp2_with fail
      go_ret
      exact ⟨w.heap.size, A, rfl, HS.out⟩

theorem unpackL_length (M : List UInt8) (n : Nat) : (unpackL M n).length = n := by simp [unpackL]
theorem unpackL_get (M : List UInt8) (n k : Nat) (h : k < (unpackL M n).length) : (unpackL M n)[k] = ((numM M k : Int), blkOf M (tabN n + k)) := by simp [unpackL]

theorem UpSt.puts {w : World} {M : List UInt8} {n mb : Nat} {A : Array Value} {pb : Nat} {wr : World} (R : UpSt w M n n mb A pb wr) (hn : n ≤ 192) (hM : M.length = spanN n * 64) (hm : 0 < n → mb < w.heap.size ∧ w.rangeAt mb 0 (bv M)) :
    PutsIs wr (some ⟨pb, 0, none⟩) n (unpackL M n) := by
  refine ⟨unpackL_length _ _, by omega, fun h0 => ⟨pb, 0, rfl, fun k hk => ?_⟩⟩
  rw [unpackL_length] at hk
  obtain ⟨p1, p2⟩ := R.each k hk
  obtain ⟨hmb, hr⟩ := hm h0
  have hl : (blkOf M (tabN n + k)).length = 64 := blkOf_length (by rw [hM]; unfold spanN; omega)
  have h1 := UInt8.toNat_lt (M.getD (2 * k) 0)
  have h2 := UInt8.toNat_lt (M.getD (2 * k + 1) 0)
  have hnm : numM M k < 65536 := by unfold numM; omega
  rw [unpackL_get]
  refine ⟨some ⟨mb, (tabN n + k) * 64, none⟩, 64, 64, ?_, ?_, .inl (.inl ⟨mb, (tabN n + k) * 64, 64, by rw [hl], Nat.lt_of_lt_of_le hmb R.kept.size, range_blk (R.kept.range hmb (by simp) hr) _⟩), by simp only; omega, by simp only; omega, by omega⟩
  · rw [cell_of_row wr _ _ _ _ _ R.here, Nat.zero_add]; exact p1
  · rw [cell_of_row wr _ _ _ _ _ R.here, Nat.zero_add]; exact p2

/-- An append whose run is known. -/
theorem wpList_append_run {P : Program} {ops : Array Oper} {rest : List Oper} {o : Oper} {a : Act} {w w' : World} {Q : Exit → Act → World → Prop} (hgd : o.guard = none) (s x : Operand) (t : TypeId)
    (ho : o.op = .call { callee := .builtin .append, args := #[s, x], argTypes := #[t, t] }) (u v r : Value) (hs : a.eval s = u) (hx : a.eval x = v)
    (hrun : (Builtin.append_ #[t, t] o.type #[u, v]).run P w = .ok r w') (h : wpList P ops Q rest (a.put o.dst r) w') : wpList P ops Q (o :: rest) a w := by
  refine wpList_plain hgd fun _ hK => ?_
  unfold Oper.wp execOp
  simp only [ho, resolve, invoke, builtin, Sem.run_bind, Sem.run_pure, Result.andThen_ok, List.map_toArray, List.map_cons, List.map_nil, hs, hx, hrun]
  exact hK _ _ h

/-- What lies in the journal's first k blocks behind its head. -/
def flatL (S : DiskS) (at_ : Nat) : Nat → List UInt8
  | 0 => []
  | k + 1 => flatL S at_ k ++ S.blk ((at_ : Int) + 1 + k)
theorem flatL_length {w : World} {a : Nat} {S : DiskS} (h : IsDisk w a S) (at_ k : Nat) : (flatL S at_ k).length = k * 64 := by
  induction k with
  | zero => rfl
  | succ k ih => rw [flatL, List.length_append, ih, h.blk64]; omega

structure LdSt (w : World) (a j : Nat) (J : JourS) (S : DiskS) (at_ k : Nat) (v : Value) (wr : World) : Prop where
  disk : IsDisk wr a S
  jour : IsJour wr j J
  own : wr.ownsRow w.heap.size 5 1 v (k * 64) (bv (flatL S at_ k))
  kept : Kept [] w wr

theorem LdSt.cap {w : World} {a j : Nat} {J : JourS} {S : DiskS} {at_ k : Nat} {v : Value} {wr : World} (R : LdSt w a j J S at_ k v wr) : ∃ mao mb cap, v = .slice mao (k * 64) cap ∧ k * 64 ≤ cap ∧ cap ≤ 9223372036854775807 ∧ (0 < k → mao = some ⟨mb, 0, none⟩ ∧ mb < wr.heap.size ∧ wr.rangeAt mb 0 (bv (flatL S at_ k))) := by
  obtain ⟨h1, ⟨rfl, h2⟩ | ⟨g, cap, cur, rfl, hb, hg, hc1, hc2, hcs, htk⟩⟩ := R.own
  · exact ⟨none, 0, 0, by rw [h2], by omega, by omega, fun h => by omega⟩
  · refine ⟨some ⟨g, 0, none⟩, g, cap, rfl, hc1, by unfold maxLen at hc2; omega, fun _ => ⟨rfl, (Array.getElem?_eq_some_iff.1 hg).1, fun q u hu => ?_⟩⟩
    rw [← htk] at hu
    have hq : q < k * 64 * 1 := by
      have := (List.getElem?_eq_some_iff.1 hu).1
      simp at this; omega
    rw [List.getElem?_take_of_lt hq] at hu
    rw [Nat.zero_add, cell_of_row wr g q _ _ _ hg]
    simpa using hu

set_option maxRecDepth 100000 in
set_option maxHeartbeats 2000000 in
theorem load_walk (j : Nat) (J : JourS) (S : DiskS) (w : World) (hj : IsJour w j J) (hd : IsDisk w J.a S) (hn : J.n ≤ 192) (hat : (J.at_ : Int) + 199 ≤ S.size) (hoff : S.off = false)
    (hg : Grp J.at_ S.size (unpackL (flatL S J.at_ (spanN J.n)) J.n)) :
    Calls Try.prog 39 #[.pointer (some ⟨j, 0, none⟩)] w fun e w' => ∃ ao, e = .returned (.tuple #[.slice ao J.n J.n, .int .i64 0]) ∧ PutsIs w' ao J.n (unpackL (flatL S J.at_ (spanN J.n)) J.n) ∧ Kept [] w w' := by
  have HJ := Lib.hid hj
  have HD := Lib.hid hd
  have HG := Lib.hid hg
  have HO := Lib.hid hoff
  have hs1 := hd.s1
  obtain ⟨a, at_, g0, o0, n⟩ := J
  simp only at hn hat
  have c4 : w.cell? ⟨j, 4, none⟩ = some (.int .i64 n) := hj.cell 4
  have hsp : spanN n ≤ 198 := by unfold spanN tabN; omega
  clear hj hd hg hoff
  go_enter Try.func39, Try.ntmps39
  go_wp2_with fail
  refine (span_any n _ (by omega)).mono ?_
  rintro e w2 ⟨rfl, rfl⟩
  go_wp2_with fail
  clear c4
  go_loopw [4, 15] (fun v i wr => ∃ (k : Nat), k ≤ spanN n ∧ i = .int .i64 k ∧ Hid (LdSt w a j ⟨a, at_, g0, o0, n⟩ S at_ k v wr)) (fun _ i _ => spanN n - (intOf i).toNat)
  case atStart => exact ⟨0, by omega, rfl, HD.out, HJ.out, World.ownsRow_nil _ _ _ _, Kept.refl _ _⟩
  case round =>
    obtain ⟨k, hkl, rfl, HS⟩ := hrel
    by_cases hlt : k < spanN n
    · have hk4 : Kept [] wr wr.drew := Kept.drew [] wr
      have HD4 := Lib.hid (HS.out.disk.kept hk4 (by simp) (by simp))
      have HJ4 := Lib.hid (HS.out.jour.kept hk4 (by simp))
      have CA : ∀ w', Kept [] wr.drew w' → w'.cell? ⟨j, 0, none⟩ = some (.pointer (some ⟨a, 0, none⟩)) := fun w' hk => (HJ4.out.kept hk (by simp)).cell 0
      have CB : ∀ w', Kept [] wr.drew w' → w'.cell? ⟨j, 1, none⟩ = some (.int .i64 at_) := fun w' hk => (HJ4.out.kept hk (by simp)).cell 1
      have e1 : IntKind.i64.wrap ((at_ : Int) + 1) = (at_ : Int) + 1 := by rw [IntKind.wrap_i64]; omega
      have e2 : IntKind.i64.wrap ((at_ : Int) + 1 + k) = (at_ : Int) + 1 + k := by rw [IntKind.wrap_i64]; omega
      have hre : S.reach ((at_ : Int) + 1 + k) = 0 := by
        unfold DiskS.reach
        rw [HO.out, if_neg (by simp), if_neg (by omega)]
      have HRE := Lib.hid hre
      clear hk4 hre
      go_wp2_with fail
      refine wp_region_grow (List.replicate 11 true ++ [false] ++ List.replicate 5 true) [] (by kernel_rfl) (fun _ _ d _ _ h => by cases d <;> exact h) (by kernel_rfl) rfl (by kernel_rfl) ?_
      simp only [List.replicate_succ, List.replicate_zero, List.cons_append, List.nil_append, List.zip_cons_cons, List.zip_nil_left]
      repeat (apply wpGrow_take; (case hw => rfl); (case hv => intro w' hk; go_simp; with_reducible rfl); simp only [Act.put, List.setIfInBounds_toArray, List.set_cons_zero, List.set_cons_succ])
      refine wpGrow_force (by rfl) (fun K hK => ?_)
      go_simp
      refine (read_ok a S _ _ HD4.out HRE.out).mono ?_
      rintro e w6 ⟨rfl, hw6⟩
      have hk6 : Kept [] wr.drew w6 := by rw [hw6]; exact Kept.alloc _ _ _
      refine hK _ _ hk6 ?_
      clear hK K CA CB e1 e2
      have hr6 : w6.rangeAt wr.heap.size 0 (bv (S.blk ((at_ : Int) + 1 + k))) := by rw [hw6]; exact range_row (heap_alloc_last wr.drew _)
      have ho6 : w6.ownsRow w.heap.size 5 1 u4 (k * 64) (bv (flatL S at_ k)) := by rw [hw6]; exact HS.out.own.drew.alloc _
      have hb64 := HS.out.disk.blk64 ((at_ : Int) + 1 + k)
      have hs6 : w.heap.size ≤ w6.heap.size := Nat.le_trans HS.out.kept.size hk6.size
      obtain ⟨i, hi', hz, hs, hb⟩ := info_parts infoByte
      obtain ⟨v', w7, hrun, hown, hgr, _⟩ := run_append_own (P := Try.prog) w6 w.heap.size 48 48 5 i _ 1 1 Try.underlying48 hi' hz hs hb rfl (by omega) u4 (k * 64) _ ho6 ⟨wr.heap.size, 0, none⟩ 64 64 (bv (S.blk ((at_ : Int) + 1 + k))) (by rw [bv_length, hb64]) (fun q u hu => by rw [Addr.add_mid]; exact hr6 q u hu) (bv_one _) (by unfold maxLen; omega) (by omega) hs6
      have hown7 : w7.ownsRow w.heap.size 5 1 v' ((k + 1) * 64) (bv (flatL S at_ (k + 1))) := by
        rw [show (k + 1) * 64 = k * 64 + 64 by omega, flatL, show bv (flatL S at_ k ++ S.blk ((at_ : Int) + 1 + k)) = bv (flatL S at_ k) ++ bv (S.blk ((at_ : Int) + 1 + k)) by simp [bv]]
        exact hown
      have hk7 : Kept [] w w7 := by
        refine ((HS.out.kept.trans (Kept.drew _ _)).trans hk6).into (Kept.grown (ex := u4.ownBlock.toList) hgr (fun q hq => by simp [hq])) (fun q hq => ?_)
        have := HS.out.own.lt q (by simpa using hq)
        exact this.1
      have HN := Lib.hid ({ disk := HD.out.kept hk7 (by simp) (by simp), jour := HJ.out.kept hk7 (by simp), own := hown7, kept := hk7 } : LdSt w a j ⟨a, at_, g0, o0, n⟩ S at_ (k + 1) v' w7)
      have HRUN := Lib.hid hrun
      clear hw6 hk6 hr6 ho6 hb64 hs6 hi' hz hs hb hrun hown hgr hown7 hk7
      repeat (apply wpGrow_take; (case hw => rfl); (case hv => intro w' hk; go_simp; with_reducible rfl); simp only [Act.put, List.setIfInBounds_toArray, List.set_cons_zero, List.set_cons_succ])
      refine wpGrow_nil ?_
      go_wp2_with (refine wpList_append_run rfl _ _ 48 rfl _ _ _ rfl rfl HRUN.out ?_)
      go_roundw
      case rel => exact ⟨k + 1, by omega, by go_num, HN⟩
      case measure => simp [intOf]; omega
    · obtain rfl : k = spanN n := by omega
      obtain ⟨mao, mb, cap, rfl, hcap, hcap2, hm⟩ := HS.out.cap
      have c4 : wr.cell? ⟨j, 4, none⟩ = some (.int .i64 n) := HS.out.jour.cell 4
      have hfl := flatL_length HS.out.disk at_ (spanN n)
      have hm2 : 0 < n → mao = some ⟨mb, 0, none⟩ ∧ mb < wr.heap.size ∧ wr.rangeAt mb 0 (bv (flatL S at_ (spanN n))) := fun h => hm (by unfold spanN; omega)
      have HM := Lib.hid hm2
      have HFL := Lib.hid hfl
      clear hm hm2 hfl
      go_wp2_with fail
      refine (unpack_walk mao mb _ cap n (flatL S at_ (spanN n)) _ hn HFL.out rfl hcap hcap2 HM.out).mono ?_
      rintro e w5 ⟨pb, A, rfl, hu⟩
      have hp5 := hu.puts hn HFL.out (fun h => (HM.out h).2)
      have HP5 := Lib.hid hp5
      have HU := Lib.hid hu
      clear hp5 hu c4
      go_wp2_with fail
      refine (isGroup_walk j ⟨a, at_, g0, o0, n⟩ S (some ⟨pb, 0, none⟩) n n (unpackL (flatL S at_ (spanN n)) n) _ (HS.out.jour.kept HU.out.kept (by simp)) (HS.out.disk.kept HU.out.kept (by simp) (by simp)) HP5.out (by simp only; omega) true ⟨fun _ => HG.out, fun _ => rfl⟩).mono ?_
      rintro e w6 ⟨rfl, hk6⟩
      have HK6 := Lib.hid hk6
      clear hk6
      go_wp2_with fail
      go_ret2
      exact ⟨some ⟨pb, 0, none⟩, rfl, HP5.out.kept HK6.out (Off.nil _), HS.out.kept.trans (HU.out.kept.trans HK6.out)⟩
end Go.Proofs.Ytmckapfncnoddaa

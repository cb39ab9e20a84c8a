/-
  The journal's calls pack and store: a group is laid into the journal.
  Conditions: those that each theorem states.
  The journal's calls unpack and load: a group is read back from the journal.
  Conditions: those that each theorem states.
-/
import Derived.Test.YtiedoocgbajjjaaGreatDoorLTakeE
import Derived.Test.YtiedoocgbajjjaaGreatDoorGroup
import Derived.Laws.AppendOwn
import Derived.Laws.Append
namespace Go.Proofs.YtiedoocgbajjjaaGreatDoor
open Go.RowKit Go.Maps
set_option maxRecDepth 100000

/-- Memory M has the first k writes of l: numbers ahead, bytes behind (t blocks of numbers). -/
def PackK (M : List UInt8) (t : Nat) (l : List PutL) (k : Nat) : Prop :=
  ∀ i (hi : i < l.length), i < k → M[2 * i]? = some (hiB l[i].1.toNat) ∧ M[2 * i + 1]? = some (loB l[i].1.toNat) ∧ ∀ q, q < 64 → M[(t + i) * 64 + q]? = l[i].2[q]?

def splL (M : List UInt8) (o : Nat) (L : List UInt8) : List UInt8 := M.take o ++ L ++ M.drop (o + L.length)
theorem splL_length {M : List UInt8} {o : Nat} {L : List UInt8} (h : o + L.length ≤ M.length) : (splL M o L).length = M.length := by simp [splL]; omega
theorem splL_get {M : List UInt8} {o : Nat} {L : List UInt8} (h : o + L.length ≤ M.length) (i : Nat) : (splL M o L)[i]? = if i < o then M[i]? else if i < o + L.length then L[i - o]? else M[i]? := by
  unfold splL
  have h1 : min o M.length = o := by omega
  rw [List.append_assoc]
  by_cases a : i < o
  · rw [if_pos a, List.getElem?_append_left (by rw [List.length_take]; omega), List.getElem?_take_of_lt a]
  · rw [if_neg a, List.getElem?_append_right (by rw [List.length_take]; omega), List.length_take, h1]
    by_cases b : i < o + L.length
    · rw [if_pos b, List.getElem?_append_left (by omega)]
    · rw [if_neg b, List.getElem?_append_right (by omega), List.getElem?_drop]
      congr 1; omega

theorem PackK.step {M : List UInt8} {t n : Nat} {l : List PutL} {k : Nat} (h : PackK M t l k) (hk : k < l.length) (ht : t = tabN n) (hn : l.length = n) (hM : M.length = spanN n * 64) (h64 : l[k].2.length = 64) :
    PackK (splL (putLJ M 0 k l[k].1.toNat) ((t + k) * 64) l[k].2) t l (k + 1) ∧ (splL (putLJ M 0 k l[k].1.toNat) ((t + k) * 64) l[k].2).length = spanN n * 64 := by
  have hsp : spanN n = t + n := by unfold spanN; rw [ht]
  have h32 : 2 * n ≤ t * 64 := by rw [ht]; unfold tabN; omega
  have hfit : (t + k) * 64 + l[k].2.length ≤ (putLJ M 0 k l[k].1.toNat).length := by rw [putL_length, hM, hsp, h64]; omega
  refine ⟨?_, by rw [splL_length hfit, putL_length, hM]⟩
  intro i hi hik
  have hput : ∀ q, q ≠ 2 * k → q ≠ 2 * k + 1 → (putLJ M 0 k l[k].1.toNat)[q]? = M[q]? := fun q h1 h2 => by
    unfold putLJ
    rw [List.getElem?_set_ne (by omega), List.getElem?_set_ne (by omega)]
  by_cases e : i = k
  · subst e
    refine ⟨?_, ?_, fun q hq => ?_⟩
    · rw [splL_get hfit, if_pos (by omega)]
      unfold putLJ
      rw [List.getElem?_set_ne (by omega)]
      simp only [Nat.zero_add]
      rw [List.getElem?_set_self (by rw [hM, hsp]; omega)]
    · rw [splL_get hfit, if_pos (by omega)]
      unfold putLJ
      simp only [Nat.zero_add]
      rw [List.getElem?_set_self (by rw [List.length_set, hM, hsp]; omega)]
    · rw [splL_get hfit, if_neg (by omega), if_pos (by rw [h64]; omega)]
      congr 1; omega
  · obtain ⟨p1, p2, p3⟩ := h i hi (by omega)
    refine ⟨?_, ?_, fun q hq => ?_⟩
    · rw [splL_get hfit, if_pos (by omega), hput _ (by omega) (by omega)]; exact p1
    · rw [splL_get hfit, if_pos (by omega), hput _ (by omega) (by omega)]; exact p2
    · rw [splL_get hfit, if_pos (by omega), hput _ (by omega) (by omega)]; exact p3 q hq

structure PkSt (w : World) (l : List PutL) (n k : Nat) (M : List UInt8) (mb : Nat) (wr : World) : Prop where
  here : wr.heap[mb]? = some (.cells (bvA M) 5)
  len : M.length = spanN n * 64
  pack : PackK M (tabN n) l k
  new : w.heap.size ≤ mb
  kept : Kept [] w wr

theorem run_copy_bytes (w : World) (g o b so cap scap : Nat) (M L : List UInt8) (hg : w.heap[g]? = some (.cells (bvA M) 5)) (hr : w.rangeAt b so (bv L)) (hL : L.length = 64) (hfit : o + 64 ≤ M.length) :
    (Builtin.copy_ #[22, 22] 3 #[.slice (some ⟨g, o, none⟩) 64 cap, .slice (some ⟨b, so, none⟩) 64 scap]).run Tryz.prog w = .ok (goInt 64) (w.setRow g (bvA (splL M o L))) := by
  have := run_copy_row (P := Tryz.prog) w 22 22 3 5 g o 64 cap ⟨b, so, none⟩ 64 scap (bvA M) 5 (bv L) Tryz.underlying22 (by kernel_rfl) hg (by rw [bv_length, hL]; rfl)
    (fun j v hv => by rw [Addr.add_mid]; exact hr j v hv) (by rw [bv_length, bvA_size, hL]; exact hfit) (bv_one L)
  rw [this, bv_length, hL]
  congr 2
  apply Array.toList_inj.1
  simp [bvA, bv, splL, hL]

set_option maxRecDepth 100000 in
set_option maxHeartbeats 2000000 in
theorem pack_walk (at_ : Nat) (size : Int) (ao : Option Addr) (len cap : Nat) (l : List PutL) (w : World) (hl : PutsIs w ao len l) (hg : Grp at_ size l) (hs : size ≤ 4096) :
    Calls Tryz.prog 126 #[.slice ao len cap] w fun e w' => ∃ mb M, e = .returned (.slice (some ⟨mb, 0, none⟩) (spanN len * 64) (spanN len * 64)) ∧ PkSt w l len len M mb w' := by
  have HL := Lib.hid hl
  have HG := Lib.hid hg
  have hlen : len ≤ 192 := by rw [← hl.1]; exact hg.len
  have hsp : spanN len ≤ 198 := by unfold spanN tabN; omega
  have hmk := run_make_bytes (P := Tryz.prog) w 22 5 Tryz.underlying22 infoByte ((spanN len * 64 : Nat) : Int) (by omega) (by omega)
  rw [Int.toNat_natCast] at hmk
  push_cast at hmk
  clear hl hg
  go_enter Tryz.func126, Tryz.ntmps126
  go_wp2_with fail
  refine (span_any len _ (by omega)).mono ?_
  rintro e w1 ⟨rfl, rfl⟩
  go_wp2_with fail
  clear hmk
  go_loopw [13] (fun i wr => ∃ (k : Nat) (M : List UInt8), k ≤ len ∧ i = .int .i64 k ∧ Hid (PkSt w l len k M w.heap.size wr)) (fun i _ => len - (intOf i).toNat)
  case atStart => exact ⟨0, zerosL (spanN len * 64), by omega, rfl, heap_alloc_last _ _, zerosL_length _, fun i hi h0 => by omega, Nat.le_refl _, Kept.alloc _ _ _⟩
  case round =>
    obtain ⟨k, M, hkl, rfl, HS⟩ := hrel
    by_cases hlt : k < len
    · have hkl' : k < l.length := by rw [HL.out.1]; exact hlt
      obtain ⟨b, o, hao, hat'⟩ := (HL.out.kept HS.out.kept (Off.nil _)).2.2 (by omega)
      subst hao
      obtain ⟨ao', n', cap', q1, q2, q3, q4, q5, q6⟩ := hat' k hkl'
      have hok := HG.out.each _ (List.getElem_mem hkl')
      obtain ⟨B, hB⟩ : ∃ B : Nat, l[k].1 = B := ⟨l[k].1.toNat, by have := hok.1; omega⟩
      have hB2 : B < 4096 := by have := hok.2.1; omega
      obtain ⟨pl, hpl⟩ : ∃ pl, l[k].2 = pl := ⟨_, rfl⟩
      have h64 : pl.length = 64 := by rw [← hpl]; exact hok.2.2.1
      rw [hB] at q1
      rw [hpl] at q3
      obtain ⟨sb, so, rfl, rfl, hsr, hslt⟩ : ∃ sb so, ao' = some ⟨sb, so, none⟩ ∧ n' = 64 ∧ w.rangeAt sb so (bv pl) ∧ sb < w.heap.size := by
        obtain ⟨b2, o2, ha2, hat2⟩ := HL.out.2.2 (by omega)
        obtain ⟨ao2, n2, cap2, r1, r2, r3, _⟩ := hat2 k hkl'
        simp only [Option.some.injEq, Addr.mk.injEq] at ha2
        obtain ⟨rfl, rfl, _⟩ := ha2
        have e2 := HS.out.kept.cell (p := ⟨b, o + k * 2 + 1, none⟩) (World.block_lt_of_cell? w _ r2) (by simp)
        rw [q2, r2] at e2
        simp only [Option.some.injEq, Value.slice.injEq] at e2
        obtain ⟨rfl, rfl, rfl⟩ := e2
        rw [hpl] at r3
        rcases r3 with (⟨b', o', c', he, hlt', hc'⟩ | ⟨he, hnil⟩) | ⟨_, _, _, hnil⟩
        · simp at he
          exact ⟨b', o', he.1, by rw [he.2.1, h64], hc', hlt'⟩
        · rw [hnil] at h64; simp at h64
        · rw [hnil] at h64; simp at h64
      have HSR := Lib.hid hsr
      have HBB := Lib.hid hB
      have HPL := Lib.hid hpl
      have H64 := Lib.hid h64
      clear hat' q3 q4 q5 q6 hok hsr hB hpl h64
      go_wp2_with fail
      generalize hw4 : World.alloc wr _ = w4
      have hk4 : Kept [] wr w4 := by rw [← hw4]; exact Kept.alloc _ _ _
      have hb4 : w4.heap[wr.heap.size]? = some (.cells #[.int .i64 B, .slice (some ⟨sb, so, none⟩) 64 cap'] 169) := by rw [← hw4]; exact heap_alloc_last wr _
      have hlM : M.length = spanN len * 64 := HS.out.len
      have hfit : 2 * k + 1 < spanN len * 64 := by unfold spanN tabN; omega
      refine (putNumber_any w.heap.size 0 _ _ k B M _ w4 (hk4.heap (by simp) HS.out.here) hfit (by omega) (by omega)).mono ?_
      rintro e w5 ⟨rfl, hh5, hk5⟩
      have hbne : wr.heap.size ≠ w.heap.size := by have := (Array.getElem?_eq_some_iff.1 HS.out.here).1; omega
      have hb5 : w5.drew.heap[wr.heap.size]? = _ := hk5.heap (by simpa using hbne) hb4
      have CB : ∀ w', Kept [w.heap.size] w5.drew w' → w'.cell? ⟨wr.heap.size, 1, none⟩ = some (.slice (some ⟨sb, so, none⟩) 64 cap') := fun w' hk => cell_of_row w' _ 1 _ _ _ (hk.heap (by simpa using hbne) hb5)
      have HK5 := Lib.hid ((HS.out.kept.trans hk4).into hk5 (by simp))
      have HH5 := Lib.hid hh5
      clear hw4 hk4 hb4 hb5 hh5 hk5 q1 q2
      go_wp2_with fail
      have e1 : IntKind.i64.wrap ((tabN len : Int) + k) = ((tabN len + k : Nat) : Int) := by rw [IntKind.wrap_i64]; unfold tabN; omega
      refine wp_region_ord [(true, 0), (true, 1), (true, 2), (true, 4), (true, 7), (true, 8), (false, 3), (true, 5), (false, 6), (false, 9)] [w.heap.size] (by kernel_rfl) (fun _ _ d _ _ h => by cases d <;> exact h) (by kernel_rfl) rfl (by kernel_rfl) (by kernel_rfl) ?_
      simp only [named, List.getD_cons_zero, List.getD_cons_succ]
      repeat (apply wpGrow_take; (case hw => rfl); (case hv => intro w' hk; go_simp; with_reducible rfl); simp only [Act.put, List.setIfInBounds_toArray, List.set_cons_zero, List.set_cons_succ])
      refine wpGrow_force (by rfl) (fun K hK => ?_)
      go_simp
      refine (tables_any len _ (by omega)).mono ?_
      rintro e w6 ⟨rfl, rfl⟩
      refine hK _ _ (Kept.refl _ _) ?_
      clear hK K
      repeat (apply wpGrow_take; (case hw => rfl); (case hv => intro w' hk; go_simp; with_reducible rfl); simp only [Act.put, List.setIfInBounds_toArray, List.set_cons_zero, List.set_cons_succ])
      refine wpGrow_force (by rfl) (fun K hK => ?_)
      go_simp
      refine (piece_any w.heap.size 0 _ _ (tabN len + k) _ (by unfold spanN; omega) (Nat.le_refl _) (by omega)).mono ?_
      rintro e w6 ⟨rfl, rfl⟩
      refine hK _ _ (Kept.refl _ _) ?_
      clear hK K
      refine wpGrow_force (by rfl) (fun K hK => ?_)
      go_simp
      rw [run_copy_bytes w5.drew w.heap.size ((tabN len + k) * 64) sb so 64 cap' (putLJ M 0 k B) pl HH5.out ((HK5.out.trans (Kept.drew _ _)).range hslt (by simp) HSR.out) H64.out (by rw [putL_length, hlM]; unfold spanN; omega)]
      go_simp
      refine hK _ _ (setRow_kept _ _ _) ?_
      clear hK K CB
      refine wpGrow_nil ?_
      have hst := HS.out.pack.step hkl' rfl HL.out.1 hlM (by rw [HPL.out]; exact H64.out)
      rw [HBB.out, HPL.out, Int.toNat_natCast] at hst
      have HN : Hid (PkSt w l len (k + 1) (splL (putLJ M 0 k B) ((tabN len + k) * 64) pl) w.heap.size (w5.drew.setRow w.heap.size (bvA (splL (putLJ M 0 k B) ((tabN len + k) * 64) pl)))) :=
        ⟨setRow_heap _ _ _ _ _ _ HH5.out, hst.2, hst.1, Nat.le_refl _, (HK5.out.trans (Kept.drew _ _)).into (setRow_kept _ _ _) (by simp)⟩
      clear hst e1
      generalize splL (putLJ M 0 k B) ((tabN len + k) * 64) pl = M1 at HN ⊢
      go_wp2_with fail
      go_roundw
      case rel => exact ⟨k + 1, M1, by omega, by go_num, HN⟩
      case measure => simp [intOf]; omega
    · obtain rfl : k = len := by omega
      go_wp2_with fail
      go_ret
      exact ⟨w.heap.size, M, rfl, HS.out⟩

def blkOf (M : List UInt8) (i : Nat) : List UInt8 := (M.drop (i * 64)).take 64
theorem blkOf_length {M : List UInt8} {i : Nat} (h : (i + 1) * 64 ≤ M.length) : (blkOf M i).length = 64 := by simp [blkOf]; omega
theorem range_blk {w : World} {b : Nat} {M : List UInt8} (h : w.rangeAt b 0 (bv M)) (i : Nat) : w.rangeAt b (i * 64) (bv (blkOf M i)) := fun j v hv => by
  have : (bv M)[i * 64 + j]? = some v := by
    have hj : j < 64 := by
      have := (List.getElem?_eq_some_iff.1 hv).1
      simp [bv, blkOf] at this; omega
    simp only [bv, blkOf, List.map_take, List.map_drop] at hv ⊢
    rw [List.getElem?_take_of_lt hj, List.getElem?_drop] at hv
    exact hv
  have := h (i * 64 + j) v this
  rwa [Nat.zero_add] at this

/-- What store writes. -/
def storeL (at_ : Nat) (M : List UInt8) (n : Nat) : List PutL := (List.range n).map fun (i : Nat) => (((at_ : Int) + 1 + (i : Int)), blkOf M i)
theorem storeL_length (at_ : Nat) (M : List UInt8) (n : Nat) : (storeL at_ M n).length = n := by simp [storeL]
theorem storeL_get (at_ : Nat) (M : List UInt8) (n k : Nat) (h : k < (storeL at_ M n).length) : (storeL at_ M n)[k] = (((at_ : Int) + 1 + k), blkOf M k) := by simp [storeL]

set_option maxRecDepth 100000 in
set_option maxHeartbeats 2000000 in
theorem store_walk (j : Nat) (J : JourS) (S : DiskS) (ao : Option Addr) (len cap : Nat) (l : List PutL) (w : World) (hj : IsJour w j J) (hd : IsDisk w J.a S) (hl : PutsIs w ao len l) (hg : Grp J.at_ S.size l)
    (hlw : S.writes + 200 < 4611686018427387904) (hat : J.at_ < 4611686018427387904) :
    Calls Tryz.prog 107 #[.pointer (some ⟨j, 0, none⟩), .slice ao len cap] w fun e w' => ∃ M, PackK M (tabN len) l len ∧ M.length = spanN len * 64 ∧
      e = .returned (.int .i64 (S.wrs (storeL J.at_ M (spanN len))).1) ∧ IsDisk w' J.a (S.wrs (storeL J.at_ M (spanN len))).2 ∧ IsJour w' j J ∧ Kept [J.a, S.m] w w' := by
  have HJ := Lib.hid hj
  have HD := Lib.hid hd
  have HL := Lib.hid hl
  have HG := Lib.hid hg
  have HW := Lib.hid hlw
  have hlen : len ≤ 192 := by rw [← hl.1]; exact hg.len
  have hsp : spanN len ≤ 198 := by unfold spanN tabN; omega
  have hja := Lib.hid (hj.ne_disk hd)
  have hjm := Lib.hid (hj.ne_map hd)
  obtain ⟨a, at_, g0, o0, n0⟩ := J
  simp only at hat
  clear hj hd hl hg hlw
  go_enter Tryz.func107, Tryz.ntmps107
  go_wp2_with fail
  refine (pack_walk at_ S.size ao len cap l w HL.out HG.out HD.out.s1).mono ?_
  rintro e w1 ⟨mb, M, rfl, hM⟩
  have HM := Lib.hid hM
  clear hM
  go_wp2_with fail
  refine (span_any len _ (by omega)).mono ?_
  rintro e w2 ⟨rfl, rfl⟩
  go_wp2_with fail
  have hmn : mb ∉ [a, S.m] := by
    have h1 := HD.out.lt
    have h2 := HD.out.map.lt
    have h3 := HM.out.new
    simp; omega
  go_loopw [13] (fun i wr => ∃ (k : Nat) (Sk : DiskS), k ≤ spanN len ∧ i = .int .i64 k ∧ Hid (WrsSt w1 a S (storeL at_ M (spanN len)) k Sk wr)) (fun i _ => spanN len - (intOf i).toNat)
  case atStart => exact ⟨0, S, by omega, rfl, WrsSt.start _ (HD.out.kept HM.out.kept (by simp) (by simp)) (Kept.refl _ _)⟩
  case round =>
    obtain ⟨k, Sk, hkl, rfl, HS⟩ := hrel
    have hj' := Lib.hid ((HJ.out.kept HM.out.kept (by simp)).kept HS.out.kept (by simp; exact ⟨hja.out, hjm.out⟩))
    by_cases hlt : k < spanN len
    · have hkl' : k < (storeL at_ M (spanN len)).length := by rw [storeL_length]; exact hlt
      have hh : wr.drew.heap[mb]? = some (.cells (bvA M) 5) := HS.out.kept.heap hmn HM.out.here
      have hlM : M.length = spanN len * 64 := HM.out.len
      have h64 : (blkOf M k).length = 64 := blkOf_length (by omega)
      have HH := Lib.hid hh
      have H64 := Lib.hid h64
      have HS4 := Lib.hid (HS.out.grow (Kept.drew [] wr))
      have hj4 := Lib.hid (hj'.out.kept (Kept.drew [] wr) (by simp))
      have CA : ∀ w', Kept [a, S.m] wr.drew w' → w'.cell? ⟨j, 0, none⟩ = some (.pointer (some ⟨a, 0, none⟩)) := fun w' hk => (hj4.out.kept hk (by simp; exact ⟨hja.out, hjm.out⟩)).cell 0
      have CB : ∀ w', Kept [a, S.m] wr.drew w' → w'.cell? ⟨j, 1, none⟩ = some (.int .i64 at_) := fun w' hk => (hj4.out.kept hk (by simp; exact ⟨hja.out, hjm.out⟩)).cell 1
      have e1 : IntKind.i64.wrap ((at_ : Int) + 1) = (at_ : Int) + 1 := by rw [IntKind.wrap_i64]; omega
      have e2 : IntKind.i64.wrap ((at_ : Int) + 1 + k) = (at_ : Int) + 1 + k := by rw [IntKind.wrap_i64]; omega
      clear hh h64
      go_wp2_with fail
      refine wp_region_grow (List.replicate 13 true ++ [false, false, true]) [a, S.m] (by kernel_rfl) (fun _ _ d _ _ h => by cases d <;> exact h) (by kernel_rfl) rfl (by kernel_rfl) ?_
      simp only [List.replicate_succ, List.replicate_zero, List.cons_append, List.nil_append, List.zip_cons_cons, List.zip_nil_left]
      repeat (apply wpGrow_take; (case hw => rfl); (case hv => intro w' hk; go_simp; with_reducible rfl); simp only [Act.put, List.setIfInBounds_toArray, List.set_cons_zero, List.set_cons_succ])
      refine wpGrow_force (by rfl) (fun K hK => ?_)
      go_simp
      refine (piece_any mb 0 _ _ k _ (by omega) (Nat.le_refl _) (by omega)).mono ?_
      rintro e w6 ⟨rfl, rfl⟩
      refine hK _ _ (Kept.refl _ _) ?_
      clear hK K
      refine wpGrow_force (by rfl) (fun K hK => ?_)
      go_simp
      obtain ⟨⟨y, Sy⟩, hy⟩ : ∃ y, Sk.wr ((at_ : Int) + 1 + k) (blkOf M k) = y := ⟨_, rfl⟩
      refine (write_put a Sk _ _ (blkOf M k) _ HS4.out.disk (by have := HS4.out.writes; have := HW.out; omega) (.inl (.inl ⟨mb, k * 64, 64, by rw [H64.out], (Array.getElem?_eq_some_iff.1 HH.out).1, range_blk (range_row HH.out) k⟩)) y Sy hy).mono ?_
      rw [HS4.out.m]
      rintro e w5 ⟨rfl, hd5, hk5⟩
      refine hK _ _ hk5 ?_
      clear hK K CA CB
      have HD5 := Lib.hid hd5
      have HK5 := Lib.hid hk5
      have HY : Hid (Sk.wr (storeL at_ M (spanN len))[k].1 (storeL at_ M (spanN len))[k].2 = (y, Sy)) := by
        show _ = _
        rw [storeL_get]; exact hy
      have hj5 := Lib.hid (hj4.out.kept hk5 (by simp; exact ⟨hja.out, hjm.out⟩))
      clear hd5 hk5 hy e1 e2
      by_cases hy0 : y = 0
      · subst hy0
        have HN := Lib.hid (HS4.out.ok hkl' Sy HY.out HD5.out HK5.out)
        repeat (apply wpGrow_take; (case hw => rfl); (case hv => intro w' hk; go_simp; with_reducible rfl); simp only [Act.put, List.setIfInBounds_toArray, List.set_cons_zero, List.set_cons_succ])
        refine wpGrow_nil ?_
        go_wp2_with fail
        go_roundw
        case rel => exact ⟨k + 1, Sy, by omega, by go_num, HN⟩
        case measure => simp [intOf]; omega
      · have hy' : (y != 0) = true := by rw [bne_iff_ne]; exact hy0
        repeat (apply wpGrow_take; (case hw => rfl); (case hv => intro w' hk; go_simp; with_reducible rfl); simp only [Act.put, List.setIfInBounds_toArray, List.set_cons_zero, List.set_cons_succ])
        refine wpGrow_nil ?_
        go_wp2_with fail
        go_ret
        refine ⟨M, HM.out.pack, HM.out.len, ?_⟩
        rw [HS4.out.bad hkl' y Sy HY.out hy0]
        exact ⟨rfl, HD5.out, hj5.out, (HM.out.kept.mono (by simp)).trans (HS4.out.kept.trans HK5.out)⟩
    · obtain rfl : k = spanN len := by omega
      go_wp2_with fail
      go_ret
      refine ⟨M, HM.out.pack, HM.out.len, ?_⟩
      have hall := HS.out
      have e : spanN len = (storeL at_ M (spanN len)).length := (storeL_length _ _ _).symm
      have hall2 : WrsSt w1 a S (storeL at_ M (spanN len)) (storeL at_ M (spanN len)).length Sk wr := by rw [← e]; exact hall
      rw [hall2.all]
      exact ⟨rfl, HS.out.disk, hj'.out, (HM.out.kept.mono (by simp)).trans HS.out.kept⟩
end Go.Proofs.YtiedoocgbajjjaaGreatDoor

namespace Go.Proofs.YtiedoocgbajjjaaGreatDoor
open Go.RowKit Go.Maps
set_option maxRecDepth 100000

theorem infoPut : (Tryz.prog.info? 169).map (fun i => (i.zero, i.size, i.bytes)) = some (some (.agg #[.int .i64 0, .slice none 0 0]), 2, 32) := by kernel_rfl

theorem run_make_puts (w : World) (n : Nat) (h : n ≤ 4096) : ∃ A : Array Value, A.size = 2 * n ∧
    (Instr.makeSlice 135 (.int .i64 (n : Int)) (.int .i64 (n : Int))).run Tryz.prog w = .ok (.slice (some ⟨w.heap.size, 0, none⟩) n n) (w.alloc (.cells A 169)) := by
  obtain ⟨i, hi', hz, hs, hb⟩ := info_parts infoPut
  have hr := run_make (P := Tryz.prog) w 135 169 i _ Tryz.underlying135 hi' hz .i64 .i64 n n (by omega) (Int.le_refl _) (by rw [hb]; omega) (by omega)
  refine ⟨_, ?_, hr⟩
  rw [hs]
  simp [madeCells]
  omega

def numM (M : List UInt8) (i : Nat) : Nat := 256 * (M.getD (2 * i) 0).toNat + (M.getD (2 * i + 1) 0).toNat
def unpackL (M : List UInt8) (n : Nat) : List PutL := (List.range n).map fun (i : Nat) => ((numM M i : Int), blkOf M (tabN n + i))

structure UpSt (w : World) (M : List UInt8) (n k mb : Nat) (A : Array Value) (pb : Nat) (wr : World) : Prop where
  here : wr.heap[pb]? = some (.cells A 169)
  size : A.size = 2 * n
  each : ∀ i, i < k → A[i * 2]? = some (.int .i64 (numM M i)) ∧ A[i * 2 + 1]? = some (.slice (some ⟨mb, (tabN n + i) * 64, none⟩) 64 64)
  new : w.heap.size ≤ pb
  kept : Kept [] w wr

set_option maxRecDepth 100000 in
set_option maxHeartbeats 2000000 in
theorem unpack_walk (mao : Option Addr) (mb len cap n : Nat) (M : List UInt8) (w : World) (hn : n ≤ 192) (hM : M.length = len) (hlen : len = spanN n * 64) (hcap : len ≤ cap) (hcap2 : cap ≤ 9223372036854775807)
    (hm : 0 < n → mao = some ⟨mb, 0, none⟩ ∧ mb < w.heap.size ∧ w.rangeAt mb 0 (bv M)) :
    Calls Tryz.prog 133 #[.slice mao len cap, .int .i64 n] w fun e w' => ∃ pb A, e = .returned (.slice (some ⟨pb, 0, none⟩) n n) ∧ UpSt w M n n mb A pb w' := by
  have HM := Lib.hid hm
  have HL := Lib.hid hlen
  obtain ⟨A0, hA0, hmk⟩ := run_make_puts w n (by omega)
  clear hm hlen
  go_enter Tryz.func133, Tryz.ntmps133
  go_wp2_with fail
  clear hmk
  go_loopw [10] (fun i wr => ∃ (k : Nat) (A : Array Value), k ≤ n ∧ i = .int .i64 k ∧ Hid (UpSt w M n k mb A w.heap.size wr)) (fun i _ => n - (intOf i).toNat)
  case atStart => exact ⟨0, A0, by omega, rfl, heap_alloc_last _ _, hA0, fun i h0 => by omega, Nat.le_refl _, Kept.alloc _ _ _⟩
  case round =>
    obtain ⟨k, A, hkl, rfl, HS⟩ := hrel
    by_cases hlt : k < n
    · obtain ⟨rfl, hmb, hr⟩ := HM.out (by omega)
      have hk2 : 2 * k + 1 < len := by rw [HL.out]; unfold spanN tabN; omega
      have hlen2 : len < 4611686018427387904 := by rw [HL.out]; unfold spanN tabN; omega
      have hr1 := HS.out.kept.range hmb (by simp) hr
      have g1 : M.getD (2 * k) 0 = M[2 * k]'(by omega) := by simp [List.getD_eq_getElem?_getD, show 2 * k < M.length by omega]
      have g2 : M.getD (2 * k + 1) 0 = M[2 * k + 1]'(by omega) := by simp [List.getD_eq_getElem?_getD, show 2 * k + 1 < M.length by omega]
      have hnm : numM M k = 256 * (M[2 * k]'(by omega)).toNat + (M[2 * k + 1]'(by omega)).toNat := by unfold numM; rw [g1, g2]
      have HNM := Lib.hid hnm
      have HR1 := Lib.hid hr1
      clear hr hr1 g1 g2 hnm
      go_wp2_with fail
      refine (takeNumber_any mb 0 len cap k M _ HR1.out hM hk2 hlen2).mono ?_
      rw [← HNM.out]
      rintro e w3 ⟨rfl, hd3⟩
      have HD3 : Hid (Drawn wr w3) := hd3
      clear hd3
      go_wp2_with fail
      refine (tables_any n _ (by omega)).mono ?_
      rintro e w4 ⟨rfl, rfl⟩
      have htn : tabN n ≤ 192 := by unfold tabN; omega
      go_wp2_with fail
      refine (piece_any mb 0 len cap (tabN n + k) _ (by rw [HL.out]; unfold spanN; omega) hcap hcap2).mono ?_
      rintro e w4 ⟨rfl, rfl⟩
      have hh : w3.heap[w.heap.size]? = some (.cells A 169) := by rw [HD3.out.heap]; exact HS.out.here
      have hsz := HS.out.size
      have c0 : w3.cell? ⟨w.heap.size, k * 2, none⟩ = some (A[k * 2]'(by omega)) := by rw [cell_of_row w3 _ _ _ _ _ hh]; simp
      have c1 : w3.cell? ⟨w.heap.size, k * 2 + 1, none⟩ = some (A[k * 2 + 1]'(by omega)) := by rw [cell_of_row w3 _ _ _ _ _ hh]; simp
      have fr : ∀ q, w3.frozen? ⟨w.heap.size, q, none⟩ = false := fun q => frozen_of_row w3 _ q _ _ hh
      have HH := Lib.hid hh
      clear hh
      go_wp2_with fail
      go_roundw
      case rel =>
        refine ⟨k + 1, (A.setIfInBounds (k * 2) (.int .i64 (numM M k))).setIfInBounds (k * 2 + 1) (.slice (some ⟨mb, (tabN n + k) * 64, none⟩) 64 64), by omega, by go_num, ?_⟩
        have hkk := HD3.out.kept
        refine ⟨heap_setCell_same _ _ _ _ _ _ (heap_setCell_same _ _ _ _ _ _ HH.out), by simpa using hsz, fun i hi => ?_, Nat.le_refl _, ((HS.out.kept.trans hkk).into (Kept.setCell [w.heap.size] _ _ _ (by simp)) (by simp)).into (Kept.setCell [w.heap.size] _ _ _ (by simp)) (by simp)⟩
        simp only [Array.getElem?_setIfInBounds, Array.size_setIfInBounds]
        by_cases e : i = k
        · subst e
          constructor
          · rw [if_neg (by omega), if_pos rfl, if_pos (by omega)]
          · rw [if_pos rfl, if_pos (by omega)]
        · obtain ⟨p1, p2⟩ := HS.out.each i (by omega)
          constructor
          · rw [if_neg (by omega), if_neg (by omega)]; exact p1
          · rw [if_neg (by omega), if_neg (by omega)]; exact p2
      case measure => simp [intOf]; omega
    · obtain rfl : k = n := by omega
      go_wp2_with fail
      go_ret
      exact ⟨w.heap.size, A, rfl, HS.out⟩

theorem unpackL_length (M : List UInt8) (n : Nat) : (unpackL M n).length = n := by simp [unpackL]
theorem unpackL_get (M : List UInt8) (n k : Nat) (h : k < (unpackL M n).length) : (unpackL M n)[k] = ((numM M k : Int), blkOf M (tabN n + k)) := by simp [unpackL]

theorem UpSt.puts {w : World} {M : List UInt8} {n mb : Nat} {A : Array Value} {pb : Nat} {wr : World} (R : UpSt w M n n mb A pb wr) (hn : n ≤ 192) (hM : M.length = spanN n * 64) (hm : 0 < n → mb < w.heap.size ∧ w.rangeAt mb 0 (bv M)) :
    PutsIs wr (some ⟨pb, 0, none⟩) n (unpackL M n) := by
  refine ⟨unpackL_length _ _, by omega, fun h0 => ⟨pb, 0, rfl, fun k hk => ?_⟩⟩
  rw [unpackL_length] at hk
  obtain ⟨p1, p2⟩ := R.each k hk
  obtain ⟨hmb, hr⟩ := hm h0
  have hl : (blkOf M (tabN n + k)).length = 64 := blkOf_length (by rw [hM]; unfold spanN; omega)
  have h1 := UInt8.toNat_lt (M.getD (2 * k) 0)
  have h2 := UInt8.toNat_lt (M.getD (2 * k + 1) 0)
  have hnm : numM M k < 65536 := by unfold numM; omega
  rw [unpackL_get]
  refine ⟨some ⟨mb, (tabN n + k) * 64, none⟩, 64, 64, ?_, ?_, .inl (.inl ⟨mb, (tabN n + k) * 64, 64, by rw [hl], Nat.lt_of_lt_of_le hmb R.kept.size, range_blk (R.kept.range hmb (by simp) hr) _⟩), by simp only; omega, by simp only; omega, by omega⟩
  · rw [cell_of_row wr _ _ _ _ _ R.here, Nat.zero_add]; exact p1
  · rw [cell_of_row wr _ _ _ _ _ R.here, Nat.zero_add]; exact p2

/-- What lies in the journal's first k blocks behind its head. -/
def flatL (S : DiskS) (at_ : Nat) : Nat → List UInt8
  | 0 => []
  | k + 1 => flatL S at_ k ++ S.blk ((at_ : Int) + 1 + k)
theorem flatL_length {w : World} {a : Nat} {S : DiskS} (h : IsDisk w a S) (at_ k : Nat) : (flatL S at_ k).length = k * 64 := by
  induction k with
  | zero => rfl
  | succ k ih => rw [flatL, List.length_append, ih, h.blk64]; omega

structure LdSt (w : World) (a j : Nat) (J : JourS) (S : DiskS) (at_ k : Nat) (v : Value) (wr : World) : Prop where
  disk : IsDisk wr a S
  jour : IsJour wr j J
  own : wr.ownsRow w.heap.size 5 1 v (k * 64) (bv (flatL S at_ k))
  kept : Kept [] w wr

theorem LdSt.cap {w : World} {a j : Nat} {J : JourS} {S : DiskS} {at_ k : Nat} {v : Value} {wr : World} (R : LdSt w a j J S at_ k v wr) : ∃ mao mb cap, v = .slice mao (k * 64) cap ∧ k * 64 ≤ cap ∧ cap ≤ 9223372036854775807 ∧ (0 < k → mao = some ⟨mb, 0, none⟩ ∧ mb < wr.heap.size ∧ wr.rangeAt mb 0 (bv (flatL S at_ k))) := by
  obtain ⟨h1, ⟨rfl, h2⟩ | ⟨g, cap, cur, rfl, hb, hg, hc1, hc2, hcs, htk⟩⟩ := R.own
  · exact ⟨none, 0, 0, by rw [h2], by omega, by omega, fun h => by omega⟩
  · refine ⟨some ⟨g, 0, none⟩, g, cap, rfl, hc1, by unfold maxLen at hc2; omega, fun _ => ⟨rfl, (Array.getElem?_eq_some_iff.1 hg).1, fun q u hu => ?_⟩⟩
    rw [← htk] at hu
    have hq : q < k * 64 * 1 := by
      have := (List.getElem?_eq_some_iff.1 hu).1
      simp at this; omega
    rw [List.getElem?_take_of_lt hq] at hu
    rw [Nat.zero_add, cell_of_row wr g q _ _ _ hg]
    simpa using hu

set_option maxRecDepth 100000 in
set_option maxHeartbeats 2000000 in
theorem load_walk (j : Nat) (J : JourS) (S : DiskS) (w : World) (hj : IsJour w j J) (hd : IsDisk w J.a S) (hn : J.n ≤ 192) (hat : (J.at_ : Int) + 199 ≤ S.size) (hoff : S.off = false)
    (hg : Grp J.at_ S.size (unpackL (flatL S J.at_ (spanN J.n)) J.n)) :
    Calls Tryz.prog 114 #[.pointer (some ⟨j, 0, none⟩)] w fun e w' => ∃ ao, e = .returned (.tuple #[.slice ao J.n J.n, .int .i64 0]) ∧ PutsIs w' ao J.n (unpackL (flatL S J.at_ (spanN J.n)) J.n) ∧ Kept [] w w' := by
  have HJ := Lib.hid hj
  have HD := Lib.hid hd
  have HG := Lib.hid hg
  have HO := Lib.hid hoff
  have hs1 := hd.s1
  obtain ⟨a, at_, g0, o0, n⟩ := J
  simp only at hn hat
  have c4 : w.cell? ⟨j, 4, none⟩ = some (.int .i64 n) := hj.cell 4
  have hsp : spanN n ≤ 198 := by unfold spanN tabN; omega
  clear hj hd hg hoff
  go_enter Tryz.func114, Tryz.ntmps114
  go_wp2_with fail
  refine (span_any n _ (by omega)).mono ?_
  rintro e w2 ⟨rfl, rfl⟩
  go_wp2_with fail
  clear c4
  go_loopw [4, 15] (fun v i wr => ∃ (k : Nat), k ≤ spanN n ∧ i = .int .i64 k ∧ Hid (LdSt w a j ⟨a, at_, g0, o0, n⟩ S at_ k v wr)) (fun _ i _ => spanN n - (intOf i).toNat)
  case atStart => exact ⟨0, by omega, rfl, HD.out, HJ.out, World.ownsRow_nil _ _ _ _, Kept.refl _ _⟩
  case round =>
    obtain ⟨k, hkl, rfl, HS⟩ := hrel
    by_cases hlt : k < spanN n
    · have hk4 : Kept [] wr wr.drew := Kept.drew [] wr
      have HD4 := Lib.hid (HS.out.disk.kept hk4 (by simp) (by simp))
      have HJ4 := Lib.hid (HS.out.jour.kept hk4 (by simp))
      have CA : ∀ w', Kept [] wr.drew w' → w'.cell? ⟨j, 0, none⟩ = some (.pointer (some ⟨a, 0, none⟩)) := fun w' hk => (HJ4.out.kept hk (by simp)).cell 0
      have CB : ∀ w', Kept [] wr.drew w' → w'.cell? ⟨j, 1, none⟩ = some (.int .i64 at_) := fun w' hk => (HJ4.out.kept hk (by simp)).cell 1
      have e1 : IntKind.i64.wrap ((at_ : Int) + 1) = (at_ : Int) + 1 := by rw [IntKind.wrap_i64]; omega
      have e2 : IntKind.i64.wrap ((at_ : Int) + 1 + k) = (at_ : Int) + 1 + k := by rw [IntKind.wrap_i64]; omega
      have hre : S.reach ((at_ : Int) + 1 + k) = 0 := by
        unfold DiskS.reach
        rw [HO.out, if_neg (by simp), if_neg (by omega)]
      have HRE := Lib.hid hre
      clear hk4 hre
      go_wp2_with fail
      refine wp_region_grow (List.replicate 11 true ++ [false] ++ List.replicate 5 true) [] (by kernel_rfl) (fun _ _ d _ _ h => by cases d <;> exact h) (by kernel_rfl) rfl (by kernel_rfl) ?_
      simp only [List.replicate_succ, List.replicate_zero, List.cons_append, List.nil_append, List.zip_cons_cons, List.zip_nil_left]
      repeat (apply wpGrow_take; (case hw => rfl); (case hv => intro w' hk; go_simp; with_reducible rfl); simp only [Act.put, List.setIfInBounds_toArray, List.set_cons_zero, List.set_cons_succ])
      refine wpGrow_force (by rfl) (fun K hK => ?_)
      go_simp
      refine (read_ok a S _ _ HD4.out HRE.out).mono ?_
      rintro e w6 ⟨rfl, hw6⟩
      have hk6 : Kept [] wr.drew w6 := by rw [hw6]; exact Kept.alloc _ _ _
      refine hK _ _ hk6 ?_
      clear hK K CA CB e1 e2
      have hr6 : w6.rangeAt wr.heap.size 0 (bv (S.blk ((at_ : Int) + 1 + k))) := by rw [hw6]; exact range_row (heap_alloc_last wr.drew _)
      have ho6 : w6.ownsRow w.heap.size 5 1 u4 (k * 64) (bv (flatL S at_ k)) := by rw [hw6]; exact HS.out.own.drew.alloc _
      have hb64 := HS.out.disk.blk64 ((at_ : Int) + 1 + k)
      have hs6 : w.heap.size ≤ w6.heap.size := Nat.le_trans HS.out.kept.size hk6.size
      obtain ⟨i, hi', hz, hs, hb⟩ := info_parts infoByte
      obtain ⟨v', w7, hrun, hown, hgr, _⟩ := run_append_own (P := Tryz.prog) w6 w.heap.size 22 22 5 i _ 1 1 Tryz.underlying22 hi' hz hs hb rfl (by omega) u4 (k * 64) _ ho6 ⟨wr.heap.size, 0, none⟩ 64 64 (bv (S.blk ((at_ : Int) + 1 + k))) (by rw [bv_length, hb64]) (fun q u hu => by rw [Addr.add_mid]; exact hr6 q u hu) (bv_one _) (by unfold maxLen; omega) (by omega) hs6
      have hown7 : w7.ownsRow w.heap.size 5 1 v' ((k + 1) * 64) (bv (flatL S at_ (k + 1))) := by
        rw [show (k + 1) * 64 = k * 64 + 64 by omega, flatL, show bv (flatL S at_ k ++ S.blk ((at_ : Int) + 1 + k)) = bv (flatL S at_ k) ++ bv (S.blk ((at_ : Int) + 1 + k)) by simp [bv]]
        exact hown
      have hk7 : Kept [] w w7 := by
        refine ((HS.out.kept.trans (Kept.drew _ _)).trans hk6).into (Kept.grown (ex := u4.ownBlock.toList) hgr (fun q hq => by simp [hq])) (fun q hq => ?_)
        have := HS.out.own.lt q (by simpa using hq)
        exact this.1
      have HN := Lib.hid ({ disk := HD.out.kept hk7 (by simp) (by simp), jour := HJ.out.kept hk7 (by simp), own := hown7, kept := hk7 } : LdSt w a j ⟨a, at_, g0, o0, n⟩ S at_ (k + 1) v' w7)
      have HRUN := Lib.hid hrun
      clear hw6 hk6 hr6 ho6 hb64 hs6 hi' hz hs hb hrun hown hgr hown7 hk7
      repeat (apply wpGrow_take; (case hw => rfl); (case hv => intro w' hk; go_simp; with_reducible rfl); simp only [Act.put, List.setIfInBounds_toArray, List.set_cons_zero, List.set_cons_succ])
      refine wpGrow_nil ?_
      go_wp2_with (refine wpList_append_run rfl _ _ 22 rfl _ _ _ rfl rfl HRUN.out ?_)
      go_roundw
      case rel => exact ⟨k + 1, by omega, by go_num, HN⟩
      case measure => simp [intOf]; omega
    · obtain rfl : k = spanN n := by omega
      obtain ⟨mao, mb, cap, rfl, hcap, hcap2, hm⟩ := HS.out.cap
      have c4 : wr.cell? ⟨j, 4, none⟩ = some (.int .i64 n) := HS.out.jour.cell 4
      have hfl := flatL_length HS.out.disk at_ (spanN n)
      have hm2 : 0 < n → mao = some ⟨mb, 0, none⟩ ∧ mb < wr.heap.size ∧ wr.rangeAt mb 0 (bv (flatL S at_ (spanN n))) := fun h => hm (by unfold spanN; omega)
      have HM := Lib.hid hm2
      have HFL := Lib.hid hfl
      clear hm hm2 hfl
      go_wp2_with fail
      refine (unpack_walk mao mb _ cap n (flatL S at_ (spanN n)) _ hn HFL.out rfl hcap hcap2 HM.out).mono ?_
      rintro e w5 ⟨pb, A, rfl, hu⟩
      have hp5 := hu.puts hn HFL.out (fun h => (HM.out h).2)
      have HP5 := Lib.hid hp5
      have HU := Lib.hid hu
      clear hp5 hu c4
      go_wp2_with fail
      refine (isGroup_walk j ⟨a, at_, g0, o0, n⟩ S (some ⟨pb, 0, none⟩) n n (unpackL (flatL S at_ (spanN n)) n) _ (HS.out.jour.kept HU.out.kept (by simp)) (HS.out.disk.kept HU.out.kept (by simp) (by simp)) HP5.out (by simp only; omega) true ⟨fun _ => HG.out, fun _ => rfl⟩).mono ?_
      rintro e w6 ⟨rfl, hk6⟩
      have HK6 := Lib.hid hk6
      clear hk6
      go_wp2_with fail
      go_ret2
      exact ⟨some ⟨pb, 0, none⟩, rfl, HP5.out.kept HK6.out (Off.nil _), HS.out.kept.trans (HU.out.kept.trans HK6.out)⟩
end Go.Proofs.YtiedoocgbajjjaaGreatDoor

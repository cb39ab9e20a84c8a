/-
  Layer 12: the walk of SyntaxTree, over what Parse answers.
  Conditions: those that each theorem states.
-/
import Derived.Test.YtlbenaodpfhjeaaURLex
import Derived.Test.YtlbenaodpfhjeaaVMem
namespace Go.Proofs.Ytlbenaodpfhjeaa
open Go.RowKit Go.Maps

set_option maxHeartbeats 4000000 in
theorem words12_any (S : ByteArray) (w : World) (hs : S.size ≤ 9223372036854775807) : Calls Try.prog 8 #[.string S] w fun e w' => ∃ v, e = .returned v ∧ WsIs w' v (lxW (bl S)) ∧ Kept [] w w' := by
  go_enter Try.func8, Try.ntmps8
  go_wp2_with fail
  refine (rlex_any S w hs).mono ?_
  rintro e w2 ⟨v, rfl, how, hk⟩
  have H := Lib.hid (show WsIs w2 v (lxW (bl S)) ∧ Kept [] w w2 from ⟨how.es, hk⟩)
  clear how hk
  go_wp2_with fail
  go_ret
  exact ⟨v, rfl, H.out.1, H.out.2⟩
/-- The document's examples hold. -/
def ShC : Prop := ∀ w : World, Calls Try.prog 6 #[] w fun e w' => e = .returned (.bool true) ∧ Kept [] w w'

/-- Two rows of numbers of the call's own. -/
structure TwoR (w wr : World) (gB gF : Nat) (B F : List Nat) : Prop where
  kept : Kept [] w wr
  hB : wr.heap[gB]? = some (.cells (nvA B) 3)
  hF : wr.heap[gF]? = some (.cells (nvA F) 3)
  ne : gB ≠ gF
  newB : w.heap.size ≤ gB
  newF : w.heap.size ≤ gF
theorem TwoR.cellB {w wr : World} {gB gF : Nat} {B F : List Nat} (h : TwoR w wr gB gF B F) (k : Nat) (hk : k < B.length) : wr.cell? ⟨gB, k, none⟩ = some (.int .i64 (B[k] : Int)) := by
  rw [cell_of_row _ _ _ _ _ _ h.hB, nvA_get B k hk]
theorem TwoR.cellF {w wr : World} {gB gF : Nat} {B F : List Nat} (h : TwoR w wr gB gF B F) (k : Nat) (hk : k < F.length) : wr.cell? ⟨gF, k, none⟩ = some (.int .i64 (F[k] : Int)) := by
  rw [cell_of_row _ _ _ _ _ _ h.hF, nvA_get F k hk]
theorem TwoR.setB {w wr : World} {gB gF : Nat} {B F : List Nat} (h : TwoR w wr gB gF B F) (k c : Nat) : TwoR w (wr.setCell ⟨gB, k, none⟩ (.int .i64 (c : Int))) gB gF (B.set k c) F := by
  refine ⟨h.kept.setNew _ _ h.newB, ?_, ?_, h.ne, h.newB, h.newF⟩
  · rw [heap_setCell_same _ _ _ _ _ _ h.hB, nvA_set]
  · exact (Kept.setCell [gB] wr ⟨gB, k, none⟩ _ (by simp)).heap (by simpa using fun e => h.ne e.symm) h.hF
theorem TwoR.setF {w wr : World} {gB gF : Nat} {B F : List Nat} (h : TwoR w wr gB gF B F) (k c : Nat) : TwoR w (wr.setCell ⟨gF, k, none⟩ (.int .i64 (c : Int))) gB gF B (F.set k c) := by
  refine ⟨h.kept.setNew _ _ h.newF, ?_, ?_, h.ne, h.newB, h.newF⟩
  · exact (Kept.setCell [gF] wr ⟨gF, k, none⟩ _ (by simp)).heap (by simpa using h.ne) h.hB
  · rw [heap_setCell_same _ _ _ _ _ _ h.hF, nvA_set]

theorem stN_le (ns : List Nod) (i : Nat) : stN ns i ≤ i := by
  induction i using Nat.strongRecOn with
  | _ i ih =>
    unfold stN
    split
    · exact Nat.le_refl _
    · split
      · rename_i h
        have := ih _ h
        omega
      · exact Nat.le_refl _
theorem bk_take {ns : List Nod} {ks : List Nat} {nx q r : Nat} (hq : q < ks.length) (h : bk ns nx (ks.take (q + 1)).reverse = some r) : ks[q] + 1 = nx ∧ bk ns (stN ns ks[q]) (ks.take q).reverse = some r := by
  rw [List.take_succ_eq_append_getElem hq, List.reverse_append] at h
  change bk ns nx (ks[q] :: (ks.take q).reverse) = some r at h
  unfold bk at h
  split at h
  · rename_i e; exact ⟨e, h⟩
  · cases h
theorem count_take {ks : List Nat} {k : Nat} (h : k < ks.length) (j : Nat) : (ks.take (k + 1)).count j = (ks.take k).count j + if ks[k] = j then 1 else 0 := by
  rw [List.take_succ_eq_append_getElem h, List.count_append]
  simp [List.count_singleton]
theorem cntN_mono (ns : List Nod) (a j : Nat) {m k : Nat} (h : m ≤ k) : cntN ns a m j ≤ cntN ns a k j := by
  obtain ⟨d, rfl⟩ : ∃ d, k = m + d := ⟨k - m, by omega⟩
  rw [cntN_add]
  omega
theorem cnt_few {ns : List Nod} (h : ArOk ns) {i x k : Nat} (hi : i < ns.length) (hx : x < ns.length) : cntN ns 0 i x + ((kidsN ns i).take k).count x ≤ 1 := by
  have h1 := h.seg.count x (by omega) hx
  have h2 := cntN_mono ns 0 x (show i + 1 ≤ ns.length by omega)
  have h3 : cntN ns 0 (i + 1) x = cntN ns 0 i x + (kidsN ns i).count x := by simp [cntN]
  have h4 : ((kidsN ns i).take k).count x ≤ (kidsN ns i).count x := (List.take_sublist k _).count_le x
  rw [Nat.sub_zero] at h1
  omega
/-- A cell of a row that may be written. -/
theorem TwoR.frozB {w wr : World} {gB gF : Nat} {B F : List Nat} (h : TwoR w wr gB gF B F) (k : Nat) : wr.frozen? ⟨gB, k, none⟩ = false := frozen_of_row _ _ _ _ _ h.hB
theorem TwoR.frozF {w wr : World} {gB gF : Nat} {B F : List Nat} (h : TwoR w wr gB gF B F) (k : Nat) : wr.frozen? ⟨gF, k, none⟩ = false := frozen_of_row _ _ _ _ _ h.hF

set_option maxRecDepth 100000 in
set_option maxHeartbeats 8000000 in
theorem tree_walk (hsh : ShC) (hp : ParC) (S : ByteArray) (w : World) (hs : S.size ≤ 9223372036854775807) : Calls Try.prog 3 #[.string S] w fun e w' => e = .returned (.bool true) ∧ Kept [] w w' := by
  have HSH := Lib.hid hsh
  have HPC := Lib.hid hp
  clear hsh hp
  go_enter Try.func3, Try.ntmps3
  go_wp2_with fail
  refine (HSH.out w).mono ?_
  rintro e w1 ⟨rfl, hk1⟩
  have HK1 := Lib.hid hk1
  clear hk1
  go_wp2_with fail
  refine (words12_any S w1 hs).mono ?_
  rintro e w2 ⟨vw, rfl, hws, hk2⟩
  have H2 := Lib.hid (show WsIs w2 vw (lxW (bl S)) ∧ Kept [] w w2 from ⟨hws, HK1.out.trans hk2⟩)
  clear hws hk2
  go_wp2_with fail
  obtain ⟨T, hT⟩ : ∃ T, (lxW (bl S)).map tkW = T := ⟨_, rfl⟩
  refine (HPC.out vw T w2 (by rw [← hT]; exact H2.out.1.tk)).mono ?_
  rintro e w3 ⟨va, rfl, hnd, hk3⟩
  obtain ⟨ns, hns⟩ : ∃ n, (parO T).1 = n := ⟨_, rfl⟩
  obtain ⟨pa, hpa⟩ : ∃ n, (parO T).2.1 = n := ⟨_, rfl⟩
  obtain ⟨pe, hpe⟩ : ∃ n, (parO T).2.2 = n := ⟨_, rfl⟩
  rw [hns] at hnd
  rw [hpa, hpe]
  have HPE := Lib.hid (show (parO T).1 = ns ∧ (parO T).2.2 = pe from ⟨hns, hpe⟩)
  obtain ⟨ao, cap, hva, hcap, hcap2, hcell⟩ := hnd
  have H3 : Hid (Kept [] w w3) := H2.out.2.trans hk3
  obtain ⟨n, hn⟩ : ∃ n, ns.length = n := ⟨_, rfl⟩
  have HN := Lib.hid hn
  have HCELL := Lib.hid hcell
  rw [hn] at hva hcap
  subst hva
  obtain ⟨w4, hw4⟩ : ∃ w4, w3.alloc (.cells #[.slice ao n cap] 25) = w4 := ⟨_, rfl⟩
  obtain ⟨P, hP⟩ : ∃ P, w3.heap.size = P := ⟨_, rfl⟩
  have H4 : Hid (w4.heap[P]? = some (.cells #[.slice ao n cap] 25) ∧ Kept [] w3 w4) := by
    rw [← hw4, ← hP]
    exact ⟨heap_alloc_last _ _, Kept.alloc _ _ _⟩
  have c4 : w4.cell? ⟨P, 0, none⟩ = some (.slice ao n cap) := cell_of_row _ _ 0 _ _ _ H4.out.1
  clear hns hpa hpe hn hT hk3 hcell
  by_cases hok : pe = 0
  case neg =>
    have hz : n = 0 := by
      rw [← HN.out, ← HPE.out.1, par_no (by rw [HPE.out.2]; exact hok)]
      rfl
    have hoki : ¬ (pe : Int) = 0 := by omega
    subst hz
    go_wp2_with fail
    go_ret
    exact ⟨rfl, H3.out.trans H4.out.2⟩
  case pos =>
  subst hok
  have HAR : Hid (ArOk ns) := by show ArOk _; rw [← HPE.out.1]; exact par_ok HPE.out.2
  have hn0 : 0 < n := by rw [← HN.out]; exact HAR.out.pos
  have hn1 : n ≤ 1024 := by rw [← HN.out]; exact HAR.out.few
  have hnp : ¬ (n : Int) = 0 := by omega
  have hn1i : decide ((1024 : Int) < (n : Int)) = false := decide_eq_false (by omega)
  have hn2i : ((n : Int) == 0) = false := by simp; omega
  have hmk1 : ∀ wx : World, (Instr.makeSlice 31 (.int .i64 (n : Int)) (.int .i64 (n : Int))).run Try.prog wx = .ok (.slice (some ⟨wx.heap.size, 0, none⟩) n n) (wx.alloc (.cells (nvA (List.replicate n 0)) 3)) := fun wx => run_make_ints wx _ _ Try.underlying31 (by kernel_rfl) n (by omega)
  obtain ⟨w5, hw5⟩ : ∃ w5, w4.alloc (.cells (nvA (List.replicate n 0)) 3) = w5 := ⟨_, rfl⟩
  obtain ⟨gB, hgB⟩ : ∃ g, w4.heap.size = g := ⟨_, rfl⟩
  obtain ⟨w6, hw6⟩ : ∃ w6, w5.alloc (.cells (nvA (List.replicate n 0)) 3) = w6 := ⟨_, rfl⟩
  obtain ⟨gF, hgF⟩ : ∃ g, w5.heap.size = g := ⟨_, rfl⟩
  have H6 : Hid (TwoR w4 w6 gB gF (List.replicate n 0) (List.replicate n 0)) := by
    have h5 : w5.heap.size = w4.heap.size + 1 := by rw [← hw5]; simp
    refine ⟨?_, ?_, ?_, by omega, by omega, by omega⟩
    · rw [← hw6, ← hw5]; exact (Kept.alloc _ _ _).trans (Kept.alloc _ _ _)
    · rw [← hw6]
      exact (Kept.alloc [] w5 _).heap (by simp) (by rw [← hw5, ← hgB]; exact heap_alloc_last _ _)
    · rw [← hw6, ← hgF]; exact heap_alloc_last _ _
  have c5 : w5.cell? ⟨P, 0, none⟩ = some (.slice ao n cap) := by
    rw [← hw5]
    exact ((Kept.alloc [] w4 _).cell (p := ⟨P, 0, none⟩) (Array.getElem?_eq_some_iff.1 H4.out.1).1 (by simp)).trans c4
  have hmk4 := hmk1 w4
  have hmk5 := hmk1 w5
  rw [hw5, hgB] at hmk4
  rw [hw6, hgF] at hmk5
  clear hmk1 hw5 hw6 hgB hgF
  go_wp2_with fail
  go_loopw [9] (fun si wr => ∃ (i : Nat) (B F : List Nat), si = .int .i64 i ∧ i ≤ n ∧ Hid (TwoR w4 wr gB gF B F ∧ B.length = n ∧ F.length = n ∧ (∀ j (h : j < B.length), B[j] = cntN ns 0 i j) ∧ (∀ j (h : j < F.length), j < i → F[j] = stN ns j))) (fun si _ => n - (intOf si).toNat)
  case atStart => exact ⟨0, _, _, rfl, by omega, H6.out, by simp, by simp, fun j h => by simp [cntN], fun j h h0 => by omega⟩
  case round =>
    obtain ⟨i, B, F, rfl, hi, HS⟩ := hrel
    have hPlt : P < w4.heap.size := (Array.getElem?_eq_some_iff.1 H4.out.1).1
    have HPA : Hid (∀ w', Kept [] w4 w' → w'.cell? ⟨P, 0, none⟩ = some (.slice ao n cap)) := fun w' hk => (hk.cell (p := ⟨P, 0, none⟩) hPlt (by simp)).trans c4
    have a0 := HPA.out wr HS.out.1.kept
    by_cases hlt : i < n
    · have hil : i < ns.length := by rw [HN.out]; exact hlt
      obtain ⟨b, o, rfl, hb, hc⟩ := HCELL.out (by omega)
      obtain ⟨_, _, lv, hlv, hks⟩ := hc i hil
      obtain ⟨ks, hkse⟩ : ∃ k, ns[i].ks = k := ⟨_, rfl⟩
      rw [hkse] at hks
      have hkid : kidsN ns i = ks := by unfold kidsN; rw [List.getElem?_eq_getElem hil]; exact hkse
      obtain ⟨ao2, cap2, rfl, hcp2, hcp3, hkc⟩ := hks
      obtain ⟨m, hm⟩ : ∃ m, ks.length = m := ⟨_, rfl⟩
      have HKS : Hid (ks.length = m ∧ kidsN ns i = ks ∧ (∀ x ∈ ks, x < i) ∧ (0 < ks.length → ∃ b o, ao2 = some ⟨b, o, none⟩ ∧ b < w3.heap.size ∧ ∀ j (hj : j < ks.length), w3.cell? ⟨b, o + j, none⟩ = some (.int .i64 (ks[j] : Int)))) :=
        ⟨hm, hkid, fun x hx => (HAR.out.seg.kids i (by omega) (by rw [HN.out]; exact hlt) x (by rw [hkid]; exact hx)).2, hkc⟩
      have HBK : Hid (bk ns i ks.reverse = some (stN ns i)) := by
        have := (HAR.out.seg.begins.1 i (by omega) (by rw [HN.out]; exact hlt)).1
        rw [hkid] at this
        exact this
      have HLV : Hid (∀ w', Kept [] w4 w' → w'.cell? ⟨b, o + i * 3 + 2, none⟩ = some (.slice ao2 m cap2)) := fun w' hk => by
        rw [← hm]
        exact ((H4.out.2.trans hk).cell (p := ⟨b, o + i * 3 + 2, none⟩) hb (by simp)).trans hlv
      rw [hm] at hcp2
      have hiF : i < F.length := by rw [HS.out.2.2.1]; exact hlt
      have cF := HS.out.1.cellF i hiF
      have fF := HS.out.1.frozF i
      obtain ⟨u1, hu1⟩ : ∃ u, wr.setCell ⟨gF, i, none⟩ (.int .i64 (i : Int)) = u := ⟨_, rfl⟩
      have HU1 : Hid (TwoR w4 u1 gB gF B (F.set i i)) := by show TwoR _ _ _ _ _ _; rw [← hu1]; exact HS.out.1.setF i i
      have a1 := HPA.out u1 HU1.out.kept
      have a2 := HLV.out u1 HU1.out.kept
      clear hkse hkid hkc hm hlv hc
      go_wp2_with fail
      clear a0 a1 a2 cF fF hu1
      go_loopw [11] (fun sk wx => ∃ (k : Nat) (Bk : List Nat), sk = .int .i64 k ∧ k ≤ m ∧ Hid (TwoR w4 wx gB gF Bk (F.set i i) ∧ Bk.length = n ∧ (∀ j (h : j < Bk.length), Bk[j] = cntN ns 0 i j + (ks.take k).count j))) (fun sk _ => m - (intOf sk).toNat)
      case atStart => exact ⟨0, B, rfl, by omega, HU1.out, HS.out.2.1, fun j h => by rw [HS.out.2.2.2.1 j h]; simp⟩
      case round =>
        obtain ⟨k, Bk, rfl, hk, HQ⟩ := hrel
        by_cases hkm : k < m
        · have hkl : k < ks.length := by rw [HKS.out.1]; exact hkm
          obtain ⟨b2, o2, rfl, hb2, hc2⟩ := HKS.out.2.2.2 (by omega)
          obtain ⟨x, hx⟩ : ∃ x, ks[k] = x := ⟨_, rfl⟩
          have hxi : x < i := by rw [← hx]; exact HKS.out.2.2.1 _ (List.getElem_mem hkl)
          have y0 := ((H4.out.2.trans HQ.out.1.kept).cell (p := ⟨b2, o2 + k, none⟩) hb2 (by simp)).trans (hc2 k hkl)
          rw [hx] at y0
          have hxB : x < Bk.length := by rw [HQ.out.2.1]; omega
          obtain ⟨bx, hbx⟩ : ∃ v, Bk[x] = v := ⟨_, rfl⟩
          have cB := HQ.out.1.cellB x hxB
          rw [hbx] at cB
          have fB := HQ.out.1.frozB x
          have hbig : bx ≤ 1 := by
            have h1 := HQ.out.2.2 x hxB
            have h2 := cnt_few (k := k) HAR.out hil (show x < ns.length by omega)
            rw [HKS.out.2.1] at h2
            omega
          have q1 : decide ((x : Int) < 0) = false := decide_eq_false (by omega)
          have q2 : decide ((i : Int) ≤ (x : Int)) = false := decide_eq_false (by omega)
          obtain ⟨u2, hu2⟩ : ∃ u, wr.setCell ⟨gB, x, none⟩ (.int .i64 ((bx : Int) + 1)) = u := ⟨_, rfl⟩
          have HU2 : Hid (TwoR w4 u2 gB gF (Bk.set x (bx + 1)) (F.set i i)) := by show TwoR _ _ _ _ _ _; rw [← hu2]; exact HQ.out.1.setB x (bx + 1)
          have HB2 : Hid ((Bk.set x (bx + 1)).length = n ∧ ∀ j (h : j < (Bk.set x (bx + 1)).length), (Bk.set x (bx + 1))[j] = cntN ns 0 i j + (ks.take (k + 1)).count j) := by
            refine ⟨by rw [List.length_set]; exact HQ.out.2.1, fun j h => ?_⟩
            rw [List.length_set] at h
            rw [List.getElem_set, count_take hkl, hx]
            by_cases e : x = j
            · subst e
              rw [if_pos rfl, if_pos rfl, ← hbx, HQ.out.2.2 x hxB]
              omega
            · rw [if_neg e, if_neg e, HQ.out.2.2 j h]
              omega
          clear hx hbx hc2
          go_wp2_with fail
          go_roundw
          case rel => exact ⟨k + 1, _, by go_num, by omega, HU2.out, HB2.out⟩
          case measure => simp [intOf]; omega
        · have hkm2 : k = m := by omega
          have HB3 : Hid (TwoR w4 wr gB gF Bk (F.set i i) ∧ Bk.length = n ∧ ∀ j (h : j < Bk.length), Bk[j] = cntN ns 0 (i + 1) j) := by
            refine ⟨HQ.out.1, HQ.out.2.1, fun j h => ?_⟩
            rw [HQ.out.2.2 j h, hkm2, ← HKS.out.1, List.take_length]
            simp only [cntN]
            rw [Nat.zero_add, HKS.out.2.1]
          obtain ⟨wo, rfl⟩ : ∃ wo, wo = wr := ⟨_, rfl⟩
          have hkmi : ¬ (k : Int) < (m : Int) := by omega
          have hsub0 : IntKind.i64.wrap ((m : Int) - 1) = (m : Int) - 1 := by rw [IntKind.wrap_i64]; omega
          clear hkm2 hkm
          go_wp2_with fail
          go_loop [12, 13] (fun sn sk => ∃ nx q : Nat, sn = .int .i64 nx ∧ sk = .int .i64 ((q : Int) - 1) ∧ q ≤ m ∧ nx ≤ n ∧ Hid (bk ns nx (ks.take q).reverse = some (stN ns i))) (fun _ sk => (intOf sk + 1).toNat)
          case atStart => exact ⟨i, m, rfl, rfl, Nat.le_refl _, by omega, by rw [← HKS.out.1, List.take_length]; exact HBK.out⟩
          case round =>
            obtain ⟨nx, q, rfl, rfl, hq, hnx, HN2⟩ := hrel
            cases q with
            | zero =>
              have hnxe : nx = stN ns i := by
                have := HN2.out
                rw [List.take_zero] at this
                exact Option.some.inj this
              have hiF2 : i < (F.set i i).length := by rw [List.length_set]; exact hiF
              have cF := HB3.out.1.cellF i hiF2
              have fF := HB3.out.1.frozF i
              obtain ⟨u3, hu3⟩ : ∃ u, wo.setCell ⟨gF, i, none⟩ (.int .i64 (nx : Int)) = u := ⟨_, rfl⟩
              have HU3 : Hid (TwoR w4 u3 gB gF Bk ((F.set i i).set i nx)) := by show TwoR _ _ _ _ _ _; rw [← hu3]; exact HB3.out.1.setF i nx
              have HF3 : Hid (((F.set i i).set i nx).length = n ∧ ∀ j (h : j < ((F.set i i).set i nx).length), j < i + 1 → ((F.set i i).set i nx)[j] = stN ns j) := by
                refine ⟨by rw [List.length_set, List.length_set]; exact HS.out.2.2.1, fun j h h0 => ?_⟩
                rw [List.length_set, List.length_set] at h
                rw [List.getElem_set]
                by_cases e : i = j
                · rw [if_pos e, hnxe, e]
                · rw [if_neg e, List.getElem_set, if_neg e]
                  exact HS.out.2.2.2.2 j h (by omega)
              have e0 : ((0 : Nat) : Int) - 1 = -1 := rfl
              rw [e0]
              clear hnxe
              go_wp2_with fail
              go_roundw
              case rel => exact ⟨i + 1, Bk, _, by go_num, by omega, HU3.out, HB3.out.2.1, HF3.out.1, HB3.out.2.2, HF3.out.2⟩
              case measure => simp [intOf]; omega
            | succ q =>
              have hql : q < ks.length := by rw [HKS.out.1]; omega
              obtain ⟨b2, o2, rfl, hb2, hc2⟩ := HKS.out.2.2.2 (by omega)
              obtain ⟨hx1, hx2⟩ := bk_take hql HN2.out
              have y0 := ((H4.out.2.trans HB3.out.1.kept).cell (p := ⟨b2, o2 + q, none⟩) hb2 (by simp)).trans (hc2 q hql)
              obtain ⟨x, hx⟩ : ∃ x, ks[q] = x := ⟨_, rfl⟩
              have hxi : x < i := by rw [← hx]; exact HKS.out.2.2.1 _ (List.getElem_mem hql)
              rw [hx] at hx1 hx2 y0
              subst hx1
              have hxF : x < (F.set i i).length := by rw [List.length_set, HS.out.2.2.1]; omega
              have cF := HB3.out.1.cellF x hxF
              have hst : (F.set i i)[x] = stN ns x := by
                rw [List.getElem_set, if_neg (by omega)]
                exact HS.out.2.2.2.2 x (by rw [HS.out.2.2.1]; omega) hxi
              rw [hst] at cF
              obtain ⟨sx, hsx⟩ : ∃ v, stN ns x = v := ⟨_, rfl⟩
              have hsxl : sx ≤ x := by rw [← hsx]; exact stN_le ns x
              rw [hsx] at cF hx2
              have HX2 := Lib.hid hx2
              have e0 : ((q + 1 : Nat) : Int) - 1 = (q : Int) := by omega
              have e1 : IntKind.i64.wrap (((x + 1 : Nat) : Int) - 1) = (x : Int) := by rw [IntKind.wrap_i64]; omega
              have e2 : IntKind.i64.wrap ((q : Int) - 1) = (q : Int) - 1 := by rw [IntKind.wrap_i64]; omega
              rw [e0]
              clear hx hx2 hst hsx hc2 e0
              go_wp2_with fail
              go_round
              case rel => exact ⟨sx, q, rfl, rfl, by omega, by omega, HX2.out⟩
              case measure => simp [intOf]
    · have hin : i = n := by omega
      have HCN : Hid (∀ j (h : j < B.length), B[j] + (if j = n - 1 then 1 else 0) = 1) := fun j h => by
        have h1 := HAR.out.seg.count j (by omega) (by rw [HN.out, ← HS.out.2.1]; exact h)
        rw [Nat.sub_zero, HN.out] at h1
        rw [HS.out.2.2.2.1 j h, hin]
        by_cases e : j = n - 1
        · subst e; simpa using h1
        · rw [if_neg e]
          rw [List.count_eq_zero.2 (by simpa using e)] at h1
          exact h1
      have HST : Hid (stN ns (n - 1) = 0) := by
        have := HAR.out.seg.begins.2.2.1 _ _ rfl
        rw [HN.out] at this
        exact this
      have hni : ¬ (i : Int) < (n : Int) := by omega
      have hsub : IntKind.i64.wrap ((n : Int) - 1) = ((n - 1 : Nat) : Int) := by rw [IntKind.wrap_i64]; omega
      obtain ⟨z, hz⟩ : ∃ z, n - 1 = z := ⟨_, rfl⟩
      rw [hz] at HCN HST hsub
      have hBl : B.length = n := HS.out.2.1
      have hFl : F.length = n := HS.out.2.2.1
      have hzB : z < B.length := by omega
      have hzF : z < F.length := by omega
      have cB := HS.out.1.cellB z hzB
      have cF := HS.out.1.cellF z hzF
      have vB : B[z] = 0 := by
        have := HCN.out z hzB
        rw [if_pos rfl] at this
        omega
      have vF : F[z] = 0 := by rw [HS.out.2.2.2.2 z hzF (by omega), HST.out]
      rw [vB] at cB
      rw [vF] at cF
      obtain ⟨b, o, rfl, hb, hc⟩ := HCELL.out (by rw [HN.out]; omega)
      have hzl : z < ns.length := by rw [HN.out]; omega
      have k0 := (hc z hzl).1
      have hkd : ns[z].kd = 1 := by
        have := HAR.out.top (by rw [HN.out]; omega)
        simp only [HN.out, hz] at this
        exact this
      rw [hkd] at k0
      have k1 : wr.cell? ⟨b, o + z * 3, none⟩ = some (.int .i64 1) := ((H4.out.2.trans HS.out.1.kept).cell (p := ⟨b, o + z * 3, none⟩) hb (by simp)).trans k0
      have hzn : z + 1 = n := by omega
      have HZN := Lib.hid hzn
      have hzi : (z : Int) < (n : Int) := by omega
      clear hin hz hc vB vF k0 hkd hzn
      go_wp2_with fail
      go_loop [14] (fun si => ∃ q : Nat, si = .int .i64 q ∧ q ≤ z) (fun si => z - (intOf si).toNat)
      case atStart => exact ⟨0, rfl, by omega⟩
      case round =>
        obtain ⟨q, rfl, hq⟩ := hrel
        by_cases hqz : q < z
        · have hqB : q < B.length := by omega
          have cQ := HS.out.1.cellB q hqB
          have vQ : B[q] = 1 := by
            have := HCN.out q hqB
            rw [if_neg (by omega)] at this
            omega
          rw [vQ] at cQ
          have hqi : (q : Int) < (z : Int) := by omega
          clear vQ cB cF k1
          go_wp2_with fail
          go_round
          case rel => exact ⟨q + 1, by go_num, by omega⟩
          case measure => simp [intOf]; omega
        · have hqi : ¬ (q : Int) < (z : Int) := by omega
          go_wp2_with fail
          go_ret
          exact ⟨rfl, (H3.out.trans H4.out.2).trans HS.out.1.kept⟩
end Go.Proofs.Ytlbenaodpfhjeaa

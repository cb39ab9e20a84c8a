/-
  Layer 13: the program's Check, of a manifest's tree and of no nodes.
  Conditions: those that each theorem states.
  Layer 12: two arenas of the same nodes are the same.
  Conditions: those that the theorem states.
  Layer 13: what Print answers; read, printed, cut, read again.
  Conditions: those that each theorem states.
  Layer 13: PrinterBack, over what Parse and Print answer.
  Conditions: those that the theorem states.
  Layer 13: PrinterParts, over what Parse, Print and Value answer.
  Conditions: those that each theorem states.
-/
import Derived.Test.YtfpdgdacifiejaaGreatWOrd
import Derived.Test.YtfpdgdacifiejaaGreatUCut
import Derived.BigQuiet
import Derived.Test.YtfpdgdacifiejaaGreatVDepP
import Derived.Test.YtfpdgdacifiejaaGreatULex
namespace Go.Proofs.YtfpdgdacifiejaaGreat
open Go.RowKit Go.Maps

theorem top_ar {b : SlT} (h : b.Ok TkC) (h1 : (topL b).length ≤ 1024) (h2 : depN (topL b) ≤ 32) : ArOk (topL b) := by
  have e := par_back h h1 h2
  have := par_ok (l := b.ws) (by rw [e])
  rwa [e] at this
theorem top_nsok {b : SlT} (ha : ArOk (topL b)) : NsOk (topL b) := by
  have hk := fun (k : Nat) (nd : Nod) (h : (topL b)[k]? = some nd) => show kidsN (topL b) k = nd.ks by unfold kidsN; rw [h]
  have hl := fun (k : Nat) (nd : Nod) (h : (topL b)[k]? = some nd) => (List.getElem?_eq_some_iff.1 h).1
  refine ⟨fun k nd h => ?_, fun k nd h x hx => ?_⟩
  · obtain ⟨pre, e⟩ := ha.seg.ord.2 k (Nat.zero_le _) (hl k nd h)
    have := ordE_le (topL b) k
    rw [e, hk k nd h, List.length_append] at this
    have := hl k nd h
    have := ha.few
    omega
  · have := ha.seg.kids k (Nat.zero_le _) (hl k nd h) x (by rw [hk k nd h]; exact hx)
    have := hl k nd h
    omega
set_option maxRecDepth 100000 in
set_option maxHeartbeats 8000000 in
theorem pCheck_good (v : Value) (b : SlT) (w : World) (ho : b.Ok TkC) (h1 : (topL b).length ≤ 1024) (h2 : depN (topL b) ≤ 32) (h : NdIs w v (topL b)) :
    Calls Tryz.prog 14 #[.agg #[v]] w fun e w' => e = .returned (.int .i64 0) ∧ Kept [] w w' := by
  have ha := top_ar ho h1 h2
  have hao := top_aok (top_nsok ha) ho
  have htk := ha.top
  obtain ⟨ns, hns⟩ : ∃ ns, topL b = ns := ⟨_, rfl⟩
  rw [hns] at h h1 h2 ha hao htk
  clear hns ho
  obtain ⟨n, hn⟩ : ∃ n, ns.length = n + 1 := ⟨ns.length - 1, by have := ha.pos; omega⟩
  have hseg := ha.seg
  rw [hn, Nat.add_sub_cancel] at hseg
  have hord := fun wx hx => pinOrder_any v ns wx hx (fun i hi => ha.seg.ord.2 i (Nat.zero_le _) hi) (by omega)
  have hlast : (ordE ns ns.length).length = 1 := by rw [ha.seg.ord.1]; simp [ordE]
  have hdep := fun wx hx => pdepth_any v ns n wx hn (by omega) hseg hx
  have HORD : Hid (∀ wx, NdIs wx v ns → Calls Tryz.prog 28 #[v] wx fun e w' => e = .returned (.bool true) ∧ Kept [] wx w') := fun wx hx => (hord wx hx).mono fun e w' ⟨he, hk⟩ => ⟨by rw [he, hlast]; rfl, hk⟩
  obtain ⟨D, hD⟩ : ∃ D, depN ns = D := ⟨_, rfl⟩
  rw [hD] at h2 hdep
  have HDEP := Lib.hid hdep
  have HAO := Lib.hid hao
  have HNS := Lib.hid h
  obtain ⟨na, nc, rfl, hnc, hn63, hnat⟩ := h
  obtain ⟨nb, no, rfl, hnb, hc⟩ := hnat (by omega)
  have HNB := Lib.hid hnb
  have HC := Lib.hid hc
  have HN := Lib.hid hn
  have e0 := (hc n (by omega)).1
  have htk2 := htk (by omega)
  have htk3 : ns[n].kd = 1 := by
    have : ns.length - 1 = n := by omega
    simp only [this] at htk2
    exact htk2
  rw [htk3] at e0
  have HE0 : Hid (w.cell? ⟨nb, no + n * 3, none⟩ = some (.int .i64 1)) := e0
  rw [hn] at hnc h1 HNS HORD HDEP ⊢
  obtain ⟨w1, hw1⟩ : ∃ w1, w.alloc (.cells #[.slice (some ⟨nb, no, none⟩) (n + 1) nc] 29) = w1 := ⟨_, rfl⟩
  have H1 : Hid (Kept [] w w1 ∧ w1.heap[w.heap.size]? = some (.cells #[.slice (some ⟨nb, no, none⟩) (n + 1) nc] 29)) := by
    rw [← hw1]
    exact ⟨Kept.alloc _ _ _, heap_alloc_last _ _⟩
  have HQ : Hid (∀ wx, Kept [] w1 wx → wx.cell? ⟨w.heap.size, 0, none⟩ = some (.slice (some ⟨nb, no, none⟩) (n + 1) nc)) := fun wx hk => cell_of_row _ _ 0 _ _ _ (hk.heap (by simp) H1.out.2)
  have a0 := HQ.out w1 (Kept.refl _ _)
  have hgt : ¬ (1024 : Int) < ((n + 1 : Nat) : Int) := by omega
  have hdd : ¬ (32 : Int) < (D : Int) := by omega
  have hw : IntKind.i64.wrap (((n + 1 : Nat) : Int) - 1) = (n : Int) := by rw [IntKind.wrap_i64]; omega
  have hnn : n < n + 1 := by omega
  clear hnat hc hn hord hlast hdep hao htk htk2 htk3 e0 hD h1 h2 ha hseg hnb
  go_enter Tryz.func14, Tryz.ntmps14
  go_wp2_with fail
  refine (HORD.out w1 (HNS.out.kept H1.out.1)).mono ?_
  rintro e w2 ⟨rfl, hk2⟩
  have H2 : Hid (Kept [] w1 w2) := hk2
  have a2 := HQ.out w2 H2.out
  clear hk2 a0
  go_wp2_with fail
  refine (HDEP.out w2 (HNS.out.kept (H1.out.1.trans H2.out))).mono ?_
  rintro e w3 ⟨rfl, hk3⟩
  have H3 : Hid (Kept [] w1 w3) := H2.out.trans hk3
  have a3 := HQ.out w3 H3.out
  have b3 : w3.cell? ⟨nb, no + n * 3, none⟩ = some (.int .i64 1) := ((H1.out.1.trans H3.out).cell (p := ⟨nb, no + n * 3, none⟩) HNB.out (by simp)).trans HE0.out
  clear hk3 a2 H2
  go_wp2_with fail
  refine (show Calls Tryz.prog 30 #[.int .i64 1] w3 _ from pisBlock_any w3).mono ?_
  rintro e w4 ⟨rfl, rfl⟩
  clear b3
  go_wp2_with fail
  clear a3
  go_loopw [35] (fun si wr => ∃ i : Nat, si = .int .i64 i ∧ i ≤ n + 1 ∧ Hid (Kept [] w1 wr)) (fun si _ => n + 1 - (intOf si).toNat)
  case atStart => exact ⟨0, rfl, by omega, H3⟩
  case round =>
    obtain ⟨i, rfl, hi, HS⟩ := hrel
    clear H3
    by_cases hlt : i < n + 1
    · have hil : i < ns.length := by have := HN.out; omega
      obtain ⟨e0, e1, lv, e2, hks⟩ := HC.out i hil
      have hnd : ns[i]? = some ns[i] := by simp [hil]
      obtain ⟨lab, bel, hok⟩ := HAO.out i _ (Nat.zero_le _) hil hnd
      obtain ⟨nd, hnde⟩ : ∃ nd, ns[i] = nd := ⟨_, rfl⟩
      rw [hnde] at e0 e1 hks hok
      have hkw := H1.out.1.trans HS.out
      have f0 := (hkw.cell (p := ⟨nb, no + i * 3, none⟩) HNB.out (by simp)).trans e0
      have f1 := (hkw.cell (p := ⟨nb, no + i * 3 + 1, none⟩) HNB.out (by simp)).trans e1
      have f2 := (hkw.cell (p := ⟨nb, no + i * 3 + 2, none⟩) HNB.out (by simp)).trans e2
      obtain ⟨la, lc, hlv⟩ : ∃ a c, lv = .slice a nd.ks.length c := by obtain ⟨a, c, e, _⟩ := hks; exact ⟨a, c, e⟩
      obtain ⟨m, hm⟩ : ∃ m, nd.ks.length = m := ⟨_, rfl⟩
      rw [hm] at hlv
      subst hlv
      obtain ⟨w5, hw5⟩ : ∃ w5, wr.alloc (.cells #[.int .i64 (nd.kd : Int), .string (strL nd.tx), .slice la m lc] 41) = w5 := ⟨_, rfl⟩
      have H5 : Hid (Kept [] w1 w5) := by rw [← hw5]; exact HS.out.trans (Kept.alloc _ _ _)
      have r5 : w5.heap[wr.heap.size]? = some (.cells #[.int .i64 (nd.kd : Int), .string (strL nd.tx), .slice la m lc] 41) := by rw [← hw5]; exact heap_alloc_last _ _
      have g0 : w5.cell? ⟨wr.heap.size, 0, none⟩ = some (.int .i64 (nd.kd : Int)) := cell_of_row _ _ 0 _ _ _ r5
      have g1 : w5.cell? ⟨wr.heap.size, 1, none⟩ = some (.string (strL nd.tx)) := cell_of_row _ _ 1 _ _ _ r5
      have g2 : w5.cell? ⟨wr.heap.size, 2, none⟩ = some (.slice la m lc) := cell_of_row _ _ 2 _ _ _ r5
      have a5 := HQ.out w5 H5.out
      have HP := Lib.hid (psound_any (.slice (some ⟨nb, no, none⟩) (n + 1) nc) (.slice la m lc) ns nd lab bel w5 (HNS.out.kept (H1.out.1.trans H5.out)) (hks.kept (H1.out.1.trans H5.out)) hok)
      clear e0 e1 e2 hks hnd hok hnde hkw hm r5
      go_wp2_with fail
      refine HP.out.mono ?_
      rintro e w6 ⟨rfl, hk6⟩
      have H6 : Hid (Kept [] w1 w6) := H5.out.trans hk6
      clear hk6 f0 f1 f2 g0 g1 g2 a5 hw5 HP
      go_wp2_with fail
      go_roundw
      case rel => exact ⟨i + 1, by go_num, by omega, H6⟩
      case measure => simp [intOf]; omega
    · have hii : ¬ (i : Int) < ((n + 1 : Nat) : Int) := by omega
      go_wp2_with fail
      go_ret
      exact ⟨rfl, H1.out.1.trans HS.out⟩
end Go.Proofs.YtfpdgdacifiejaaGreat

namespace Go.Proofs.YtfpdgdacifiejaaGreat
open Go.RowKit Go.Maps

set_option maxRecDepth 100000 in
set_option maxHeartbeats 8000000 in
theorem nsame_any (va vb : Value) (ns : List Nod) (w : World) (ha : NdIs w va ns) (hb : NdIs w vb ns) (hl : ns.length ≤ 100000) :
    Calls Tryz.prog 10 #[.agg #[va], .agg #[vb]] w fun e w' => e = .returned (.bool true) ∧ Kept [] w w' := by
  obtain ⟨aa, ac, rfl, hac, hac2, hca⟩ := ha
  obtain ⟨ba, bc, rfl, hbc, hbc2, hcb⟩ := hb
  obtain ⟨n, hn⟩ : ∃ n, ns.length = n := ⟨_, rfl⟩
  have HN := Lib.hid hn
  have HCA := Lib.hid hca
  have HCB := Lib.hid hcb
  rw [hn] at hac hbc hl ⊢
  obtain ⟨w1, hw1⟩ : ∃ x, w.alloc (.cells #[.slice aa n ac] 29) = x := ⟨_, rfl⟩
  obtain ⟨w2, hw2⟩ : ∃ x, w1.alloc (.cells #[.slice ba n bc] 29) = x := ⟨_, rfl⟩
  obtain ⟨P, hP⟩ : ∃ x, w.heap.size = x := ⟨_, rfl⟩
  obtain ⟨Q, hQ⟩ : ∃ x, w1.heap.size = x := ⟨_, rfl⟩
  have H2 : Hid (Kept [] w w2 ∧ w2.heap[P]? = some (.cells #[.slice aa n ac] 29) ∧ w2.heap[Q]? = some (.cells #[.slice ba n bc] 29)) := by
    rw [← hw2, ← hw1, ← hQ, ← hP]
    refine ⟨(Kept.alloc _ _ _).trans (Kept.alloc _ _ _), (Kept.alloc [] _ _).heap (by simp) (heap_alloc_last _ _), ?_⟩
    rw [← hw1]
    exact heap_alloc_last _ _
  have HPQ : Hid (∀ w', Kept [] w2 w' → w'.cell? ⟨P, 0, none⟩ = some (.slice aa n ac) ∧ w'.cell? ⟨Q, 0, none⟩ = some (.slice ba n bc)) := fun w' hk =>
    ⟨cell_of_row _ _ 0 _ _ _ (hk.heap (by simp) H2.out.2.1), cell_of_row _ _ 0 _ _ _ (hk.heap (by simp) H2.out.2.2)⟩
  have p0 := (HPQ.out w2 (Kept.refl _ _)).1
  have q0 := (HPQ.out w2 (Kept.refl _ _)).2
  clear hca hcb hn
  go_enter Tryz.func10, Tryz.ntmps10
  go_wp2_with fail
  clear hw1 hw2 hP hQ p0 q0
  go_loopw [5] (fun si wr => ∃ i : Nat, si = .int .i64 i ∧ i ≤ n ∧ Hid (Kept [] w2 wr)) (fun si _ => n - (intOf si).toNat)
  case atStart => exact ⟨0, rfl, by omega, Kept.refl _ _⟩
  case round =>
    obtain ⟨i, rfl, hi, HK⟩ := hrel
    have p0 := (HPQ.out wr HK.out).1
    by_cases hlt : i < n
    · have hil : i < ns.length := by rw [HN.out]; exact hlt
      obtain ⟨b1, o1, rfl, hb1, hc1⟩ := HCA.out (by omega)
      obtain ⟨b2, o2, rfl, hb2, hc2⟩ := HCB.out (by omega)
      obtain ⟨e0, e1, lv, e2, hks⟩ := hc1 i hil
      obtain ⟨f0, f1, lu, f2, hku⟩ := hc2 i hil
      obtain ⟨nd, hnd⟩ : ∃ nd, ns[i] = nd := ⟨_, rfl⟩
      rw [hnd] at e0 e1 hks f0 f1 hku
      obtain ⟨la, lc, rfl, hlc, hlc2, hla⟩ := hks
      obtain ⟨ua, uc, rfl, huc, huc2, hua⟩ := hku
      obtain ⟨m, hm⟩ : ∃ m, nd.ks.length = m := ⟨_, rfl⟩
      have HM := Lib.hid hm
      have HLA := Lib.hid hla
      have HUA := Lib.hid hua
      rw [hm] at e2 f2 hlc huc
      obtain ⟨kd, hkd⟩ : ∃ k, nd.kd = k := ⟨_, rfl⟩
      obtain ⟨tx, htx⟩ : ∃ t, strL nd.tx = t := ⟨_, rfl⟩
      rw [hkd] at e0 f0
      rw [htx] at e1 f1
      have HKW : Hid (Kept [] w wr) := H2.out.1.trans HK.out
      have y0 := (HKW.out.cell (p := ⟨b1, o1 + i * 3, none⟩) hb1 (by simp)).trans e0
      have y1 := (HKW.out.cell (p := ⟨b1, o1 + i * 3 + 1, none⟩) hb1 (by simp)).trans e1
      have y2 := (HKW.out.cell (p := ⟨b1, o1 + i * 3 + 2, none⟩) hb1 (by simp)).trans e2
      obtain ⟨w3, hw3⟩ : ∃ x, wr.alloc (.cells #[.int .i64 (kd : Int), .string tx, .slice la m lc] 41) = x := ⟨_, rfl⟩
      obtain ⟨P3, hP3⟩ : ∃ x, wr.heap.size = x := ⟨_, rfl⟩
      have H3 : Hid (Kept [] wr w3 ∧ w3.heap[P3]? = some (.cells #[.int .i64 (kd : Int), .string tx, .slice la m lc] 41)) := by
        rw [← hw3, ← hP3]
        exact ⟨Kept.alloc _ _ _, heap_alloc_last _ _⟩
      have q0 := (HPQ.out w3 (HK.out.trans H3.out.1)).2
      have z0 := ((HKW.out.trans H3.out.1).cell (p := ⟨b2, o2 + i * 3, none⟩) hb2 (by simp)).trans f0
      have z1 := ((HKW.out.trans H3.out.1).cell (p := ⟨b2, o2 + i * 3 + 1, none⟩) hb2 (by simp)).trans f1
      have z2 := ((HKW.out.trans H3.out.1).cell (p := ⟨b2, o2 + i * 3 + 2, none⟩) hb2 (by simp)).trans f2
      obtain ⟨w4, hw4⟩ : ∃ x, w3.alloc (.cells #[.int .i64 (kd : Int), .string tx, .slice ua m uc] 41) = x := ⟨_, rfl⟩
      obtain ⟨P4, hP4⟩ : ∃ x, w3.heap.size = x := ⟨_, rfl⟩
      have H4 : Hid (Kept [] wr w4 ∧ w4.heap[P3]? = some (.cells #[.int .i64 (kd : Int), .string tx, .slice la m lc] 41) ∧ w4.heap[P4]? = some (.cells #[.int .i64 (kd : Int), .string tx, .slice ua m uc] 41)) := by
        rw [← hw4, ← hP4]
        exact ⟨H3.out.1.trans (Kept.alloc _ _ _), (Kept.alloc [] _ _).heap (by simp) H3.out.2, heap_alloc_last _ _⟩
      have g0 : w4.cell? ⟨P3, 0, none⟩ = some (.int .i64 (kd : Int)) := cell_of_row _ _ 0 _ _ _ H4.out.2.1
      have g1 : w4.cell? ⟨P3, 1, none⟩ = some (.string tx) := cell_of_row _ _ 1 _ _ _ H4.out.2.1
      have g2 : w4.cell? ⟨P3, 2, none⟩ = some (.slice la m lc) := cell_of_row _ _ 2 _ _ _ H4.out.2.1
      have h0 : w4.cell? ⟨P4, 0, none⟩ = some (.int .i64 (kd : Int)) := cell_of_row _ _ 0 _ _ _ H4.out.2.2
      have h1 : w4.cell? ⟨P4, 1, none⟩ = some (.string tx) := cell_of_row _ _ 1 _ _ _ H4.out.2.2
      have h2 : w4.cell? ⟨P4, 2, none⟩ = some (.slice ua m uc) := cell_of_row _ _ 2 _ _ _ H4.out.2.2
      clear hc1 hc2 e0 e1 e2 f0 f1 f2 hnd hm hla hua hkd htx
      go_wp2_with fail
      clear y0 y1 y2 z0 z1 z2 hw3 hw4 hP3 hP4 p0 q0 g0 g1 g2 h0 h1 h2
      go_loopw [8] (fun sk wx => ∃ k : Nat, sk = .int .i64 k ∧ k ≤ m ∧ Hid (Kept [] w4 wx)) (fun sk _ => m - (intOf sk).toNat)
      case atStart => exact ⟨0, rfl, by omega, Kept.refl _ _⟩
      case round =>
        obtain ⟨k, rfl, hk, HX⟩ := hrel
        have g2 : wr.cell? ⟨P3, 2, none⟩ = some (.slice la m lc) := cell_of_row _ _ 2 _ _ _ (HX.out.heap (by simp) H4.out.2.1)
        have h2 : wr.cell? ⟨P4, 2, none⟩ = some (.slice ua m uc) := cell_of_row _ _ 2 _ _ _ (HX.out.heap (by simp) H4.out.2.2)
        by_cases hkm : k < m
        · have hkl : k < nd.ks.length := by rw [HM.out]; exact hkm
          obtain ⟨b3, o3, rfl, hb3, hc3⟩ := HLA.out (by omega)
          obtain ⟨b4, o4, rfl, hb4, hc4⟩ := HUA.out (by omega)
          have HKX := HKW.out.trans (H4.out.1.trans HX.out)
          have r3 := (HKX.cell (p := ⟨b3, o3 + k, none⟩) hb3 (by simp)).trans (hc3 k hkl)
          have r4 := (HKX.cell (p := ⟨b4, o4 + k, none⟩) hb4 (by simp)).trans (hc4 k hkl)
          obtain ⟨x, hx⟩ : ∃ x, nd.ks[k] = x := ⟨_, rfl⟩
          rw [hx] at r3 r4
          clear hc3 hc4 HKX hx
          go_wp2_with fail
          go_quiet (fail)
          go_wp2_with fail
          go_roundw
          case rel => exact ⟨k + 1, by go_num, by omega, HX.out.trans (Kept.drewN _ _ _)⟩
          case measure => simp [intOf]; omega
        · go_wp2_with fail
          go_roundw
          case rel => exact ⟨i + 1, by go_num, by omega, HK.out.trans (H4.out.1.trans HX.out)⟩
          case measure => simp [intOf]; omega
    · go_wp2_with fail
      go_ret
      exact ⟨rfl, H2.out.1.trans HK.out⟩
end Go.Proofs.YtfpdgdacifiejaaGreat

namespace Go.Proofs.YtfpdgdacifiejaaGreat
open Go.RowKit Go.Maps

/-- What is printed of a manifest. -/
def prtO (b : SlT) : List UInt8 := if 65536 < (b.txt []).length then [] else b.txt []
def prtE (b : SlT) : Nat := if 65536 < (b.txt []).length then 5 else 0
/-- Print, as a contract: of a tree that words were read as. -/
def PrC : Prop := ∀ (v : Value) (b : SlT) (w : World), b.Ok TkC → (topL b).length ≤ 1024 → depN (topL b) ≤ 32 → NdIs w v (topL b) →
  Calls Tryz.prog 9 #[.agg #[v]] w fun e w' => e = .returned (.tuple #[.string (strL (prtO b)), .int .i64 (prtE b : Int)]) ∧ Kept [] w w'
/-- The document's examples hold. -/
def ShP : Prop := ∀ w : World, Calls Tryz.prog 6 #[] w fun e w' => e = .returned (.bool true) ∧ Kept [] w w'
theorem bl_strL (l : List UInt8) : bl (strL l) = l := by
  show (strL l).data.toList = l
  simp [strL]
theorem back_all {l : List Tok} (h : (parO l).2.2 = 0) (hw : ∀ w ∈ l, TkC w) :
    ∃ b : SlT, b.Ok TkC ∧ (topL b).length ≤ 1024 ∧ depN (topL b) ≤ 32 ∧ parO l = (topL b, 0, 0) ∧ (lexL (b.txt []) 0).2 = none ∧ parO ((lexL (b.txt []) 0).1.map tkW) = (topL b, 0, 0) := by
  obtain ⟨b, h1, h2, h3, h4⟩ := par_tree TkC h hw
  obtain ⟨h5, h6⟩ := top_lx b (SlT.okm (fun _ ht => ht.ok) b h1)
  refine ⟨b, h1, h3, h4, ?_, h5, by rw [h6]; exact par_back h1 h3 h4⟩
  have h7 : (parO l).2.1 = 0 := by
    unfold parO at h ⊢
    by_cases c : 4096 < l.length
    · rw [if_pos c] at h; cases h
    · rw [if_neg c] at h ⊢
      cases hq : topF (stmtF 5000) 5000 [] ⟨l, []⟩ with
      | err r => rw [hq] at h; cases h
      | ok s a =>
        rw [hq] at h
        simp only at h ⊢
        by_cases d : 1024 < s.ns.length ∨ 32 < depN s.ns
        · rw [if_pos d]
        · rw [if_neg d]
  exact Prod.ext h2 (Prod.ext h7 h)
theorem lxW_tk (L : List UInt8) : ∀ w ∈ (lxW L).map tkW, TkC w := by
  unfold lxW
  split
  · simp
  · split
    · exact fun w hw => lxW_tkc L w hw (by omega)
    · simp
theorem lx_of {L : List UInt8} (h : (lexL L 0).2 = none) (hl : L.length ≤ 65536) : lxW L = (lexL L 0).1 ∧ lxE L = 0 := by
  have h0 : ¬ 65536 < L.length := by omega
  unfold lxW lxE
  rw [if_neg h0, if_neg h0, if_pos h, if_pos h]
  exact ⟨rfl, rfl⟩
end Go.Proofs.YtfpdgdacifiejaaGreat

namespace Go.Proofs.YtfpdgdacifiejaaGreat
open Go.RowKit Go.Maps

/-- An arena in a block of its own. -/
def ArAt (w : World) (P : Nat) (ao : Option Addr) (n cap : Nat) (ns : List Nod) : Prop := ns.length = n ∧ w.heap[P]? = some (.cells #[.slice ao n cap] 29) ∧ NdIs w (.slice ao n cap) ns
theorem ArAt.keep {w w' : World} {P : Nat} {ao : Option Addr} {n cap : Nat} {ns : List Nod} (h : ArAt w P ao n cap ns) (hk : Kept [] w w') : ArAt w' P ao n cap ns := ⟨h.1, hk.heap (by simp) h.2.1, h.2.2.kept hk⟩
theorem ArAt.cell {w : World} {P : Nat} {ao : Option Addr} {n cap : Nat} {ns : List Nod} (h : ArAt w P ao n cap ns) : w.cell? ⟨P, 0, none⟩ = some (.slice ao n cap) := cell_of_row _ _ 0 _ _ _ h.2.1
set_option maxRecDepth 100000 in
set_option maxHeartbeats 8000000 in
theorem back_walk (hsh : ShP) (hp : ParC) (hpr : PrC) (S : ByteArray) (w : World) (hs : S.size ≤ 9223372036854775807) : Calls Tryz.prog 3 #[.string S] w fun e w' => e = .returned (.bool true) ∧ Kept [] w w' := by
  have HSH := Lib.hid hsh
  have HPC := Lib.hid hp
  have HPR := Lib.hid hpr
  have HSZ := Lib.hid hs
  clear hsh hp hpr hs
  go_enter Tryz.func3, Tryz.ntmps3
  go_wp2_with fail
  refine (HSH.out w).mono ?_
  rintro e w1 ⟨rfl, hk1⟩
  have HK1 := Lib.hid hk1
  clear hk1
  go_wp2_with fail
  refine (lex_any S w1 HSZ.out).mono ?_
  rintro e w2 ⟨vw, rfl, hws, hk2⟩
  have H2 := Lib.hid (show WsIs w2 vw (lxW (bl S)) ∧ Kept [] w w2 from ⟨hws.es, HK1.out.trans hk2⟩)
  clear hws hk2
  obtain ⟨la, hla⟩ : ∃ x, lxA (bl S) = x := ⟨_, rfl⟩
  obtain ⟨le, hle⟩ : ∃ x, lxE (bl S) = x := ⟨_, rfl⟩
  rw [hla, hle]
  have HTK : Hid (∀ t ∈ (lxW (bl S)).map tkW, TkC t) := lxW_tk _
  obtain ⟨T, hT⟩ : ∃ T, (lxW (bl S)).map tkW = T := ⟨_, rfl⟩
  rw [hT] at HTK
  have HPA := Lib.hid (HPC.out vw T w2 (by rw [← hT]; exact H2.out.1.tk))
  clear hla hle hT
  go_wp2_with fail
  refine HPA.out.mono ?_
  rintro e w3 ⟨va, rfl, hnd, hk3⟩
  obtain ⟨pa, hpa⟩ : ∃ n, (parO T).2.1 = n := ⟨_, rfl⟩
  obtain ⟨pe, hpe⟩ : ∃ n, (parO T).2.2 = n := ⟨_, rfl⟩
  obtain ⟨ns, hns⟩ : ∃ n, (parO T).1 = n := ⟨_, rfl⟩
  rw [hns] at hnd
  rw [hpa, hpe]
  have HPE := Lib.hid (show (parO T).1 = ns ∧ (parO T).2.2 = pe from ⟨hns, hpe⟩)
  have HND := Lib.hid hnd
  have hval : ∃ ao cap, va = .slice ao ns.length cap := by
    obtain ⟨ao, cap, h, _⟩ := hnd
    exact ⟨ao, cap, h⟩
  obtain ⟨ao, cap, hva⟩ := hval
  obtain ⟨n, hn⟩ : ∃ n, ns.length = n := ⟨_, rfl⟩
  rw [hn] at hva
  subst hva
  have H3 : Hid (Kept [] w w3) := H2.out.2.trans hk3
  obtain ⟨w4, hw4⟩ : ∃ w4, w3.alloc (.cells #[.slice ao n cap] 29) = w4 := ⟨_, rfl⟩
  obtain ⟨P, hP⟩ : ∃ P, w3.heap.size = P := ⟨_, rfl⟩
  have H4 : Hid (ArAt w4 P ao n cap ns ∧ Kept [] w w4) := by
    rw [← hw4, ← hP]
    exact ⟨⟨hn, heap_alloc_last _ _, HND.out.kept (Kept.alloc _ _ _)⟩, H3.out.trans (Kept.alloc _ _ _)⟩
  clear hns hpa hpe hn hk3 hnd
  by_cases hle : le = 0
  case neg =>
    have hlei : ((le : Int) == 0) = false := by simpa using hle
    have hlej : ¬ (le : Int) = 0 := by omega
    go_wp2_with fail
    go_ret
    exact ⟨rfl, H4.out.2⟩
  subst hle
  by_cases hpe : pe = 0
  case neg =>
    have hpei : ((pe : Int) == 0) = false := by simpa using hpe
    have hpej : ¬ (pe : Int) = 0 := by omega
    go_wp2_with fail
    go_ret
    exact ⟨rfl, H4.out.2⟩
  subst hpe
  have HB := Lib.hid (back_all HPE.out.2 HTK.out)
  obtain ⟨b, hb⟩ := HB.out
  have HB := Lib.hid hb
  have HNS : Hid (ns = topL b) := by show _ = _; rw [← HPE.out.1, hb.2.2.2.1]
  have c4 := H4.out.1.cell
  have HP4 := Lib.hid (HPR.out (.slice ao n cap) b w4 hb.1 hb.2.1 hb.2.2.1 (by rw [← HNS.out]; exact H4.out.1.2.2))
  obtain ⟨pt, hpt⟩ : ∃ t, prtO b = t := ⟨_, rfl⟩
  obtain ⟨pg, hpg⟩ : ∃ t, prtE b = t := ⟨_, rfl⟩
  have HPT := Lib.hid (And.intro hpt hpg)
  rw [hpt, hpg] at HP4
  clear hb hpt hpg
  go_wp2_with fail
  clear c4 hw4 hP
  refine HP4.out.mono ?_
  rintro e w5 ⟨rfl, hk5⟩
  have H5 : Hid (ArAt w5 P ao n cap ns ∧ Kept [] w w5) := ⟨H4.out.1.keep hk5, H4.out.2.trans hk5⟩
  clear hk5
  by_cases hlong : 65536 < (b.txt []).length
  case pos =>
    have hg5 : pg = 5 := by rw [← HPT.out.2]; unfold prtE; rw [if_pos hlong]
    subst hg5
    go_wp2_with fail
    go_ret
    exact ⟨rfl, H5.out.2⟩
  have hg0 : pg = 0 := by rw [← HPT.out.2]; unfold prtE; rw [if_neg hlong]
  subst hg0
  have HTX : Hid (pt = b.txt []) := by show _ = _; rw [← HPT.out.1]; unfold prtO; rw [if_neg hlong]
  have HLX : Hid (lxW pt = (lexL (b.txt []) 0).1 ∧ lxE pt = 0) := by
    show _ ∧ _
    rw [HTX.out]
    exact lx_of HB.out.2.2.2.2.1 (by omega)
  have HPZ : Hid (parO ((lxW pt).map tkW) = (topL b, 0, 0)) := by show _ = _; rw [HLX.out.1]; exact HB.out.2.2.2.2.2
  have hsz : (strL pt).size ≤ 9223372036854775807 := by
    have h1 := bl_len (strL pt)
    have h2 := congrArg List.length HTX.out
    rw [bl_strL] at h1
    omega
  have HL2 := Lib.hid (lex_any (strL pt) w5 hsz)
  rw [bl_strL] at HL2
  clear hlong hsz
  go_wp2_with fail
  refine HL2.out.mono ?_
  rintro e w6 ⟨vx, rfl, hwx, hk6⟩
  have HW6 : Hid (TkIs w6 vx ((lxW pt).map tkW)) := hwx.es.tk
  have H6 : Hid (ArAt w6 P ao n cap ns ∧ Kept [] w w6) := ⟨H5.out.1.keep hk6, H5.out.2.trans hk6⟩
  rw [HLX.out.2]
  obtain ⟨la2, hla2⟩ : ∃ x, lxA pt = x := ⟨_, rfl⟩
  rw [hla2]
  have HPA2 := Lib.hid (HPC.out vx _ w6 HW6.out)
  unfold ParOut at HPA2
  rw [HPZ.out] at HPA2
  clear hwx hk6 hla2
  go_wp2_with fail
  refine HPA2.out.mono ?_
  rintro e w7 ⟨vb, rfl, hnb, hk7⟩
  obtain ⟨bo, bcap, hvb, hbrest⟩ := id hnb
  have hlen : (topL b).length = n := by rw [← HNS.out]; exact H4.out.1.1
  rw [hlen] at hvb
  subst hvb
  have HNB := Lib.hid hnb
  obtain ⟨w8, hw8⟩ : ∃ x, w7.alloc (.cells #[.slice bo n bcap] 29) = x := ⟨_, rfl⟩
  obtain ⟨Q, hQ⟩ : ∃ x, w7.heap.size = x := ⟨_, rfl⟩
  have H8 : Hid (ArAt w8 P ao n cap ns ∧ ArAt w8 Q bo n bcap ns ∧ Kept [] w w8) := by
    have hk8 : Kept [] w7 w8 := by rw [← hw8]; exact Kept.alloc _ _ _
    refine ⟨(H6.out.1.keep hk7).keep hk8, ⟨by rw [HNS.out]; exact hlen, by rw [← hw8, ← hQ]; exact heap_alloc_last _ _, ?_⟩, (H6.out.2.trans hk7).trans hk8⟩
    rw [HNS.out]
    exact HNB.out.kept hk8
  have a8 := H8.out.1.cell
  have b8 := H8.out.2.1.cell
  have HSM := Lib.hid (nsame_any (.slice ao n cap) (.slice bo n bcap) ns w8 H8.out.1.2.2 H8.out.2.1.2.2 (by have := HB.out.2.1; have := H4.out.1.1; omega))
  clear hnb hk7 hbrest hlen
  go_wp2_with fail
  clear a8 b8 hw8 hQ
  refine HSM.out.mono ?_
  rintro e w9 ⟨rfl, hk9⟩
  have H9 : Hid (ArAt w9 Q bo n bcap ns ∧ Kept [] w w9) := ⟨H8.out.2.1.keep hk9, H8.out.2.2.trans hk9⟩
  have b9 := H9.out.1.cell
  have HP9 := Lib.hid (HPR.out (.slice bo n bcap) b w9 HB.out.1 HB.out.2.1 HB.out.2.2.1 (by rw [← HNS.out]; exact H9.out.1.2.2))
  rw [HPT.out.1, HPT.out.2] at HP9
  clear hk9
  go_wp2_with fail
  clear b9
  refine HP9.out.mono ?_
  rintro e w10 ⟨rfl, hk10⟩
  have H10 : Hid (Kept [] w w10) := H9.out.2.trans hk10
  clear hk10
  go_wp2_with fail
  go_ret
  exact ⟨rfl, H10.out⟩
end Go.Proofs.YtfpdgdacifiejaaGreat

namespace Go.Proofs.YtfpdgdacifiejaaGreat
open Go.RowKit Go.Maps

def partsO (l : List StT) : List UInt8 := (l.map fun s => s.txt [] ++ [10]).flatten
theorem SlT.parts : ∀ b : SlT, b.txt [] = partsO b.ls
  | .nil => rfl
  | .cons s l => by
    have := l.parts
    unfold partsO at this ⊢
    simp [SlT.txt, SlT.ls, this]
theorem SlT.idx_len : ∀ (b : SlT) (n : Nat), (b.idx n).length = b.ls.length
  | .nil, _ => rfl
  | .cons s l, n => by simp [SlT.idx, SlT.ls, l.idx_len]
theorem parts_take {l : List StT} {k : Nat} (h : k < l.length) : partsO (l.take (k + 1)) = partsO (l.take k) ++ l[k].txt [] ++ [10] := by
  unfold partsO
  rw [List.take_succ_eq_append_getElem h]
  simp only [List.map_append, List.map_cons, List.map_nil, List.flatten_append, List.flatten_cons, List.flatten_nil, List.append_nil, List.append_assoc]
theorem parts_le (l : List StT) (k : Nat) : (partsO (l.take k)).length ≤ (partsO l).length := by
  have h : partsO l = partsO (l.take k) ++ partsO (l.drop k) := by
    unfold partsO
    rw [← List.flatten_append, ← List.map_append, List.take_append_drop]
  rw [h, List.length_append]
  omega
/-- Value, as a contract: of a manifest's statements, and of what is no node. -/
def VaC : Prop := ∀ (v : Value) (b : SlT) (w : World), b.Ok TkC → (topL b).length ≤ 1024 → depN (topL b) ≤ 32 → NdIs w v (topL b) →
  (∀ k (h : k < b.ls.length) (h2 : k < (b.idx 0).length), Calls Tryz.prog 12 #[.agg #[v], .int .i64 ((b.idx 0)[k] : Int)] w fun e w' => e = .returned (.string (strL (b.ls[k].txt []))) ∧ Kept [] w w') ∧
  (∀ i : Int, i < 0 ∨ ((topL b).length : Int) ≤ i → Calls Tryz.prog 12 #[.agg #[v], .int .i64 i] w fun e w' => e = .returned (.string ⟨#[]⟩) ∧ Kept [] w w')
/-- Print of no nodes. -/
def PrZ : Prop := ∀ (v : Value) (w : World), NdIs w v [] → Calls Tryz.prog 9 #[.agg #[v]] w fun e w' => e = .returned (.tuple #[.string ⟨#[]⟩, .int .i64 120]) ∧ Kept [] w w'
theorem top_ks (b : SlT) (h : (topL b).length - 1 < (topL b).length) : (topL b)[(topL b).length - 1].ks = b.idx 0 := by
  have h1 : (topL b).length = b.size + 1 := topL_len b
  have h2 : (b.lay 0).length = b.size := b.len 0
  have h3 : (topL b).length - 1 = (b.lay 0).length := by omega
  have e : (topL b)[(topL b).length - 1]? = some ⟨1, [], b.idx 0⟩ := by
    rw [h3]
    show (b.lay 0 ++ [(⟨1, [], b.idx 0⟩ : Nod)])[(b.lay 0).length]? = _
    rw [List.getElem?_append_right (Nat.le_refl _)]
    simp
  rw [List.getElem?_eq_getElem h] at e
  injection e with e
  rw [e]
set_option maxRecDepth 100000 in
set_option maxHeartbeats 8000000 in
theorem parts_walk (hsh : ShP) (hp : ParC) (hpr : PrC) (hpz : PrZ) (hva : VaC) (S : ByteArray) (w : World) (hs : S.size ≤ 9223372036854775807) : Calls Tryz.prog 5 #[.string S] w fun e w' => e = .returned (.bool true) ∧ Kept [] w w' := by
  have HSH := Lib.hid hsh
  have HPC := Lib.hid hp
  have HPR := Lib.hid hpr
  have HVA := Lib.hid hva
  have HPZ := Lib.hid hpz
  have HSZ := Lib.hid hs
  clear hsh hp hpr hs hva hpz
  go_enter Tryz.func5, Tryz.ntmps5
  go_wp2_with fail
  refine (HSH.out w).mono ?_
  rintro e w1 ⟨rfl, hk1⟩
  have HK1 := Lib.hid hk1
  clear hk1
  go_wp2_with fail
  refine (lex_any S w1 HSZ.out).mono ?_
  rintro e w2 ⟨vw, rfl, hws, hk2⟩
  have H2 := Lib.hid (show WsIs w2 vw (lxW (bl S)) ∧ Kept [] w w2 from ⟨hws.es, HK1.out.trans hk2⟩)
  clear hws hk2
  obtain ⟨la, hla⟩ : ∃ x, lxA (bl S) = x := ⟨_, rfl⟩
  obtain ⟨le, hle⟩ : ∃ x, lxE (bl S) = x := ⟨_, rfl⟩
  rw [hla, hle]
  have HTK : Hid (∀ t ∈ (lxW (bl S)).map tkW, TkC t) := lxW_tk _
  obtain ⟨T, hT⟩ : ∃ T, (lxW (bl S)).map tkW = T := ⟨_, rfl⟩
  rw [hT] at HTK
  have HPA := Lib.hid (HPC.out vw T w2 (by rw [← hT]; exact H2.out.1.tk))
  clear hla hle hT
  go_wp2_with fail
  refine HPA.out.mono ?_
  rintro e w3 ⟨va, rfl, hnd, hk3⟩
  obtain ⟨pa, hpa⟩ : ∃ n, (parO T).2.1 = n := ⟨_, rfl⟩
  obtain ⟨pe, hpe⟩ : ∃ n, (parO T).2.2 = n := ⟨_, rfl⟩
  obtain ⟨ns, hns⟩ : ∃ n, (parO T).1 = n := ⟨_, rfl⟩
  rw [hns] at hnd
  rw [hpa, hpe]
  have HPE := Lib.hid (show (parO T).1 = ns ∧ (parO T).2.2 = pe from ⟨hns, hpe⟩)
  have HND := Lib.hid hnd
  have hval : ∃ ao cap, va = .slice ao ns.length cap := by
    obtain ⟨ao, cap, h, _⟩ := hnd
    exact ⟨ao, cap, h⟩
  obtain ⟨ao, cap, hva⟩ := hval
  obtain ⟨n, hn⟩ : ∃ n, ns.length = n := ⟨_, rfl⟩
  rw [hn] at hva
  subst hva
  have H3 : Hid (Kept [] w w3) := H2.out.2.trans hk3
  obtain ⟨w4, hw4⟩ : ∃ w4, w3.alloc (.cells #[.slice ao n cap] 29) = w4 := ⟨_, rfl⟩
  obtain ⟨P, hP⟩ : ∃ P, w3.heap.size = P := ⟨_, rfl⟩
  have H4 : Hid (ArAt w4 P ao n cap ns ∧ Kept [] w w4) := by
    rw [← hw4, ← hP]
    exact ⟨⟨hn, heap_alloc_last _ _, HND.out.kept (Kept.alloc _ _ _)⟩, H3.out.trans (Kept.alloc _ _ _)⟩
  clear hns hpa hpe hn hk3 hnd
  have c4 := H4.out.1.cell
  by_cases hpe : pe = 0
  case neg =>
    have hnz : ns = [] := by rw [← HPE.out.1]; exact par_no (by rw [HPE.out.2]; exact hpe)
    have HP4 := Lib.hid (HPZ.out (.slice ao n cap) w4 (by rw [← hnz]; exact H4.out.1.2.2))
    have hpei : ((pe : Int) == 0) = false := by simpa using hpe
    have hpej : ¬ (pe : Int) = 0 := by omega
    clear hnz
    go_wp2_with fail
    clear c4 hw4 hP
    refine HP4.out.mono ?_
    rintro e w5 ⟨rfl, hk5⟩
    have H5 : Hid (Kept [] w w5) := H4.out.2.trans hk5
    clear hk5
    by_cases hle : le = 0
    · subst hle
      go_wp2_with fail
      go_ret
      exact ⟨rfl, H5.out⟩
    · have hlei : ((le : Int) == 0) = false := by simpa using hle
      have hlej : ¬ (le : Int) = 0 := by omega
      go_wp2_with fail
      go_ret
      exact ⟨rfl, H5.out⟩
  subst hpe
  obtain ⟨b, hb⟩ := back_all HPE.out.2 HTK.out
  have HB := Lib.hid hb
  have HNS : Hid (ns = topL b) := by show _ = _; rw [← HPE.out.1, hb.2.2.2.1]
  have HP4 := Lib.hid (HPR.out (.slice ao n cap) b w4 hb.1 hb.2.1 hb.2.2.1 (by rw [← HNS.out]; exact H4.out.1.2.2))
  obtain ⟨pt, hpt⟩ : ∃ t, prtO b = t := ⟨_, rfl⟩
  obtain ⟨pg, hpg⟩ : ∃ t, prtE b = t := ⟨_, rfl⟩
  have HPT := Lib.hid (And.intro hpt hpg)
  rw [hpt, hpg] at HP4
  clear hb hpt hpg
  go_wp2_with fail
  clear c4 hw4 hP
  refine HP4.out.mono ?_
  rintro e w5 ⟨rfl, hk5⟩
  have H5 : Hid (ArAt w5 P ao n cap ns ∧ Kept [] w w5) := ⟨H4.out.1.keep hk5, H4.out.2.trans hk5⟩
  clear hk5
  by_cases hle : le = 0
  case neg =>
    have hlei : ((le : Int) == 0) = false := by simpa using hle
    have hlej : ¬ (le : Int) = 0 := by omega
    go_wp2_with fail
    go_ret
    exact ⟨rfl, H5.out.2⟩
  subst hle
  by_cases hlong : 65536 < (b.txt []).length
  case pos =>
    have hg5 : pg = 5 := by rw [← HPT.out.2]; unfold prtE; rw [if_pos hlong]
    subst hg5
    go_wp2_with fail
    go_ret
    exact ⟨rfl, H5.out.2⟩
  have hg0 : pg = 0 := by rw [← HPT.out.2]; unfold prtE; rw [if_neg hlong]
  subst hg0
  have HTX : Hid (pt = b.txt []) := by show _ = _; rw [← HPT.out.1]; unfold prtO; rw [if_neg hlong]
  have HTL : Hid ((partsO b.ls).length ≤ 65536) := by show _ ≤ _; rw [← b.parts]; omega
  have hn0 : 0 < n := by
    have h1 := H4.out.1.1
    rw [HNS.out, topL_len] at h1
    omega
  have hnl : n ≤ 1024 := by
    have h1 := H4.out.1.1
    rw [HNS.out] at h1
    have := HB.out.2.1
    omega
  obtain ⟨ao1, cap1, hv1, _, _, hcell⟩ := id H5.out.1.2.2
  have HNL : Hid (ns.length = n) := H5.out.1.1
  rw [HNL.out] at hv1
  injection hv1 with hv2 hv3 hv4
  subst hv2 hv4
  obtain ⟨b1, o1, rfl, hb1, hc1⟩ := hcell (by rw [HNL.out]; exact hn0)
  obtain ⟨_, _, lv, hlv, hks⟩ := hc1 (n - 1) (by rw [HNL.out]; omega)
  have hks : KsIs w5 lv (b.idx 0) := by
    have h1 := HNS.out
    subst h1
    have h2 := top_ks b (by rw [HNL.out]; omega)
    simp only [HNL.out] at h2
    rw [← h2]
    exact hks
  obtain ⟨ta, tc, rfl, htc, htc2, hta⟩ := hks
  obtain ⟨m, hm⟩ : ∃ m, (b.idx 0).length = m := ⟨_, rfl⟩
  have HM := Lib.hid (show (b.idx 0).length = m ∧ b.ls.length = m from ⟨hm, by rw [← hm, b.idx_len]⟩)
  have HTA := Lib.hid hta
  rw [hm] at hlv htc
  have c5 := H5.out.1.cell
  have hsub : IntKind.i64.wrap ((n : Int) - 1) = ((n - 1 : Nat) : Int) := by rw [IntKind.wrap_i64]; omega
  have hn1 : n - 1 < n := by omega
  clear hlong hv3 hcell hc1 hm hta
  go_wp2_with fail
  clear c5 hlv
  go_loopw [12, 14] (fun sj si wr => ∃ (k : Nat) (J : ByteArray), sj = .string J ∧ si = .int .i64 k ∧ k ≤ m ∧ Hid (bl J = partsO (b.ls.take k) ∧ Kept [] w5 wr)) (fun _ si _ => m - (intOf si).toNat)
  case atStart => exact ⟨0, _, rfl, rfl, by omega, rfl, Kept.refl _ _⟩
  case round =>
    obtain ⟨k, J, rfl, rfl, hk, HS⟩ := hrel
    have hJl : J.size ≤ 65536 := by
      have h1 := parts_le b.ls k
      rw [← HS.out.1, bl_len] at h1
      have := HTL.out
      omega
    have HAR := Lib.hid (H5.out.1.keep HS.out.2)
    by_cases hkm : k < m
    · have hki : k < (b.idx 0).length := by rw [HM.out.1]; exact hkm
      have hkl : k < b.ls.length := by rw [HM.out.2]; exact hkm
      obtain ⟨b2, o2, rfl, hb2, hc2⟩ := HTA.out (by omega)
      have y0 := hc2 k hki
      have HV := Lib.hid ((HVA.out _ b wr.drew HB.out.1 HB.out.2.1 HB.out.2.2.1 (by rw [← HNS.out]; exact (HAR.out.keep (Kept.drew _ _)).2.2)).1 k hkl hki)
      obtain ⟨x, hx⟩ : ∃ x, (b.idx 0)[k] = x := ⟨_, rfl⟩
      rw [hx] at y0 HV
      have HJN : Hid (bl (J ++ strL (b.ls[k].txt []) ++ ⟨#[10]⟩) = partsO (b.ls.take (k + 1))) := by
        show _ = _
        rw [parts_take hkl, ← HS.out.1]
        simp [bl, strL]
      have hVl : (strL (b.ls[k].txt [])).size ≤ 65536 := by
        have h1 := parts_le b.ls (k + 1)
        have h2 := HTL.out
        rw [← HJN.out] at h1
        have h3 := bl_len (J ++ strL (b.ls[k].txt []) ++ ⟨#[10]⟩)
        rw [ByteArray.size_append, ByteArray.size_append] at h3
        omega
      obtain ⟨V, hV⟩ : ∃ V, strL (b.ls[k].txt []) = V := ⟨_, rfl⟩
      rw [hV] at HV HJN hVl
      have HY := Lib.hid (And.intro hb2 y0)
      have z0 : ∀ w', Kept [] wr.drew w' → w'.cell? ⟨P, 0, none⟩ = some (.slice (some ⟨b1, o1, none⟩) n cap) := fun w' hk' => ((HAR.out.keep (Kept.drew _ _)).keep hk').cell
      have z1 : ∀ w', Kept [] wr.drew w' → w'.cell? ⟨b2, o2 + k, none⟩ = some (.int .i64 (x : Int)) := fun w' hk' => ((HS.out.2.trans ((Kept.drew _ _).trans hk')).cell (p := ⟨b2, o2 + k, none⟩) HY.out.1 (by simp)).trans HY.out.2
      clear hx hV y0 hc2 hb2
      go_wp2_with fail
      refine wp_region_ord [(true, 0), (true, 1), (true, 2), (true, 3), (true, 4), (true, 5), (false, 6), (true, 7), (true, 8), (true, 9)] [] (by kernel_rfl) (fun _ _ d _ _ h => by cases d <;> exact h) (by kernel_rfl) rfl (by kernel_rfl) (by kernel_rfl) ?_
      simp only [named, List.getD_cons_zero, List.getD_cons_succ]
      repeat (first | (apply wpGrow_take; (case hw => rfl); (case hv => intro w' hk; go_simp; with_reducible rfl); simp only [Act.put, List.setIfInBounds_toArray, List.set_cons_zero, List.set_cons_succ]) | (refine wpGrow_pass (by rfl) ?_; simp only [Act.put, List.setIfInBounds_toArray, List.set_cons_zero, List.set_cons_succ]) | (refine wpGrow_skip (by rfl) ?_; simp only [Act.put, List.setIfInBounds_toArray, List.set_cons_zero, List.set_cons_succ]))
      clear z0 z1
      refine wpGrow_force (by rfl) (fun K hK => ?_)
      go_simp
      refine HV.out.mono ?_
      rintro e w6 ⟨rfl, hk6⟩
      have HK6 : Hid (Kept [] w5 w6) := HS.out.2.trans ((Kept.drew _ _).trans hk6)
      refine hK _ _ hk6 ?_
      clear hK K hk6
      refine wpGrow_take (.string (J ++ V)) (by rfl) (fun w' hk' => ?_) ?_
      · go_simp
        omega
      simp only [Act.put, List.setIfInBounds_toArray, List.set_cons_zero, List.set_cons_succ]
      refine wpGrow_take (.string (J ++ V ++ ⟨#[10]⟩)) (by rfl) (fun w' hk' => ?_) ?_
      · go_simp
        omega
      simp only [Act.put, List.setIfInBounds_toArray, List.set_cons_zero, List.set_cons_succ]
      repeat (first | (apply wpGrow_take; (case hw => rfl); (case hv => intro w' hk; go_simp; with_reducible rfl); simp only [Act.put, List.setIfInBounds_toArray, List.set_cons_zero, List.set_cons_succ]) | (refine wpGrow_pass (by rfl) ?_; simp only [Act.put, List.setIfInBounds_toArray, List.set_cons_zero, List.set_cons_succ]) | (refine wpGrow_skip (by rfl) ?_; simp only [Act.put, List.setIfInBounds_toArray, List.set_cons_zero, List.set_cons_succ]))
      refine wpGrow_nil ?_
      go_wp2_with fail
      go_roundw
      case rel => exact ⟨k + 1, _, rfl, by go_num, by omega, HJN.out, HK6.out⟩
      case measure => simp [intOf]; omega
    · have hJ : J = strL pt := by
        have h1 : bl J = bl (strL pt) := by
          rw [HS.out.1, bl_strL, HTX.out, b.parts, List.take_of_length_le (by rw [HM.out.2]; omega)]
        have h2 : J.data.toList = (strL pt).data.toList := h1
        cases J
        cases hq : strL pt
        rw [hq] at h2
        simp at h2
        rw [h2]
      subst hJ
      have c6 := HAR.out.cell
      have HV1 := Lib.hid ((HVA.out _ b wr HB.out.1 HB.out.2.1 HB.out.2.2.1 (by rw [← HNS.out]; exact HAR.out.2.2)).2 (-1) (.inl (by omega)))
      go_wp2_with fail
      clear c6
      refine HV1.out.mono ?_
      rintro e w6 ⟨rfl, hk6⟩
      have HAR6 := Lib.hid (HAR.out.keep hk6)
      have HK6 : Hid (Kept [] w w6) := H5.out.2.trans (HS.out.2.trans hk6)
      have c6 := HAR6.out.cell
      have HV2 := Lib.hid ((HVA.out _ b w6 HB.out.1 HB.out.2.1 HB.out.2.2.1 (by rw [← HNS.out]; exact HAR6.out.2.2)).2 (n : Int) (.inr (by rw [← HNS.out, HNL.out]; omega)))
      clear hk6
      go_wp2_with fail
      clear c6
      refine HV2.out.mono ?_
      rintro e w7 ⟨rfl, hk7⟩
      have HK7 : Hid (Kept [] w w7) := HK6.out.trans hk7
      clear hk7
      go_wp2_with fail
      go_ret
      exact ⟨rfl, HK7.out⟩
end Go.Proofs.YtfpdgdacifiejaaGreat

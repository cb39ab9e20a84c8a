/-
  Layer 7: the walk of CatalogReads.
  Conditions: those that each theorem states.
-/
import Derived.Test.YtfofhnbijjocfaaGreatDoorKRDec
import Derived.Test.YtfofhnbijjocfaaGreatDoorKSame
import Derived.Test.YtfofhnbijjocfaaGreatDoorKShown
import Derived.Test.YtfofhnbijjocfaaGreatDoorKCuts
namespace Go.Proofs.YtfofhnbijjocfaaGreatDoor
open Go.RowKit Go.Maps
set_option maxRecDepth 100000

theorem bv_set (L : List UInt8) (k : Nat) (x : UInt8) : (bv L).set k (.int .u8 (x.toNat : Int)) = bv (L.set k x) := by simp [bv, List.map_set]
theorem decE_ok {B : List UInt8} (h : decE B = 0) : checkO (decC B) = 0 ∧ encL (decC B) = B := by
  unfold decE at h
  cases hd : decO B with
  | none => rw [hd] at h; simp at h
  | some c =>
    obtain ⟨h1, h2⟩ := decO_some hd
    unfold decC
    rw [hd]
    exact ⟨h1, by show encL c = B; unfold encL; rw [if_pos h1]; exact h2⟩

set_option maxRecDepth 100000 in
set_option maxHeartbeats 8000000 in
theorem reads_walk (B : List UInt8) (ao : Option Addr) (len cap : Nat) (w : World) (h : ArgB w ao len cap B) (ht : TysIs w) :
    Calls Tryz.prog 4 #[.slice ao len cap] w fun e w' => e = .returned (.bool true) ∧ Kept [] w w' := by
  have HARG := Lib.hid h
  have HTY : Hid (∀ w', Kept [] w w' → TysIs w') := fun w' hk => ht.kept hk
  have HSH := Lib.hid (shown7_any w ht)
  have HLEN : Hid (B.length = len ∧ len ≤ 140737488355328) := ⟨h.hlen, h.hle⟩
  obtain ⟨c, hc⟩ : ∃ c, decC B = c := ⟨_, rfl⟩
  obtain ⟨ge, hge⟩ : ∃ ge, decE B = ge := ⟨_, rfl⟩
  obtain ⟨vv, hvv⟩ : ∃ vv, c.ver = vv := ⟨_, rfl⟩
  obtain ⟨nd, hnd⟩ : ∃ nd, strL c.node = nd := ⟨_, rfl⟩
  obtain ⟨rn, hrn⟩ : ∃ n, c.R.length = n := ⟨_, rfl⟩
  obtain ⟨en, hen⟩ : ∃ m, c.E.length = m := ⟨_, rfl⟩
  obtain ⟨p, hp⟩ : ∃ p, checkO c = p := ⟨_, rfl⟩
  have HBX : Hid (∀ w' v, CatIs w' v c → ∃ ra rc ea ec, v = .agg #[.int .i64 vv, .string nd, .slice ra rn rc, .slice ea en ec]) := fun w' v hi => by
    obtain ⟨ra, rc, ea, ec, e, _⟩ := hi.box
    rw [e, hvv, hnd, hrn, hen]
    exact ⟨ra, rc, ea, ec, rfl⟩
  have HOK : Hid (ge = 0 → p = 0 ∧ encL c = B) := fun e => by
    have := decE_ok (B := B) (by rw [hge]; exact e)
    rw [hc] at this
    exact ⟨by rw [← hp]; exact this.1, this.2⟩
  have HDEC : Hid (∀ da dc w', ArgB w' da len dc B → Kept [] w w' → Calls Tryz.prog 12 #[.slice da len dc] w' fun e w2 => ∃ v, e = .returned (.tuple #[v, .int .i64 ge]) ∧ Hid (CatAt w'.heap.size w2 v c ∧ Kept [] w' w2)) := fun da dc w' ha hk => by
    have := Decode_any B da len dc w' ha (HTY.out w' hk)
    unfold DecodeOut at this
    rw [hc, hge] at this
    exact this
  have HRD : Hid (∀ w', Kept [] w w' → Calls Tryz.prog 13 #[.slice ao len cap] w' fun e w2 => ∃ v, e = .returned (.tuple #[v, .int .i64 ge]) ∧ Hid (CatIs w2 v c ∧ Kept [] w' w2)) := fun w' hk => by
    have := rcDecode_any B ao len cap w' (HARG.out.kept hk)
    unfold RDecOut at this
    rw [hc, hge] at this
    exact this
  have HEN : Hid (∀ w' v, CatIs w' v c → Kept [] w w' → Calls Tryz.prog 7 #[v] w' fun e w2 => ∃ v2, e = .returned (.tuple #[v2, .int .i64 p]) ∧ Hid (OwnB w'.heap.size w2 v2 (encL c) ∧ Kept [] w' w2)) := fun w' v hi hk => by rw [← hp]; exact Encode_any c v w' hi (HTY.out w' hk)
  clear h ht hc hge hvv hnd hrn hen hp
  go_enter Tryz.func4, Tryz.ntmps4
  go_wp2_with fail
  refine HSH.out.mono ?_
  rintro e w1 ⟨rfl, hk1⟩
  have HK1 := Lib.hid hk1
  clear hk1
  obtain ⟨b1, hb1⟩ : ∃ b1, w1.heap.size = b1 := ⟨_, rfl⟩
  obtain ⟨w2, hw2⟩ : ∃ w2, w1.alloc (.cells #[] 5) = w2 := ⟨_, rfl⟩
  have HK2 : Hid (Kept [] w1 w2) := by show Kept _ _ _; rw [← hw2]; exact Kept.alloc _ _ _
  have how : OwnB b1 w2 (.slice (some ⟨w1.heap.size, 0, none⟩) 0 0) [] := by
    rw [← hw2]
    exact ⟨by simp [bv], .inr ⟨w1.heap.size, 0, #[], rfl, by omega, heap_alloc_last _ _, Nat.le_refl _, by unfold maxLen; omega, rfl, rfl⟩⟩
  obtain ⟨v3, w3, hrun3, hown3, hk3⟩ := kapp_arg b1 w2 _ [] B ao len cap how (by have := HK2.out.size; omega) (HARG.out.kept (HK1.out.trans HK2.out)) (by have := HLEN.out; simp; omega)
  rw [List.nil_append] at hown3
  have HK13 : Hid (Kept [] w1 w3) := HK2.out.into hk3 (by simp [Value.ownBlock])
  have HK3 : Hid (Kept [] w w3) := HK1.out.trans HK13.out
  have HB1 : Hid (w1.heap.size = b1) := hb1
  obtain ⟨da, dc, rfl, hda⟩ := hown3.arg (by have := HLEN.out; omega)
  rw [HLEN.out.1] at hown3 hda hrun3
  have HRUN3 := Lib.hid hrun3
  have HOW3 := Lib.hid hown3
  have HD := Lib.hid (HDEC.out da dc w3 hda HK3.out)
  clear hrun3 hown3 hk3 hda how hb1
  go_wp2_with (at_builtin; refine wpList_append_run rfl _ _ 28 rfl _ _ _ rfl rfl HRUN3.out ?_)
  clear HRUN3
  refine HD.out.mono ?_
  rintro e w4 ⟨v4, rfl, H4⟩
  obtain ⟨ra, rc, ea, ec, rfl⟩ := HBX.out _ _ H4.out.1.is
  obtain ⟨gx, hgx⟩ : ∃ gx, w4.heap.size = gx := ⟨_, rfl⟩
  obtain ⟨w5, hw5⟩ : ∃ w5, w4.alloc (.cells #[.int .i64 vv, .string nd, .slice ra rn rc, .slice ea en ec] 25) = w5 := ⟨_, rfl⟩
  have H5 : Hid (w5.heap[gx]? = some (.cells #[.int .i64 vv, .string nd, .slice ra rn rc, .slice ea en ec] 25) ∧ Kept [] w4 w5 ∧ w3.heap.size ≤ gx) := by
    rw [← hw5, ← hgx]; exact ⟨heap_alloc_last _ _, Kept.alloc _ _ _, H4.out.2.size⟩
  have HOW5 : Hid (OwnB b1 w5 (.slice da len dc) B) := HOW3.out.kept (H4.out.2.trans H5.out.2.1) (by simp)
  obtain ⟨ex, hex⟩ : ∃ ex, (Value.slice da len dc).ownBlock.toList = ex := ⟨_, rfl⟩
  have HEX : Hid (∀ q ∈ ex, b1 ≤ q ∧ q < w3.heap.size) := fun q hq => by
    rw [← hex] at hq
    exact World.ownsRow.lt HOW3.out q (by simpa using hq)
  have HEXE := Lib.hid hex
  have HGXE := Lib.hid hgx
  have HW5E := Lib.hid hw5
  clear hex hgx hw5 HOW3
  go_upto_block 0 with fail
  rw [HW5E.out, HGXE.out]
  clear HW5E HGXE
  go_cut [7] (fun s7 wx => Hid (Kept ex w5 wx))
  case first =>
    go_wp2_with fail
    go_loopw [7] (fun s7 wr => ∃ k : Nat, k ≤ len ∧ s7 = .int .i64 k ∧ Hid (∃ L, L.length = len ∧ OwnB b1 wr (.slice da len dc) L) ∧ Hid (Kept ex w5 wr)) (fun s7 _ => len - (intOf s7).toNat)
    case atStart => exact ⟨0, by omega, rfl, ⟨B, HLEN.out.1, HOW5.out⟩, Kept.refl _ _⟩
    case round =>
      obtain ⟨k, hk, rfl, HL, HW⟩ := hrel
      have hlen := HLEN.out.2
      by_cases hlt : k < len
      case neg =>
        go_wp2_with fail
        go_meet
        exact HW.out
      obtain ⟨L, hLl, hLo⟩ := HL.out
      obtain ⟨b, hda⟩ : ∃ b, da = some ⟨b, 0, none⟩ := by
        rcases owns_range hLo with ⟨g, cap', e, _⟩ | ⟨_, hn, _⟩
        · injection e with e1 _ _; exact ⟨g, e1⟩
        · omega
      have HDA := Lib.hid hda
      have hLo2 := hLo
      rw [hda] at hLo2
      unfold OwnB at hLo2
      rw [hLl] at hLo2
      obtain ⟨cu, cc⟩ : ∃ cu : Int, wr.cell? ⟨b, k, none⟩ = some (.int .u8 cu) := by
        rw [hLo2.cellAt k (by omega)]
        exact ⟨(L[k].toNat : Int), by simp [bv, hLl, hlt]⟩
      have ff : wr.frozen? ⟨b, k, none⟩ = false := hLo2.frozenAt k
      have hst := (hLo2.stored k (.int .u8 99)).1
      have HN : Hid (∃ L2, L2.length = len ∧ OwnB b1 (wr.setCell ⟨b, k, none⟩ (.int .u8 99)) (.slice da len dc) L2) := by
        refine ⟨L.set k 99, by simpa using hLl, ?_⟩
        rw [HDA.out]
        unfold OwnB
        rw [List.length_set, hLl, ← bv_set]
        exact hst
      have HKN : Hid (Kept ex w5 (wr.setCell ⟨b, k, none⟩ (.int .u8 99))) := by
        refine HW.out.trans (Kept.setCell _ _ _ _ ?_)
        rw [← HEXE.out, HDA.out]
        simp [Value.ownBlock]
      clear hLo2 hst hLo hLl HL
      subst hda
      go_wp2_with fail
      go_roundw
      case rel => exact ⟨k + 1, by omega, by go_num, HN, HKN⟩
      case measure => simp [intOf]; omega
  case rest =>
  obtain ⟨w6, rfl⟩ : ∃ x, x = wc := ⟨_, rfl⟩
  have HK56 := hcut
  clear hcut
  have HK6 : Hid (Kept [] w w6) := (HK3.out.trans (H4.out.2.trans H5.out.2.1)).into HK56.out (fun q hq => by have := (HEX.out q hq).1; have := HK1.out.size; have := HB1.out; omega)
  have HA6 : Hid (∀ w', Kept [] w6 w' → CatIs w' (.agg #[.int .i64 vv, .string nd, .slice ra rn rc, .slice ea en ec]) c) := fun w' hk => H4.out.1 ex w' ((H5.out.2.1.mono (by simp)).trans (HK56.out.trans (hk.mono (by simp)))) (fun q hq => (HEX.out q hq).2)
  have HX6 : Hid (∀ w', Kept [] w6 w' → w'.cell? ⟨gx, 0, none⟩ = some (.int .i64 vv) ∧ w'.cell? ⟨gx, 1, none⟩ = some (.string nd) ∧ w'.cell? ⟨gx, 2, none⟩ = some (.slice ra rn rc) ∧ w'.cell? ⟨gx, 3, none⟩ = some (.slice ea en ec)) := fun w' hk => by
    have e0 := hk.heap (by simp) (HK56.out.heap (fun hm => by have := (HEX.out _ hm).2; have := H5.out.2.2; omega) H5.out.1)
    exact ⟨cell_of_row _ _ 0 _ _ _ e0, cell_of_row _ _ 1 _ _ _ e0, cell_of_row _ _ 2 _ _ _ e0, cell_of_row _ _ 3 _ _ _ e0⟩
  have HD6 := Lib.hid (HRD.out w6 HK6.out)
  clear HD H4 H5 HOW5 HEX HEXE HK56 HK13 HB1
  go_wp2_with fail
  refine HD6.out.mono ?_
  rintro e w7 ⟨v7, rfl, H7⟩
  obtain ⟨sa, sc, fa, fc, rfl⟩ := HBX.out _ _ H7.out.1
  obtain ⟨w8, hw8⟩ : ∃ w8, w7.alloc (.cells #[.int .i64 vv, .string nd, .slice sa rn sc, .slice fa en fc] 25) = w8 := ⟨_, rfl⟩
  have H8 : Hid (w8.heap[w7.heap.size]? = some (.cells #[.int .i64 vv, .string nd, .slice sa rn sc, .slice fa en fc] 25) ∧ Kept [] w7 w8) := by
    rw [← hw8]; exact ⟨heap_alloc_last _ _, Kept.alloc _ _ _⟩
  have HK68 : Hid (Kept [] w6 w8) := H7.out.2.trans H8.out.2
  have HSM : Hid (Calls Tryz.prog 9 #[.agg #[.int .i64 vv, .string nd, .slice ra rn rc, .slice ea en ec], .agg #[.int .i64 vv, .string nd, .slice sa rn sc, .slice fa en fc]] w8 fun e w' => e = .returned (.bool true) ∧ Kept [] w8 w') := by
    have := rcsame_any c c _ _ w8 (HA6.out w8 HK68.out) (H7.out.1.kept H8.out.2)
    rw [show sameC c c = true from decide_eq_true rfl] at this
    exact this
  obtain ⟨x0, x1, x2, x3⟩ := HX6.out w8 HK68.out
  have y0 : w8.cell? ⟨w7.heap.size, 0, none⟩ = some (.int .i64 vv) := cell_of_row _ _ 0 _ _ _ H8.out.1
  have y1 : w8.cell? ⟨w7.heap.size, 1, none⟩ = some (.string nd) := cell_of_row _ _ 1 _ _ _ H8.out.1
  have y2 : w8.cell? ⟨w7.heap.size, 2, none⟩ = some (.slice sa rn sc) := cell_of_row _ _ 2 _ _ _ H8.out.1
  have y3 : w8.cell? ⟨w7.heap.size, 3, none⟩ = some (.slice fa en fc) := cell_of_row _ _ 3 _ _ _ H8.out.1
  go_wp2_with fail
  refine HSM.out.mono ?_
  rintro e w9 ⟨rfl, hk9⟩
  have HK69 : Hid (Kept [] w6 w9) := HK68.out.trans hk9
  clear hk9 x0 x1 x2 x3 y0 y1 y2 y3 hw8 HSM
  by_cases hg0 : ge = 0
  case neg =>
    have q0 : (ge != 0) = true := by simpa using hg0
    go_wp2_with fail
    go_ret
    exact ⟨rfl, HK6.out.trans HK69.out⟩
  obtain ⟨hp0, hE⟩ := HOK.out hg0
  have HEB := Lib.hid hE
  subst hg0
  subst hp0
  clear hE HOK
  have HE := Lib.hid (HEN.out w9 _ (HA6.out w9 HK69.out) (HK6.out.trans HK69.out))
  rw [HEB.out] at HE
  obtain ⟨x0, x1, x2, x3⟩ := HX6.out w9 HK69.out
  go_wp2_with fail
  refine HE.out.mono ?_
  rintro e w10 ⟨v10, rfl, H10⟩
  clear x0 x1 x2 x3
  obtain ⟨ga, gn, gk, rfl⟩ : ∃ ga gn gk, v10 = .slice ga gn gk := by obtain ⟨x, y, e, _⟩ := H10.out.1.val; exact ⟨x, _, y, e⟩
  have HK10 : Hid (Kept [] w w10) := (HK6.out.trans HK69.out).trans H10.out.2
  have cv1 : (convert 28 9 (.slice ga gn gk)).run Tryz.prog w10 = .ok (.string (strL B)) w10 := H10.out.1.slIs.conv
  have cv2 : (convert 28 9 (.slice ao len cap)).run Tryz.prog w10 = .ok (.string (strL B)) w10 := (HARG.out.kept HK10.out).conv
  go_wp2_with fail
  go_ret
  exact ⟨rfl, HK10.out⟩
end Go.Proofs.YtfofhnbijjocfaaGreatDoor

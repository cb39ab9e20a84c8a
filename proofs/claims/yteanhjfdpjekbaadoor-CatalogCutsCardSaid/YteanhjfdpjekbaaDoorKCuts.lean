/-
  Layer 7: the walk of CatalogCuts.
  Conditions: those that each theorem states.
-/
import Derived.Test.YteanhjfdpjekbaaDoorKShown
import Derived.Deep.DeepCutAuto
namespace Go.Proofs.YteanhjfdpjekbaaDoor
open Go.RowKit Go.Maps
set_option maxRecDepth 100000

/-- Bytes of the call's own, as a slice that is read. -/
theorem OwnB.arg {base : Nat} {w : World} {v : Value} {L : List UInt8} (h : OwnB base w v L) (hl : L.length ≤ 140737488355328) : ∃ ao cap, v = .slice ao L.length cap ∧ ArgB w ao L.length cap L := by
  rcases owns_range h with ⟨g, cap, rfl, _, hg, hc, hm, hr⟩ | ⟨rfl, hn, _⟩
  · exact ⟨_, _, rfl, rfl, hl, hc, by unfold maxLen at hm; omega, fun e => (by cases e), .inr ⟨g, 0, rfl, hg, hr⟩⟩
  · exact ⟨_, _, by rw [hn], rfl, hl, by omega, by omega, fun _ => rfl, .inl hn⟩
/-- A slice that is read is appended to bytes of the call's own. -/
theorem kapp_arg (base : Nat) (w : World) (v : Value) (L B : List UInt8) (ao : Option Addr) (len cap : Nat) (hown : OwnB base w v L) (hb : base ≤ w.heap.size) (h : ArgB w ao len cap B) (hl : L.length + len ≤ 140737488355328) :
    ∃ v' w', (Builtin.append_ #[34, 34] 34 #[v, .slice ao len cap]).run Tryd.prog w = .ok v' w' ∧ OwnB base w' v' (L ++ B) ∧ Kept v.ownBlock.toList w w' := by
  have go : ∀ ad, (∀ j u, (bv B)[j]? = some u → w.cell? (Addr.add ad j) = some u) → ao = some ad → ∃ v' w', (Builtin.append_ #[34, 34] 34 #[v, .slice ao len cap]).run Tryd.prog w = .ok v' w' ∧ OwnB base w' v' (L ++ B) ∧ Kept v.ownBlock.toList w w' := by
    rintro ad hsrc rfl
    obtain ⟨v', w', hrun, ho, hk, _⟩ := own_app elemByte 34 w base v L.length (bv L) hown ad len cap (bv B) (by rw [bv_length, h.hlen]; omega) hsrc (bv_one _) (by unfold maxLen; omega) (by omega) hb
    refine ⟨v', w', hrun, ?_, hk⟩
    unfold OwnB
    rw [List.length_append, h.hlen, show bv (L ++ B) = bv L ++ bv B by simp [bv]]
    exact ho
  rcases h.at' with h0 | ⟨b, o, rfl, hbl, hr⟩
  · have hB : B = [] := List.eq_nil_of_length_eq_zero (by rw [h.hlen, h0])
    cases ao with
    | some ad => exact go ad (fun j u hu => by rw [hB] at hu; simp [bv] at hu) rfl
    | none =>
      obtain ⟨i, hi, _, hsz, _⟩ := info_parts elemByte.info
      have hrun := run_append_owned_none (P := Tryd.prog) (w := w) base 34 34 5 i 1 Tryd.underlying34 hi v L.length (bv L) hown
      rw [h0, h.hnil rfl, hB, List.append_nil]
      exact ⟨_, _, hrun, hown, Kept.refl _ _⟩
  · exact go ⟨b, o, none⟩ (fun j u hu => by rw [Addr.add_mid]; exact hr j u hu) rfl

theorem decE_none {B : List UInt8} (h : decO B = none) : decE B = 70 := by unfold decE; rw [h]
theorem catB_pos (c : Cat) : 0 < (catB c).length := by simp [catB, two]

set_option maxRecDepth 100000 in
set_option maxHeartbeats 8000000 in
theorem cuts_walk (c : Cat) (n : Int) (B : List UInt8) (ao : Option Addr) (len cap : Nat) (v : Value) (w : World) (h : CatIs w v c) (hB : ArgB w ao len cap B) (hlen : len ≤ 140737488351232) (ht : TysIs w) (hb : -9223372036854775808 ≤ n ∧ n ≤ 9223372036854775807) :
    Calls Tryd.prog 5 #[v, .int .i64 n, .slice ao len cap] w fun e w' => e = .returned (.bool true) ∧ Kept [] w w' := by
  have HH := Lib.hid h
  have HARG := Lib.hid hB
  obtain ⟨ra, rc, ea, ec, rfl, hbx⟩ := h.box
  obtain ⟨vv, hvv⟩ : ∃ vv, c.ver = vv := ⟨_, rfl⟩
  obtain ⟨nd, hnd⟩ : ∃ nd, strL c.node = nd := ⟨_, rfl⟩
  obtain ⟨rn, hrn⟩ : ∃ n, c.R.length = n := ⟨_, rfl⟩
  obtain ⟨en, hen⟩ : ∃ m, c.E.length = m := ⟨_, rfl⟩
  have hA := Kept.alloc [] w (.cells #[.int .i64 c.ver, .string (strL c.node), .slice ra c.R.length rc, .slice ea c.E.length ec] 25)
  obtain ⟨w1, hw1⟩ : ∃ w1, w.alloc (.cells #[.int .i64 c.ver, .string (strL c.node), .slice ra c.R.length rc, .slice ea c.E.length ec] 25) = w1 := ⟨_, rfl⟩
  rw [hw1] at hbx hA
  have HBX := Lib.hid hbx
  have HA := Lib.hid hA
  have HC : Hid (∀ w', Kept [] w1 w' → w'.cell? ⟨w.heap.size, 0, none⟩ = some (.int .i64 vv) ∧ w'.cell? ⟨w.heap.size, 1, none⟩ = some (.string nd) ∧ w'.cell? ⟨w.heap.size, 2, none⟩ = some (.slice ra rn rc) ∧ w'.cell? ⟨w.heap.size, 3, none⟩ = some (.slice ea en ec)) := fun w' hk => by
    rw [← hrn, ← hen, ← hvv, ← hnd]
    exact ⟨(HBX.out.kept hk).c0, (HBX.out.kept hk).c1, (HBX.out.kept hk).c2, (HBX.out.kept hk).c3⟩
  rw [hrn, hen, hvv, hnd] at hw1 HH
  rw [hrn, hen, hvv, hnd]
  have HTY : Hid (∀ w', Kept [] w w' → TysIs w') := fun w' hk => ht.kept hk
  obtain ⟨p, hp⟩ : ∃ p, checkO c = p := ⟨_, rfl⟩
  have HEN : Hid (∀ w', Kept [] w1 w' → Calls Tryd.prog 11 #[.agg #[.int .i64 vv, .string nd, .slice ra rn rc, .slice ea en ec]] w' fun e w2 => ∃ v, e = .returned (.tuple #[v, .int .i64 p]) ∧ Hid (OwnB w'.heap.size w2 v (encL c) ∧ Kept [] w' w2)) := fun w' hk => by rw [← hp]; exact Encode_any c _ w' (HH.out.kept (HA.out.trans hk)) (HTY.out w' (HA.out.trans hk))
  have HP := Lib.hid hp
  have HSH := Lib.hid (shown7_any w1 (HTY.out w1 HA.out))
  clear h hB hbx hA ht hvv hnd hrn hen hp
  go_enter Tryd.func5, Tryd.ntmps5
  go_wp2_with fail
  refine HSH.out.mono ?_
  rintro e w2 ⟨rfl, hk2⟩
  have HK2 := Lib.hid hk2
  clear hk2 hw1
  obtain ⟨c0, c1, c2, c3⟩ := HC.out w2 HK2.out
  go_wp2_with fail
  refine (HEN.out w2 HK2.out).mono ?_
  rintro e w3 ⟨v3, rfl, H3⟩
  have HK3 : Hid (Kept [] w1 w3) := HK2.out.trans H3.out.2
  clear c0 c1 c2 c3
  by_cases h0 : p = 0
  case neg =>
    have q0 : (p != 0) = true := by simpa using h0
    go_wp2_with fail
    go_ret
    exact ⟨rfl, HA.out.trans HK3.out⟩
  subst h0
  have hE : encL c = catB c := by unfold encL; rw [if_pos HP.out]
  rw [hE] at H3
  have hlb := (checkO_ok HP.out).2
  have hlp := catB_pos c
  obtain ⟨ba, bc, rfl, hba⟩ := H3.out.1.arg (by omega)
  obtain ⟨m, hm⟩ : ∃ m, (catB c).length = m := ⟨_, rfl⟩
  have HM := Lib.hid hm
  rw [hm] at hlb hlp hba H3
  rw [hm]
  have HBA := Lib.hid hba
  have hmc := hba.hcap
  have hmc63 := hba.cap63
  clear hm hE hba
  obtain ⟨I, hI⟩ : ∃ I : Nat, (if n < 0 then -(n + 1) else n) = (I : Int) := ⟨(if n < 0 then -(n + 1) else n).toNat, by split <;> omega⟩
  have hI63 : I ≤ 9223372036854775807 := by split at hI <;> omega
  have HI := Lib.hid hI
  have hmi : (0 : Int) < (m : Int) := by omega
  have hmb : ((m : Int) == 0) = false := by rw [beq_eq_false_iff_ne]; omega
  have hmb2 : (m == 0) = false := by rw [beq_eq_false_iff_ne]; omega
  clear hI
  go_upto_if 28 with (fail)
  go_cut [1] (fun s1 wx => s1 = .int .i64 (I : Int) ∧ Hid (Kept [] w3 wx))
  case first =>
    by_cases hneg : n < 0
    · have e1 : -(n + 1) = (I : Int) := by have := HI.out; rw [if_pos hneg] at this; exact this
      have e2 : IntKind.i64.wrap (n + 1) = n + 1 := by rw [IntKind.wrap_i64]; omega
      have e3 : IntKind.i64.wrap (-(n + 1)) = (I : Int) := by rw [IntKind.wrap_i64]; omega
      go_wp2_with fail
      go_meet
      exact ⟨by first | rfl | (rw [← e1]; first | rfl | (congr 1; omega)), by show Kept [] w3 w3; exact Kept.refl _ _⟩
    · have e1 : n = (I : Int) := by have := HI.out; rw [if_neg hneg] at this; exact this
      subst e1
      go_wp2_with fail
      go_meet
      exact ⟨rfl, by show Kept [] w3 w3; exact Kept.refl _ _⟩
  case rest =>
    obtain ⟨rfl, HK4⟩ := hcut
    obtain ⟨j, hj⟩ : ∃ j, I % m = j := ⟨_, rfl⟩
    have hjm : j < m := by rw [← hj]; exact Nat.mod_lt _ hlp
    have hmod : (I : Int) % (m : Int) = (j : Int) := by rw [← hj]; rfl
    have hmod2 : Int.tmod (I : Int) (m : Int) = (j : Int) := by rw [Int.tmod_eq_emod_of_nonneg (by omega)]; exact hmod
    have HKc : Hid (Kept [] w wc) := (HA.out.trans HK3.out).trans HK4.out
    have HD1 : Hid (Calls Tryd.prog 13 #[.slice ba j bc] wc fun e w' => ∃ v, e = .returned (.tuple #[v, .int .i64 70]) ∧ Hid (CatAt wc.heap.size w' v (decC ((catB c).take j)) ∧ Kept [] wc w')) := by
      have hd : decE ((catB c).take j) = 70 := decE_none (decO_cut HP.out (by rw [HM.out]; exact hjm))
      rw [← hd]
      exact Decode_any _ ba j bc wc ((HBA.out.kept HK4.out).front (by omega)) (HTY.out wc HKc.out)
    clear hj
    go_wp2_with fail
    refine HD1.out.mono ?_
    rintro e w5 ⟨v5, rfl, H5⟩
    obtain ⟨qa, qc, xa, xc, rfl, _⟩ := H5.out.1.is.box
    generalize (decC ((catB c).take j)).ver = z1
    generalize strL (decC ((catB c).take j)).node = z2
    generalize (decC ((catB c).take j)).R.length = z3
    generalize (decC ((catB c).take j)).E.length = z4
    obtain ⟨w6, hw6⟩ : ∃ w6, w5.alloc (.cells #[.int .i64 z1, .string z2, .slice qa z3 qc, .slice xa z4 xc] 25) = w6 := ⟨_, rfl⟩
    have HK6 : Hid (Kept [] wc w6) := by show Kept _ _ _; rw [← hw6]; exact H5.out.2.trans (Kept.alloc _ _ _)
    obtain ⟨w7, hw7⟩ : ∃ w7, w6.alloc (.cells #[] 5) = w7 := ⟨_, rfl⟩
    have HK7 : Hid (Kept [] w6 w7) := by show Kept _ _ _; rw [← hw7]; exact Kept.alloc _ _ _
    have how : OwnB w6.heap.size w7 (.slice (some ⟨w6.heap.size, 0, none⟩) 0 0) [] := by
      rw [← hw7]
      exact ⟨by simp [bv], .inr ⟨w6.heap.size, 0, #[], rfl, Nat.le_refl _, heap_alloc_last _ _, Nat.le_refl _, by unfold maxLen; omega, rfl, rfl⟩⟩
    obtain ⟨v8, w8, hrun8, hown8, hk8⟩ := kapp_arg w6.heap.size w7 _ [] (catB c) ba m bc how HK7.out.size (HBA.out.kept (HK4.out.trans (HK6.out.trans HK7.out))) (by simp; omega)
    rw [List.nil_append] at hown8
    have HK68 : Hid (Kept [] w6 w8) := HK7.out.into hk8 (by simp [Value.ownBlock])
    obtain ⟨v9, w9, hrun9, hown9, hk9⟩ := kapp_arg w6.heap.size w8 _ (catB c) B ao len cap hown8 HK68.out.size (HARG.out.kept ((HKc.out.trans HK6.out).trans HK68.out)) (by rw [HM.out]; omega)
    have HK69 : Hid (Kept [] w6 w9) := HK68.out.into hk9 (fun q hq => (World.ownsRow.lt hown8 q (by simpa using hq)).1)
    have HR8 := Lib.hid hrun8
    have HR9 := Lib.hid hrun9
    have HKw9 : Hid (Kept [] w w9) := (HKc.out.trans HK6.out).trans HK69.out
    obtain ⟨da, dc, rfl, hda⟩ := hown9.arg (by rw [List.length_append, HM.out, HARG.out.hlen]; omega)
    obtain ⟨x8, y8, z8, rfl⟩ : ∃ a b c, v8 = .slice a b c := by obtain ⟨x, y, e, _⟩ := hown8.val; exact ⟨x, _, y, e⟩
    obtain ⟨l9, hl9⟩ : ∃ l9, (catB c ++ B).length = l9 := ⟨_, rfl⟩
    rw [hl9] at hda HR9
    obtain ⟨g9, hg9⟩ : ∃ g9, decE (catB c ++ B) = g9 := ⟨_, rfl⟩
    have HD2 : Hid (Calls Tryd.prog 13 #[.slice da l9 dc] w9 fun e w' => ∃ v, e = .returned (.tuple #[v, .int .i64 g9]) ∧ Hid (CatAt w9.heap.size w' v (decC (catB c ++ B)) ∧ Kept [] w9 w')) := by
      rw [← hg9]
      exact Decode_any _ da l9 dc w9 hda (HTY.out w9 HKw9.out)
    have HG9 : Hid (0 < len → g9 = 70) := fun hh => by
      rw [← hg9]
      exact decE_none (decO_more HP.out (fun e => by have := HARG.out.hlen; rw [e] at this; simp at this; omega))
    clear hrun8 hrun9 hown8 hown9 hk8 hk9 how hda hl9 hg9 hmod hmod2 hmb hmb2
    go_wp2_with (at_builtin; first | refine wpList_append_run rfl _ _ 34 rfl _ _ _ rfl rfl HR8.out ?_ | refine wpList_append_run rfl _ _ 34 rfl _ _ _ rfl rfl HR9.out ?_)
    refine HD2.out.mono ?_
    rintro e wa ⟨va, rfl, H10⟩
    obtain ⟨qa2, qc2, xa2, xc2, rfl, _⟩ := H10.out.1.is.box
    generalize (decC (catB c ++ B)).ver = z11
    generalize strL (decC (catB c ++ B)).node = z12
    generalize (decC (catB c ++ B)).R.length = z13
    generalize (decC (catB c ++ B)).E.length = z14
    have HKF : Hid (Kept [] w (wa.alloc (.cells #[.int .i64 z11, .string z12, .slice qa2 z13 qc2, .slice xa2 z14 xc2] 25))) := (HKw9.out.trans H10.out.2).trans (Kept.alloc _ _ _)
    by_cases hl0 : 0 < len
    · obtain rfl := HG9.out hl0
      go_wp2_with fail
      go_ret
      exact ⟨rfl, HKF.out⟩
    · obtain rfl : len = 0 := by omega
      by_cases h9 : g9 = 70
      · subst h9
        go_wp2_with fail
        go_ret
        exact ⟨rfl, HKF.out⟩
      · have q9 : (g9 == 70) = false := by simpa using h9
        go_wp2_with fail
        go_ret
        exact ⟨rfl, HKF.out⟩
end Go.Proofs.YteanhjfdpjekbaaDoor

/-
  Law 7: a catalog of its own (lent).
  Conditions: those that each theorem states.
-/
import Derived.Test.YtoibiaccaacgiaaGreatDoorKCheck
namespace Go.Proofs.YtoibiaccaacgiaaGreatDoor
open Go.RowKit Go.Maps
set_option maxRecDepth 100000

/-- 'append([]api.Edge{}, l...)'. -/
theorem copy_edges {w : World} {v : Value} {l : List Edg} (h : EsIs w v l) :
    ∃ v' w', (Builtin.append_ #[23, 23] 23 #[.slice (some ⟨w.heap.size, 0, none⟩) 0 0, v]).run Tryz.prog (w.alloc (.cells #[] 44)) = .ok v' w' ∧ OwnE w.heap.size w' v' l ∧ Kept [] w w' := by
  have how : OwnE w.heap.size (w.alloc (.cells #[] 44)) (.slice (some ⟨w.heap.size, 0, none⟩) 0 0) [] :=
    ⟨⟨by simp [ecv], .inr ⟨w.heap.size, 0, #[], rfl, Nat.le_refl _, heap_alloc_last _ _, Nat.le_refl _, by unfold maxLen; omega, rfl, rfl⟩⟩, by simp⟩
  have hs0 : w.heap.size ≤ (w.alloc (.cells #[] 44)).heap.size := by rw [size_alloc]; omega
  have hk0 : Kept [] w (w.alloc (.cells #[] 44)) := Kept.alloc _ _ _
  obtain ⟨⟨ao, cap, rfl, h2, h3, h4, h5⟩, h6⟩ := h
  have go : ∀ ad, (∀ j u, (ecv l)[j]? = some u → (w.alloc (.cells #[] 44)).cell? (Addr.add ad j) = some u) → ao = some ad → ∃ v' w', (Builtin.append_ #[23, 23] 23 #[.slice (some ⟨w.heap.size, 0, none⟩) 0 0, .slice ao l.length cap]).run Tryz.prog (w.alloc (.cells #[] 44)) = .ok v' w' ∧ OwnE w.heap.size w' v' l ∧ Kept [] w w' := by
    rintro ad hsrc rfl
    obtain ⟨v7, w7, hrun, hown, hk7, _⟩ := own_app elemEdg 23 (w.alloc (.cells #[] 44)) w.heap.size _ 0 [] how.1 ad l.length cap (ecv l) (by rw [ecv_length]; omega) hsrc (ecv_one _) (by unfold maxLen; omega) (by omega) hs0
    rw [Nat.zero_add, List.nil_append] at hown
    exact ⟨_, w7, hrun, ⟨hown, h6⟩, hk0.own how.1 (Nat.le_refl _) hk7⟩
  rcases h5 with h0 | ⟨b, o, rfl, hbl, hr⟩
  · obtain rfl : l = [] := List.eq_nil_of_length_eq_zero h0
    cases ao with
    | some ad => exact go ad (fun j u hu => by simp [ecv] at hu) rfl
    | none =>
      obtain ⟨i, hi, _, hsz, _⟩ := info_parts elemEdg.info
      have hrun := run_append_owned_none (P := Tryz.prog) (w := w.alloc (.cells #[] 44)) w.heap.size 23 23 44 i 3 Tryz.underlying23 hi _ 0 [] how.1
      rw [h4 rfl]
      exact ⟨_, _, hrun, how, hk0⟩
  · exact go ⟨b, o, none⟩ (fun j u hu => by rw [Addr.add_mid]; exact hk0.range hbl (by simp) hr j u hu) rfl

theorem OwnE.mono {base base' : Nat} {w : World} {v : Value} {l : List Edg} (h : OwnE base w v l) (hb : base' ≤ base) : OwnE base' w v l := by
  obtain ⟨⟨h1, h2⟩, h3⟩ := h
  refine ⟨⟨h1, ?_⟩, h3⟩
  rcases h2 with h2 | ⟨g, cap, cur, e, hbg, r⟩
  · exact .inl h2
  · exact .inr ⟨g, cap, cur, e, by omega, r⟩
/-- What lent answers: all of it is the call's own, and the resources stay as they are where the edges' row alone changes. -/
def LentOut (c : Cat) (w : World) (e : Ending) (w' : World) : Prop := ∃ ra rc ea ec, e = .returned (.agg #[.int .i64 c.ver, .string (strL c.node), .slice ra c.R.length rc, .slice ea c.E.length ec]) ∧ Hid (OwnR w.heap.size w' (.slice ra c.R.length rc) c.R ∧ OwnE w.heap.size w' (.slice ea c.E.length ec) c.E ∧ Kept [] w w' ∧ ∀ ex w'', Kept ex w' w'' → (∀ q ∈ ex, (Value.slice ea c.E.length ec).ownBlock = some q) → RsIs w'' (.slice ra c.R.length rc) c.R)
structure LnC (W1 : World) (gx : Nat) (c : Cat) (ea : Option Addr) (ec : Nat) (k : Nat) (vr : Value) (wr : World) : Prop where
  x : wr.heap[gx]? = some (.cells #[.int .i64 c.ver, .string (strL c.node), vr, .slice ea c.E.length ec] 25)
  own : OwnR (gx + 1) wr vr (c.R.take k)
  kept : Kept [] W1 wr

set_option maxRecDepth 100000 in
set_option maxHeartbeats 8000000 in
theorem lent7_any (c : Cat) (v : Value) (w : World) (h : CatIs w v c) : Calls Tryz.prog 6 #[v] w (LentOut c w) := by
  obtain ⟨ra, rc, ea, ec, rfl, hb0⟩ := h.box
  have hA := Kept.alloc [] w (.cells #[.int .i64 c.ver, .string (strL c.node), .slice ra c.R.length rc, .slice ea c.E.length ec] 25)
  have hsa := size_alloc w (.cells #[.int .i64 c.ver, .string (strL c.node), .slice ra c.R.length rc, .slice ea c.E.length ec] 25)
  obtain ⟨wa, hwa⟩ : ∃ wa, w.alloc (.cells #[.int .i64 c.ver, .string (strL c.node), .slice ra c.R.length rc, .slice ea c.E.length ec] 25) = wa := ⟨_, rfl⟩
  rw [hwa] at hb0 hA hsa
  have hB := Kept.alloc [] wa (.cells #[.int .i64 0, .string ⟨#[]⟩, .slice none 0 0, .slice none 0 0] 25)
  obtain ⟨w1, hw1⟩ : ∃ w1, wa.alloc (.cells #[.int .i64 0, .string ⟨#[]⟩, .slice none 0 0, .slice none 0 0] 25) = w1 := ⟨_, rfl⟩
  rw [hw1] at hB
  have hs1 : w1.heap.size = w.heap.size + 2 := by rw [← hw1, size_alloc, hsa]
  have HZ1 : Hid (w1.heap[w.heap.size + 1]? = some (.cells #[.int .i64 0, .string ⟨#[]⟩, .slice none 0 0, .slice none 0 0] 25)) := by show _ = _; rw [← hsa, ← hw1]; exact heap_alloc_last _ _
  have HBX := Lib.hid (hb0.kept hB)
  have HA := Lib.hid (hA.trans hB)
  obtain ⟨n, hn⟩ : ∃ n, c.R.length = n := ⟨_, rfl⟩
  obtain ⟨m, hm⟩ : ∃ m, c.E.length = m := ⟨_, rfl⟩
  obtain ⟨vv, hvv⟩ : ∃ vv, c.ver = vv := ⟨_, rfl⟩
  obtain ⟨nd, hnd⟩ : ∃ nd, strL c.node = nd := ⟨_, rfl⟩
  have hl := HBX.out.rs.len
  have hle := HBX.out.es.len
  have HC : Hid (∀ w', Kept [] w1 w' → w'.cell? ⟨w.heap.size, 0, none⟩ = some (.int .i64 vv) ∧ w'.cell? ⟨w.heap.size, 1, none⟩ = some (.string nd) ∧ w'.cell? ⟨w.heap.size, 2, none⟩ = some (.slice ra n rc) ∧ w'.cell? ⟨w.heap.size, 3, none⟩ = some (.slice ea m ec)) := fun w' hk => by
    rw [← hn, ← hm, ← hvv, ← hnd]
    exact ⟨(HBX.out.kept hk).c0, (HBX.out.kept hk).c1, (HBX.out.kept hk).c2, (HBX.out.kept hk).c3⟩
  have HRS : Hid (RsIs w1 (.slice ra n rc) c.R) := by show RsIs _ _ _; rw [← hn]; exact HBX.out.rs
  have HES : Hid (EsIs w1 (.slice ea m ec) c.E) := by show EsIs _ _ _; rw [← hm]; exact HBX.out.es
  have HVV := Lib.hid hvv
  have HND := Lib.hid hnd
  have HN := Lib.hid hn
  have HM := Lib.hid hm
  rw [hn] at hl
  rw [hm] at hle
  obtain ⟨gx, hgx⟩ : ∃ gx, w1.heap.size = gx := ⟨_, rfl⟩
  have HGX : Hid (w1.heap.size = gx ∧ gx = w.heap.size + 2) := ⟨hgx, by omega⟩
  have HW : Hid ((w.alloc (.cells #[.int .i64 vv, .string nd, .slice ra n rc, .slice ea m ec] 25)).alloc (.cells #[.int .i64 0, .string ⟨#[]⟩, .slice none 0 0, .slice none 0 0] 25) = w1) := by
    show _ = _
    rw [← hw1, ← hwa, hn, hm, hvv, hnd]
  have hww := HW.out
  rw [hn, hm, hvv, hnd]
  obtain ⟨c0, c1, c2, c3⟩ := HC.out w1 (Kept.refl _ _)
  obtain ⟨w2, hw2⟩ : ∃ w2, w1.alloc (.cells #[.int .i64 vv, .string nd, .slice none 0 0, .slice ea m ec] 25) = w2 := ⟨_, rfl⟩
  have HK2 : Hid (Kept [] w1 w2) := by show Kept _ _ _; rw [← hw2]; exact Kept.alloc _ _ _
  have HLN : Hid (LnC w1 gx c ea ec 0 (.slice none 0 0) w2) := by
    refine ⟨?_, by rw [List.take_zero]; exact OwnR.nil _ _, HK2.out⟩
    rw [← hgx, ← hw2, HM.out, HVV.out, HND.out]
    exact heap_alloc_last _ _
  have HW2 := Lib.hid hw2
  clear h hb0 hA hB hsa hwa hw1 hn hm hvv hnd hgx hw2
  go_enter Tryz.func6, Tryz.ntmps6
  go_wp2_with fail
  rw [HW2.out]
  rw [← HGX.out.2]
  clear hww c0 c1 c2 c3
  go_loopw [4] (fun i wr => ∃ k : Nat, k ≤ n ∧ i = .int .i64 k ∧ Hid (∃ vr, LnC w1 gx c ea ec k vr wr)) (fun i _ => n - (intOf i).toNat)
  case atStart => exact ⟨0, by omega, rfl, _, HLN.out⟩
  case round =>
    clear HLN HK2
    obtain ⟨k, hk, rfl, HS⟩ := hrel
    obtain ⟨vr, hS⟩ := HS.out
    have HSS := Lib.hid hS
    clear HS hS
    obtain ⟨u1, u2, u3, rfl⟩ : ∃ a b c, vr = .slice a b c := by obtain ⟨a, c, e⟩ := HSS.out.own.slice; exact ⟨a, _, c, e⟩
    have hxr := HSS.out.x
    rw [HVV.out, HND.out, HM.out] at hxr
    have HX := Lib.hid hxr
    clear hxr
    obtain ⟨c0, c1, c2, c3⟩ := HC.out wr HSS.out.kept
    by_cases hlt : k < n
    · have hkr : k < c.R.length := by rw [HN.out]; exact hlt
      obtain ⟨r, hr⟩ : ∃ r, c.R[k] = r := ⟨_, rfl⟩
      have HTK : Hid (c.R.take (k + 1) = c.R.take k ++ [r]) := by show _ = _; rw [List.take_succ_eq_append_getElem hkr, hr]
      have HLS := Lib.hid (HRS.out.lens hkr hr)
      obtain ⟨b, o, u, rfl, hb, hu, f0, f1, f2⟩ := HRS.out.pick k hkr r hr
      obtain ⟨pa, pc, hus⟩ := hu.slice
      obtain ⟨pn, hpn⟩ : ∃ m, r.P.length = m := ⟨_, rfl⟩
      rw [hpn] at hus
      subst hus
      have HCL : Hid (∀ w', Kept [] w1 w' → w'.cell? ⟨b, o + k * 3, none⟩ = some (.string (strL r.t)) ∧ w'.cell? ⟨b, o + k * 3 + 1, none⟩ = some (.string (strL r.ti)) ∧ w'.cell? ⟨b, o + k * 3 + 2, none⟩ = some (.slice pa pn pc)) := fun w' hk =>
        ⟨(hk.cell (p := ⟨b, o + k * 3, none⟩) hb (by simp)).trans f0, (hk.cell (p := ⟨b, o + k * 3 + 1, none⟩) hb (by simp)).trans f1, (hk.cell (p := ⟨b, o + k * 3 + 2, none⟩) hb (by simp)).trans f2⟩
      obtain ⟨g5, hg5⟩ : ∃ g, wr.heap.size = g := ⟨_, rfl⟩
      obtain ⟨w5, hw5⟩ : ∃ w5, wr.alloc (.cells #[.string (strL r.t), .string (strL r.ti), .slice pa pn pc] 40) = w5 := ⟨_, rfl⟩
      have H5 : Hid (Kept [] wr w5 ∧ w5.heap[g5]? = some (.cells #[.string (strL r.t), .string (strL r.ti), .slice pa pn pc] 40)) := ⟨by rw [← hw5]; exact Kept.alloc _ _ _, by rw [← hg5, ← hw5]; exact heap_alloc_last _ _⟩
      have hs5 : w5.heap.size = g5 + 1 := by rw [← hw5, size_alloc, hg5]
      have hgx5 : gx < g5 := by have := (Array.getElem?_eq_some_iff.1 HX.out).1; omega
      have HSZ : Hid (gx < g5 ∧ w5.heap.size = g5 + 1 ∧ w1.heap.size = gx) := ⟨hgx5, hs5, HGX.out.1⟩
      have HK5 : Hid (Kept [] w1 w5) := HSS.out.kept.trans H5.out.1
      obtain ⟨v6, w6, hrun6, hps6, hk6, hnew6⟩ := copy_prms (hu.kept HK5.out)
      obtain ⟨q1, q3, hv6⟩ := hps6.slice
      rw [hpn] at hv6
      subst hv6
      obtain ⟨w5a, hw5a⟩ : ∃ w, w5.alloc (.cells #[] 61) = w := ⟨_, rfl⟩
      have HK5a : Hid (Kept [] w5 w5a) := by show Kept _ _ _; rw [← hw5a]; exact Kept.alloc _ _ _
      rw [hw5a] at hrun6
      have HR6 := Lib.hid hrun6
      have H6 : Hid (PsIs w6 (.slice q1 pn q3) r.P ∧ Kept [] w5 w6 ∧ LowP (g5 + 1) (.slice q1 pn q3)) := ⟨hps6, hk6, fun b o n c e _ => by have := hnew6 b o n c e; omega⟩
      obtain ⟨w7, hw7⟩ : ∃ w7, w6.setCell ⟨g5, 2, none⟩ (.slice q1 pn q3) = w7 := ⟨_, rfl⟩
      have HK67 : Hid (Kept [g5] w6 w7) := by show Kept _ _ _; rw [← hw7]; exact Kept.setCell _ _ _ _ (by simp)
      have h65 := H6.out.2.1.heap (by simp) H5.out.2
      have H7R : Hid (w7.heap[g5]? = some (.cells #[.string (strL r.t), .string (strL r.ti), .slice q1 pn q3] 40)) := by show _ = _; rw [← hw7]; exact row_setCell h65 2 _
      have HKr7 : Hid (Kept [g5] wr w7) := ((H5.out.1.trans H6.out.2.1).mono (by simp)).trans HK67.out
      have HK17 : Hid (Kept [] w1 w7) := HSS.out.kept.into HKr7.out (by simp; have := HSZ.out; omega)
      have HX7 : Hid (w7.heap[gx]? = some (.cells #[.int .i64 vv, .string nd, .slice u1 u2 u3, .slice ea m ec] 25)) := HKr7.out.heap (by simp; omega) HX.out
      have HO7 : Hid (OwnR (gx + 1) w7 (.slice u1 u2 u3) (c.R.take k)) := by
        have := HSS.out.own
        have hkk : Kept [] wr w7 := (H5.out.1.trans H6.out.2.1).into HK67.out (by simp; omega)
        exact this.kept hkk
      have hkP7 : PsIs w7 (.slice q1 pn q3) r.P := H6.out.1.keptX HK67.out (fun b o n c e hn hm => by have := H6.out.2.2 b o n c e hn; simp at hm; omega)
      obtain ⟨v9, w9, hrun9, hown9, hap9, hk9⟩ := HO7.out.app (by have := HKr7.out.size; omega) r (.slice q1 pn q3) hkP7 (fun b o n c e hn hm => by
          have h1 := H6.out.2.2 b o n c e hn
          have h2 := (HSS.out.own.blk b (by simpa using hm)).2
          omega) (fun b o n c e hn => by have := H6.out.2.2 b o n c e hn; have := HSZ.out; omega) (by rw [List.length_take]; omega) ⟨HLS.out.1, HLS.out.2⟩
      obtain ⟨x1, x2, x3, rfl⟩ : ∃ a b c, v9 = .slice a b c := by obtain ⟨a, c, e⟩ := hown9.slice; exact ⟨a, _, c, e⟩
      obtain ⟨w8, hw8⟩ : ∃ w, w7.alloc (.cells #[.string (strL r.t), .string (strL r.ti), .slice q1 pn q3] 40) = w := ⟨_, rfl⟩
      have HK78 : Hid (Kept [] w7 w8) := by show Kept _ _ _; rw [← hw8]; exact Kept.alloc _ _ _
      rw [hw8] at hrun9 hk9
      have HR9 := Lib.hid hrun9
      have HO9 := Lib.hid hown9
      have HUB : Hid (∀ q, (Value.slice u1 u2 u3).ownBlock = some q → gx + 1 ≤ q) := fun q hq => (HSS.out.own.blk q hq).1
      have hX9 : w9.heap[gx]? = some (.cells #[.int .i64 vv, .string nd, .slice u1 u2 u3, .slice ea m ec] 25) := hk9.heap (fun hm => by have := HUB.out gx (by simpa using hm); omega) (HK78.out.heap (by simp) HX7.out)
      have HX9 := Lib.hid hX9
      have HK19 : Hid (Kept [] w1 w9) := (HK17.out.trans HK78.out).into hk9 (fun q hq => by have := HUB.out q (by simpa using hq); have := HSZ.out; omega)
      have HFIN : Hid (∃ vr, LnC w1 gx c ea ec (k + 1) vr (w9.setCell ⟨gx, 2, none⟩ (.slice x1 x2 x3))) := by
        have hks : Kept [gx] w9 (w9.setCell ⟨gx, 2, none⟩ (.slice x1 x2 x3)) := Kept.setCell _ _ _ _ (by simp)
        refine ⟨.slice x1 x2 x3, ?_, ?_, HK19.out.into hks (by have := HSZ.out; simp; omega)⟩
        · rw [HVV.out, HND.out, HM.out]; exact row_setCell HX9.out 2 _
        · rw [HTK.out]; exact HO9.out.keptX hks (fun q hq => by simp at hq; omega)
      have hc5 := HC.out w5 HK5.out
      have hc5a := HC.out w5a (HK5.out.trans HK5a.out)
      have e0 := hc5a.2.2.1
      obtain ⟨f3, f4, f5⟩ := HCL.out w5a (HK5.out.trans HK5a.out)
      obtain ⟨f6, f7, f8⟩ := HCL.out wr HSS.out.kept
      have d2 : w6.cell? ⟨g5, 2, none⟩ = some (.slice pa pn pc) := cell_of_row _ _ 2 _ _ _ h65
      have fz6 : ∀ q, w6.frozen? ⟨g5, q, none⟩ = false := fun q => frozen_of_row _ _ q _ _ h65
      have y0 : w7.cell? ⟨g5, 0, none⟩ = some (.string (strL r.t)) := cell_of_row _ _ 0 _ _ _ H7R.out
      have y1 : w7.cell? ⟨g5, 1, none⟩ = some (.string (strL r.ti)) := cell_of_row _ _ 1 _ _ _ H7R.out
      have y2 : w7.cell? ⟨g5, 2, none⟩ = some (.slice q1 pn q3) := cell_of_row _ _ 2 _ _ _ H7R.out
      have y3 : w7.cell? ⟨gx, 2, none⟩ = some (.slice u1 u2 u3) := cell_of_row _ _ 2 _ _ _ HX7.out
      have z2 : w9.cell? ⟨gx, 2, none⟩ = some (.slice u1 u2 u3) := cell_of_row _ _ 2 _ _ _ HX9.out
      have fz9 : ∀ q, w9.frozen? ⟨gx, q, none⟩ = false := fun q => frozen_of_row _ _ q _ _ HX9.out
      clear hr hpn hu f0 f1 f2 hps6 hk6 hnew6 hrun6 hkP7 hrun9 hown9 hap9 hk9 hX9 h65 hc5 hc5a hs5 hgx5
      go_wp2_with (at_builtin; first | refine wpList_append_run rfl _ _ 38 rfl _ _ _ rfl rfl HR6.out ?_ | refine wpList_append_run rfl _ _ 22 rfl _ _ _ rfl rfl HR9.out ?_)
      go_roundw
      case rel => exact ⟨k + 1, by omega, by go_num, HFIN⟩
      case measure => simp [intOf]; omega
    have HTK : Hid (c.R.take k = c.R) := List.take_of_length_le (by rw [HN.out]; omega)
    have HOR : Hid (OwnR (gx + 1) wr (.slice u1 u2 u3) c.R) := by have := HSS.out.own; rw [HTK.out] at this; exact this
    obtain ⟨v6, w6, hrun6, hown6, hk6⟩ := copy_edges (HES.out.kept HSS.out.kept)
    obtain ⟨x1, x2, x3, rfl⟩ : ∃ a b c, v6 = .slice a b c := by obtain ⟨a, c, e⟩ := hown6.slice; exact ⟨a, _, c, e⟩
    obtain ⟨w5, hw5⟩ : ∃ w, wr.alloc (.cells #[] 44) = w := ⟨_, rfl⟩
    have HK5 : Hid (Kept [] wr w5) := by show Kept _ _ _; rw [← hw5]; exact Kept.alloc _ _ _
    rw [hw5] at hrun6
    have HR6 := Lib.hid hrun6
    have HO6 := Lib.hid (And.intro hown6 hk6)
    obtain ⟨w7, hw7⟩ : ∃ w7, w6.setCell ⟨gx, 3, none⟩ (.slice x1 x2 x3) = w7 := ⟨_, rfl⟩
    have h6x := hk6.heap (by simp) HX.out
    have HK67 : Hid (Kept [gx] w6 w7) := by show Kept _ _ _; rw [← hw7]; exact Kept.setCell _ _ _ _ (by simp)
    have HX7 : Hid (w7.heap[gx]? = some (.cells #[.int .i64 vv, .string nd, .slice u1 u2 u3, .slice x1 x2 x3] 25)) := by show _ = _; rw [← hw7]; exact row_setCell h6x 3 _
    have hgw : gx < wr.heap.size := (Array.getElem?_eq_some_iff.1 HX.out).1
    have HK17 : Hid (Kept [] w1 w7) := (HSS.out.kept.trans hk6).into HK67.out (by have := HGX.out; simp; omega)
    have HZ7 : Hid (w7.heap[w.heap.size + 1]? = some (.cells #[.int .i64 0, .string ⟨#[]⟩, .slice none 0 0, .slice none 0 0] 25)) := HK17.out.heap (by simp) HZ1.out
    have e3 : w6.cell? ⟨gx, 3, none⟩ = some (.slice ea m ec) := cell_of_row _ _ 3 _ _ _ h6x
    have fz6 : ∀ q, w6.frozen? ⟨gx, q, none⟩ = false := fun q => frozen_of_row _ _ q _ _ h6x
    have y0 : w7.cell? ⟨gx, 0, none⟩ = some (.int .i64 vv) := cell_of_row _ _ 0 _ _ _ HX7.out
    have y1 : w7.cell? ⟨gx, 1, none⟩ = some (.string nd) := cell_of_row _ _ 1 _ _ _ HX7.out
    have y2 : w7.cell? ⟨gx, 2, none⟩ = some (.slice u1 u2 u3) := cell_of_row _ _ 2 _ _ _ HX7.out
    have y3 : w7.cell? ⟨gx, 3, none⟩ = some (.slice x1 x2 x3) := cell_of_row _ _ 3 _ _ _ HX7.out
    have d0 : w7.cell? ⟨w.heap.size + 1, 0, none⟩ = some (.int .i64 0) := cell_of_row _ _ 0 _ _ _ HZ7.out
    have d1 : w7.cell? ⟨w.heap.size + 1, 1, none⟩ = some (.string ⟨#[]⟩) := cell_of_row _ _ 1 _ _ _ HZ7.out
    have d2 : w7.cell? ⟨w.heap.size + 1, 2, none⟩ = some (.slice none 0 0) := cell_of_row _ _ 2 _ _ _ HZ7.out
    have d3 : w7.cell? ⟨w.heap.size + 1, 3, none⟩ = some (.slice none 0 0) := cell_of_row _ _ 3 _ _ _ HZ7.out
    have fz7 : ∀ q, w7.frozen? ⟨w.heap.size + 1, q, none⟩ = false := fun q => frozen_of_row _ _ q _ _ HZ7.out
    have e0 := (HC.out w5 (HSS.out.kept.trans HK5.out)).2.2.2
    have HGW := Lib.hid hgw
    clear hrun6 hown6 hk6 h6x hgw
    go_wp2_with (at_builtin; refine wpList_append_run rfl _ _ 23 rfl _ _ _ rfl rfl HR6.out ?_)
    have r' := row_setCell (row_setCell (row_setCell (row_setCell HZ7.out 0 (.int .i64 vv)) 1 (.string nd)) 2 (.slice u1 u2 u3)) 3 (.slice x1 x2 x3)
    have hkf : Kept [w.heap.size + 1] w7 ((((w7.setCell ⟨w.heap.size + 1, 0, none⟩ (.int .i64 vv)).setCell ⟨w.heap.size + 1, 1, none⟩ (.string nd)).setCell ⟨w.heap.size + 1, 2, none⟩ (.slice u1 u2 u3)).setCell ⟨w.heap.size + 1, 3, none⟩ (.slice x1 x2 x3)) := (((Kept.setCell _ _ _ _ (by simp)).trans (Kept.setCell _ _ _ _ (by simp))).trans (Kept.setCell _ _ _ _ (by simp))).trans (Kept.setCell _ _ _ _ (by simp))
    refine bodyPost_ret_by (results_cell_row rfl _ _ (w.heap.size + 1) 25 _ (0, 0) _ rfl r' Tryz.underlying25 rfl (by kernel_rfl)) rfl ?_
    have hgz := HGX.out
    have hO := ((HOR.out.kept HO6.out.2).keptX HK67.out (fun q hq => by simp at hq; omega)).keptX hkf (fun q hq => by simp at hq; omega)
    have hgw2 := HGW.out
    have hE := (HO6.out.1.keptX HK67.out (fun q hq => by have := (HO6.out.1.blk q hq).1; simp; omega)).keptX hkf (fun q hq => by have := (HO6.out.1.blk q hq).1; simp; omega)
    have hRK : ∀ ex w'', Kept ex _ w'' → (∀ q ∈ ex, (Value.slice x1 x2 x3).ownBlock = some q) → RsIs w'' (.slice u1 u2 u3) c.R := fun ex w'' hk hq => by
      have k1 : Kept [gx, w.heap.size + 1] wr w7 := ((HO6.out.2.mono (by simp)).trans HK67.out).mono (by simp)
      have k2 : Kept ([gx, w.heap.size + 1] ++ ex) wr w'' := ((k1.mono (by simp)).trans (hkf.mono (by simp))).trans (hk.mono (fun q hh _ => List.mem_append_right _ hh))
      have k3 : Kept [gx, w.heap.size + 1] wr w'' := k2.mono fun q hh hlt => by
        rcases List.mem_append.1 hh with h1 | h1
        · exact h1
        · have := (HO6.out.1.blk q (hq q h1)).1
          omega
      exact (HOR.out.keptX k3 (fun q hh => by simp at hh; omega)).rs
    obtain ⟨ra', rc', hra⟩ := hO.slice
    obtain ⟨ea', ec', hea⟩ := hE.slice
    injection hra with _ hrl _
    injection hea with _ hel _
    subst hrl hel
    refine ⟨_, _, _, _, ?_, hO.mono (by omega), hE.mono (by omega), (HA.out.trans HK17.out).into hkf (by simp), hRK⟩
    rw [HVV.out, HND.out]; rfl
end Go.Proofs.YtoibiaccaacgiaaGreatDoor

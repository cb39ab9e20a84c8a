/-
  Layer 7: the program's decode.
  Conditions: those that each theorem states.
-/
import Derived.Test.YtfofhnbijjocfaaGreatDoorKItem
import Derived.Test.YtfofhnbijjocfaaGreatDoorKCheck
namespace Go.Proofs.YtfofhnbijjocfaaGreatDoor
open Go.RowKit Go.Maps
set_option maxRecDepth 100000

theorem resP_lens {B : List UInt8} {x : Res} {r : List UInt8} (h : resP B = some (x, r)) : x.t.length ≤ 100 ∧ x.ti.length < 65536 := by
  unfold resP at h
  cases h1 : num1 B with
  | none => rw [h1] at h; cases h
  | some a =>
    rw [h1] at h
    simp only at h
    cases h2 : txtP a.2 with
    | none => rw [h2] at h; cases h
    | some b =>
      rw [h2] at h
      simp only at h
      cases h3 : num1 b.2 with
      | none => rw [h3] at h; cases h
      | some c =>
        rw [h3] at h
        simp only at h
        cases h4 : repP prmP c.1 c.2 with
        | none => rw [h4] at h; cases h
        | some d =>
          rw [h4] at h
          simp only [Option.some.injEq, Prod.mk.injEq] at h
          obtain ⟨rfl, _⟩ := h
          refine ⟨?_, txtP_len h2⟩
          show (tyOf a.1).length ≤ 100
          unfold tyOf
          repeat' split
          all_goals decide
/-- A catalog that stays one while blocks below base change. -/
def CatAt (base : Nat) (w : World) (v : Value) (c : Cat) : Prop := ∀ ex w3, Kept ex w w3 → (∀ q ∈ ex, q < base) → CatIs w3 v c
theorem CatAt.is {base : Nat} {w : World} {v : Value} {c : Cat} (h : CatAt base w v c) : CatIs w v c := h [] w (Kept.refl _ _) (by simp)
theorem CatAt.kept {base : Nat} {w w' : World} {v : Value} {c : Cat} (h : CatAt base w v c) {ex : List Nat} (hk : Kept ex w w') (hx : ∀ q ∈ ex, q < base) : CatAt base w' v c := fun ex2 w3 hk2 hx2 =>
  h (ex ++ ex2) w3 ((hk.mono (fun q hq _ => by simp [hq])).trans (hk2.mono (fun q hq _ => by simp [hq]))) (fun q hq => by
    rcases List.mem_append.1 hq with e | e
    · exact hx q e
    · exact hx2 q e)
theorem CatAt.mono {base base' : Nat} {w : World} {v : Value} {c : Cat} (h : CatAt base w v c) (hb : base' ≤ base) : CatAt base' w v c := fun ex w3 hk hx => h ex w3 hk fun q hq => Nat.lt_of_lt_of_le (hx q hq) hb
/-- What decode answers. -/
def DecOut7 (B : List UInt8) (w : World) (e : Ending) (w' : World) : Prop :=
  (catP B = none ∧ e = .panicked endP ∧ Kept [] w w') ∨ ∃ c r v, catP B = some (c, r) ∧ e = .returned v ∧ Hid (CatAt w.heap.size w' v c ∧ Kept [] w w')
theorem DecOut7.no {B : List UInt8} {w w' : World} (h : catP B = none) (hk : Kept [] w w') : DecOut7 B w (.panicked endP) w' := .inl ⟨h, rfl, hk⟩

/-- While resources are read. -/
structure CxSt (w0 : World) (g gx : Nat) (ver : Int) (nd : List UInt8) (R : List Res) (r : List UInt8) (vr : Value) (wr : World) : Prop where
  z : wr.heap[w0.heap.size]? = some (.cells #[.int .i64 0, .string ⟨#[]⟩, .slice none 0 0, .slice none 0 0] 25)
  x : wr.heap[gx]? = some (.cells #[.int .i64 ver, .string (strL nd), vr, .slice none 0 0] 25)
  own : OwnR (gx + 1) wr vr R
  rd : RdSt w0 g r wr
/-- While edges are read. -/
structure CeSt (w0 : World) (g gx : Nat) (ver : Int) (nd : List UInt8) (vr : Value) (wE : World) (E : List Edg) (r : List UInt8) (ve : Value) (wr : World) : Prop where
  z : wr.heap[w0.heap.size]? = some (.cells #[.int .i64 0, .string ⟨#[]⟩, .slice none 0 0, .slice none 0 0] 25)
  x : wr.heap[gx]? = some (.cells #[.int .i64 ver, .string (strL nd), vr, ve] 25)
  own : OwnE wE.heap.size wr ve E
  rd : RdSt w0 g r wr
  kept : Kept [g, gx] wE wr
theorem edg_val {base : Nat} {w : World} {v : Value} {l : List Edg} (h : OwnE base w v l) : ∃ a n c, v = .slice a n c := by obtain ⟨a, c, e⟩ := h.slice; exact ⟨a, _, c, e⟩
theorem res_val {base : Nat} {w : World} {v : Value} {l : List Res} (h : OwnR base w v l) : ∃ a n c, v = .slice a n c := by obtain ⟨a, c, e⟩ := h.slice; exact ⟨a, _, c, e⟩

set_option maxRecDepth 100000 in
set_option maxHeartbeats 8000000 in
theorem decode_any (B : List UInt8) (ao : Option Addr) (len cap : Nat) (w : World) (h : ArgB w ao len cap B) (ht : TysIs w) : Calls Tryz.prog 24 #[.slice ao len cap] w (DecOut7 B w) := by
  obtain ⟨w1, hw1⟩ : ∃ w1, w.alloc (.cells #[.int .i64 0, .string ⟨#[]⟩, .slice none 0 0, .slice none 0 0] 25) = w1 := ⟨_, rfl⟩
  obtain ⟨w2, hw2⟩ : ∃ w2, w1.alloc (.cells #[.slice ao len cap] 80) = w2 := ⟨_, rfl⟩
  have hs1 : w1.heap.size = w.heap.size + 1 := by rw [← hw1, size_alloc]
  have hk1 : Kept [] w w1 := by rw [← hw1]; exact Kept.alloc _ _ _
  have hk2 : Kept [] w1 w2 := by rw [← hw2]; exact Kept.alloc _ _ _
  have HZ2 : Hid (w2.heap[w.heap.size]? = some (.cells #[.int .i64 0, .string ⟨#[]⟩, .slice none 0 0, .slice none 0 0] 25)) := hk2.heap (by simp) (by rw [← hw1]; exact heap_alloc_last _ _)
  have HRD : Hid (RdSt w (w.heap.size + 1) B w2) := ⟨by omega, ⟨ao, len, cap, by rw [← hs1, ← hw2]; exact heap_alloc_last _ _, h⟩, hk1.trans hk2⟩
  obtain ⟨g, hg⟩ : ∃ g, w.heap.size + 1 = g := ⟨_, rfl⟩
  rw [hg] at HRD hs1
  have HG := Lib.hid hg
  have HTY := Lib.hid ht
  have HS1 := Lib.hid hs1
  have HW1 := Lib.hid hw1
  have HW2 := Lib.hid hw2
  clear h ht hk1 hk2 hg hs1 hw1 hw2
  cases h1 : num2 B with
  | none =>
    have HZ : Hid (catP B = none) := by show _ = _; unfold catP; rw [h1]
    have H1N := Lib.hid h1
    clear h1
    go_enter Tryz.func24, Tryz.ntmps24
    go_wp2_with fail
    rw [HW1.out, HW2.out, HG.out]
    refine (number_no w g B w2 HRD.out H1N.out).mono ?_
    rintro e w3 ⟨rfl, hk⟩
    exact ⟨rfl, DecOut7.no HZ.out hk⟩
  | some x1 =>
    obtain ⟨ver, r1⟩ := x1
    have H1N := Lib.hid h1
    cases h2 : txtP r1 with
    | none =>
      have HZ : Hid (catP B = none) := by show _ = _; unfold catP; rw [h1]; simp only [h2]
      have H2N := Lib.hid h2
      clear h1 h2
      go_enter Tryz.func24, Tryz.ntmps24
      go_wp2_with fail
      rw [HW1.out, HW2.out, HG.out]
      refine (number_yes w g B ver r1 w2 HRD.out H1N.out).mono ?_
      rintro e w3 ⟨rfl, H3⟩
      go_wp2_with fail
      refine (text_no w g r1 w3 H3.out.1 H2N.out).mono ?_
      rintro e w4 ⟨rfl, hk⟩
      exact ⟨rfl, DecOut7.no HZ.out hk⟩
    | some x2 =>
      obtain ⟨nd, r2⟩ := x2
      have H2N := Lib.hid h2
      have HND := Lib.hid (txtP_len h2)
      clear h1 h2
      go_enter Tryz.func24, Tryz.ntmps24
      go_wp2_with fail
      rw [HW1.out, HW2.out, HG.out]
      refine (number_yes w g B ver r1 w2 HRD.out H1N.out).mono ?_
      rintro e w3 ⟨rfl, H3⟩
      go_wp2_with fail
      refine (text_yes w g r1 nd r2 w3 H3.out.1 H2N.out).mono ?_
      rintro e w4 ⟨rfl, H4⟩
      obtain ⟨w5, hw5⟩ : ∃ w5, w4.alloc (.cells #[.int .i64 (ver : Int), .string (strL nd), .slice none 0 0, .slice none 0 0] 25) = w5 := ⟨_, rfl⟩
      obtain ⟨gx, hgx⟩ : ∃ gx, w4.heap.size = gx := ⟨_, rfl⟩
      have hk5 : Kept [] w4 w5 := by rw [← hw5]; exact Kept.alloc _ _ _
      have HK24 : Hid (Kept [g] w2 w4) := H3.out.2.trans H4.out.2
      have HSZ : Hid (w.heap.size < g ∧ g < gx) := by
        have h1 := H4.out.1.lt
        have h2 := HG.out
        exact ⟨by omega, by omega⟩
      have HCX : Hid (CxSt w g gx ver nd [] r2 (.slice none 0 0) w5) := by
        refine ⟨hk5.heap (by simp) (HK24.out.heap (by simp; have := HSZ.out; omega) HZ2.out), ?_, OwnR.nil _ _, H4.out.1.go hk5⟩
        rw [← hgx, ← hw5]; exact heap_alloc_last _ _
      have HW5 := Lib.hid hw5
      have HGX := Lib.hid hgx
      clear hw5 hgx hk5
      cases h3 : num1 r2 with
      | none =>
        have HZ : Hid (catP B = none) := by show _ = _; unfold catP; rw [H1N.out]; simp only [H2N.out, h3]
        have H3N := Lib.hid h3
        clear h3
        go_wp2_with fail
        rw [HW5.out]
        refine (count_no w g r2 w5 HCX.out.rd H3N.out).mono ?_
        rintro e w6 ⟨rfl, hk⟩
        exact ⟨rfl, DecOut7.no HZ.out hk⟩
      | some x3 =>
        obtain ⟨m, r3⟩ := x3
        have HRES : Hid (∀ o, repP resP m r3 = o → catP B = match o with | none => none | some (R, r4) => match num1 r4 with | none => none | some (q, r5) => match repP edgP q r5 with | none => none | some (E, r6) => some (⟨(ver : Int), nd, R, E⟩, r6)) := fun o ho => by
          unfold catP; rw [H1N.out]; simp only [H2N.out, h3, ho]
          cases o <;> rfl
        have hm := num1_lt h3
        have H3N := Lib.hid h3
        clear h3
        go_wp2_with fail
        rw [HW5.out, HGX.out]
        refine (count_yes w g r2 m r3 w5 HCX.out.rd H3N.out).mono ?_
        rintro e w6 ⟨rfl, H6⟩
        have HCX6 : Hid (CxSt w g gx ver nd [] r3 (.slice none 0 0) w6) := by
          refine ⟨H6.out.2.heap (by simp; have := HSZ.out; omega) HCX.out.z, H6.out.2.heap (by simp; have := HSZ.out; omega) HCX.out.x, OwnR.nil _ _, H6.out.1⟩
        go_wp2_with fail
        go_loopw [11] (fun i wr => ∃ k : Nat, k ≤ m ∧ i = .int .i64 k ∧ Hid (∃ R r v, repP resP k r3 = some (R, r) ∧ CxSt w g gx ver nd R r v wr)) (fun i _ => m - (intOf i).toNat)
        case atStart => exact ⟨0, by omega, rfl, [], r3, _, rfl, HCX6.out⟩
        case round =>
          clear HCX6 H6 HCX H4 H3 HK24 HW5 HGX HZ2 HRD HW1 HW2
          obtain ⟨k, hk, rfl, HS⟩ := hrel
          obtain ⟨R, r, v, hp, hS⟩ := HS.out
          have HP := Lib.hid hp
          have HSS := Lib.hid hS
          clear HS hp hS
          obtain ⟨u1, u2, u3, rfl⟩ := res_val HSS.out.own
          by_cases hlt : k < m
          · obtain ⟨Z, hZ⟩ : ∃ Z, (Value.slice u1 u2 u3).ownBlock.toList = Z := ⟨_, rfl⟩
            have HZB : Hid (∀ q ∈ Z, gx + 1 ≤ q) := fun q hq => by rw [← hZ] at hq; exact (HSS.out.own.blk q (by simpa using hq)).1
            have HZZ := Lib.hid hZ
            have HNE : Hid (gx ∉ g :: Z) := by
              show _ ∉ _
              intro hm
              rcases List.mem_cons.1 hm with e | e
              · have := HSZ.out; omega
              · have := HZB.out gx e; omega
            have z1 : ∀ w', Kept (g :: Z) wr.drew w' → w'.cell? ⟨gx, 2, none⟩ = some (.slice u1 u2 u3) := fun w' hk => cell_of_row _ _ 2 _ _ _ (hk.heap HNE.out (show wr.drew.heap[gx]? = _ from HSS.out.x))
            have HRD0 : Hid (RdSt w g r wr.drew) := HSS.out.rd.go (Kept.drew [] _)
            have HCALL := Lib.hid (resource_any w g r wr.drew HRD0.out HTY.out)
            clear hZ
            go_wp2_with fail
            refine wp_region_ordZ (R := (Kept (g :: Z))) 6 [(true, 0), (true, 1), (false, 2), (false, 3), (false, 4), (true, 5)] (fun _ => Kept.refl _ _) (fun _ _ _ h k => h.trans k) (by kernel_rfl) (fun _ _ d _ _ h => by cases d <;> exact h) (by kernel_rfl) rfl (by decide) (by kernel_rfl) (by kernel_rfl) ?_
            simp only [named, List.getD_cons_zero, List.getD_cons_succ]
            repeat (first | (apply wpR_take; (case hw => rfl); (case hv => intro w' hk; go_simp; with_reducible rfl); simp only [Act.put, List.setIfInBounds_toArray, List.set_cons_zero, List.set_cons_succ]) | (refine wpR_pass (by rfl) ?_; simp only [Act.put, List.setIfInBounds_toArray, List.set_cons_zero, List.set_cons_succ]))
            clear z1
            refine wpR_force (by rfl) (fun K hK => ?_)
            go_simp
            refine HCALL.out.mono ?_
            intro e w7 hout
            rcases hout with ⟨hn, rfl, hk7⟩ | ⟨x, r', v', hs, rfl, H7⟩
            · have HZN : Hid (catP B = none) := by show _ = _; rw [HRES.out none (repP_none HP.out hn m hlt)]
              exact ⟨rfl, DecOut7.no HZN.out hk7⟩
            obtain ⟨y1, y2, y3, rfl⟩ := prm_val _ _ _ _ H7.out.1
            have HSN : Hid (repP resP (k + 1) r3 = some (R ++ [x], r')) := repP_snoc HP.out hs
            have HXL := Lib.hid (resP_lens hs)
            clear hs HCALL
            refine hK _ _ (H7.out.2.2.mono (fun q hq _ => by simp at hq; simp [hq])) ?_
            clear hK K
            repeat (first | (apply wpR_take; (case hw => rfl); (case hv => intro w' hk; go_simp; with_reducible rfl); simp only [Act.put, List.setIfInBounds_toArray, List.set_cons_zero, List.set_cons_succ]) | (refine wpR_pass (by rfl) ?_; simp only [Act.put, List.setIfInBounds_toArray, List.set_cons_zero, List.set_cons_succ]))
            have HKG : Hid (Kept [g] wr w7) := (Kept.drew [g] wr).trans H7.out.2.2
            have HO7 : Hid (OwnR (gx + 1) w7 (.slice u1 u2 u3) R) := HSS.out.own.keptX HKG.out (fun q hq => by have h2 := HSZ.out; simp at hq; omega)
            have hszr : gx + 1 ≤ wr.heap.size := (Array.getElem?_eq_some_iff.1 HSS.out.x).1
            have hsz7 : gx + 1 ≤ w7.heap.size := by have h2 := HKG.out.size; omega
            have hmR : R.length = k := repP_len HP.out
            obtain ⟨v8, w8, hrun, hown8, hap8, hk8⟩ := HO7.out.app hsz7 x (.slice y1 y2 y3) H7.out.1.ps (fun b o n c he hn hm => by
                have h1 := (H7.out.1.blk b (by rw [he]; rfl)).1
                have h2 := (HSS.out.own.blk b (by simpa using hm)).2
                have h3 : wr.drew.heap.size = wr.heap.size := rfl
                omega) (fun b o n c he hn => by
                have h1 := (H7.out.1.blk b (by rw [he]; rfl)).1
                have h3 : wr.drew.heap.size = wr.heap.size := rfl
                omega) (by rw [hmR]; omega) ⟨by have := HXL.out.1; omega, by have := HXL.out.2; omega⟩
            obtain ⟨x1, x2, x3, rfl⟩ := res_val hown8
            have HRUN := Lib.hid hrun
            have HK8 : Hid (Kept (g :: Z) (w7.alloc (.cells #[.string (strL x.t), .string (strL x.ti), .slice y1 y2 y3] 40)) w8) := by rw [HZZ.out] at hk8; exact hk8.mono (fun q hq _ => List.mem_cons_of_mem _ hq)
            have hkZ : Kept (g :: Z) wr w8 := ((HKG.out.mono (fun q hq _ => by simp at hq; simp [hq])).trans (Kept.alloc _ _ _)).trans HK8.out
            have hZW : ∀ q ∈ (Value.slice u1 u2 u3).ownBlock.toList, gx + 1 ≤ q := fun q hq => HZB.out q (by rw [← HZZ.out]; exact hq)
            have hk78 : Kept (Value.slice u1 u2 u3).ownBlock.toList w7 w8 := (Kept.alloc _ _ _).trans hk8
            have HR8 : Hid (w8.heap[gx]? = some (.cells #[.int .i64 (ver : Int), .string (strL nd), .slice u1 u2 u3, .slice none 0 0] 25)) := hkZ.heap HNE.out HSS.out.x
            have HN8 : Hid (CxSt w g gx ver nd (R ++ [x]) r' (.slice x1 x2 x3) (w8.setCell ⟨gx, 2, none⟩ (.slice x1 x2 x3))) := by
              have hks : Kept [gx] w8 (w8.setCell ⟨gx, 2, none⟩ (.slice x1 x2 x3)) := Kept.setCell _ _ _ _ (by simp)
              have hz := HSZ.out
              refine ⟨hks.heap (by simp; omega) (hkZ.heap (fun hm => ?_) HSS.out.z), row_setCell HR8.out 2 _, hown8.keptX hks (fun q hq => by simp at hq; omega), ?_⟩
              · rcases List.mem_cons.1 hm with e | e
                · omega
                · have := HZB.out _ e; omega
              · exact (H7.out.2.1.goX hk78 (fun hm => by have := hZW g hm; omega) (fun q hq => by have := hZW q hq; omega)).goX hks (by simp; omega) (by simp; omega)
            clear hrun hown8 hap8 hk8 hkZ hZW hk78 hsz7 hmR hszr
            refine wpR_force (by rfl) (fun K hK => ?_)
            go_simp
            refine hK _ _ (Kept.alloc _ _ _) ?_
            clear hK K
            refine wpR_force (by rfl) (fun K hK => ?_)
            refine wp_append_run _ _ _ rfl _ _ _ rfl rfl HRUN.out ?_
            refine hK _ _ HK8.out ?_
            clear hK K
            repeat (first | (apply wpR_take; (case hw => rfl); (case hv => intro w' hk; go_simp; with_reducible rfl); simp only [Act.put, List.setIfInBounds_toArray, List.set_cons_zero, List.set_cons_succ]) | (refine wpR_pass (by rfl) ?_; simp only [Act.put, List.setIfInBounds_toArray, List.set_cons_zero, List.set_cons_succ]))
            refine wpR_nil ?_; refine lastQ_go rfl ?_
            have z2 : w8.cell? ⟨gx, 2, none⟩ = some (.slice u1 u2 u3) := cell_of_row _ _ 2 _ _ _ HR8.out
            have fy : ∀ q, w8.frozen? ⟨gx, q, none⟩ = false := fun q => frozen_of_row _ _ q _ _ HR8.out
            go_simp
            clear z2 fy
            generalize hw9 : w8.setCell _ _ = w9
            have H9 : Hid (∃ R r v, repP resP (k + 1) r3 = some (R, r) ∧ CxSt w g gx ver nd R r v w9) := by
              rw [← hw9]
              exact ⟨_, _, _, HSN.out, HN8.out⟩
            clear hw9
            go_wp2_with fail
            go_roundw
            case rel => exact ⟨k + 1, by omega, by go_num, H9⟩
            case measure => simp [intOf]; omega
          have hkm : k = m := by omega
          subst hkm
          have HCP := Lib.hid (HRES.out _ HP.out)
          simp only at HCP
          clear HRES hlt hk
          cases h4 : num1 r with
          | none =>
            have HZ : Hid (catP B = none) := by show _ = _; rw [HCP.out, h4]
            have H4N := Lib.hid h4
            clear h4
            go_wp2_with fail
            refine (count_no w g r wr HSS.out.rd H4N.out).mono ?_
            rintro e w6 ⟨rfl, hk⟩
            exact ⟨rfl, DecOut7.no HZ.out hk⟩
          | some x4 =>
            obtain ⟨n, r5⟩ := x4
            have HRE : Hid (∀ o, repP edgP n r5 = o → catP B = match o with | none => none | some (E, r6) => some (⟨(ver : Int), nd, R, E⟩, r6)) := fun o ho => by
              rw [HCP.out, h4]; simp only [ho]
            have hn := num1_lt h4
            have H4N := Lib.hid h4
            have hRk : R.length = k := repP_len HP.out
            have HRK := Lib.hid hRk
            clear h4 HCP hRk
            go_wp2_with fail
            refine (count_yes w g r n r5 wr HSS.out.rd H4N.out).mono ?_
            rintro e w7 ⟨rfl, H7⟩
            have HOR : Hid (OwnR (gx + 1) w7 (.slice u1 u2 u3) R) := HSS.out.own.keptX H7.out.2 (fun q hq => by have h2 := HSZ.out; simp at hq; omega)
            have hzz := HSZ.out
            have HCE7 : Hid (CeSt w g gx ver nd (.slice u1 u2 u3) w7 [] r5 (.slice none 0 0) w7) := by
              refine ⟨H7.out.2.heap (by simp; omega) HSS.out.z, H7.out.2.heap (by simp; omega) HSS.out.x, OwnE.nil _ _, H7.out.1, Kept.refl _ _⟩
            have HG7 : Hid (gx < w7.heap.size) := (Array.getElem?_eq_some_iff.1 HCE7.out.x).1
            have HRN : Hid (R.length ≤ 255) := by show _ ≤ _; rw [HRK.out]; omega
            clear HSS HRK hzz
            go_wp2_with fail
            go_loopw [21] (fun i wr => ∃ j : Nat, j ≤ n ∧ i = .int .i64 j ∧ Hid (∃ E r v, repP edgP j r5 = some (E, r) ∧ CeSt w g gx ver nd (.slice u1 u2 u3) w7 E r v wr)) (fun i _ => n - (intOf i).toNat)
            case atStart => exact ⟨0, by omega, rfl, [], r5, _, rfl, HCE7.out⟩
            case round =>
              clear HCE7 H7
              obtain ⟨j, hj, rfl, HS⟩ := hrel
              obtain ⟨E, rr, v, hp, hS⟩ := HS.out
              have HPE := Lib.hid hp
              have HSS := Lib.hid hS
              clear HS hp hS
              obtain ⟨e1, e2, e3, rfl⟩ := edg_val HSS.out.own
              by_cases hlt : j < n
              · obtain ⟨Z, hZ⟩ : ∃ Z, (Value.slice e1 e2 e3).ownBlock.toList = Z := ⟨_, rfl⟩
                have HZB : Hid (∀ q ∈ Z, w7.heap.size ≤ q) := fun q hq => by rw [← hZ] at hq; exact (HSS.out.own.blk q (by simpa using hq)).1
                have HZZ := Lib.hid hZ
                have HNE : Hid (gx ∉ g :: Z) := by
                  show _ ∉ _
                  intro hm
                  rcases List.mem_cons.1 hm with e | e
                  · have := HSZ.out; omega
                  · have := HZB.out gx e; have := HG7.out; omega
                have z1 : ∀ w', Kept (g :: Z) wr.drew w' → w'.cell? ⟨gx, 3, none⟩ = some (.slice e1 e2 e3) := fun w' hk => cell_of_row _ _ 3 _ _ _ (hk.heap HNE.out (show wr.drew.heap[gx]? = _ from HSS.out.x))
                have HRD0 : Hid (RdSt w g rr wr.drew) := HSS.out.rd.go (Kept.drew [] _)
                have HCALL := Lib.hid (edge_any w g rr wr.drew HRD0.out)
                clear hZ
                go_wp2_with fail
                refine wp_region_ordZ (R := (Kept (g :: Z))) 6 [(true, 0), (true, 1), (false, 2), (false, 3), (false, 4), (true, 5)] (fun _ => Kept.refl _ _) (fun _ _ _ h k => h.trans k) (by kernel_rfl) (fun _ _ d _ _ h => by cases d <;> exact h) (by kernel_rfl) rfl (by decide) (by kernel_rfl) (by kernel_rfl) ?_
                simp only [named, List.getD_cons_zero, List.getD_cons_succ]
                repeat (first | (apply wpR_take; (case hw => rfl); (case hv => intro w' hk; go_simp; with_reducible rfl); simp only [Act.put, List.setIfInBounds_toArray, List.set_cons_zero, List.set_cons_succ]) | (refine wpR_pass (by rfl) ?_; simp only [Act.put, List.setIfInBounds_toArray, List.set_cons_zero, List.set_cons_succ]))
                clear z1
                refine wpR_force (by rfl) (fun K hK => ?_)
                go_simp
                refine HCALL.out.mono ?_
                intro e w8 hout
                rcases hout with ⟨hn', rfl, hk8⟩ | ⟨x, r', hs, rfl, H8⟩
                · have HZN : Hid (catP B = none) := by show _ = _; rw [HRE.out none (repP_none HPE.out hn' n hlt)]
                  exact ⟨rfl, DecOut7.no HZN.out hk8⟩
                have HSN : Hid (repP edgP (j + 1) r5 = some (E ++ [x], r')) := repP_snoc HPE.out hs
                clear hs HCALL
                unfold edgV
                refine hK _ _ (H8.out.2.mono (fun q hq _ => by simp at hq; simp [hq])) ?_
                clear hK K
                repeat (first | (apply wpR_take; (case hw => rfl); (case hv => intro w' hk; go_simp; with_reducible rfl); simp only [Act.put, List.setIfInBounds_toArray, List.set_cons_zero, List.set_cons_succ]) | (refine wpR_pass (by rfl) ?_; simp only [Act.put, List.setIfInBounds_toArray, List.set_cons_zero, List.set_cons_succ]))
                have HKG : Hid (Kept [g] wr w8) := (Kept.drew [g] wr).trans H8.out.2
                have HO8 : Hid (OwnE w7.heap.size w8 (.slice e1 e2 e3) E) := HSS.out.own.keptX HKG.out (fun q hq hh => by
                  have h1 := (HSS.out.own.blk q hq).1
                  have h2 := HSZ.out
                  have h3 := HG7.out
                  simp at hh
                  omega)
                have hsz8 : w7.heap.size ≤ w8.heap.size := Nat.le_trans HSS.out.kept.size HKG.out.size
                have hmE : E.length = j := repP_len HPE.out
                obtain ⟨v9, w9, hrun, hown9, hap9, hk9⟩ := HO8.out.app hsz8 x (by rw [hmE]; omega)
                obtain ⟨x1, x2, x3, rfl⟩ := edg_val hown9
                have HRUN := Lib.hid hrun
                have HK9 : Hid (Kept (g :: Z) (w8.alloc (.cells #[.int .i64 x.fr, .int .i64 x.tw, .bool x.nt] 44)) w9) := by rw [HZZ.out] at hk9; exact hk9.mono (fun q hq _ => List.mem_cons_of_mem _ hq)
                have hkZ : Kept (g :: Z) wr w9 := ((HKG.out.mono (fun q hq _ => by simp at hq; simp [hq])).trans (Kept.alloc _ _ _)).trans HK9.out
                have hZW : ∀ q ∈ (Value.slice e1 e2 e3).ownBlock.toList, w7.heap.size ≤ q := fun q hq => HZB.out q (by rw [← HZZ.out]; exact hq)
                have hk89 : Kept (Value.slice e1 e2 e3).ownBlock.toList w8 w9 := (Kept.alloc _ _ _).trans hk9
                have HR9 : Hid (w9.heap[gx]? = some (.cells #[.int .i64 (ver : Int), .string (strL nd), .slice u1 u2 u3, .slice e1 e2 e3] 25)) := hkZ.heap HNE.out HSS.out.x
                have HN9 : Hid (CeSt w g gx ver nd (.slice u1 u2 u3) w7 (E ++ [x]) r' (.slice x1 x2 x3) (w9.setCell ⟨gx, 3, none⟩ (.slice x1 x2 x3))) := by
                  have hks : Kept [gx] w9 (w9.setCell ⟨gx, 3, none⟩ (.slice x1 x2 x3)) := Kept.setCell _ _ _ _ (by simp)
                  have hz := HSZ.out
                  have hg7 := HG7.out
                  refine ⟨hks.heap (by simp; omega) (hkZ.heap (fun hm => ?_) HSS.out.z), row_setCell HR9.out 3 _, hown9.keptX hks (fun q hq => by have := (hown9.blk q hq).1; simp; omega), ?_, ?_⟩
                  · rcases List.mem_cons.1 hm with e | e
                    · omega
                    · have := HZB.out _ e; omega
                  · exact (H8.out.1.goX hk89 (fun hm => by have := hZW g hm; omega) (fun q hq => by have := hZW q hq; omega)).goX hks (by simp; omega) (by simp; omega)
                  · refine Kept.trans ?_ (hks.mono (by simp))
                    refine Kept.step (o := (Value.slice e1 e2 e3).ownBlock) (HSS.out.kept.trans (HKG.out.mono (by simp))) hk89 (fun q hq => .inr (hZW q (by simp [hq])))
                clear hrun hown9 hap9 hk9 hkZ hZW hk89 hsz8 hmE
                refine wpR_force (by rfl) (fun K hK => ?_)
                go_simp
                refine hK _ _ (Kept.alloc _ _ _) ?_
                clear hK K
                refine wpR_force (by rfl) (fun K hK => ?_)
                refine wp_append_run _ _ _ rfl _ _ _ rfl rfl HRUN.out ?_
                refine hK _ _ HK9.out ?_
                clear hK K
                repeat (first | (apply wpR_take; (case hw => rfl); (case hv => intro w' hk; go_simp; with_reducible rfl); simp only [Act.put, List.setIfInBounds_toArray, List.set_cons_zero, List.set_cons_succ]) | (refine wpR_pass (by rfl) ?_; simp only [Act.put, List.setIfInBounds_toArray, List.set_cons_zero, List.set_cons_succ]))
                refine wpR_nil ?_; refine lastQ_go rfl ?_
                have z2 : w9.cell? ⟨gx, 3, none⟩ = some (.slice e1 e2 e3) := cell_of_row _ _ 3 _ _ _ HR9.out
                have fy : ∀ q, w9.frozen? ⟨gx, q, none⟩ = false := fun q => frozen_of_row _ _ q _ _ HR9.out
                go_simp
                clear z2 fy
                generalize hwa : w9.setCell _ _ = wa
                have H9 : Hid (∃ E r v, repP edgP (j + 1) r5 = some (E, r) ∧ CeSt w g gx ver nd (.slice u1 u2 u3) w7 E r v wa) := by
                  rw [← hwa]
                  exact ⟨_, _, _, HSN.out, HN9.out⟩
                clear hwa
                go_wp2_with fail
                go_roundw
                case rel => exact ⟨j + 1, by omega, by go_num, H9⟩
                case measure => simp [intOf]; omega
              have hjn : j = n := by omega
              subst hjn
              have HCP := Lib.hid (HRE.out _ HPE.out)
              simp only at HCP
              have c0 : wr.cell? ⟨gx, 0, none⟩ = some (.int .i64 (ver : Int)) := cell_of_row _ _ 0 _ _ _ HSS.out.x
              have c1 : wr.cell? ⟨gx, 1, none⟩ = some (.string (strL nd)) := cell_of_row _ _ 1 _ _ _ HSS.out.x
              have c2 : wr.cell? ⟨gx, 2, none⟩ = some (.slice u1 u2 u3) := cell_of_row _ _ 2 _ _ _ HSS.out.x
              have c3 : wr.cell? ⟨gx, 3, none⟩ = some (.slice e1 e2 e3) := cell_of_row _ _ 3 _ _ _ HSS.out.x
              have d0 : wr.cell? ⟨w.heap.size, 0, none⟩ = some (.int .i64 0) := cell_of_row _ _ 0 _ _ _ HSS.out.z
              have d1 : wr.cell? ⟨w.heap.size, 1, none⟩ = some (.string ⟨#[]⟩) := cell_of_row _ _ 1 _ _ _ HSS.out.z
              have d2 : wr.cell? ⟨w.heap.size, 2, none⟩ = some (.slice none 0 0) := cell_of_row _ _ 2 _ _ _ HSS.out.z
              have d3 : wr.cell? ⟨w.heap.size, 3, none⟩ = some (.slice none 0 0) := cell_of_row _ _ 3 _ _ _ HSS.out.z
              have fz : ∀ q, wr.frozen? ⟨w.heap.size, q, none⟩ = false := fun q => frozen_of_row _ _ q _ _ HSS.out.z
              clear hj hlt
              go_wp2_with fail
              have r' := row_setCell (row_setCell (row_setCell (row_setCell HSS.out.z 0 (.int .i64 (ver : Int))) 1 (.string (strL nd))) 2 (.slice u1 u2 u3)) 3 (.slice e1 e2 e3)
              have hkf : Kept [w.heap.size] wr ((((wr.setCell ⟨w.heap.size, 0, none⟩ (.int .i64 (ver : Int))).setCell ⟨w.heap.size, 1, none⟩ (.string (strL nd))).setCell ⟨w.heap.size, 2, none⟩ (.slice u1 u2 u3)).setCell ⟨w.heap.size, 3, none⟩ (.slice e1 e2 e3)) := (((Kept.setCell _ _ _ _ (by simp)).trans (Kept.setCell _ _ _ _ (by simp))).trans (Kept.setCell _ _ _ _ (by simp))).trans (Kept.setCell _ _ _ _ (by simp))
              refine bodyPost_ret_by (results_cell_row rfl _ _ (w.heap.size) 25 _ (0, 0) _ rfl r' Tryz.underlying25 rfl (by kernel_rfl)) rfl ?_
              have hzz := HSZ.out
              have hnd := HND.out
              have hg7 := HG7.out
              have hOR := (HOR.out.keptX HSS.out.kept (fun q hq => by simp at hq; omega)).keptX hkf (fun q hq => by simp at hq; omega)
              have hOE := HSS.out.own.keptX hkf (fun q hq => by have := (HSS.out.own.blk q hq).1; simp; omega)
              refine .inr ⟨_, _, _, HCP.out, rfl, fun ex w3 hk hx => ⟨⟨_, _, rfl, (hOR.keptX hk (fun q hq => by have := hx q hq; omega)).rs, (hOE.keptX hk (fun q hq hm => by have := (hOE.blk q hq).1; have := hx q hm; omega)).es⟩, by show nd.length ≤ _; omega⟩, HSS.out.rd.kept.into hkf (by simp)⟩
end Go.Proofs.YtfofhnbijjocfaaGreatDoor

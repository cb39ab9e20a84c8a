/-
  Layer 7: the document's bytes: two, text, kinds.
  Conditions: those that each theorem states.
  Layer 7: the document's bytes of a catalog.
  Conditions: those that each theorem states.
-/
import Derived.Test.YtfofhnbijjocfaaGreatDoorKCheck
import Derived.Deep.DeepCutAuto
namespace Go.Proofs.YtfofhnbijjocfaaGreatDoor
open Go.RowKit Go.Maps
set_option maxRecDepth 100000

set_option maxHeartbeats 1000000 in
theorem rctwo_any (W : World) (T : List UInt8) (v : Value) (n : Nat) (w : World) (h : PtSt W T v w) (hl : T.length ≤ 9000000) (hn : n < 65536) :
    Calls Tryz.prog 38 #[v, .int .i64 n] w (Laid7 W (T ++ two n) v w) := by
  obtain ⟨v', w', hrun, ho, hap⟩ := h.appN (two n) (by simp [two]; omega)
  have e1 : bvA (two n) = #[.int .u8 ((n : Int) / 256), .int .u8 ((n : Int) % 256)] := by
    have h1 := hiB_val n
    have h2 := loB_val n
    have h3 : (n : Int) / 256 % 256 = (n : Int) / 256 := by omega
    simp [bvA, bv, two, ← h1, ← h2, h3]
  rw [e1, show (two n).length = 2 from rfl] at hrun
  have HRUN := Lib.hid hrun
  have HO := Lib.hid (And.intro ho hap)
  clear hrun ho e1 h hap
  go_enter Tryz.func38, Tryz.ntmps38
  go_wp2_with (refine wpList_append_run rfl _ _ 28 rfl _ _ _ rfl rfl HRUN.out ?_)
  go_ret
  exact ⟨v', rfl, HO⟩

set_option maxHeartbeats 1000000 in
theorem rctext_any (W : World) (T : List UInt8) (v : Value) (s : List UInt8) (w : World) (h : PtSt W T v w) (hl : T.length ≤ 8000000) (hs : s.length < 65536) :
    Calls Tryz.prog 37 #[v, .string (strL s)] w (Laid7 W (T ++ txt s) v w) := by
  have HN : Hid (Calls Tryz.prog 38 #[v, .int .i64 s.length] w (Laid7 W (T ++ two s.length) v w)) := rctwo_any W T v s.length w h (by omega) hs
  have hz : ((strL s).size : Int) = (s.length : Int) := by rw [strL_size]
  clear h
  go_enter Tryz.func37, Tryz.ntmps37
  go_wp2_with fail
  clear hz
  refine HN.out.mono ?_
  rintro e w1 ⟨v1, rfl, H1⟩
  have hsp : (strL s).size = s.length := strL_size s
  have hcv := run_bytes_of_string (P := Tryz.prog) w1 9 28 5 (strL s) Tryz.underlying9 Tryz.underlying28 Tryz.underlying5
  generalize grownCap w1 (strL s).size 0 5 = gc at hcv
  generalize hob : Obj.cells (bytesRow (strL s) gc) 5 _ = ob at hcv
  obtain ⟨v2, w2, hrun, ho, hap⟩ := (H1.out.1.go (Kept.drew _ _)).appS s (by simp [two]; omega) ob gc gc _ hob.symm
  obtain ⟨w3, hw3⟩ : ∃ w3, w1.drew.alloc ob = w3 := ⟨_, rfl⟩
  rw [hw3] at hrun hcv
  rw [hsp] at hcv
  have HRUN := Lib.hid hrun
  have HO : Hid (PtSt W (T ++ txt s) v2 w2 ∧ AppB w v w2 v2) := ⟨by rw [show T ++ txt s = T ++ two s.length ++ s by simp [txt]]; exact ho, H1.out.2.trans (AppB.pre (Kept.drew [] _) hap)⟩
  clear hrun ho hap hob hw3
  go_wp2_with (at_builtin; refine wpList_append_run rfl _ _ 28 rfl _ _ _ rfl rfl HRUN.out ?_)
  go_ret
  exact ⟨v2, rfl, HO⟩

set_option maxHeartbeats 1000000 in
theorem rckinds_any (w : World) : Calls Tryz.prog 28 #[] w fun e w' => ∃ g, e = .returned (.slice (some ⟨g, 0, none⟩) 6 6) ∧ Hid (Kept [] w w' ∧ ∀ w2, Kept [] w' w2 → ∀ k, k < 6 → w2.cell? ⟨g, k, none⟩ = some (.string (strL (tyOf k)))) := by
  go_enter Tryz.func28, Tryz.ntmps28
  go_wp2_with fail
  go_ret
  refine ⟨_, rfl, Kept.alloc _ _ _, fun w2 hk2 k hk => ?_⟩
  rw [cell_of_row _ _ k _ _ _ (hk2.heap (by simp) (heap_alloc_last w _))]
  rcases (by omega : k = 0 ∨ k = 1 ∨ k = 2 ∨ k = 3 ∨ k = 4 ∨ k = 5) with e | e | e | e | e | e <;> subst e <;> rfl
end Go.Proofs.YtfofhnbijjocfaaGreatDoor

namespace Go.Proofs.YtfofhnbijjocfaaGreatDoor
open Go.RowKit Go.Maps
set_option maxRecDepth 100000

/-- What PP says of a world stays true. -/
def Imp (PP : World → Prop) (a b : World) : Prop := PP a → PP b
/-- Old memory stays, and so does what was laid. -/
theorem AppB.go {w wr w' : World} {v v' : Value} (h : AppB w v wr v') (hk : Kept [] wr w') : AppB w v w' v' := h.trans ⟨hk.mono (by simp), .inl rfl⟩
theorem Imp.refl (PP : World → Prop) (a : World) : Imp PP a a := fun h => h
theorem Imp.trans {PP : World → Prop} {a b c : World} (h : Imp PP a b) (k : Imp PP b c) : Imp PP a c := fun x => k (h x)

/-- The type's number, if it was met. -/
def tyU (t : List UInt8) (q : Nat) : List UInt8 := if kindI t < q then [tyN t] else []
theorem tyU_one {t : List UInt8} (h : kindI t ≠ 0) : tyU t 1 = [] := by unfold tyU; rw [if_neg (by omega)]
theorem tyU_six (t : List UInt8) : tyU t 6 = [tyN t] := by unfold tyU; rw [if_pos (by have := kindI_le t; omega)]
theorem tyU_hit {t : List UInt8} {q : Nat} (hq : 1 ≤ q ∧ q < 6) (h : tyOf q = t) : tyU t q = [] ∧ tyU t (q + 1) = [loB q] := by
  have hk : kindI t = q := by
    obtain ⟨k, rfl⟩ : ∃ k, q = k + 1 := ⟨q - 1, by omega⟩
    exact kindI_at (by omega) h
  unfold tyU tyN
  rw [hk, if_neg (by omega), if_pos (by omega)]
  exact ⟨rfl, rfl⟩
theorem tyU_miss {t : List UInt8} {q : Nat} (h0 : kindI t ≠ 0) (h : tyOf q ≠ t) : tyU t (q + 1) = tyU t q := by
  have hk : kindI t ≠ q := fun e => h (by rw [← e]; exact tyOf_kind h0)
  unfold tyU
  by_cases hh : kindI t < q
  · rw [if_pos hh, if_pos (by omega)]
  · rw [if_neg hh, if_neg (by omega)]

set_option maxRecDepth 100000 in
set_option maxHeartbeats 8000000 in
theorem rcbytes_any (c : Cat) (v : Value) (w : World) (h : CatIs w v c) (hp : partsO c = 0) :
    Calls Tryz.prog 16 #[v] w fun e w' => ∃ v', e = .returned v' ∧ Hid (OwnB w.heap.size w' v' (catB c) ∧ Kept [] w w') := by
  obtain ⟨⟨hv0, hv1, hkey⟩, hr32, he96, hres, _, hedg⟩ := partsO_ok hp
  have HOK := Lib.hid (resL_oks hres)
  have HEOK := Lib.hid (edgB_ok hedg)
  have hnode : c.node.length ≤ 32 := by
    unfold keyB at hkey
    rw [Bool.and_eq_true] at hkey
    have := wordB_len hkey.2
    omega
  obtain ⟨nv, hnv⟩ : ∃ nv : Nat, c.ver = (nv : Int) := ⟨c.ver.toNat, by omega⟩
  obtain ⟨ra, rc, ea, ec, rfl, hb⟩ := h.box
  obtain ⟨n, hn⟩ : ∃ n, c.R.length = n := ⟨_, rfl⟩
  obtain ⟨m, hm⟩ : ∃ m, c.E.length = m := ⟨_, rfl⟩
  have hA := Kept.alloc [] w (.cells #[.int .i64 c.ver, .string (strL c.node), .slice ra c.R.length rc, .slice ea c.E.length ec] 25)
  obtain ⟨w1, hw1⟩ : ∃ w1, w.alloc (.cells #[.int .i64 c.ver, .string (strL c.node), .slice ra c.R.length rc, .slice ea c.E.length ec] 25) = w1 := ⟨_, rfl⟩
  rw [hw1] at hb hA
  have HB := Lib.hid hb
  have HA := Lib.hid hA
  have HRS : Hid (RsIs w1 (.slice ra n rc) c.R) := by show RsIs _ _ _; rw [← hn]; exact hb.rs
  have HES : Hid (EsIs w1 (.slice ea m ec) c.E) := by show EsIs _ _ _; rw [← hm]; exact hb.es
  have HC : Hid (∀ w', Kept [] w1 w' → w'.cell? ⟨w.heap.size, 0, none⟩ = some (.int .i64 (nv : Int)) ∧ w'.cell? ⟨w.heap.size, 1, none⟩ = some (.string (strL c.node)) ∧ w'.cell? ⟨w.heap.size, 2, none⟩ = some (.slice ra n rc) ∧ w'.cell? ⟨w.heap.size, 3, none⟩ = some (.slice ea m ec)) := fun w' hk => by
    rw [← hn, ← hm, ← hnv]
    exact ⟨(HB.out.kept hk).c0, (HB.out.kept hk).c1, (HB.out.kept hk).c2, (HB.out.kept hk).c3⟩
  have HN := Lib.hid hn
  have HM := Lib.hid hm
  have HV := Lib.hid hnv
  rw [hnv] at hv0 hv1
  rw [hn] at hr32
  rw [hm] at he96
  rw [hnv, hn, hm] at hw1 ⊢
  have HNL := Lib.hid hnode
  obtain ⟨nd, hnd⟩ : ∃ nd, c.node = nd := ⟨_, rfl⟩
  have HP1 : Hid (PtSt w1 [] (.slice none 0 0) w1.drew) := (PtSt.nil w1).go (Kept.drew _ _)
  have z0 : ∀ w', Imp (Kept [] w1) w1.drew w' → w'.cell? ⟨w.heap.size, 0, none⟩ = some (.int .i64 (nv : Int)) := fun w' hk => (HC.out w' (hk (Kept.drew _ _))).1
  have z1 : ∀ w', Imp (Kept [] w1) w1.drew w' → w'.cell? ⟨w.heap.size, 1, none⟩ = some (.string (strL c.node)) := fun w' hk => (HC.out w' (hk (Kept.drew _ _))).2.1
  clear h hp hres hedg hkey hnode hb hA hn hm hnv hnd
  go_enter Tryz.func16, Tryz.ntmps16
  go_wp2_with fail
  refine wp_region_ordR (R := Imp (Kept [] w1)) [(true, 0), (true, 1), (true, 3), (true, 4), (false, 2), (false, 5), (true, 6)] (fun _ => Imp.refl _ _) (fun _ _ _ h k => Imp.trans h k) (by kernel_rfl) (fun _ _ d _ _ h => by cases d <;> exact h) (by kernel_rfl) rfl (by kernel_rfl) (by kernel_rfl) ?_
  simp only [named, List.getD_cons_zero, List.getD_cons_succ]
  repeat (first | (apply wpR_take; (case hw => rfl); (case hv => intro w' hk; go_simp; with_reducible rfl); simp only [Act.put, List.setIfInBounds_toArray, List.set_cons_zero, List.set_cons_succ]) | (refine wpR_pass (by rfl) ?_; simp only [Act.put, List.setIfInBounds_toArray, List.set_cons_zero, List.set_cons_succ]))
  clear z0 z1
  refine wpR_force (by rfl) (fun K hK => ?_)
  go_simp
  refine (rctwo_any w1 [] _ nv _ HP1.out (by simp) (by omega)).mono ?_
  rintro e w2 ⟨v2, rfl, H2⟩
  rw [List.nil_append] at H2
  have HP2 : Hid (PtSt w1 (two nv) v2 w2) := H2.out.1
  refine hK _ _ (fun _ => HP2.out.kept) ?_
  clear hK K H2 hw1
  repeat (first | (apply wpR_take; (case hw => rfl); (case hv => intro w' hk; go_simp; with_reducible rfl); simp only [Act.put, List.setIfInBounds_toArray, List.set_cons_zero, List.set_cons_succ]) | (refine wpR_pass (by rfl) ?_; simp only [Act.put, List.setIfInBounds_toArray, List.set_cons_zero, List.set_cons_succ]))
  refine wpR_force (by rfl) (fun K hK => ?_)
  go_simp
  refine (rctext_any w1 _ v2 c.node w2 HP2.out (by simp [two]) (by have := HNL.out; omega)).mono ?_
  rintro e w3 ⟨v3, rfl, H3⟩
  have HP3 : Hid (PtSt w1 (two nv ++ txt c.node) v3 w3) := H3.out.1
  refine hK _ _ (fun _ => HP3.out.kept) ?_
  clear hK K H3
  repeat (first | (apply wpR_take; (case hw => rfl); (case hv => intro w' hk; go_simp; with_reducible rfl); simp only [Act.put, List.setIfInBounds_toArray, List.set_cons_zero, List.set_cons_succ]) | (refine wpR_pass (by rfl) ?_; simp only [Act.put, List.setIfInBounds_toArray, List.set_cons_zero, List.set_cons_succ]))
  refine wpR_nil ?_
  obtain ⟨c0, c1, c2, c3⟩ := HC.out w3 HP3.out.kept
  obtain ⟨v4, w4, hrun4, hp4, hap4⟩ := HP3.out.appN [loB n] (by have := HNL.out; rw [List.length_append, txt_length]; simp [two]; omega)
  have HR4 := Lib.hid hrun4
  have HP4 : Hid (PtSt w1 (two nv ++ txt c.node ++ [loB n]) v4 w4) := hp4
  have e1 : bvA [loB n] = #[.int .u8 ((n : Int) % 256)] := by rw [loB_val]; rfl
  rw [e1] at HR4
  have e2 : (n : Int) % 256 = (n : Int) := by omega
  rw [e2] at HR4
  clear hrun4 hp4 hap4 e1 e2
  obtain ⟨d0, d1, d2, d3⟩ := HC.out w4 HP4.out.kept
  obtain ⟨H, hH⟩ : ∃ H, two nv ++ txt c.node ++ [loB n] = H := ⟨_, rfl⟩
  have HHL : Hid (H.length ≤ 100) := by show _ ≤ _; rw [← hH]; have := HNL.out; rw [List.length_append, List.length_append, txt_length]; simp [two]; omega
  have HH : Hid (catB c = H ++ c.R.flatMap resB ++ [loB m] ++ c.E.flatMap edB) := by show _ = _; rw [← hH]; unfold catB; rw [HN.out, HM.out, HV.out]; simp
  rw [hH] at HP4
  clear hH
  go_wp2_with (at_builtin; refine wpList_append_run rfl _ _ 28 rfl _ _ _ rfl rfl HR4.out ?_)
  clear HR4 c0 c1 c2 c3 d0 d1 d2 d3
  go_loopw [3, 4] (fun v' i wr => ∃ k : Nat, k ≤ n ∧ i = .int .i64 k ∧ Hid (PtSt w1 (H ++ (c.R.take k).flatMap resB) v' wr)) (fun _ i _ => n - (intOf i).toNat)
  case atStart => exact ⟨0, by omega, rfl, (by have := HP4.out; show PtSt _ _ _ _; simpa using this)⟩
  case round =>
    clear HP2 HP3 HP4
    obtain ⟨k, hk, rfl, HS⟩ := hrel
    obtain ⟨wo, rfl⟩ : ∃ wo, wo = wr := ⟨_, rfl⟩
    obtain ⟨c0, c1, c2, c3⟩ := HC.out wo HS.out.kept
    have HRL : Hid (((c.R.take k).flatMap resB).length ≤ 1984000) := by
      have h1 := take_len (f := resB) (m := 62000) (l := c.R) (fun r hr => resB_len (HOK.out r hr)) k
      have h2 := HN.out
      show _ ≤ _
      omega
    by_cases hlt : k < n
    · have hkr : k < c.R.length := by rw [HN.out]; exact hlt
      obtain ⟨r, hr⟩ : ∃ r, c.R[k] = r := ⟨_, rfl⟩
      have HRK : Hid (ResOk r) := by show ResOk r; rw [← hr]; exact HOK.out _ (List.getElem_mem hkr)
      obtain ⟨b, o, u, rfl, hb, hu, f0, f1, f2⟩ := HRS.out.pick k hkr r hr
      have HU := Lib.hid hu
      have HSN : Hid ((c.R.take (k + 1)).flatMap resB = (c.R.take k).flatMap resB ++ resB r) := by show _ = _; rw [resB_snoc c.R k hkr, hr]
      have g0 := (HS.out.kept.cell (p := ⟨b, o + k * 3, none⟩) hb (by simp)).trans f0
      have g1 := (HS.out.kept.cell (p := ⟨b, o + k * 3 + 1, none⟩) hb (by simp)).trans f1
      have g2 := (HS.out.kept.cell (p := ⟨b, o + k * 3 + 2, none⟩) hb (by simp)).trans f2
      obtain ⟨pa, pc, hus⟩ := hu.slice
      obtain ⟨pn, hpn⟩ : ∃ m, r.P.length = m := ⟨_, rfl⟩
      rw [hpn] at hus
      subst hus
      have hpn100 : pn ≤ 100 := by rw [← hpn]; exact HRK.out.count
      have HPN := Lib.hid hpn
      obtain ⟨w5, hw5⟩ : ∃ w5, wo.alloc (.cells #[.string (strL r.t), .string (strL r.ti), .slice pa pn pc] 40) = w5 := ⟨_, rfl⟩
      have H5 : Hid (Kept [] wo w5 ∧ w5.heap[wo.heap.size]? = some (.cells #[.string (strL r.t), .string (strL r.ti), .slice pa pn pc] 40)) := ⟨by rw [← hw5]; exact Kept.alloc _ _ _, by rw [← hw5]; exact heap_alloc_last _ _⟩
      have HP5 : Hid (PtSt w1 (H ++ (c.R.take k).flatMap resB) u3 w5) := HS.out.go H5.out.1
      have HOFF : Hid (wo.heap.size ∉ u3.ownBlock.toList) := HS.out.off
      have HBOX : Hid (∀ w' v', AppB w5 u3 w' v' → w'.cell? ⟨wo.heap.size, 0, none⟩ = some (.string (strL r.t)) ∧ w'.cell? ⟨wo.heap.size, 1, none⟩ = some (.string (strL r.ti)) ∧ w'.cell? ⟨wo.heap.size, 2, none⟩ = some (.slice pa pn pc)) := fun w' v' ha => by
        have e0 := ha.kept.heap HOFF.out H5.out.2
        exact ⟨cell_of_row _ _ 0 _ _ _ e0, cell_of_row _ _ 1 _ _ _ e0, cell_of_row _ _ 2 _ _ _ e0⟩
      obtain ⟨T0, hT0⟩ : ∃ T, H ++ (c.R.take k).flatMap resB = T := ⟨_, rfl⟩
      have HTL : Hid (T0.length ≤ 1984100) := by show _ ≤ _; rw [← hT0, List.length_append]; have := HHL.out; have := HRL.out; omega
      have HT0 : Hid (H ++ (c.R.take (k + 1)).flatMap resB = T0 ++ resB r) := by show _ = _; rw [HSN.out, ← List.append_assoc, hT0]
      rw [hT0] at HP5
      have HST : Hid (PtSt w1 (T0 ++ tyU r.t 1) u3 w5 ∧ AppB w5 u3 w5 u3) := by
        show _ ∧ _
        rw [tyU_one HRK.out.kind, List.append_nil]
        exact ⟨HP5.out, AppB.refl _ _⟩
      clear hr hu f0 f1 f2 hpn hT0
      go_wp2_with fail
      clear hw5 g0 g1 g2 c0 c1 c2 c3
      obtain ⟨vo, rfl⟩ : ∃ vo, vo = u3 := ⟨_, rfl⟩
      go_loopw [3, 6] (fun v' i wq => ∃ q : Nat, 1 ≤ q ∧ q ≤ 6 ∧ i = .int .i64 q ∧ Hid (PtSt w1 (T0 ++ tyU r.t q) v' wq ∧ AppB w5 vo wq v')) (fun _ i _ => 6 - (intOf i).toNat)
      case atStart => exact ⟨1, by omega, by omega, rfl, HST.out⟩
      case round =>
        clear HST
        obtain ⟨q, hq1, hq6, rfl, HQ⟩ := hrel
        by_cases hlt6 : q < 6
        · have hq6' : (q : Int) < 6 := by omega
          have z0 : ∀ w', Kept [] wr.drew w' → w'.cell? ⟨wo.heap.size, 0, none⟩ = some (.string (strL r.t)) := fun w' hk' => (HBOX.out w' u3 (HQ.out.2.go ((Kept.drew [] wr).trans hk'))).1
          go_wp2_with fail
          refine wp_region_ord [(true, 1), (true, 4), (true, 5), (false, 0), (true, 2), (true, 3), (true, 6)] [] (by kernel_rfl) (fun _ _ d _ _ h => by cases d <;> exact h) (by kernel_rfl) rfl (by kernel_rfl) (by kernel_rfl) ?_
          simp only [named, List.getD_cons_zero, List.getD_cons_succ]
          repeat (first | (apply wpGrow_take; (case hw => rfl); (case hv => intro w' hk; go_simp; with_reducible rfl); simp only [Act.put, List.setIfInBounds_toArray, List.set_cons_zero, List.set_cons_succ]) | (refine wpGrow_pass (by rfl) ?_; simp only [Act.put, List.setIfInBounds_toArray, List.set_cons_zero, List.set_cons_succ]) | (refine wpGrow_skip (by rfl) ?_; simp only [Act.put, List.setIfInBounds_toArray, List.set_cons_zero, List.set_cons_succ]))
          clear z0
          refine wpGrow_force (by rfl) (fun K hK => ?_)
          go_simp
          refine (rckinds_any _).mono ?_
          rintro e w6 ⟨g, rfl, H6⟩
          refine hK _ _ H6.out.1 ?_
          clear hK K
          have HK6 : Hid (Kept [] wr w6) := (Kept.drew [] wr).trans H6.out.1
          have HP6 : Hid (PtSt w1 (T0 ++ tyU r.t q) u3 w6 ∧ AppB w5 vo w6 u3) := ⟨HQ.out.1.go HK6.out, HQ.out.2.go HK6.out⟩
          have y0 : ∀ w', Kept [] w6 w' → w'.cell? ⟨g, q, none⟩ = some (.string (strL (tyOf q))) := fun w' hk' => H6.out.2 w' hk' q hlt6
          by_cases he : tyOf q = r.t
          · have q1 : ((strL (tyOf q)).toList == (strL r.t).toList) = true := by rw [str_beqP, decide_eq_true he]
            have HE := Lib.hid (tyU_hit ⟨hq1, hlt6⟩ he)
            clear he
            repeat (first | (apply wpGrow_take; (case hw => rfl); (case hv => intro w' hk; go_simp; with_reducible rfl); simp only [Act.put, List.setIfInBounds_toArray, List.set_cons_zero, List.set_cons_succ]) | (refine wpGrow_pass (by rfl) ?_; simp only [Act.put, List.setIfInBounds_toArray, List.set_cons_zero, List.set_cons_succ]) | (refine wpGrow_skip (by rfl) ?_; simp only [Act.put, List.setIfInBounds_toArray, List.set_cons_zero, List.set_cons_succ]))
            refine wpGrow_nil ?_
            clear y0
            obtain ⟨v7, w7, hrun7, hp7, hap7⟩ := HP6.out.1.appN [loB q] (by have := HTL.out; rw [HE.out.1]; simp; omega)
            have HR7 := Lib.hid hrun7
            have e1 : bvA [loB q] = #[.int .u8 ((q : Int) % 256)] := by rw [loB_val]; rfl
            rw [e1] at HR7
            have e2 : (q : Int) % 256 = (q : Int) := by omega
            rw [e2] at HR7
            have HN7 : Hid (PtSt w1 (T0 ++ tyU r.t (q + 1)) v7 w7 ∧ AppB w5 vo w7 v7) := ⟨by rw [HE.out.2]; rw [HE.out.1, List.append_nil] at hp7; exact hp7, HP6.out.2.trans hap7⟩
            clear hrun7 hp7 hap7 e1 e2
            go_wp2_with (at_builtin; refine wpList_append_run rfl _ _ 28 rfl _ _ _ rfl rfl HR7.out ?_)
            go_roundw
            case rel => exact ⟨q + 1, by omega, by omega, by go_num, HN7⟩
            case measure => simp [intOf]; omega
          · have q1 : ((strL (tyOf q)).toList == (strL r.t).toList) = false := by rw [str_beqP, decide_eq_false he]
            have HE := Lib.hid (tyU_miss HRK.out.kind he)
            clear he
            repeat (first | (apply wpGrow_take; (case hw => rfl); (case hv => intro w' hk; go_simp; with_reducible rfl); simp only [Act.put, List.setIfInBounds_toArray, List.set_cons_zero, List.set_cons_succ]) | (refine wpGrow_pass (by rfl) ?_; simp only [Act.put, List.setIfInBounds_toArray, List.set_cons_zero, List.set_cons_succ]) | (refine wpGrow_skip (by rfl) ?_; simp only [Act.put, List.setIfInBounds_toArray, List.set_cons_zero, List.set_cons_succ]))
            refine wpGrow_nil ?_
            clear y0
            have HN7 : Hid (PtSt w1 (T0 ++ tyU r.t (q + 1)) u3 w6 ∧ AppB w5 vo w6 u3) := by show _ ∧ _; rw [HE.out]; exact HP6.out
            go_wp2_with fail
            go_roundw
            case rel => exact ⟨q + 1, by omega, by omega, by go_num, HN7⟩
            case measure => simp [intOf]; omega
        obtain rfl : q = 6 := by omega
        have HT1 : Hid (PtSt w1 (T0 ++ [tyN r.t]) u3 wr ∧ AppB w5 vo wr u3) := by have := HQ.out; rw [tyU_six] at this; exact this
        obtain ⟨b0, b1, b2⟩ := HBOX.out wr u3 HT1.out.2
        clear HQ hlt6
        go_wp2_with fail
        refine (rctext_any w1 _ u3 r.ti wr HT1.out.1 (by have := HTL.out; simp; omega) (by have := HRK.out.title; omega)).mono ?_
        rintro e w6 ⟨v6, rfl, H6⟩
        have HT2 : Hid (PtSt w1 (T0 ++ [tyN r.t] ++ txt r.ti) v6 w6 ∧ AppB w5 vo w6 v6) := ⟨H6.out.1, HT1.out.2.trans H6.out.2⟩
        clear H6 b0 b1 b2 HT1
        obtain ⟨b0, b1, b2⟩ := HBOX.out w6 v6 HT2.out.2
        obtain ⟨v7, w7, hrun7, hp7, hap7⟩ := HT2.out.1.appN [loB pn] (by have := HRK.out.title; have := HTL.out; simp [txt_length]; omega)
        have HR7 := Lib.hid hrun7
        have e1 : bvA [loB pn] = #[.int .u8 ((pn : Int) % 256)] := by rw [loB_val]; rfl
        rw [e1] at HR7
        have e2 : (pn : Int) % 256 = (pn : Int) := by omega
        rw [e2] at HR7
        have HT3 : Hid (PtSt w1 (T0 ++ [tyN r.t] ++ txt r.ti ++ [loB pn]) v7 w7 ∧ AppB w5 vo w7 v7) := ⟨hp7, HT2.out.2.trans hap7⟩
        clear hrun7 hp7 hap7 e1 e2
        obtain ⟨T1, hT1⟩ : ∃ T, T0 ++ [tyN r.t] ++ txt r.ti ++ [loB pn] = T := ⟨_, rfl⟩
        have HT1L : Hid (T1.length ≤ 1984300) := by show _ ≤ _; rw [← hT1]; have := HRK.out.title; have := HTL.out; simp [txt_length]; omega
        have HT1 : Hid (H ++ (c.R.take (k + 1)).flatMap resB = T1 ++ r.P.flatMap prmB) := by show _ = _; rw [HT0.out, ← hT1]; unfold resB; rw [HPN.out]; simp
        rw [hT1] at HT3
        obtain ⟨PP, hPP⟩ : ∃ PP : World → Prop, PP = fun w' => Kept [] w1 w' ∧ ∃ v', AppB w5 vo w' v' := ⟨_, rfl⟩
        have HPI : Hid (∀ w' v', Kept [] w1 w' → AppB w5 vo w' v' → PP w') := fun w' v' h1 h2 => by rw [hPP]; exact ⟨h1, v', h2⟩
        have HPE : Hid (∀ w', PP w' → Kept [] w1 w' ∧ ∃ v', AppB w5 vo w' v') := fun w' h => by rw [hPP] at h; exact h
        clear hT1 hPP
        go_wp2_with (at_builtin; refine wpList_append_run rfl _ _ 28 rfl _ _ _ rfl rfl HR7.out ?_)
        clear HR7 b0 b1 b2 HT2
        go_loopw [3, 7] (fun v' i wq => ∃ q : Nat, q ≤ pn ∧ i = .int .i64 q ∧ Hid (PtSt w1 (T1 ++ (r.P.take q).flatMap prmB) v' wq ∧ AppB w5 vo wq v')) (fun _ i _ => pn - (intOf i).toNat)
        case atStart => exact ⟨0, by omega, rfl, (by have := HT3.out; show _ ∧ _; simpa using this)⟩
        case round =>
          clear HT3
          obtain ⟨q, hq, rfl, HQ⟩ := hrel
          obtain ⟨b0, b1, b2⟩ := HBOX.out wr u3 HQ.out.2
          by_cases hltq : q < pn
          · have hkp : q < r.P.length := by rw [HPN.out]; exact hltq
            obtain ⟨p, hp⟩ : ∃ p, r.P[q] = p := ⟨_, rfl⟩
            have HPL : Hid (p.1.length ≤ 100 ∧ p.2.length ≤ 512) := by show _ ∧ _; rw [← hp]; exact HRK.out.each _ (List.getElem_mem hkp)
            obtain ⟨b3, o3, rfl, hb3, d0, d1⟩ := HU.out.pick q hkp p hp
            have HSN2 : Hid ((r.P.take (q + 1)).flatMap prmB = (r.P.take q).flatMap prmB ++ prmB p) := by show _ = _; rw [prmB_snoc r.P q hkp, hp]
            have HTL2 : Hid (((r.P.take q).flatMap prmB).length ≤ 61600) := by
              have h1 := take_len (f := prmB) (m := 616) (l := r.P) (fun p hp => prmB_len (HRK.out.each p hp)) q
              have h2 := HPN.out
              show _ ≤ _
              omega
            have HP0 : Hid (PP wr.drew) := HPI.out _ u3 (HQ.out.1.kept.trans (Kept.drew _ _)) (HQ.out.2.go (Kept.drew _ _))
            have z2 : ∀ w', Imp PP wr.drew w' → w'.cell? ⟨wo.heap.size, 2, none⟩ = some (.slice (some ⟨b3, o3, none⟩) pn pc) := fun w' hk' => by
              obtain ⟨_, v', ha⟩ := HPE.out w' (hk' HP0.out)
              exact (HBOX.out w' v' ha).2.2
            have z3 : ∀ w', Imp PP wr.drew w' → w'.cell? ⟨b3, o3 + q * 2, none⟩ = some (.string (strL p.1)) := fun w' hk' => ((HPE.out w' (hk' HP0.out)).1.cell (p := ⟨b3, o3 + q * 2, none⟩) hb3 (by simp)).trans d0
            have z4 : ∀ w', Imp PP wr.drew w' → w'.cell? ⟨b3, o3 + q * 2 + 1, none⟩ = some (.string (strL p.2)) := fun w' hk' => ((HPE.out w' (hk' HP0.out)).1.cell (p := ⟨b3, o3 + q * 2 + 1, none⟩) hb3 (by simp)).trans d1
            have HPQ : Hid (PtSt w1 (T1 ++ (r.P.take q).flatMap prmB) u3 wr.drew) := HQ.out.1.go (Kept.drew _ _)
            clear hp d0 d1
            go_wp2_with fail
            clear b0 b1 b2
            refine wp_region_ordR (R := Imp (PP)) [(true, 0), (true, 1), (true, 2), (true, 3), (true, 4), (true, 5), (true, 6), (true, 8), (true, 9), (true, 10), (true, 11), (true, 12), (true, 13), (false, 7), (false, 14), (true, 15)] (fun _ => Imp.refl _ _) (fun _ _ _ h k => Imp.trans h k) (by kernel_rfl) (fun _ _ d _ _ h => by cases d <;> exact h) (by kernel_rfl) rfl (by kernel_rfl) (by kernel_rfl) ?_
            simp only [named, List.getD_cons_zero, List.getD_cons_succ]
            repeat (first | (apply wpR_take; (case hw => rfl); (case hv => intro w' hk; go_simp; with_reducible rfl); simp only [Act.put, List.setIfInBounds_toArray, List.set_cons_zero, List.set_cons_succ]) | (refine wpR_pass (by rfl) ?_; simp only [Act.put, List.setIfInBounds_toArray, List.set_cons_zero, List.set_cons_succ]))
            clear z2 z3 z4
            refine wpR_force (by rfl) (fun K hK => ?_)
            go_simp
            refine (rctext_any w1 _ u3 p.1 _ HPQ.out (by have := HT1L.out; have := HTL2.out; rw [List.length_append]; omega) (by have := HPL.out; omega)).mono ?_
            rintro e w8 ⟨v8, rfl, H8⟩
            have HT8 : Hid (PtSt w1 (T1 ++ (r.P.take q).flatMap prmB ++ txt p.1) v8 w8 ∧ AppB w5 vo w8 v8) := ⟨H8.out.1, HQ.out.2.trans (AppB.pre (Kept.drew [] _) H8.out.2)⟩
            refine hK _ _ (fun _ => HPI.out _ _ HT8.out.1.kept HT8.out.2) ?_
            clear hK K H8
            repeat (first | (apply wpR_take; (case hw => rfl); (case hv => intro w' hk; go_simp; with_reducible rfl); simp only [Act.put, List.setIfInBounds_toArray, List.set_cons_zero, List.set_cons_succ]) | (refine wpR_pass (by rfl) ?_; simp only [Act.put, List.setIfInBounds_toArray, List.set_cons_zero, List.set_cons_succ]))
            refine wpR_force (by rfl) (fun K hK => ?_)
            go_simp
            refine (rctext_any w1 _ v8 p.2 _ HT8.out.1 (by have := HT1L.out; have := HTL2.out; have := HPL.out; rw [List.length_append, List.length_append, txt_length]; omega) (by have := HPL.out; omega)).mono ?_
            rintro e w9 ⟨v9, rfl, H9⟩
            have HT9 : Hid (PtSt w1 (T1 ++ (r.P.take (q + 1)).flatMap prmB) v9 w9 ∧ AppB w5 vo w9 v9) := ⟨by
              rw [HSN2.out]
              have := H9.out.1
              rw [show prmB p = txt p.1 ++ txt p.2 from rfl]
              simpa [List.append_assoc] using this, HT8.out.2.trans H9.out.2⟩
            refine hK _ _ (fun _ => HPI.out _ _ HT9.out.1.kept HT9.out.2) ?_
            clear hK K H9
            repeat (first | (apply wpR_take; (case hw => rfl); (case hv => intro w' hk; go_simp; with_reducible rfl); simp only [Act.put, List.setIfInBounds_toArray, List.set_cons_zero, List.set_cons_succ]) | (refine wpR_pass (by rfl) ?_; simp only [Act.put, List.setIfInBounds_toArray, List.set_cons_zero, List.set_cons_succ]))
            refine wpR_nil ?_
            go_wp2_with fail
            go_roundw
            case rel => exact ⟨q + 1, by omega, by go_num, HT9⟩
            case measure => simp [intOf]; omega
          have HTK : Hid (r.P.take q = r.P) := List.take_of_length_le (by rw [HPN.out]; omega)
          have HN : Hid (PtSt w1 (H ++ (c.R.take (k + 1)).flatMap resB) u3 wr) := by show PtSt _ _ _ _; rw [HT1.out]; have := HQ.out.1; rw [HTK.out] at this; exact this
          go_wp2_with fail
          go_roundw
          case rel => exact ⟨k + 1, by omega, by go_num, HN⟩
          case measure => simp [intOf]; omega
    have HTK : Hid (c.R.take k = c.R) := List.take_of_length_le (by rw [HN.out]; omega)
    have HSR : Hid (PtSt w1 (H ++ c.R.flatMap resB) u3 wo) := by
      show PtSt _ _ _ _
      have := HS.out
      rw [HTK.out] at this
      exact this
    rw [HTK.out] at HRL
    obtain ⟨v7, w7, hrun7, hp7, hap7⟩ := HSR.out.appN [loB m] (by have := HHL.out; have := HRL.out; rw [List.length_append]; simp only [List.length_cons, List.length_nil]; omega)
    have HR7 := Lib.hid hrun7
    obtain ⟨G, hG⟩ : ∃ G, H ++ c.R.flatMap resB ++ [loB m] = G := ⟨_, rfl⟩
    have HGL : Hid (G.length ≤ 1990000) := by show _ ≤ _; rw [← hG]; have := HHL.out; have := HRL.out; rw [List.length_append, List.length_append]; simp only [List.length_cons, List.length_nil]; omega
    have HG : Hid (catB c = G ++ c.E.flatMap edB) := by show _ = _; rw [HH.out, hG]
    have HP7 : Hid (PtSt w1 G v7 w7) := by show PtSt _ _ _ _; rw [← hG]; exact hp7
    have e1 : bvA [loB m] = #[.int .u8 ((m : Int) % 256)] := by rw [loB_val]; rfl
    rw [e1] at HR7
    have e2 : (m : Int) % 256 = (m : Int) := by omega
    rw [e2] at HR7
    clear hrun7 hp7 hap7 e1 e2 hG
    obtain ⟨d0, d1, d2, d3⟩ := HC.out w7 HP7.out.kept
    go_wp2_with (at_builtin; refine wpList_append_run rfl _ _ 28 rfl _ _ _ rfl rfl HR7.out ?_)
    clear HR7 c0 c1 c2 c3 d0 d1 d2 d3
    go_loopw [3, 8] (fun v' i wr => ∃ k : Nat, k ≤ m ∧ i = .int .i64 k ∧ Hid (PtSt w1 (G ++ (c.E.take k).flatMap edB) v' wr)) (fun _ i _ => m - (intOf i).toNat)
    case atStart => exact ⟨0, by omega, rfl, (by have := HP7.out; show PtSt _ _ _ _; simpa using this)⟩
    case round =>
      clear HSR HP7 HS
      obtain ⟨j, hj, rfl, HI⟩ := hrel
      obtain ⟨c0, c1, c2, c3⟩ := HC.out wr HI.out.kept
      have HEL : Hid (((c.E.take j).flatMap edB).length ≤ 288) := by
        have h1 := take_len (f := edB) (m := 3) (l := c.E) (fun x _ => by simp [edB]) j
        have h2 := HM.out
        show _ ≤ _
        omega
      by_cases hjm : j < m
      · have hje : j < c.E.length := by rw [HM.out]; exact hjm
        obtain ⟨x, hx⟩ : ∃ x, c.E[j] = x := ⟨_, rfl⟩
        have hxo : 0 ≤ x.fr ∧ x.fr < c.R.length ∧ 0 ≤ x.tw ∧ x.tw < c.R.length := by rw [← hx]; exact HEOK.out _ (List.getElem_mem hje)
        rw [HN.out] at hxo
        obtain ⟨xf, hxf⟩ : ∃ a : Nat, x.fr = (a : Int) := ⟨x.fr.toNat, by omega⟩
        obtain ⟨xt, hxt⟩ : ∃ a : Nat, x.tw = (a : Int) := ⟨x.tw.toNat, by omega⟩
        obtain ⟨xn, hxn⟩ : ∃ a, x.nt = a := ⟨_, rfl⟩
        have hf256 : xf < 256 := by omega
        have ht256 : xt < 256 := by omega
        obtain ⟨b, o, rfl, hb, f0, f1, f2⟩ := HES.out.pick j hje x hx
        rw [hxf] at f0
        rw [hxt] at f1
        rw [hxn] at f2
        have HSN : Hid ((c.E.take (j + 1)).flatMap edB = (c.E.take j).flatMap edB ++ [loB xf, loB xt, ntB xn]) := by
          show _ = _
          rw [edB_snoc c.E j hje, hx]
          unfold edB
          rw [hxf, hxt, hxn, Int.toNat_natCast, Int.toNat_natCast]
        have HF : Hid (∀ w', Kept [] w1 w' → w'.cell? ⟨b, o + j * 3, none⟩ = some (.int .i64 (xf : Int)) ∧ w'.cell? ⟨b, o + j * 3 + 1, none⟩ = some (.int .i64 (xt : Int)) ∧ w'.cell? ⟨b, o + j * 3 + 2, none⟩ = some (.bool xn)) := fun w' hk =>
          ⟨(hk.cell (p := ⟨b, o + j * 3, none⟩) hb (by simp)).trans f0, (hk.cell (p := ⟨b, o + j * 3 + 1, none⟩) hb (by simp)).trans f1, (hk.cell (p := ⟨b, o + j * 3 + 2, none⟩) hb (by simp)).trans f2⟩
        have g2 := (HF.out wr HI.out.kept).2.2
        clear hx hxo hxf hxt hxn f0 f1 f2
        go_upto_if 103 with (fail)
        clear c0 c1 c2 c3 g2
        go_cut [9] (fun s9 wx => s9 = .int .u8 ((ntB xn).toNat : Int) ∧ Hid (PtSt w1 (G ++ (c.E.take j).flatMap edB) u3 wx))
        case first =>
          cases xn
          · go_wp2_with fail
            go_meet
            exact ⟨rfl, HI⟩
          · go_wp2_with fail
            go_meet
            exact ⟨rfl, HI⟩
        case rest =>
        obtain ⟨rfl, HI2⟩ := hcut
        obtain ⟨wy, rfl⟩ : ∃ wy, wy = wc := ⟨_, rfl⟩
        have HP5 : Hid (PtSt w1 (G ++ (c.E.take j).flatMap edB) u3 wy.drew) := HI2.out.go (Kept.drew _ _)
        have z0 : ∀ w', Imp (Kept [] w1) wy.drew w' → w'.cell? ⟨b, o + j * 3, none⟩ = some (.int .i64 (xf : Int)) := fun w' hk => (HF.out w' (hk HP5.out.kept)).1
        have z1 : ∀ w', Imp (Kept [] w1) wy.drew w' → w'.cell? ⟨b, o + j * 3 + 1, none⟩ = some (.int .i64 (xt : Int)) := fun w' hk => (HF.out w' (hk HP5.out.kept)).2.1
        have z3 : ∀ w', Imp (Kept [] w1) wy.drew w' → w'.cell? ⟨w.heap.size, 3, none⟩ = some (.slice (some ⟨b, o, none⟩) m ec) := fun w' hk => (HC.out w' (hk HP5.out.kept)).2.2.2
        obtain ⟨v8, w8, hrun8, hp8, hap8⟩ := HP5.out.appN [loB xf, loB xt, ntB xn] (by have := HGL.out; have := HEL.out; rw [List.length_append]; simp only [List.length_cons, List.length_nil]; omega)
        have e1 : bvA [loB xf, loB xt, ntB xn] = #[.int .u8 (IntKind.u8.wrap (xf : Int)), .int .u8 (IntKind.u8.wrap (xt : Int)), .int .u8 ((ntB xn).toNat : Int)] := by
          rw [wrap_loB, wrap_loB]; rfl
        rw [e1, show [loB xf, loB xt, ntB xn].length = 3 from rfl] at hrun8
        have HR8 := Lib.hid hrun8
        have HN8 : Hid (PtSt w1 (G ++ (c.E.take (j + 1)).flatMap edB) v8 w8) := by
          show PtSt _ _ _ _
          rw [HSN.out, ← List.append_assoc]
          exact hp8
        clear hrun8 hp8 hap8 e1
        go_wp2_with fail
        refine wp_region_ordR (R := Imp (Kept [] w1)) [(true, 0), (true, 1), (true, 2), (true, 3), (true, 4), (true, 5), (true, 6), (true, 7), (true, 8), (true, 9), (true, 10), (true, 11), (true, 12), (true, 13), (true, 14), (true, 15), (false, 16), (false, 17), (true, 18)] (fun _ => Imp.refl _ _) (fun _ _ _ h k => Imp.trans h k) (by kernel_rfl) (fun _ _ d _ _ h => by cases d <;> exact h) (by kernel_rfl) rfl (by kernel_rfl) (by kernel_rfl) ?_
        simp only [named, List.getD_cons_zero, List.getD_cons_succ]
        repeat (first | (apply wpR_take; (case hw => rfl); (case hv => intro w' hk; go_simp; with_reducible rfl); simp only [Act.put, List.setIfInBounds_toArray, List.set_cons_zero, List.set_cons_succ]) | (refine wpR_pass (by rfl) ?_; simp only [Act.put, List.setIfInBounds_toArray, List.set_cons_zero, List.set_cons_succ]))
        clear z0 z1 z3
        refine wpR_force (by rfl) (fun K hK => ?_)
        go_simp
        refine hK _ _ (fun hh => hh.trans (Kept.alloc _ _ _)) ?_
        clear hK K
        refine wpR_force (by rfl) (fun K hK => ?_)
        refine wp_append_run _ _ _ rfl _ _ _ rfl rfl HR8.out ?_
        refine hK _ _ (fun _ => HN8.out.kept) ?_
        clear hK K
        repeat (first | (apply wpR_take; (case hw => rfl); (case hv => intro w' hk; go_simp; with_reducible rfl); simp only [Act.put, List.setIfInBounds_toArray, List.set_cons_zero, List.set_cons_succ]) | (refine wpR_pass (by rfl) ?_; simp only [Act.put, List.setIfInBounds_toArray, List.set_cons_zero, List.set_cons_succ]))
        refine wpR_nil ?_
        clear HR8
        go_wp2_with fail
        go_roundw
        case rel => exact ⟨j + 1, by omega, by go_num, HN8⟩
        case measure => simp [intOf]; omega
      · have HF : Hid (c.E.take j = c.E) := List.take_of_length_le (by rw [HM.out]; omega)
        go_wp2_with fail
        go_ret
        have := HI.out
        rw [HF.out, ← HG.out] at this
        exact ⟨_, rfl, OwnB.mono this.own HA.out.size, HA.out.trans this.kept⟩
end Go.Proofs.YtfofhnbijjocfaaGreatDoor

/-
  Layer 7: the program's encode.
  Conditions: those that each theorem states.
  Layer 7: the program's Encode, Check and Find.
  Conditions: those that each theorem states.
-/
import Derived.Test.YtfofhnbijjocfaaGreatDoorKRow
import Derived.Test.YtfofhnbijjocfaaGreatDoorKParts
namespace Go.Proofs.YtfofhnbijjocfaaGreatDoor
open Go.RowKit Go.Maps
set_option maxRecDepth 100000

theorem kown_blk (v : Value) (g : Nat) (h : g ∉ v.ownBlock.toList) : ∃ q, q ≠ g ∧ ∀ x ∈ v.ownBlock.toList, x = q := by
  cases hv : v.ownBlock with
  | none => exact ⟨g + 1, by omega, fun x hx => by simp at hx⟩
  | some q => exact ⟨q, fun e => h (by rw [hv, e]; simp), fun x hx => by simp at hx; exact hx⟩
theorem wrap_loB (n : Nat) : IntKind.u8.wrap (n : Int) = ((loB n).toNat : Int) := by rw [IntKind.wrap_u8, loB_val]
theorem resB_snoc (R : List Res) (k : Nat) (hk : k < R.length) : (R.take (k + 1)).flatMap resB = (R.take k).flatMap resB ++ resB R[k] := by
  rw [List.take_succ_eq_append_getElem hk, List.flatMap_append, List.flatMap_cons, List.flatMap_nil, List.append_nil]
theorem edB_snoc (E : List Edg) (k : Nat) (hk : k < E.length) : (E.take (k + 1)).flatMap edB = (E.take k).flatMap edB ++ edB E[k] := by
  rw [List.take_succ_eq_append_getElem hk, List.flatMap_append, List.flatMap_cons, List.flatMap_nil, List.append_nil]

set_option maxRecDepth 100000 in
set_option maxHeartbeats 8000000 in
theorem encode_any (c : Cat) (v : Value) (w : World) (h : CatIs w v c) (hp : partsO c = 0) (ht : TysIs w) :
    Calls Tryz.prog 15 #[v] w fun e w' => ∃ v', e = .returned v' ∧ Hid (OwnB w.heap.size w' v' (catB c) ∧ Kept [] w w') := by
  obtain ⟨⟨hv0, hv1, hkey⟩, hr32, he96, hres, _, hedg⟩ := partsO_ok hp
  have HOK := Lib.hid (resL_oks hres)
  have HEOK := Lib.hid (edgB_ok hedg)
  have hnode : c.node.length ≤ 32 := by
    unfold keyB at hkey
    rw [Bool.and_eq_true] at hkey
    have := wordB_len hkey.2
    omega
  obtain ⟨nv, hnv⟩ : ∃ nv : Nat, c.ver = (nv : Int) := ⟨c.ver.toNat, by omega⟩
  obtain ⟨ra, rc, ea, ec, rfl, hb⟩ := h.box
  obtain ⟨n, hn⟩ : ∃ n, c.R.length = n := ⟨_, rfl⟩
  obtain ⟨m, hm⟩ : ∃ m, c.E.length = m := ⟨_, rfl⟩
  have hA := Kept.alloc [] w (.cells #[.int .i64 c.ver, .string (strL c.node), .slice ra c.R.length rc, .slice ea c.E.length ec] 25)
  obtain ⟨w1, hw1⟩ : ∃ w1, w.alloc (.cells #[.int .i64 c.ver, .string (strL c.node), .slice ra c.R.length rc, .slice ea c.E.length ec] 25) = w1 := ⟨_, rfl⟩
  rw [hw1] at hb hA
  have HB := Lib.hid hb
  have HA := Lib.hid hA
  have HTY : Hid (TysIs w1) := ht.kept hA
  have HRS : Hid (RsIs w1 (.slice ra n rc) c.R) := by show RsIs _ _ _; rw [← hn]; exact hb.rs
  have HES : Hid (EsIs w1 (.slice ea m ec) c.E) := by show EsIs _ _ _; rw [← hm]; exact hb.es
  have HC : Hid (∀ w', Kept [] w1 w' → w'.cell? ⟨w.heap.size, 0, none⟩ = some (.int .i64 (nv : Int)) ∧ w'.cell? ⟨w.heap.size, 1, none⟩ = some (.string (strL c.node)) ∧ w'.cell? ⟨w.heap.size, 2, none⟩ = some (.slice ra n rc) ∧ w'.cell? ⟨w.heap.size, 3, none⟩ = some (.slice ea m ec)) := fun w' hk => by
    rw [← hn, ← hm, ← hnv]
    exact ⟨(HB.out.kept hk).c0, (HB.out.kept hk).c1, (HB.out.kept hk).c2, (HB.out.kept hk).c3⟩
  have HN := Lib.hid hn
  have HM := Lib.hid hm
  have HV := Lib.hid hnv
  rw [hnv] at hv0 hv1
  rw [hn] at hr32
  rw [hm] at he96
  rw [hnv, hn, hm] at hw1 ⊢
  have HNL := Lib.hid hnode
  obtain ⟨c0, c1, c2, c3⟩ := HC.out w1 (Kept.refl _ _)
  have HP1 : Hid (PtSt w1 [] (.slice none 0 0) w1) := PtSt.nil w1
  clear h hp ht hres hedg hkey hnode hb hA hn hm hnv
  go_enter Tryz.func15, Tryz.ntmps15
  go_wp2_with fail
  refine (putNumber_any w1 [] _ nv w1 HP1.out (by simp) (by omega)).mono ?_
  rintro e w2 ⟨v2, rfl, H2⟩
  rw [List.nil_append] at H2
  have HP2 : Hid (PtSt w1 (two nv) v2 w2) := H2.out.1
  clear H2 hw1 c0 c1 c2 c3
  obtain ⟨c0, c1, c2, c3⟩ := HC.out w2 HP2.out.kept
  go_wp2_with fail
  refine (putText_any w1 _ v2 c.node w2 HP2.out (by simp [two]) (by have := HNL.out; omega)).mono ?_
  rintro e w3 ⟨v3, rfl, H3⟩
  have HP3 : Hid (PtSt w1 (two nv ++ txt c.node) v3 w3) := H3.out.1
  clear H3 c0 c1 c2 c3
  obtain ⟨c0, c1, c2, c3⟩ := HC.out w3 HP3.out.kept
  obtain ⟨v4, w4, hrun4, hp4, hap4⟩ := HP3.out.appN [loB n] (by have := HNL.out; rw [List.length_append, txt_length]; simp [two]; omega)
  have HR4 := Lib.hid hrun4
  have HP4 : Hid (PtSt w1 (two nv ++ txt c.node ++ [loB n]) v4 w4) := hp4
  have e1 : bvA [loB n] = #[.int .u8 ((n : Int) % 256)] := by rw [loB_val]; rfl
  rw [e1] at HR4
  have e2 : (n : Int) % 256 = (n : Int) := by omega
  rw [e2] at HR4
  clear hrun4 hp4 hap4 e1 e2
  obtain ⟨d0, d1, d2, d3⟩ := HC.out w4 HP4.out.kept
  obtain ⟨H, hH⟩ : ∃ H, two nv ++ txt c.node ++ [loB n] = H := ⟨_, rfl⟩
  have HHL : Hid (H.length ≤ 100) := by show _ ≤ _; rw [← hH]; have := HNL.out; rw [List.length_append, List.length_append, txt_length]; simp [two]; omega
  have HH : Hid (catB c = H ++ c.R.flatMap resB ++ [loB m] ++ c.E.flatMap edB) := by show _ = _; rw [← hH]; unfold catB; rw [HN.out, HM.out, HV.out]; simp
  rw [hH] at HP4
  clear hH
  go_wp2_with (at_builtin; refine wpList_append_run rfl _ _ 28 rfl _ _ _ rfl rfl HR4.out ?_)
  clear HR4
  go_loopw [3, 25] (fun v' i wr => ∃ k : Nat, k ≤ n ∧ i = .int .i64 k ∧ Hid (PtSt w1 (H ++ (c.R.take k).flatMap resB) v' wr)) (fun _ i _ => n - (intOf i).toNat)
  case atStart => exact ⟨0, by omega, rfl, (by have := HP4.out; show PtSt _ _ _ _; simpa using this)⟩
  case round =>
    clear HP2 HP3 HP4 c0 c1 c2 c3 d0 d1 d2 d3
    obtain ⟨k, hk, rfl, HS⟩ := hrel
    have HRL : Hid (((c.R.take k).flatMap resB).length ≤ 1984000) := by
      have h1 := take_len (f := resB) (m := 62000) (l := c.R) (fun r hr => resB_len (HOK.out r hr)) k
      have h2 := HN.out
      show _ ≤ _
      omega
    by_cases hlt : k < n
    · have hkr : k < c.R.length := by rw [HN.out]; exact hlt
      obtain ⟨r, hr⟩ : ∃ r, c.R[k] = r := ⟨_, rfl⟩
      have HRK : Hid (ResOk r) := by show ResOk r; rw [← hr]; exact HOK.out _ (List.getElem_mem hkr)
      obtain ⟨b, o, u, rfl, hb, hu, f0, f1, f2⟩ := HRS.out.pick k hkr r hr
      have HU := Lib.hid hu
      have HSN : Hid ((c.R.take (k + 1)).flatMap resB = (c.R.take k).flatMap resB ++ resB r) := by show _ = _; rw [resB_snoc c.R k hkr, hr]
      have g0 := (HS.out.kept.cell (p := ⟨b, o + k * 3, none⟩) hb (by simp)).trans f0
      have g1 := (HS.out.kept.cell (p := ⟨b, o + k * 3 + 1, none⟩) hb (by simp)).trans f1
      have g2 := (HS.out.kept.cell (p := ⟨b, o + k * 3 + 2, none⟩) hb (by simp)).trans f2
      obtain ⟨pa, pc, hus⟩ := hu.slice
      obtain ⟨pn, hpn⟩ : ∃ m, r.P.length = m := ⟨_, rfl⟩
      rw [hpn] at hus
      subst hus
      obtain ⟨w5, hw5⟩ : ∃ w5, wr.alloc (.cells #[.string (strL r.t), .string (strL r.ti), .slice pa pn pc] 40) = w5 := ⟨_, rfl⟩
      have H5 : Hid (Kept [] wr w5 ∧ w5.heap[wr.heap.size]? = some (.cells #[.string (strL r.t), .string (strL r.ti), .slice pa pn pc] 40)) := ⟨by rw [← hw5]; exact Kept.alloc _ _ _, by rw [← hw5]; exact heap_alloc_last _ _⟩
      have HP5 : Hid (PtSt w1 (H ++ (c.R.take k).flatMap resB) u3 w5) := HS.out.go H5.out.1
      have a0 : w5.cell? ⟨wr.heap.size, 0, none⟩ = some (.string (strL r.t)) := cell_of_row _ _ 0 _ _ _ H5.out.2
      have a1 : w5.cell? ⟨wr.heap.size, 1, none⟩ = some (.string (strL r.ti)) := cell_of_row _ _ 1 _ _ _ H5.out.2
      have a2 : w5.cell? ⟨wr.heap.size, 2, none⟩ = some (.slice pa pn pc) := cell_of_row _ _ 2 _ _ _ H5.out.2
      have HCALL : Hid (Calls Tryz.prog 35 #[u3, .agg #[.string (strL r.t), .string (strL r.ti), .slice pa pn pc]] w5 (Laid7 w1 (H ++ (c.R.take k).flatMap resB ++ resB r) u3 w5)) :=
        putRes_any w1 _ u3 r _ w5 HP5.out (by have := HHL.out; have := HRL.out; rw [List.length_append]; omega) HU.out HRK.out HTY.out
      clear hr hu f0 f1 f2 hpn
      go_wp2_with fail
      refine HCALL.out.mono ?_
      rintro e w6 ⟨v6, rfl, H6⟩
      have HN6 : Hid (PtSt w1 (H ++ (c.R.take (k + 1)).flatMap resB) v6 w6) := by
        show PtSt _ _ _ _
        rw [HSN.out, ← List.append_assoc]
        exact H6.out.1
      clear a0 a1 a2 hw5 g0 g1 g2
      go_wp2_with fail
      go_roundw
      case rel => exact ⟨k + 1, by omega, by go_num, HN6⟩
      case measure => simp [intOf]; omega
    have HTK : Hid (c.R.take k = c.R) := List.take_of_length_le (by rw [HN.out]; omega)
    have HSR : Hid (PtSt w1 (H ++ c.R.flatMap resB) u3 wr) := by
      show PtSt _ _ _ _
      have := HS.out
      rw [HTK.out] at this
      exact this
    rw [HTK.out] at HRL
    obtain ⟨c0, c1, c2, c3⟩ := HC.out wr HSR.out.kept
    obtain ⟨v7, w7, hrun7, hp7, hap7⟩ := HSR.out.appN [loB m] (by have := HHL.out; have := HRL.out; rw [List.length_append]; simp only [List.length_cons, List.length_nil]; omega)
    have HR7 := Lib.hid hrun7
    obtain ⟨G, hG⟩ : ∃ G, H ++ c.R.flatMap resB ++ [loB m] = G := ⟨_, rfl⟩
    have HGL : Hid (G.length ≤ 1990000) := by show _ ≤ _; rw [← hG]; have := HHL.out; have := HRL.out; rw [List.length_append, List.length_append]; simp only [List.length_cons, List.length_nil]; omega
    have HG : Hid (catB c = G ++ c.E.flatMap edB) := by show _ = _; rw [HH.out, hG]
    have HP7 : Hid (PtSt w1 G v7 w7) := by show PtSt _ _ _ _; rw [← hG]; exact hp7
    have e1 : bvA [loB m] = #[.int .u8 ((m : Int) % 256)] := by rw [loB_val]; rfl
    rw [e1] at HR7
    have e2 : (m : Int) % 256 = (m : Int) := by omega
    rw [e2] at HR7
    clear hrun7 hp7 hap7 e1 e2 hG
    obtain ⟨d0, d1, d2, d3⟩ := HC.out w7 HP7.out.kept
    go_wp2_with (at_builtin; refine wpList_append_run rfl _ _ 28 rfl _ _ _ rfl rfl HR7.out ?_)
    clear HR7
    go_loopw [3, 43] (fun v' i wr => ∃ k : Nat, k ≤ m ∧ i = .int .i64 k ∧ Hid (PtSt w1 (G ++ (c.E.take k).flatMap edB) v' wr)) (fun _ i _ => m - (intOf i).toNat)
    case atStart => exact ⟨0, by omega, rfl, (by have := HP7.out; show PtSt _ _ _ _; simpa using this)⟩
    case round =>
      clear HSR HP7 c0 c1 c2 c3 d0 d1 d2 d3 HS
      obtain ⟨j, hj, rfl, HI⟩ := hrel
      have HEL : Hid (((c.E.take j).flatMap edB).length ≤ 288) := by
        have h1 := take_len (f := edB) (m := 3) (l := c.E) (fun x _ => by simp [edB]) j
        have h2 := HM.out
        show _ ≤ _
        omega
      by_cases hjm : j < m
      · have hje : j < c.E.length := by rw [HM.out]; exact hjm
        obtain ⟨x, hx⟩ : ∃ x, c.E[j] = x := ⟨_, rfl⟩
        have hxo : 0 ≤ x.fr ∧ x.fr < c.R.length ∧ 0 ≤ x.tw ∧ x.tw < c.R.length := by rw [← hx]; exact HEOK.out _ (List.getElem_mem hje)
        rw [HN.out] at hxo
        obtain ⟨xf, hxf⟩ : ∃ a : Nat, x.fr = (a : Int) := ⟨x.fr.toNat, by omega⟩
        obtain ⟨xt, hxt⟩ : ∃ a : Nat, x.tw = (a : Int) := ⟨x.tw.toNat, by omega⟩
        obtain ⟨xn, hxn⟩ : ∃ a, x.nt = a := ⟨_, rfl⟩
        have hf256 : xf < 256 := by omega
        have ht256 : xt < 256 := by omega
        obtain ⟨b, o, rfl, hb, f0, f1, f2⟩ := HES.out.pick j hje x hx
        rw [hxf] at f0
        rw [hxt] at f1
        rw [hxn] at f2
        have HSN : Hid ((c.E.take (j + 1)).flatMap edB = (c.E.take j).flatMap edB ++ [loB xf, loB xt, ntB xn]) := by
          show _ = _
          rw [edB_snoc c.E j hje, hx]
          unfold edB
          rw [hxf, hxt, hxn, Int.toNat_natCast, Int.toNat_natCast]
        have g0 := (HI.out.kept.cell (p := ⟨b, o + j * 3, none⟩) hb (by simp)).trans f0
        have g1 := (HI.out.kept.cell (p := ⟨b, o + j * 3 + 1, none⟩) hb (by simp)).trans f1
        have g2 := (HI.out.kept.cell (p := ⟨b, o + j * 3 + 2, none⟩) hb (by simp)).trans f2
        obtain ⟨w5, hw5⟩ : ∃ w5, wr.alloc (.cells #[.int .i64 (xf : Int), .int .i64 (xt : Int), .bool xn] 44) = w5 := ⟨_, rfl⟩
        have H5 : Hid (Kept [] wr w5 ∧ w5.heap[wr.heap.size]? = some (.cells #[.int .i64 (xf : Int), .int .i64 (xt : Int), .bool xn] 44)) := ⟨by rw [← hw5]; exact Kept.alloc _ _ _, by rw [← hw5]; exact heap_alloc_last _ _⟩
        have hsz5 : w5.heap.size = wr.heap.size + 1 := by rw [← hw5, size_alloc]
        have HP5 : Hid (PtSt w1 (G ++ (c.E.take j).flatMap edB) u3 w5.drew) := HI.out.go (H5.out.1.trans (Kept.drew _ _))
        obtain ⟨q, hq, hqb⟩ := kown_blk u3 wr.heap.size HI.out.off
        obtain ⟨s, hs⟩ : ∃ s, w5.heap.size = s := ⟨_, rfl⟩
        have hgs : wr.heap.size ≠ s := by omega
        have HSZ : Hid (w5.drew.heap.size = s) := hs
        have HK5 : Hid (∀ w', Kept [q, s] w5.drew w' → w'.heap[wr.heap.size]? = some (.cells #[.int .i64 (xf : Int), .int .i64 (xt : Int), .bool xn] 44)) := fun w' hk => hk.heap (by simp; omega) (show w5.drew.heap[wr.heap.size]? = _ from H5.out.2)
        have z0 : ∀ w', Kept [q, s] w5.drew w' → w'.cell? ⟨wr.heap.size, 0, none⟩ = some (.int .i64 (xf : Int)) := fun w' hk => cell_of_row _ _ 0 _ _ _ (HK5.out w' hk)
        have z1 : ∀ w', Kept [q, s] w5.drew w' → w'.cell? ⟨wr.heap.size, 1, none⟩ = some (.int .i64 (xt : Int)) := fun w' hk => cell_of_row _ _ 1 _ _ _ (HK5.out w' hk)
        have z2 : ∀ w', Kept [q, s] w5.drew w' → w'.cell? ⟨wr.heap.size, 2, none⟩ = some (.bool xn) := fun w' hk => cell_of_row _ _ 2 _ _ _ (HK5.out w' hk)
        obtain ⟨v8, w8, hrun8, hp8, hap8⟩ := HP5.out.appN [loB xf, loB xt, ntB xn] (by have := HGL.out; have := HEL.out; rw [List.length_append]; simp only [List.length_cons, List.length_nil]; omega)
        have e1 : bvA [loB xf, loB xt, ntB xn] = #[.int .u8 (IntKind.u8.wrap (xf : Int)), .int .u8 (IntKind.u8.wrap (xt : Int)), .int .u8 ((ntB xn).toNat : Int)] := by
          rw [wrap_loB, wrap_loB]; rfl
        rw [e1, show [loB xf, loB xt, ntB xn].length = 3 from rfl] at hrun8
        have HR8 := Lib.hid hrun8
        have HB8 : Hid (Kept [q, s] (w5.drew.alloc (.cells #[.int .u8 (IntKind.u8.wrap (xf : Int)), .int .u8 (IntKind.u8.wrap (xt : Int)), .int .u8 ((ntB xn).toNat : Int)] 5)) w8) := by
          obtain ⟨v8', w8', h1, h2, h3, h4⟩ := kapp_new w1.heap.size w5.drew u3 _ [loB xf, loB xt, ntB xn] HP5.out.own HP5.out.kept.size (by have := HGL.out; have := HEL.out; rw [List.length_append]; simp only [List.length_cons, List.length_nil]; omega)
          rw [e1, show [loB xf, loB xt, ntB xn].length = 3 from rfl] at h1
          rw [e1] at h4
          rw [h1] at hrun8
          injection hrun8 with e2 e3
          rw [← e3]
          exact h4.mono fun y hy => by simp [hqb y hy]
        have HN8 : Hid (PtSt w1 (G ++ (c.E.take (j + 1)).flatMap edB) v8 w8) := by
          show PtSt _ _ _ _
          rw [HSN.out, ← List.append_assoc]
          exact hp8
        clear hx hxo hxf hxt hxn f0 f1 f2 hrun8 hp8 hap8 e1 hqb hs hsz5
        go_wp2_with fail
        clear hw5 g0 g1 g2
        refine wp_region_ord [(true, 0), (true, 1), (true, 2), (true, 3), (true, 4), (true, 5), (true, 6), (true, 7), (true, 8), (false, 9), (false, 10), (false, 11), (true, 12)] [q, s] (by kernel_rfl) (fun _ _ d _ _ h => by cases d <;> exact h) (by kernel_rfl) rfl (by kernel_rfl) (by kernel_rfl) ?_
        simp only [named, List.getD_cons_zero, List.getD_cons_succ]
        repeat (first | (apply wpGrow_take; (case hw => rfl); (case hv => intro w' hk; go_simp; with_reducible rfl); simp only [Act.put, List.setIfInBounds_toArray, List.set_cons_zero, List.set_cons_succ]) | (refine wpGrow_pass (by rfl) ?_; simp only [Act.put, List.setIfInBounds_toArray, List.set_cons_zero, List.set_cons_succ]) | (refine wpGrow_skip (by rfl) ?_; simp only [Act.put, List.setIfInBounds_toArray, List.set_cons_zero, List.set_cons_succ]))
        clear z0 z1 z2
        refine wpGrow_force (by rfl) (fun K hK => ?_)
        go_simp
        refine (cflag_any xn _).mono ?_
        rintro e w9 ⟨rfl, rfl⟩
        refine hK _ _ (Kept.refl _ _) ?_
        clear hK K
        refine wpGrow_force (by rfl) (fun K hK => ?_)
        go_simp
        refine hK _ _ (Kept.alloc _ _ _) ?_
        clear hK K
        refine wpGrow_force (by rfl) (fun K hK => ?_)
        refine wp_append_run _ _ _ rfl _ _ _ rfl rfl HR8.out ?_
        refine hK _ _ HB8.out ?_
        clear hK K
        repeat (first | (apply wpGrow_take; (case hw => rfl); (case hv => intro w' hk; go_simp; with_reducible rfl); simp only [Act.put, List.setIfInBounds_toArray, List.set_cons_zero, List.set_cons_succ]) | (refine wpGrow_pass (by rfl) ?_; simp only [Act.put, List.setIfInBounds_toArray, List.set_cons_zero, List.set_cons_succ]) | (refine wpGrow_skip (by rfl) ?_; simp only [Act.put, List.setIfInBounds_toArray, List.set_cons_zero, List.set_cons_succ]))
        refine wpGrow_nil ?_
        clear HR8 HB8
        go_wp2_with fail
        go_roundw
        case rel => exact ⟨j + 1, by omega, by go_num, HN8⟩
        case measure => simp [intOf]; omega
      · have HF : Hid (c.E.take j = c.E) := List.take_of_length_le (by rw [HM.out]; omega)
        go_wp2_with fail
        go_ret
        have := HI.out
        rw [HF.out, ← HG.out] at this
        exact ⟨_, rfl, OwnB.mono this.own HA.out.size, HA.out.trans this.kept⟩
end Go.Proofs.YtfofhnbijjocfaaGreatDoor

namespace Go.Proofs.YtfofhnbijjocfaaGreatDoor
open Go.RowKit Go.Maps
set_option maxRecDepth 100000

/-- What Encode answers. -/
def EncOut (c : Cat) (w : World) (e : Ending) (w' : World) : Prop := ∃ v, e = .returned (.tuple #[v, .int .i64 (checkO c)]) ∧ Hid (OwnB w.heap.size w' v (encL c) ∧ Kept [] w w')
theorem EncOut.no {c : Cat} {w w' : World} {n : Int} (h : checkO c = n) (h0 : n ≠ 0) (hk : Kept [] w w') : EncOut c w (.returned (.tuple #[.slice none 0 0, .int .i64 n])) w' := by
  subst h
  refine ⟨_, rfl, ?_, hk⟩
  unfold encL
  rw [if_neg h0]
  exact World.ownsRow_nil _ _ _ _
theorem EncOut.yes {c : Cat} {w w' : World} {v : Value} (h : checkO c = 0) (ho : OwnB w.heap.size w' v (catB c)) (hk : Kept [] w w') : EncOut c w (.returned (.tuple #[v, .int .i64 0])) w' := by
  refine ⟨v, by rw [h], ?_, hk⟩
  unfold encL
  rw [if_pos h]
  exact ho

set_option maxRecDepth 100000 in
set_option maxHeartbeats 4000000 in
theorem Encode_any (c : Cat) (v : Value) (w : World) (h : CatIs w v c) (ht : TysIs w) : Calls Tryz.prog 7 #[v] w (EncOut c w) := by
  have HH := Lib.hid h
  obtain ⟨ra, rc, ea, ec, rfl, hb⟩ := h.box
  obtain ⟨n, hn⟩ : ∃ n, c.R.length = n := ⟨_, rfl⟩
  obtain ⟨m, hm⟩ : ∃ m, c.E.length = m := ⟨_, rfl⟩
  obtain ⟨vv, hvv⟩ : ∃ vv, c.ver = vv := ⟨_, rfl⟩
  have hA := Kept.alloc [] w (.cells #[.int .i64 c.ver, .string (strL c.node), .slice ra c.R.length rc, .slice ea c.E.length ec] 25)
  obtain ⟨w1, hw1⟩ : ∃ w1, w.alloc (.cells #[.int .i64 c.ver, .string (strL c.node), .slice ra c.R.length rc, .slice ea c.E.length ec] 25) = w1 := ⟨_, rfl⟩
  rw [hw1] at hb hA
  have HB := Lib.hid hb
  have HA := Lib.hid hA
  have HTY : Hid (TysIs w1) := ht.kept hA
  have HC : Hid (∀ w', Kept [] w1 w' → w'.cell? ⟨w.heap.size, 0, none⟩ = some (.int .i64 vv) ∧ w'.cell? ⟨w.heap.size, 1, none⟩ = some (.string (strL c.node)) ∧ w'.cell? ⟨w.heap.size, 2, none⟩ = some (.slice ra n rc) ∧ w'.cell? ⟨w.heap.size, 3, none⟩ = some (.slice ea m ec)) := fun w' hk => by
    rw [← hn, ← hm, ← hvv]
    exact ⟨(HB.out.kept hk).c0, (HB.out.kept hk).c1, (HB.out.kept hk).c2, (HB.out.kept hk).c3⟩
  rw [hn, hm, hvv] at hw1 HH
  rw [hn, hm, hvv]
  obtain ⟨p, hp⟩ : ∃ p, partsO c = p := ⟨_, rfl⟩
  have HPA : Hid (∀ w', Kept [] w w' → Calls Tryz.prog 14 #[.agg #[.int .i64 vv, .string (strL c.node), .slice ra n rc, .slice ea m ec]] w' fun e w2 => e = .returned (.int .i64 p) ∧ Kept [] w' w2) := fun w' hk => by
    rw [← hp]; exact checkParts_any c _ w' (HH.out.kept hk)
  have HEN : Hid (p = 0 → ∀ w', Kept [] w w' → TysIs w' → Calls Tryz.prog 15 #[.agg #[.int .i64 vv, .string (strL c.node), .slice ra n rc, .slice ea m ec]] w' fun e w2 => ∃ v', e = .returned v' ∧ Hid (OwnB w'.heap.size w2 v' (catB c) ∧ Kept [] w' w2)) := fun h0 w' hk ht => encode_any c _ w' (HH.out.kept hk) (hp.trans h0) ht
  have HP := Lib.hid hp
  obtain ⟨c0, c1, c2, c3⟩ := HC.out w1 (Kept.refl _ _)
  clear h ht hb hA hn hm hvv hp
  by_cases h0 : p = 0
  case neg =>
    have q0 : (p != 0) = true := by simpa using h0
    have HZ : Hid (checkO c = p) := by show _ = _; unfold checkO; rw [HP.out, if_pos h0]
    have HN0 := Lib.hid h0
    clear h0
    go_enter Tryz.func7, Tryz.ntmps7
    go_wp2_with fail
    refine (HPA.out _ HA.out).mono ?_
    rintro e w2 ⟨rfl, hk2⟩
    have HK2 : Hid (Kept [] w w2) := HA.out.trans hk2
    clear hk2 hw1 c0 c1 c2 c3
    go_wp2_with fail
    go_ret2
    exact EncOut.no HZ.out HN0.out HK2.out
  subst h0
  have HE2 := Lib.hid (HEN.out rfl)
  clear HEN
  go_enter Tryz.func7, Tryz.ntmps7
  go_wp2_with fail
  refine (HPA.out _ HA.out).mono ?_
  rintro e w2 ⟨rfl, hk2⟩
  have HK2 : Hid (Kept [] w1 w2) := hk2
  clear hk2 hw1 c0 c1 c2 c3
  obtain ⟨c0, c1, c2, c3⟩ := HC.out w2 HK2.out
  go_wp2_with fail
  refine (HE2.out _ (HA.out.trans HK2.out) (HTY.out.kept HK2.out)).mono ?_
  rintro e w3 ⟨v3, rfl, H3⟩
  have HO3 : Hid (OwnB w.heap.size w3 v3 (catB c) ∧ Kept [] w w3) := ⟨OwnB.mono H3.out.1 (HA.out.trans HK2.out).size, (HA.out.trans HK2.out).trans H3.out.2⟩
  have hcl := catB_len HP.out
  obtain ⟨ao, cap, rfl, _⟩ := H3.out.1.val
  obtain ⟨L, hL⟩ : ∃ L, (catB c).length = L := ⟨_, rfl⟩
  have HLL := Lib.hid hL
  rw [hL] at HO3 hcl
  rw [hL]
  clear H3 c0 c1 c2 c3 hL
  by_cases hlt : (2432 : Int) < (L : Int)
  · have HZ : Hid (checkO c = 5) := by show _ = _; unfold checkO; rw [HP.out, if_neg (by simp), if_pos (by rw [HLL.out]; omega)]
    go_wp2_with fail
    go_ret2
    exact EncOut.no HZ.out (by decide) HO3.out.2
  · have HZ : Hid (checkO c = 0) := by show _ = _; unfold checkO; rw [HP.out, if_neg (by simp), if_neg (by rw [HLL.out]; omega)]
    go_wp2_with fail
    go_ret2
    exact EncOut.yes HZ.out HO3.out.1 HO3.out.2

set_option maxHeartbeats 2000000 in
theorem Check_any (c : Cat) (v : Value) (w : World) (h : CatIs w v c) (ht : TysIs w) : Calls Tryz.prog 10 #[v] w fun e w' => e = .returned (.int .i64 (checkO c)) ∧ Kept [] w w' := by
  have HH := Lib.hid h
  obtain ⟨ra, rc, ea, ec, rfl, hb⟩ := h.box
  have hA := Kept.alloc [] w (.cells #[.int .i64 c.ver, .string (strL c.node), .slice ra c.R.length rc, .slice ea c.E.length ec] 25)
  obtain ⟨w1, hw1⟩ : ∃ w1, w.alloc (.cells #[.int .i64 c.ver, .string (strL c.node), .slice ra c.R.length rc, .slice ea c.E.length ec] 25) = w1 := ⟨_, rfl⟩
  rw [hw1] at hb hA
  have HA := Lib.hid hA
  have HEN : Hid (Calls Tryz.prog 7 #[.agg #[.int .i64 c.ver, .string (strL c.node), .slice ra c.R.length rc, .slice ea c.E.length ec]] w1 (EncOut c w1)) := Encode_any c _ w1 (HH.out.kept hA) (ht.kept hA)
  have c0 := hb.c0
  have c1 := hb.c1
  have c2 := hb.c2
  have c3 := hb.c3
  clear h ht hb hA
  go_enter Tryz.func10, Tryz.ntmps10
  go_wp2_with fail
  refine HEN.out.mono ?_
  rintro e w2 ⟨v2, rfl, H2⟩
  clear hw1 c0 c1 c2 c3
  go_wp2_with fail
  go_ret
  exact ⟨rfl, HA.out.trans H2.out.2⟩

end Go.Proofs.YtfofhnbijjocfaaGreatDoor

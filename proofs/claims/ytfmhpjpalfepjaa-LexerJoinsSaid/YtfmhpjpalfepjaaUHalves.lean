/-
  Layer 11: the walk of LexerHalves.
  Conditions: those that each theorem states.
-/
import Derived.Test.YtfmhpjpalfepjaaUBetween
namespace Go.Proofs.Ytfmhpjpalfepjaa
open Go.RowKit Go.Maps

theorem lex_at (l : List UInt8) (n : Nat) : ∀ w ∈ (lexL l n).1, w.at' ≤ n + l.length := by
  by_cases h : l = []
  · subst h; simp [lexL_nil]
  by_cases h0 : (pcO l).sz = 0
  · simp [lexL_err h h0]
  · have hl : l.length ≠ 0 := by simpa using h
    have hle := pc_le l h
    have ih := lex_at (l.drop (pcO l).sz) (n + (pcO l).sz)
    simp only [List.length_drop] at ih
    by_cases hk : (pcO l).kd = 0
    · rw [lexL_skip h (by omega) hk]
      intro w hw
      have := ih w hw
      omega
    · rw [lexL_word h (by omega) hk]
      intro w hw
      rcases List.mem_cons.1 hw with rfl | hw
      · simp
      · have := ih w hw
        omega
termination_by l.length
decreasing_by simp; omega
theorem lx_split (L : List UInt8) : lxE L = 0 ∨ (lxE L ≠ 0 ∧ lxW L = []) := by
  by_cases h : lxE L = 0
  · exact .inl h
  · exact .inr ⟨h, lx_not h⟩
set_option maxRecDepth 100000 in
set_option maxHeartbeats 8000000 in
theorem halves_walk (S T : ByteArray) (w : World) (hs : S.size ≤ 4611686018427387903) (ht : T.size ≤ 4611686018427387903) : Calls Try.prog 7 #[.string S, .string T] w fun e w' => e = .returned (.bool true) ∧ Kept [] w w' := by
  obtain ⟨ea, ha⟩ : ∃ a, lxA (bl S) = a := ⟨_, rfl⟩
  obtain ⟨ee, he⟩ : ∃ a, lxE (bl S) = a := ⟨_, rfl⟩
  obtain ⟨L, hL⟩ : ∃ a, lxW (bl S) = a := ⟨_, rfl⟩
  have HL := Lib.hid (show lxA (bl S) = ea ∧ lxE (bl S) = ee ∧ lxW (bl S) = L from ⟨ha, he, hL⟩)
  obtain ⟨fa, ha2⟩ : ∃ a, lxA (bl T) = a := ⟨_, rfl⟩
  obtain ⟨fe, he2⟩ : ∃ a, lxE (bl T) = a := ⟨_, rfl⟩
  obtain ⟨M, hM⟩ : ∃ a, lxW (bl T) = a := ⟨_, rfl⟩
  have HM := Lib.hid (show lxA (bl T) = fa ∧ lxE (bl T) = fe ∧ lxW (bl T) = M from ⟨ha2, he2, hM⟩)
  clear ha he hL ha2 he2 hM
  go_enter Try.func7, Try.ntmps7
  go_wp2_with fail
  refine (shown11_any w).mono ?_
  rintro e w1 ⟨rfl, hk1⟩
  have HK1 := Lib.hid hk1
  clear hk1
  go_wp2_with fail
  refine (lex_any S _ (by omega)).mono ?_
  intro e w2 h2
  obtain ⟨va, rfl, how2, hk2⟩ := h2.at HL.out
  have H2 : Hid (WsIs w2 va L ∧ Kept [] w w2) := ⟨how2.es, HK1.out.trans hk2⟩
  clear h2 how2 hk2
  go_wp2_with fail
  refine (lex_any T _ (by omega)).mono ?_
  intro e w3 h3
  obtain ⟨vb, rfl, how3, hk3⟩ := h3.at HM.out
  have H3 : Hid (WsIs w3 va L ∧ WsIs w3 vb M ∧ Kept [] w w3) := ⟨H2.out.1.kept hk3, how3.es, H2.out.2.trans hk3⟩
  clear h3 how3 hk3
  obtain ⟨sm, hsm⟩ : ∃ n : Int, (S.size : Int) + (T.size : Int) = n := ⟨_, rfl⟩
  have e1 : IntKind.i64.wrap ((S.size : Int) + (T.size : Int)) = sm := by rw [IntKind.wrap_i64]; omega
  have HSM := Lib.hid hsm
  have hs2 : S.size ≤ 4611686018427387903 := hs
  clear hs ht
  by_cases hok : ee = 0
  case neg =>
    have hoki : ¬ (ee : Int) = 0 := by omega
    go_wp2_with fail
    go_ret
    exact ⟨rfl, H3.out.2.2⟩
  case pos =>
  by_cases hok2 : fe = 0
  case neg =>
    have hoki : ¬ (fe : Int) = 0 := by omega
    subst hok
    go_wp2_with fail
    go_ret
    exact ⟨rfl, H3.out.2.2⟩
  case pos =>
  subst hok hok2
  clear hsm
  by_cases hsz : (65536 : Int) ≤ sm
  · go_wp2_with fail
    go_ret
    exact ⟨rfl, H3.out.2.2⟩
  have HJ : Hid (lexL (bl (S ++ ⟨#[10]⟩ ++ T)) 0 = (L ++ M.map (shW (S.size + 1)), none) ∧ (S ++ ⟨#[10]⟩ ++ T).size = S.size + T.size + 1) := by
    have h1 := lx_yes HL.out.2.1
    have h2 := lx_yes HM.out.2.1
    rw [HL.out.2.2] at h1
    rw [HM.out.2.2] at h2
    have h3 := lex_halves (bl S) (bl T) (by rw [h1.2.2]) (by rw [h2.2.2])
    rw [h1.2.2, h2.2.2, bl_len] at h3
    have hb : bl (S ++ ⟨#[10]⟩ ++ T) = bl S ++ 10 :: bl T := by simp [bl]
    refine ⟨by rw [hb]; exact h3, ?_⟩
    rw [← bl_len, hb]
    simp
    omega
  obtain ⟨J, hJ⟩ : ∃ J, S ++ ⟨#[10]⟩ ++ T = J := ⟨_, rfl⟩
  rw [hJ] at HJ
  obtain ⟨n1, hn1⟩ : ∃ n, L.length = n := ⟨_, rfl⟩
  obtain ⟨n2, hn2⟩ : ∃ n, M.length = n := ⟨_, rfl⟩
  have HN := Lib.hid (show L.length = n1 ∧ M.length = n2 from ⟨hn1, hn2⟩)
  obtain ⟨ao, ac, hva, hac, hac2, _, _⟩ := H3.out.1.open
  obtain ⟨bo, bc, hvb, hbc, hbc2, _, _⟩ := H3.out.2.1.open
  have hl1 := H3.out.1.len
  have hl2 := H3.out.2.1.len
  rw [hn1] at hva hac hl1
  rw [hn2] at hvb hbc hl2
  subst hva hvb
  have HSZ := Lib.hid hsz
  have hsz2 : sm < 65536 := by omega
  have hsS : S.size ≤ 1000000 := by have := HSM.out; omega
  have hsT : T.size ≤ 1000000 := by have := HSM.out; omega
  clear hn1 hn2 hl1 hl2 hsz hs2
  go_wp2_with fail
  refine (lex_any J _ (by have := HJ.out.2; have := HSM.out; omega)).mono ?_
  intro e w4 h4
  obtain ⟨vc, rfl, how4, hk4⟩ := h4.at (lx_ok HJ.out.1 (by have := HJ.out.2; have := HSM.out; rw [bl_len]; omega))
  have H4 : Hid (WsIs w4 vc (L ++ M.map (shW (S.size + 1))) ∧ Kept [] w3 w4) := ⟨how4.es, hk4⟩
  obtain ⟨co, cc, hvc, hcc, hcc2, _, _⟩ := how4.es.open
  have hll : (L ++ M.map (shW (S.size + 1))).length = n1 + n2 := by simp [HN.out.1, HN.out.2]
  have HLL := Lib.hid hll
  rw [hll] at hvc hcc
  subst hvc
  clear h4 how4 hk4 hJ hll
  go_wp2_with fail
  go_loopw [15] (fun si wr => ∃ i : Nat, si = .int .i64 i ∧ i ≤ n1 + n2 ∧ Hid (Kept [] w4 wr)) (fun si _ => n1 + n2 - (intOf si).toNat)
  case atStart => exact ⟨0, rfl, by omega, Kept.refl _ _⟩
  case round =>
    obtain ⟨i, rfl, hi, HK⟩ := hrel
    by_cases hlt : i < n1 + n2
    · have hil : i < (L ++ M.map (shW (S.size + 1))).length := by rw [HLL.out]; exact hlt
      obtain ⟨b, o, cap, hvv, _, _, hcell⟩ := H4.out.1.at (by omega)
      injection hvv with hvo hvn hvc3
      clear hvn
      subst hvo hvc3
      have HC := Lib.hid hcell
      clear hcell
      by_cases h1 : i < n1
      · have hi1 : i < L.length := by rw [HN.out.1]; exact h1
        obtain ⟨b1, o1, cap1, hvv1, _, _, hcell1⟩ := H3.out.1.at (by omega)
        injection hvv1 with hvo1 hvn1 hvc1
        clear hvn1
        subst hvo1 hvc1
        have hgl : (L ++ M.map (shW (S.size + 1)))[i] = L[i] := List.getElem_append_left hi1
        obtain ⟨xk, hxk⟩ : ∃ n : Int, (L[i].kd : Int) = n := ⟨_, rfl⟩
        obtain ⟨xt, hxt⟩ : ∃ n, strL L[i].tx = n := ⟨_, rfl⟩
        obtain ⟨xa, hxa⟩ : ∃ n : Int, (L[i].at' : Int) = n := ⟨_, rfl⟩
        have HX : Hid (∀ w', Kept [] w4 w' → (w'.cell? ⟨b1, o1 + i * 3, none⟩ = some (.int .i64 xk) ∧ w'.cell? ⟨b1, o1 + i * 3 + 1, none⟩ = some (.string xt) ∧ w'.cell? ⟨b1, o1 + i * 3 + 2, none⟩ = some (.int .i64 xa)) ∧
            (w'.cell? ⟨b, o + i * 3, none⟩ = some (.int .i64 xk) ∧ w'.cell? ⟨b, o + i * 3 + 1, none⟩ = some (.string xt) ∧ w'.cell? ⟨b, o + i * 3 + 2, none⟩ = some (.int .i64 xa))) := fun w' hk => by
          have a1 := hcell1 w' (H4.out.2.trans hk) i hi1
          have a2 := HC.out w' hk i hil
          rw [hgl] at a2
          rw [hxk, hxt, hxa] at a1 a2
          exact ⟨a1, a2⟩
        clear hgl hcell1 hxk hxt hxa
        go_upto_region 13 with (fail)
        obtain ⟨W0, hW0⟩ : ∃ W, wr.alloc (.cells #[.int .i64 0, .string ⟨#[]⟩, .int .i64 0] 31) = W := ⟨_, rfl⟩
        have HR0 : Hid (W0.heap[wr.heap.size]? = some (.cells #[.int .i64 0, .string ⟨#[]⟩, .int .i64 0] 31) ∧ Kept [] wr W0) := by
          rw [← hW0]
          exact ⟨heap_alloc_last _ _, Kept.alloc _ _ _⟩
        rw [hW0]
        clear hW0
        obtain ⟨c0, c1, c2, f0, f1, f2⟩ := three_cells HR0.out.1
        obtain ⟨⟨x0, x1, x2⟩, _⟩ := HX.out W0 (HK.out.trans HR0.out.2)
        obtain ⟨W, hW⟩ : ∃ W, ((W0.setCell ⟨wr.heap.size, 0, none⟩ (.int .i64 xk)).setCell ⟨wr.heap.size, 1, none⟩ (.string xt)).setCell ⟨wr.heap.size, 2, none⟩ (.int .i64 xa) = W := ⟨_, rfl⟩
        have HRW : Hid (W.heap[wr.heap.size]? = some (.cells #[.int .i64 xk, .string xt, .int .i64 xa] 31) ∧ Kept [] wr W) := by
          rw [← hW]
          exact ⟨heap_setCell_same _ _ 2 _ _ _ (heap_setCell_same _ _ 1 _ _ _ (heap_setCell_same _ _ 0 _ _ _ HR0.out.1)), ((HR0.out.2.setNew _ _ (Nat.le_refl _)).setNew _ _ (Nat.le_refl _)).setNew _ _ (Nat.le_refl _)⟩
        obtain ⟨p0, p1, p2, _, _, _⟩ := three_cells HRW.out.1
        obtain ⟨_, y0, y1, y2⟩ := HX.out W (HK.out.trans HRW.out.2)
        go_wp2_with fail
        go_quiet (fail)
        go_wp2_with fail
        go_roundw
        case rel => exact ⟨i + 1, by go_num, by omega, HK.out.trans (HRW.out.2.trans (Kept.drewN _ _ _))⟩
        case measure => simp [intOf]; omega
      · obtain ⟨j, hj⟩ : ∃ j, i - n1 = j := ⟨_, rfl⟩
        have hi1 : j < M.length := by rw [HN.out.2]; omega
        have hjn : j < n2 := by omega
        have hsub : IntKind.i64.wrap ((i : Int) - (n1 : Int)) = (j : Int) := by rw [IntKind.wrap_i64]; omega
        obtain ⟨b1, o1, cap1, hvv1, _, _, hcell1⟩ := H3.out.2.1.at (by omega)
        injection hvv1 with hvo1 hvn1 hvc1
        clear hvn1
        subst hvo1 hvc1
        have hgl : (L ++ M.map (shW (S.size + 1)))[i] = shW (S.size + 1) M[j] := by
          rw [List.getElem_append_right (by rw [HN.out.1]; omega), List.getElem_map]
          congr 2
          rw [HN.out.1]
          exact hj
        have hat : M[j].at' ≤ T.size := by
          have h2 := lx_yes HM.out.2.1
          rw [HM.out.2.2] at h2
          have := lex_at (bl T) 0 M[j] (by rw [h2.2.2]; exact List.getElem_mem hi1)
          rw [bl_len] at this
          omega
        obtain ⟨xk, hxk⟩ : ∃ n : Int, (M[j].kd : Int) = n := ⟨_, rfl⟩
        obtain ⟨xt, hxt⟩ : ∃ n, strL M[j].tx = n := ⟨_, rfl⟩
        obtain ⟨xa, hxa⟩ : ∃ n : Int, (M[j].at' : Int) = n := ⟨_, rfl⟩
        obtain ⟨xu, hxu⟩ : ∃ n : Int, xa + (S.size : Int) = n := ⟨_, rfl⟩
        obtain ⟨xz, hxz⟩ : ∃ n : Int, xu + 1 = n := ⟨_, rfl⟩
        have e2 : IntKind.i64.wrap (xa + (S.size : Int)) = xu := by rw [IntKind.wrap_i64]; omega
        have e3 : IntKind.i64.wrap (xu + 1) = xz := by rw [IntKind.wrap_i64]; omega
        have hzz : ((M[j].at' + (S.size + 1) : Nat) : Int) = xz := by omega
        have HX : Hid (∀ w', Kept [] w4 w' → (w'.cell? ⟨b1, o1 + j * 3, none⟩ = some (.int .i64 xk) ∧ w'.cell? ⟨b1, o1 + j * 3 + 1, none⟩ = some (.string xt) ∧ w'.cell? ⟨b1, o1 + j * 3 + 2, none⟩ = some (.int .i64 xa)) ∧
            (w'.cell? ⟨b, o + i * 3, none⟩ = some (.int .i64 xk) ∧ w'.cell? ⟨b, o + i * 3 + 1, none⟩ = some (.string xt) ∧ w'.cell? ⟨b, o + i * 3 + 2, none⟩ = some (.int .i64 xz))) := fun w' hk => by
          have a1 := hcell1 w' (H4.out.2.trans hk) j hi1
          have a2 := HC.out w' hk i hil
          rw [hgl] at a2
          unfold shW at a2
          simp only at a2
          rw [hzz] at a2
          rw [hxk, hxt] at a1 a2
          rw [hxa] at a1
          exact ⟨a1, a2⟩
        have h1i : ¬ (i : Int) < (n1 : Int) := by omega
        have hji : (j : Int) < (n2 : Int) := by omega
        clear hgl hcell1 hxk hxt hxa hxu hxz hzz hat hj
        go_upto_region 13 with (fail)
        obtain ⟨W0, hW0⟩ : ∃ W, wr.alloc (.cells #[.int .i64 0, .string ⟨#[]⟩, .int .i64 0] 31) = W := ⟨_, rfl⟩
        have HR0 : Hid (W0.heap[wr.heap.size]? = some (.cells #[.int .i64 0, .string ⟨#[]⟩, .int .i64 0] 31) ∧ Kept [] wr W0) := by
          rw [← hW0]
          exact ⟨heap_alloc_last _ _, Kept.alloc _ _ _⟩
        rw [hW0]
        clear hW0
        obtain ⟨c0, c1, c2, f0, f1, f2⟩ := three_cells HR0.out.1
        obtain ⟨⟨x0, x1, x2⟩, _⟩ := HX.out W0 (HK.out.trans HR0.out.2)
        obtain ⟨W5, hW5⟩ : ∃ W, ((W0.setCell ⟨wr.heap.size, 0, none⟩ (.int .i64 xk)).setCell ⟨wr.heap.size, 1, none⟩ (.string xt)).setCell ⟨wr.heap.size, 2, none⟩ (.int .i64 xa) = W := ⟨_, rfl⟩
        have HR5 : Hid (W5.heap[wr.heap.size]? = some (.cells #[.int .i64 xk, .string xt, .int .i64 xa] 31) ∧ Kept [] wr W5) := by
          rw [← hW5]
          exact ⟨heap_setCell_same _ _ 2 _ _ _ (heap_setCell_same _ _ 1 _ _ _ (heap_setCell_same _ _ 0 _ _ _ HR0.out.1)), ((HR0.out.2.setNew _ _ (Nat.le_refl _)).setNew _ _ (Nat.le_refl _)).setNew _ _ (Nat.le_refl _)⟩
        obtain ⟨d0, d1, d2, d3, d4, d5⟩ := three_cells HR5.out.1
        obtain ⟨W, hW⟩ : ∃ W, W5.setCell ⟨wr.heap.size, 2, none⟩ (.int .i64 xz) = W := ⟨_, rfl⟩
        have HRW : Hid (W.heap[wr.heap.size]? = some (.cells #[.int .i64 xk, .string xt, .int .i64 xz] 31) ∧ Kept [] wr W) := by
          rw [← hW]
          exact ⟨heap_setCell_same _ _ 2 _ _ _ HR5.out.1, HR5.out.2.setNew _ _ (Nat.le_refl _)⟩
        obtain ⟨p0, p1, p2, _, _, _⟩ := three_cells HRW.out.1
        obtain ⟨_, y0, y1, y2⟩ := HX.out W (HK.out.trans HRW.out.2)
        go_wp2_with fail
        go_quiet (fail)
        go_wp2_with fail
        go_roundw
        case rel => exact ⟨i + 1, by go_num, by omega, HK.out.trans (HRW.out.2.trans (Kept.drewN _ _ _))⟩
        case measure => simp [intOf]; omega
    · go_wp2_with fail
      go_ret
      exact ⟨rfl, (H3.out.2.2.trans H4.out.2).trans HK.out⟩
end Go.Proofs.Ytfmhpjpalfepjaa

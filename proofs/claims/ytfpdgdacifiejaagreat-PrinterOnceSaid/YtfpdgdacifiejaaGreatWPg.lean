/-
  Layer 12: the parser's small calls: word, refuse, took, sign, take, name, atArrow; the library's Contains.
  Conditions: those that each theorem states.
  Layer 13: a page in memory: its nodes, what is laid of its text, its blocks; what a call may change.
  Conditions: those that each theorem states.
-/
import Derived.Test.YtfpdgdacifiejaaGreatVPar
import Derived.Test.YtfpdgdacifiejaaGreatVShelf
import Derived.Test.YtfpdgdacifiejaaGreatULex
import Derived.BigQuiet
import Derived.Test.YtfpdgdacifiejaaGreatTKit
import Derived.Lib.FrozenHead
import Derived.Lib.UnsafeStr
namespace Go.Proofs.YtfpdgdacifiejaaGreat
open Go.RowKit Go.Maps Go.Shelf

/-- What word answers. -/
def wdV (r : List Tok) (a : Int) : Value := .agg #[.int .i64 (hdK r), .string (strL (hdT r)), .int .i64 a]
theorem drop_hd {l r : List Tok} (h : l.drop (l.length - r.length) = r) (hr : 0 < r.length) (hle : r.length ≤ l.length) : ∃ hk : l.length - r.length < l.length, hdK r = l[l.length - r.length].kd ∧ hdT r = l[l.length - r.length].tx := by
  have hk : l.length - r.length < l.length := by omega
  refine ⟨hk, ?_⟩
  obtain ⟨d, hd⟩ : ∃ d, l.length - r.length = d := ⟨_, rfl⟩
  simp only [hd] at h ⊢
  have e := List.drop_eq_getElem_cons (l := l) (i := d) (by omega)
  rw [h] at e
  exact ⟨(congrArg hdK e).trans rfl, (congrArg hdT e).trans rfl⟩
set_option maxRecDepth 100000 in
set_option maxHeartbeats 4000000 in
theorem yword_any (c : PCx) (A : List Nat) (m : Nat) (s : PSt) (w : World) (h : PrSt c A m s w) :
    Calls Tryz.prog 63 #[.pointer (some ⟨c.g, 0, none⟩)] w fun e w' => ∃ a, e = .returned (wdV s.r a) ∧ Kept [] w w' := by
  obtain ⟨nv, c0, c1, c2, fz, hnd, hrow⟩ := h.open
  obtain ⟨⟨ao, cap, hva, hcap, hc63, hat⟩, hlen⟩ := h.tk
  have HRW := Lib.hid hrow
  have HLE := Lib.hid h.le
  have HSF := Lib.hid h.suf
  have HWK := Lib.hid h.kept
  have HGL := Lib.hid h.lt
  have hll : c.l.length ≤ 140737488355328 := by omega
  obtain ⟨n, hn⟩ : ∃ n, c.l.length = n := ⟨_, rfl⟩
  obtain ⟨k, hk⟩ : ∃ k, n - s.r.length = k := ⟨_, rfl⟩
  have HN := Lib.hid hn
  have HK := Lib.hid hk
  rw [hn, hk] at c1
  rw [hn] at hva hll
  rw [hva] at c0
  obtain ⟨g, hg⟩ : ∃ g, c.g = g := ⟨_, rfl⟩
  rw [hg] at c0 c1 HGL ⊢
  have hkn : k ≤ n := by omega
  have HAT := Lib.hid hat
  obtain ⟨w1, hw1⟩ : ∃ w1, w.alloc (.cells #[.int .i64 0, .string ⟨#[]⟩, .int .i64 0] 38) = w1 := ⟨_, rfl⟩
  have HA : Hid (Kept [] w w1 ∧ w1.heap[w.heap.size]? = some (.cells #[.int .i64 0, .string ⟨#[]⟩, .int .i64 0] 38)) := ⟨by rw [← hw1]; exact Kept.alloc _ _ _, by rw [← hw1]; exact heap_alloc_last _ _⟩
  have x0 : w1.cell? ⟨g, 0, none⟩ = some (.slice ao n cap) := (HA.out.1.cell (p := ⟨g, 0, none⟩) HGL.out (by simp)).trans c0
  have x1 : w1.cell? ⟨g, 1, none⟩ = some (.int .i64 k) := (HA.out.1.cell (p := ⟨g, 1, none⟩) HGL.out (by simp)).trans c1
  have z0 : w1.cell? ⟨w.heap.size, 0, none⟩ = some (.int .i64 0) := cell_of_row _ _ 0 _ _ _ HA.out.2
  have z1 : w1.cell? ⟨w.heap.size, 1, none⟩ = some (.string ⟨#[]⟩) := cell_of_row _ _ 1 _ _ _ HA.out.2
  have z2 : w1.cell? ⟨w.heap.size, 2, none⟩ = some (.int .i64 0) := cell_of_row _ _ 2 _ _ _ HA.out.2
  have zf : ∀ q, w1.frozen? ⟨w.heap.size, q, none⟩ = false := fun q => frozen_of_row _ _ q _ _ HA.out.2
  have HFIN : Hid (∀ wq kd tx at', Kept [] w1 wq → Kept [] w (((wq.setCell ⟨w.heap.size, 0, none⟩ kd).setCell ⟨w.heap.size, 1, none⟩ tx).setCell ⟨w.heap.size, 2, none⟩ at') ∧ (((wq.setCell ⟨w.heap.size, 0, none⟩ kd).setCell ⟨w.heap.size, 1, none⟩ tx).setCell ⟨w.heap.size, 2, none⟩ at').heap[w.heap.size]? = some (.cells #[kd, tx, at'] 38)) := fun wq kd tx at' hk => by
    have h1 : Kept [w.heap.size] wq (((wq.setCell ⟨w.heap.size, 0, none⟩ kd).setCell ⟨w.heap.size, 1, none⟩ tx).setCell ⟨w.heap.size, 2, none⟩ at') := ((Kept.setCell _ _ _ _ (by simp)).trans (Kept.setCell _ _ _ _ (by simp))).trans (Kept.setCell _ _ _ _ (by simp))
    exact ⟨(HA.out.1.trans hk).into h1 (by simp), row_setJ (row_setJ (row_setJ (hk.heap (by simp) HA.out.2) 0 kd) 1 tx) 2 at'⟩
  clear h hnd hrow c0 c1 c2 fz hn hk hat hlen hva hg
  by_cases hend : k = n
  · have HR : Hid (s.r = []) := by
      have h1 := HLE.out
      have h2 := HK.out
      have h3 := HN.out
      have : s.r.length = 0 := by omega
      exact List.eq_nil_of_length_eq_zero this
    have q1 : ((k : Int) == (n : Int)) = true := by rw [hend]; simp
    clear hend
    go_enter Tryz.func63, Tryz.ntmps63
    go_wp2_with fail
    go_quiet (fail)
    generalize hwq : World.drewN _ _ = wq
    have HQ : Hid (Kept [] w1 wq) := by show Kept _ _ _; rw [← hwq]; exact Kept.drewN _ _ _
    have y0 : wq.cell? ⟨w.heap.size, 0, none⟩ = some (.int .i64 0) := by rw [← hwq]; exact z0
    have y1 : wq.cell? ⟨w.heap.size, 1, none⟩ = some (.string ⟨#[]⟩) := by rw [← hwq]; exact z1
    have y2 : wq.cell? ⟨w.heap.size, 2, none⟩ = some (.int .i64 0) := by rw [← hwq]; exact z2
    have yf : ∀ q, wq.frozen? ⟨w.heap.size, q, none⟩ = false := by rw [← hwq]; exact zf
    clear hwq z0 z1 z2 zf hw1
    go_wp2_with fail
    have hf := HFIN.out wq (.int .i64 0) (.string ⟨#[]⟩) (.int .i64 0) HQ.out
    refine bodyPost_ret_by (results_cell_row rfl _ _ w.heap.size 38 _ (0, 0) _ rfl hf.2 Tryz.underlying38 rfl (by kernel_rfl)) rfl ⟨0, ?_, hf.1⟩
    rw [HR.out]
    rfl
  · have hkn' : k < n := by omega
    have q1 : ((k : Int) == (n : Int)) = false := by simp; omega
    obtain ⟨b, o, rfl, hb, hc⟩ := HAT.out (by have := HN.out; omega)
    have hkl : k < c.l.length := by have := HN.out; omega
    obtain ⟨e0, e1, at', e2⟩ := hc k hkl
    have HD := Lib.hid (drop_hd HSF.out (by have := HN.out; have := HK.out; omega) HLE.out)
    obtain ⟨K, hK⟩ : ∃ K, c.l[k].kd = K := ⟨_, rfl⟩
    obtain ⟨T, hT⟩ : ∃ T, c.l[k].tx = T := ⟨_, rfl⟩
    have HKT : Hid (hdK s.r = K ∧ hdT s.r = T) := by
      show _ ∧ _
      obtain ⟨h1, h2, h3⟩ := HD.out
      have hkk : c.l.length - s.r.length = k := by have := HN.out; have := HK.out; omega
      rw [h2, h3, ← hK, ← hT]
      simp only [hkk]
      exact ⟨trivial, trivial⟩
    rw [hK] at e0
    rw [hT] at e1
    have HW1K : Hid (Kept [] c.W w1) := HWK.out.trans HA.out.1
    have f0 := (HW1K.out.cell (p := ⟨b, o + k * 3, none⟩) hb (by simp)).trans e0
    have f1 := (HW1K.out.cell (p := ⟨b, o + k * 3 + 1, none⟩) hb (by simp)).trans e1
    have f2 := (HW1K.out.cell (p := ⟨b, o + k * 3 + 2, none⟩) hb (by simp)).trans e2
    have HX := Lib.hid (And.intro (And.intro x0 x1) (And.intro z0 (And.intro z1 (And.intro z2 zf))))
    have hbl := World.block_lt_of_cell? w1 _ f0
    have HF := Lib.hid (And.intro hbl (And.intro f0 (And.intro f1 f2)))
    have hgl : g < w1.heap.size := World.block_lt_of_cell? w1 _ x0
    have HGL1 := Lib.hid hgl
    clear hc e0 e1 e2 hK hT hb hkl HAT hend f0 f1 f2 hbl z0 z1 z2 zf hgl
    go_enter Tryz.func63, Tryz.ntmps63
    go_wp2_with fail
    go_quiet (fail)
    generalize hwq : World.drewN _ _ = wq
    have HQ : Hid (Kept [] w1 wq) := by show Kept _ _ _; rw [← hwq]; exact Kept.drewN _ _ _
    have g0 : ∀ w', Kept [] wq.drew w' → w'.cell? ⟨g, 0, none⟩ = some (.slice (some ⟨b, o, none⟩) n cap) := fun w' hk => ((HQ.out.trans (Kept.drew _ _)).trans hk).cell (p := ⟨g, 0, none⟩) HGL1.out (by simp) |>.trans HX.out.1.1
    have g1 : ∀ w', Kept [] wq.drew w' → w'.cell? ⟨g, 1, none⟩ = some (.int .i64 k) := fun w' hk => ((HQ.out.trans (Kept.drew _ _)).trans hk).cell (p := ⟨g, 1, none⟩) HGL1.out (by simp) |>.trans HX.out.1.2
    have g2 : ∀ w', Kept [] wq.drew w' → w'.cell? ⟨b, o + k * 3, none⟩ = some (.int .i64 K) := fun w' hk => ((HQ.out.trans (Kept.drew _ _)).trans hk).cell (p := ⟨b, o + k * 3, none⟩) HF.out.1 (by simp) |>.trans HF.out.2.1
    have g3 : ∀ w', Kept [] wq.drew w' → w'.cell? ⟨b, o + k * 3 + 1, none⟩ = some (.string (strL T)) := fun w' hk => ((HQ.out.trans (Kept.drew _ _)).trans hk).cell (p := ⟨b, o + k * 3 + 1, none⟩) HF.out.1 (by simp) |>.trans HF.out.2.2.1
    have g4 : ∀ w', Kept [] wq.drew w' → w'.cell? ⟨b, o + k * 3 + 2, none⟩ = some (.int .i64 at') := fun w' hk => ((HQ.out.trans (Kept.drew _ _)).trans hk).cell (p := ⟨b, o + k * 3 + 2, none⟩) HF.out.1 (by simp) |>.trans HF.out.2.2.2
    clear x0 x1 hwq hw1
    go_wp2_with fail
    refine wp_region_ordZ (R := (Kept [])) 10 [(true, 0), (true, 1), (true, 2), (true, 3), (true, 4), (true, 5), (true, 6), (true, 7), (true, 8), (true, 9)] (fun _ => Kept.refl _ _) (fun _ _ _ h k => h.trans k) (by kernel_rfl) (fun _ _ d _ _ h => by cases d <;> exact h) (by kernel_rfl) rfl (by decide) (by kernel_rfl) (by kernel_rfl) ?_
    simp only [named, List.getD_cons_zero, List.getD_cons_succ]
    repeat (first | (apply wpR_take; (case hw => rfl); (case hv => intro w' hk; go_simp; with_reducible rfl); simp only [Act.put, List.setIfInBounds_toArray, List.set_cons_zero, List.set_cons_succ]) | (refine wpR_pass (by rfl) ?_; simp only [Act.put, List.setIfInBounds_toArray, List.set_cons_zero, List.set_cons_succ]))
    clear g0 g1 g2 g3 g4
    refine wpR_nil ?_; refine lastQ_go rfl ?_
    have y0 : wq.cell? ⟨w.heap.size, 0, none⟩ = some (.int .i64 0) := by
      have := HX.out.2.1
      exact (HQ.out.cell (p := ⟨w.heap.size, 0, none⟩) (World.block_lt_of_cell? w1 _ this) (by simp)).trans this
    have y1 : wq.cell? ⟨w.heap.size, 1, none⟩ = some (.string ⟨#[]⟩) := by
      have := HX.out.2.2.1
      exact (HQ.out.cell (p := ⟨w.heap.size, 1, none⟩) (World.block_lt_of_cell? w1 _ this) (by simp)).trans this
    have y2 : wq.cell? ⟨w.heap.size, 2, none⟩ = some (.int .i64 0) := by
      have := HX.out.2.2.2.1
      exact (HQ.out.cell (p := ⟨w.heap.size, 2, none⟩) (World.block_lt_of_cell? w1 _ this) (by simp)).trans this
    have yf : ∀ q, wq.frozen? ⟨w.heap.size, q, none⟩ = false := fun q => frozen_of_row _ _ q _ _ (HQ.out.heap (by simp) HA.out.2)
    have yf0 := yf 0
    have yf1 := yf 1
    have yf2 := yf 2
    go_simp
    clear y0 y1 y2 yf yf0 yf1 yf2
    go_wp2_with fail
    have hf := HFIN.out wq (.int .i64 K) (.string (strL T)) (.int .i64 at') HQ.out
    have hrow : ((((wq.setCell ⟨w.heap.size, 0, none⟩ (.int .i64 K)).setCell ⟨w.heap.size, 1, none⟩ (.string (strL T))).setCell ⟨w.heap.size, 2, none⟩ (.int .i64 at')).drew).heap[w.heap.size]? = some (.cells #[.int .i64 K, .string (strL T), .int .i64 at'] 38) := hf.2
    refine bodyPost_ret_by (results_cell_row rfl _ _ w.heap.size 38 _ (0, 0) _ rfl hrow Tryz.underlying38 rfl (by kernel_rfl)) rfl ⟨at', ?_, hf.1.trans (Kept.drew _ _)⟩
    unfold wdV
    rw [HKT.out.1, HKT.out.2]

theorem str_eq12 (a b : List UInt8) : ((strL a).toList == (strL b).toList) = decide (a = b) := by
  rw [strL_bytes, strL_bytes, Bool.eq_iff_iff]; simp
set_option maxRecDepth 100000 in
set_option maxHeartbeats 4000000 in
theorem yrefuse_any (c : PCx) (A : List Nat) (m : Nat) (s : PSt) (w : World) (h : PrSt c A m s w) :
    Calls Tryz.prog 109 #[.pointer (some ⟨c.g, 0, none⟩)] w fun e w' => e = .panicked (refP (c.l.length - s.r.length)) ∧ w' = w := by
  obtain ⟨nv, c0, c1, c2, fz, hnd, hrow⟩ := h.open
  obtain ⟨k, hk⟩ : ∃ k, c.l.length - s.r.length = k := ⟨_, rfl⟩
  obtain ⟨g, hg⟩ : ∃ g, c.g = g := ⟨_, rfl⟩
  rw [hk] at c1 ⊢
  rw [hg] at c1 ⊢
  clear h c0 c2 fz hnd hrow hk hg
  go_enter Tryz.func109, Tryz.ntmps109
  go_wp2_with fail
  exact ⟨rfl, rfl, rfl⟩

/-- What took answers. -/
def TookOut (c : PCx) (A : List Nat) (m : Nat) (p : Tok → Bool) (s : PSt) (w : World) (b : Bool) (w' : World) : Prop :=
  tkB p s.r = b ∧ KA c A w w' ∧ PrSt c A (if b then m - 1 else m) (if b then ⟨s.r.tail, s.ns⟩ else s) w'
set_option maxRecDepth 100000 in
set_option maxHeartbeats 4000000 in
theorem ytook_any (c : PCx) (A : List Nat) (m : Nat) (s : PSt) (w : World) (k : Int) (t : List UInt8) (hk0 : k ≠ 0) (h : PrSt c A m s w) :
    Calls Tryz.prog 148 #[.pointer (some ⟨c.g, 0, none⟩), .int .i64 k, .string (strL t)] w fun e w' => ∃ b, e = .returned (.bool b) ∧ Hid (TookOut c A m (isTk k t) s w b w') := by
  have HH := Lib.hid h
  have HW := Lib.hid (yword_any c A m s w h)
  have hle := h.le
  have hll : c.l.length ≤ 140737488355328 := by have := h.tk.len; omega
  have HTB := Lib.hid (tkB_tk k t s.r hk0)
  have HK0 := Lib.hid hk0
  have hq1 := str_eq12 (hdT s.r) t
  obtain ⟨x, hx⟩ : ∃ x, hdK s.r = x := ⟨_, rfl⟩
  obtain ⟨y, hy⟩ : ∃ y, hdT s.r = y := ⟨_, rfl⟩
  unfold wdV at HW
  rw [hx, hy] at HW HTB
  rw [hy] at hq1
  have HHD : Hid (s.r = [] → x = 0) := fun h => by rw [← hx, h]; rfl
  obtain ⟨at', hat'⟩ : ∃ n, c.l.length - s.r.length = n := ⟨_, rfl⟩
  have HAT := Lib.hid hat'
  have hatl : at' ≤ 140737488355328 := by omega
  clear h hle hll hk0 hx hy hat'
  go_enter Tryz.func148, Tryz.ntmps148
  go_wp2_with fail
  refine HW.out.mono ?_
  rintro e w1 ⟨a, rfl, hk1⟩
  have HK1 := Lib.hid hk1
  obtain ⟨w2, hw2⟩ : ∃ w2, w1.alloc (.cells #[.int .i64 x, .string (strL y), .int .i64 a] 38) = w2 := ⟨_, rfl⟩
  have HA2 : Hid (Kept [] w1 w2 ∧ w2.heap[w1.heap.size]? = some (.cells #[.int .i64 x, .string (strL y), .int .i64 a] 38)) := ⟨by rw [← hw2]; exact Kept.alloc _ _ _, by rw [← hw2]; exact heap_alloc_last _ _⟩
  have HP2 : Hid (PrSt c A m s w2) := HH.out.keep (HK1.out.trans HA2.out.1)
  have v0 : w2.cell? ⟨w1.heap.size, 0, none⟩ = some (.int .i64 x) := cell_of_row _ _ 0 _ _ _ HA2.out.2
  have v1 : w2.cell? ⟨w1.heap.size, 1, none⟩ = some (.string (strL y)) := cell_of_row _ _ 1 _ _ _ HA2.out.2
  clear hk1
  by_cases hxk : x = k
  · by_cases hyt : y = t
    · have HB : Hid (tkB (isTk k t) s.r = true) := by show _ = _; rw [HTB.out]; simp [hxk, hyt]
      have HNE : Hid (s.r ≠ []) := fun hh => by
        have := HHD.out hh
        exact HK0.out (by rw [← hxk, this])
      subst hxk
      subst hyt
      rw [decide_eq_true rfl] at hq1
      obtain ⟨nv, c0, c1, c2, fz, _, _⟩ := HP2.out.open
      rw [HAT.out] at c1
      have hwr : IntKind.i64.wrap ((at' : Int) + 1) = (at' : Int) + 1 := by rw [IntKind.wrap_i64]; omega
      have HE := Lib.hid (HP2.out.eat HNE.out)
      rw [HAT.out] at HE
      clear c0 c2
      go_wp2_with fail
      go_ret
      exact ⟨true, rfl, HB.out, (KA.of (HK1.out.trans HA2.out.1)).trans HE.out.2 (fun _ h => h), HE.out.1⟩
    · have HB : Hid (tkB (isTk k t) s.r = false) := by show _ = _; rw [HTB.out]; simp [hyt]
      subst hxk
      rw [decide_eq_false hyt] at hq1
      go_wp2_with fail
      go_ret
      exact ⟨false, rfl, HB.out, KA.of (HK1.out.trans HA2.out.1), HP2.out⟩
  · have HB : Hid (tkB (isTk k t) s.r = false) := by show _ = _; rw [HTB.out]; simp [hxk]
    have q1 : (x == k) = false := by simpa using hxk
    clear hq1
    go_wp2_with fail
    go_ret
    exact ⟨false, rfl, HB.out, KA.of (HK1.out.trans HA2.out.1), HP2.out⟩
theorem TookOut.yes {c : PCx} {A : List Nat} {m : Nat} {p : Tok → Bool} {s : PSt} {w w' : World} (h : TookOut c A m p s w true w') : tkB p s.r = true ∧ KA c A w w' ∧ PrSt c A (m - 1) ⟨s.r.tail, s.ns⟩ w' := h
theorem TookOut.no {c : PCx} {A : List Nat} {m : Nat} {p : Tok → Bool} {s : PSt} {w w' : World} (h : TookOut c A m p s w false w') : tkB p s.r = false ∧ KA c A w w' ∧ PrSt c A m s w' := h
set_option maxRecDepth 100000 in
set_option maxHeartbeats 4000000 in
theorem ysign_any (c : PCx) (A : List Nat) (m : Nat) (s : PSt) (w : World) (t : List UInt8) (h : PrSt c A m s w) :
    Calls Tryz.prog 134 #[.pointer (some ⟨c.g, 0, none⟩), .string (strL t)] w (PRes c (must (isSg t) s) uV A (m - 1) w) := by
  have HT := Lib.hid (ytook_any c A m s w 7 t (by decide) h)
  clear h
  go_enter Tryz.func134, Tryz.ntmps134
  go_wp2_with fail
  refine HT.out.mono ?_
  rintro e w1 ⟨b, rfl, H1⟩
  cases b
  · obtain ⟨hb, hk, hs⟩ := H1.out.no
    have HF := Lib.hid (yrefuse_any c A m s w1 hs)
    have HZ := Lib.hid (And.intro (must_f (p := isSg t) hb) (And.intro hs.kept hs.le))
    clear hb hk hs
    go_wp2_with fail
    refine HF.out.mono ?_
    rintro e w2 ⟨rfl, rfl⟩
    exact ⟨rfl, PRes.err HZ.out.1 rfl HZ.out.2.1 HZ.out.2.2⟩
  · obtain ⟨hb, hk, hs⟩ := H1.out.yes
    have HZ := Lib.hid (And.intro (must_t (p := isSg t) hb) (And.intro hs hk))
    clear hb hk hs
    go_wp2_with fail
    go_end0
    exact PRes.ok HZ.out.1 rfl HZ.out.2.1 HZ.out.2.2
set_option maxRecDepth 100000 in
set_option maxHeartbeats 4000000 in
theorem ytake_any (c : PCx) (A : List Nat) (m : Nat) (s : PSt) (w : World) (k : Int) (hk0 : k ≠ 0) (h : PrSt c A m s w) :
    Calls Tryz.prog 133 #[.pointer (some ⟨c.g, 0, none⟩), .int .i64 k] w (PRes c (must (isKd k) s) tV A (m - 1) w) := by
  have HH := Lib.hid h
  have HW := Lib.hid (yword_any c A m s w h)
  have hll : c.l.length ≤ 140737488355328 := by have := h.tk.len; omega
  have HTB := Lib.hid (tkB_kd k s.r hk0)
  have HK0 := Lib.hid hk0
  obtain ⟨x, hx⟩ : ∃ x, hdK s.r = x := ⟨_, rfl⟩
  obtain ⟨y, hy⟩ : ∃ y, hdT s.r = y := ⟨_, rfl⟩
  unfold wdV at HW
  rw [hx, hy] at HW
  rw [hx] at HTB
  have HY := Lib.hid hy
  have HHD : Hid (s.r = [] → x = 0) := fun h => by rw [← hx, h]; rfl
  obtain ⟨at', hat'⟩ : ∃ n, c.l.length - s.r.length = n := ⟨_, rfl⟩
  have HAT := Lib.hid hat'
  have hatl : at' ≤ 140737488355328 := by omega
  clear h hll hk0 hx hy hat'
  go_enter Tryz.func133, Tryz.ntmps133
  go_wp2_with fail
  refine HW.out.mono ?_
  rintro e w1 ⟨a, rfl, hk1⟩
  have HK1 := Lib.hid hk1
  obtain ⟨w2, hw2⟩ : ∃ w2, w1.alloc (.cells #[.int .i64 x, .string (strL y), .int .i64 a] 38) = w2 := ⟨_, rfl⟩
  have HA2 : Hid (Kept [] w1 w2 ∧ w2.heap[w1.heap.size]? = some (.cells #[.int .i64 x, .string (strL y), .int .i64 a] 38)) := ⟨by rw [← hw2]; exact Kept.alloc _ _ _, by rw [← hw2]; exact heap_alloc_last _ _⟩
  have HP2 : Hid (PrSt c A m s w2) := HH.out.keep (HK1.out.trans HA2.out.1)
  have v0 : w2.cell? ⟨w1.heap.size, 0, none⟩ = some (.int .i64 x) := cell_of_row _ _ 0 _ _ _ HA2.out.2
  have v1 : w2.cell? ⟨w1.heap.size, 1, none⟩ = some (.string (strL y)) := cell_of_row _ _ 1 _ _ _ HA2.out.2
  clear hk1
  by_cases hxk : x = k
  · have HB : Hid (tkB (isKd k) s.r = true) := by show _ = _; rw [HTB.out]; simp [hxk]
    have HNE : Hid (s.r ≠ []) := fun hh => by
      have := HHD.out hh
      exact HK0.out (by rw [← hxk, this])
    subst hxk
    obtain ⟨nv, c0, c1, c2, fz, _, _⟩ := HP2.out.open
    rw [HAT.out] at c1
    have hwr : IntKind.i64.wrap ((at' : Int) + 1) = (at' : Int) + 1 := by rw [IntKind.wrap_i64]; omega
    have HE := Lib.hid (HP2.out.eat HNE.out)
    rw [HAT.out] at HE
    have y1 : (w2.setCell ⟨c.g, 1, none⟩ (.int .i64 ((at' : Int) + 1))).cell? ⟨w1.heap.size, 1, none⟩ = some (.string (strL y)) := by
      have hlt := (HH.out.keep HK1.out).lt
      have hks : Kept [c.g] w2 (w2.setCell ⟨c.g, 1, none⟩ (.int .i64 ((at' : Int) + 1))) := Kept.setCell _ _ _ _ (by simp)
      exact (hks.cell (p := ⟨w1.heap.size, 1, none⟩) (World.block_lt_of_cell? w2 _ v1) (by simp; omega)).trans v1
    clear c0 c2
    go_wp2_with fail
    go_ret
    refine PRes.ok (must_t HB.out) ?_ HE.out.1 ((KA.of (HK1.out.trans HA2.out.1)).trans HE.out.2 (fun _ h => h))
    rw [HY.out]
    rfl
  · have HB : Hid (tkB (isKd k) s.r = false) := by show _ = _; rw [HTB.out]; simp [hxk]
    have q1 : (x == k) = false := by simpa using hxk
    have HF := Lib.hid (yrefuse_any c A m s w2 HP2.out)
    go_wp2_with fail
    refine HF.out.mono ?_
    rintro e w3 ⟨rfl, rfl⟩
    exact ⟨rfl, PRes.err (must_f HB.out) rfl HP2.out.kept HP2.out.le⟩
theorem fld1 (K : Int) (T : ByteArray) (a : Int) (w : World) : (Instr.field 38 (.agg #[.int .i64 K, .string T, .int .i64 a]) 1).run Tryz.prog w = .ok (.string T) w := by kernel_rfl
theorem fld0 (K : Int) (T : ByteArray) (a : Int) (w : World) : (Instr.field 38 (.agg #[.int .i64 K, .string T, .int .i64 a]) 0).run Tryz.prog w = .ok (.int .i64 K) w := by kernel_rfl
theorem nm_split (r : List Tok) : tkB isNm r = (decide (hdK r = 1) && !keyB (hdT r)) := by
  cases r with
  | nil => simp [tkB, hdK]
  | cons t r => rfl
theorem pl_split (r : List Tok) : tkB isPl r = (decide (hdK r = 1) && !decide ((58 : UInt8) ∈ hdT r)) := by
  cases r with
  | nil => simp [tkB, hdK]
  | cons t r => rfl
theorem key12 (y : List UInt8) (w : World) : Calls Tryz.prog 120 #[.string (strL y)] w fun e w' => e = .returned (.bool (keyB y)) ∧ w = w' := key_any (strL y) w
theorem idx_mem : ∀ (l : List UInt8) (c : UInt8), decide (0 ≤ Lib.indexByte l c) = decide (c ∈ l)
  | [], c => by simp [Lib.indexByte]
  | b :: l, c => by
    have ih := idx_mem l c
    have hge := Lib.indexByte_ge l c
    unfold Lib.indexByte
    by_cases hb : b = c
    · simp [hb]
    · have h1 : (b == c) = false := by simpa using hb
      rw [h1]
      simp only [Bool.false_eq_true, if_false, List.mem_cons, Ne.symm hb, false_or]
      rw [← ih]
      by_cases hf : Lib.indexByte l c = -1
      · simp [hf]
      · have h2 : (Lib.indexByte l c == -1) = false := by simpa using hf
        rw [h2]
        simp only [Bool.false_eq_true, if_false, decide_eq_decide]
        omega
theorem colon12 (y : List UInt8) (w : World) : Calls Tryz.prog 125 #[.string (strL y), .string ⟨#[58]⟩] w fun e w' => e = .returned (.bool (decide ((58 : UInt8) ∈ y))) ∧ w = w' := by
  refine (Any.strings_Contains_one Tryz.lays144 (strL y) 58 w).mono fun e w' ⟨he, hw⟩ => ⟨?_, hw.symm⟩
  rw [he, idx_mem]
  rfl
set_option maxRecDepth 100000 in
set_option maxHeartbeats 4000000 in
theorem yname_any (c : PCx) (A : List Nat) (m : Nat) (s : PSt) (w : World) (h : PrSt c A m s w) :
    Calls Tryz.prog 152 #[.pointer (some ⟨c.g, 0, none⟩)] w (PRes c (must isNm s) tV A (m - 1) w) := by
  have HH := Lib.hid h
  have HW := Lib.hid (yword_any c A m s w h)
  have HNS := Lib.hid (nm_split s.r)
  have HKS := Lib.hid (tkB_kd 1 s.r (by decide))
  have HKY := Lib.hid (key12 (hdT s.r))
  obtain ⟨b, hb⟩ : ∃ b, keyB (hdT s.r) = b := ⟨_, rfl⟩
  rw [hb] at HNS HKY
  unfold wdV at HW
  have hfd := fld1
  clear h hb
  go_enter Tryz.func152, Tryz.ntmps152
  go_wp2_with fail
  refine HW.out.mono ?_
  rintro e w1 ⟨a, rfl, hk1⟩
  have HP1 : Hid (PrSt c A m s w1 ∧ Kept [] w w1) := ⟨HH.out.keep hk1, hk1⟩
  clear hk1
  go_wp2_with fail
  refine (HKY.out w1).mono ?_
  rintro e w1' ⟨rfl, rfl⟩
  cases b
  · have HT := Lib.hid (ytake_any c A m s w1 1 (by decide) HP1.out.1)
    have HE : Hid (must (isKd 1) s = must isNm s) := by
      show _ = _
      cases hq : tkB (isKd 1) s.r
      · rw [must_f hq, must_f (p := isNm)]
        rw [HNS.out, ← HKS.out, hq]; rfl
      · rw [must_t hq, must_t (p := isNm)]
        rw [HNS.out, ← HKS.out, hq]; rfl
    rw [HE.out] at HT
    go_wp2_with fail
    refine HT.out.mono ?_
    intro e w2 h2
    rcases h2.way with ⟨r, hm, rfl, h3⟩ | ⟨s1, t, hm, rfl, h3, h4⟩
    · exact ⟨rfl, PRes.err hm rfl h3.1 h3.2⟩
    · have HF := Lib.hid (And.intro hm (And.intro h3 ((KA.of (c := c) (A := A) HP1.out.2).trans h4 (fun _ h => h))))
      clear h2 hm h3 h4
      unfold tV
      go_wp2_with fail
      go_ret
      exact PRes.ok HF.out.1 rfl HF.out.2.1 HF.out.2.2
  · have HF := Lib.hid (yrefuse_any c A m s w1 HP1.out.1)
    have HZ := Lib.hid (must_f (p := isNm) (s := s) (by rw [HNS.out]; simp))
    go_wp2_with fail
    refine HF.out.mono ?_
    rintro e w2 ⟨rfl, rfl⟩
    exact ⟨rfl, PRes.err HZ.out rfl HP1.out.1.kept HP1.out.1.le⟩
/-- What atArrow tells. -/
theorem aw_split (r : List Tok) : tkB isAw r = (decide (hdK r = 7) && (decide (hdT r = [45, 62]) || decide (hdT r = [126, 62]))) := by
  cases r with
  | nil => simp [tkB, hdK]
  | cons t r =>
    show (isSg [45, 62] t || isSg [126, 62] t) = _
    unfold isSg
    simp only [hdK, hdT]
    by_cases hq : t.kd = 7 <;> by_cases h1 : t.tx = [45, 62] <;> by_cases h2 : t.tx = [126, 62] <;> simp [hq, h1, h2]
set_option maxRecDepth 100000 in
set_option maxHeartbeats 4000000 in
theorem yatArrow_any (c : PCx) (A : List Nat) (m : Nat) (s : PSt) (w : World) (h : PrSt c A m s w) :
    Calls Tryz.prog 138 #[.pointer (some ⟨c.g, 0, none⟩)] w fun e w' => e = .returned (.bool (tkB isAw s.r)) ∧ Kept [] w w' := by
  have HW := Lib.hid (yword_any c A m s w h)
  rw [aw_split]
  unfold wdV at HW
  obtain ⟨x, hx⟩ : ∃ x, hdK s.r = x := ⟨_, rfl⟩
  obtain ⟨y, hy⟩ : ∃ y, hdT s.r = y := ⟨_, rfl⟩
  rw [hx, hy] at HW ⊢
  have h1 := str_eq12 y [45, 62]
  have h2 := str_eq12 y [126, 62]
  obtain ⟨b1, hb1⟩ : ∃ b, decide (y = [45, 62]) = b := ⟨_, rfl⟩
  obtain ⟨b2, hb2⟩ : ∃ b, decide (y = [126, 62]) = b := ⟨_, rfl⟩
  obtain ⟨b0, hb0⟩ : ∃ b, decide (x = 7) = b := ⟨_, rfl⟩
  rw [hb1] at h1
  rw [hb2] at h2
  rw [hb0, hb1, hb2]
  have q0 : (x == 7) = b0 := by rw [← hb0]; by_cases e : x = 7 <;> simp [e]
  have h1' : ((strL y).toList == [45, 62]) = b1 := by rw [← h1, strL_bytes, strL_bytes]
  have h2' : ((strL y).toList == [126, 62]) = b2 := by rw [← h2, strL_bytes, strL_bytes]
  clear h hx hy h1 h2 hb1 hb2 hb0
  go_enter Tryz.func138, Tryz.ntmps138
  go_wp2_with fail
  refine HW.out.mono ?_
  rintro e w1 ⟨a, rfl, hk1⟩
  obtain ⟨w2, hw2⟩ : ∃ w2, w1.alloc (.cells #[.int .i64 x, .string (strL y), .int .i64 a] 38) = w2 := ⟨_, rfl⟩
  have HA2 : Hid (Kept [] w1 w2 ∧ w2.heap[w1.heap.size]? = some (.cells #[.int .i64 x, .string (strL y), .int .i64 a] 38)) := ⟨by rw [← hw2]; exact Kept.alloc _ _ _, by rw [← hw2]; exact heap_alloc_last _ _⟩
  have HK2 : Hid (Kept [] w w2) := hk1.trans HA2.out.1
  have v0 : w2.cell? ⟨w1.heap.size, 0, none⟩ = some (.int .i64 x) := cell_of_row _ _ 0 _ _ _ HA2.out.2
  have v1 : w2.cell? ⟨w1.heap.size, 1, none⟩ = some (.string (strL y)) := cell_of_row _ _ 1 _ _ _ HA2.out.2
  clear hk1
  cases b0
  · go_wp2_with fail
    go_ret
    exact ⟨rfl, HK2.out⟩
  · cases b1
    · cases b2
      · go_wp2_with fail
        go_ret
        exact ⟨rfl, HK2.out⟩
      · go_wp2_with fail
        go_ret
        exact ⟨rfl, HK2.out⟩
    · go_wp2_with fail
      go_ret
      exact ⟨rfl, HK2.out⟩
end Go.Proofs.YtfpdgdacifiejaaGreat

namespace Go.Proofs.YtfpdgdacifiejaaGreat
open Go.RowKit Go.Maps

/-- A block of bytes. -/
def BRow (w : World) (k : Nat) : Prop := ∃ c fz, w.heap[k]? = some (.cells c 5 fz)
/-- What a call on the page at p leaves: all but the page, and rows of bytes that lie behind it. -/
structure PF (p : Nat) (w w' : World) : Prop where
  os : w'.os = w.os
  tape : w'.tape = w.tape
  output : w'.output = w.output
  size : w.heap.size ≤ w'.heap.size
  block : ∀ k, k < w.heap.size → k ≠ p → (k < p ∨ ¬ BRow w k) → w'.heap[k]? = w.heap[k]?
theorem PF.refl (p : Nat) (w : World) : PF p w w := ⟨rfl, rfl, rfl, Nat.le_refl _, fun _ _ _ _ => rfl⟩
theorem PF.trans {p : Nat} {a b c : World} (h : PF p a b) (k : PF p b c) : PF p a c :=
  ⟨k.os.trans h.os, k.tape.trans h.tape, k.output.trans h.output, Nat.le_trans h.size k.size, fun i hi hn hb => by
    have e := h.block i hi hn hb
    rw [k.block i (Nat.lt_of_lt_of_le hi h.size) hn (hb.imp id fun x y => x (by unfold BRow at y ⊢; rwa [e] at y)), e]⟩
theorem PF.of {p : Nat} {w w' : World} (h : Kept [] w w') : PF p w w' := ⟨h.os, h.tape, h.output, h.size, fun k hk _ _ => h.block k hk (by simp)⟩
theorem PF.ofp {p : Nat} {w w' : World} (h : Kept [p] w w') : PF p w w' := ⟨h.os, h.tape, h.output, h.size, fun k hk hn _ => h.block k hk (by simpa using hn)⟩
theorem PF.heap {p : Nat} {w w' : World} (h : PF p w w') {k : Nat} {cs : Array Value} {t : TypeId} {fz : Nat × Nat} (hb : w.heap[k]? = some (.cells cs t fz)) (hn : k ≠ p) (ht : t ≠ 5) : w'.heap[k]? = some (.cells cs t fz) := by
  rw [h.block k (Array.getElem?_eq_some_iff.1 hb).1 hn (.inr fun ⟨c, f, e⟩ => ?_)]
  · exact hb
  · rw [hb] at e
    injection e with e
    injection e with _ e
    exact ht e
theorem PF.kept {p : Nat} {w0 w w' : World} (h : Kept [] w0 w) (k : PF p w w') (hp : w0.heap.size ≤ p) : Kept [] w0 w' :=
  ⟨k.os.trans h.os, k.tape.trans h.tape, k.output.trans h.output, Nat.le_trans h.size k.size, fun i hi _ => by
    rw [k.block i (Nat.lt_of_lt_of_le hi h.size) (by omega) (.inl (by omega))]
    exact h.block i hi (by simp)⟩
/-- A page: its nodes nv, bl blocks, the text acc. -/
structure PgSt (p : Nat) (nv : Value) (bl : Nat) (acc : List UInt8) (w : World) : Prop where
  out : ∃ ad bf, w.heap[p]? = some (.cells #[nv, ad, bf, .int .i64 (bl : Int)] 74) ∧ (ad = .pointer none ∨ ad = .pointer (some ⟨p, 1, none⟩)) ∧ OwnB p w bf acc ∧ (acc = [] → bf = .slice none 0 0)
theorem byte_ne_page : (74 : Nat) ≠ 5 := by decide
theorem own_not {p k : Nat} {w : World} {v : Value} {L : List UInt8} (h : OwnB p w v L) {cs : Array Value} {t : TypeId} (hb : w.heap[k]? = some (.cells cs t)) (ht : t ≠ 5) : v.ownBlock ≠ some k := by
  intro hq
  obtain ⟨_, ⟨rfl, _⟩ | ⟨g, cap, cur, rfl, _, hg, _⟩⟩ := h
  · cases hq
  · injection hq with e
    subst e
    rw [hg] at hb
    injection hb with hb
    injection hb with _ hb
    exact ht hb.symm
theorem PgSt.lt {p : Nat} {nv : Value} {bl : Nat} {acc : List UInt8} {w : World} (h : PgSt p nv bl acc w) : p < w.heap.size := by
  obtain ⟨ad, bf, h1, _⟩ := h.out
  exact (Array.getElem?_eq_some_iff.1 h1).1
/-- It stays while others change. -/
theorem PgSt.go {p : Nat} {nv : Value} {bl : Nat} {acc : List UInt8} {w w' : World} (h : PgSt p nv bl acc w) (hk : Kept [] w w') : PgSt p nv bl acc w' := by
  obtain ⟨ad, bf, h1, h2, h3, h4⟩ := h.out
  exact ⟨ad, bf, hk.heap (by simp) h1, h2, h3.kept hk (by simp), h4⟩
/-- A text is appended to the bytes of the call's own. -/
theorem papp_text (base : Nat) (w : World) (v : Value) (L p : List UInt8) (hown : OwnB base w v L) (hb : base ≤ w.heap.size) (hl : L.length + p.length ≤ 70368744177664) :
    ∃ v' w', (Builtin.append_ #[70, 9] 70 #[v, .string (strL p)]).run Tryz.prog w = .ok v' w' ∧ OwnB base w' v' (L ++ p) ∧ Kept v.ownBlock.toList w w' ∧ (L ++ p = [] → v = .slice none 0 0 → v' = .slice none 0 0) ∧ ∃ ao cap, v' = .slice ao (L.length + p.length) cap := by
  obtain ⟨i, hi, hz, hs, hby⟩ := info_parts elemByte.info
  obtain ⟨v', w', hr, ho, hg, hiff⟩ := Lib.run_append_own_string (P := Tryz.prog) w base 70 9 70 5 i Tryz.underlying70 Tryz.underlying9 hi hz hs hby v L.length (bv L) hown (strL p) (by rw [strL_size]; unfold maxLen; omega) (by rw [strL_size]; omega) hb
  have ho2 : OwnB base w' v' (L ++ p) := by
    unfold OwnB
    rw [List.length_append, show bv (L ++ p) = bv L ++ bv p by simp [bv]]
    rw [strL_size] at ho
    exact ho
  obtain ⟨ao, cap, e, _⟩ := ho2.val
  exact ⟨v', w', hr, ho2, Kept.grown hg (fun k hk => by simp [hk]), fun e1 e2 => hiff.2 ⟨e2, by simp at e1; rw [strL_size, e1.2]; rfl⟩, ao, cap, by rw [e, List.length_append]⟩
theorem wpList_append_text {P : Program} {ops : Array Oper} {rest : List Oper} {o : Oper} {a : Act} {w w' : World} {Q : Exit → Act → World → Prop} (hgd : o.guard = none) (s x : Operand) (t t2 : TypeId)
    (ho : o.op = .call { callee := .builtin .append, args := #[s, x], argTypes := #[t, t2] }) (u v r : Value) (hs : a.eval s = u) (hx : a.eval x = v)
    (hrun : (Builtin.append_ #[t, t2] o.type #[u, v]).run P w = .ok r w') (h : wpList P ops Q rest (a.put o.dst r) w') : wpList P ops Q (o :: rest) a w := by
  refine wpList_plain hgd fun _ hK => ?_
  unfold Oper.wp execOp
  simp only [ho, resolve, invoke, builtin, Sem.run_bind, Sem.run_pure, Result.andThen_ok, List.map_toArray, List.map_cons, List.map_nil, hs, hx, hrun]
  exact hK _ _ h

/- strings.Builder in a page. -/
set_option maxRecDepth 100000 in
set_option maxHeartbeats 2000000 in
theorem check_used (p : Nat) (w : World) (h0 : w.cell? ⟨p, 1, none⟩ = some (.pointer (some ⟨p, 1, none⟩))) :
    Calls Tryz.prog 110 #[.pointer (some ⟨p, 1, none⟩)] w fun e w' => e = .returned (.tuple #[]) ∧ w' = w := by
  obtain ⟨j, hj, _⟩ := Option.map_eq_some_iff.1 (show (Tryz.prog.info? 72).map (·.size) = some 2 by kernel_rfl)
  go_enter Tryz.func110, Tryz.ntmps110
  go_wp2
  rw [Lib.run_neq_ptr_same w _ Tryz.underlying69 hj]
  go_wp2
  go_end0
  exact ⟨rfl, rfl⟩
set_option maxRecDepth 100000 in
set_option maxHeartbeats 2000000 in
theorem check_fresh (p : Nat) (w : World) (h0 : w.cell? ⟨p, 1, none⟩ = some (.pointer none)) (hsh : w.shape? p = some (74, 4)) (hfz : w.frozen? ⟨p, 1, none⟩ = false) :
    Calls Tryz.prog 110 #[.pointer (some ⟨p, 1, none⟩)] w fun e w' => e = .returned (.tuple #[]) ∧ w' = w.setCell ⟨p, 1, none⟩ (.pointer (some ⟨p, 1, none⟩)) := by
  obtain ⟨j, hj, hjs⟩ := Option.map_eq_some_iff.1 (show (Tryz.prog.info? 72).map (·.size) = some 2 by kernel_rfl)
  have hlies : liesAt Tryz.prog Tryz.prog.depth 74 (4 / Tryz.prog.cellsOf 74) 1 72 1 = true := by kernel_rfl
  go_enter Tryz.func110, Tryz.ntmps110
  go_wp2
  rw [Lib.run_to_unsafe w ⟨p, 1, none⟩ Tryz.underlying69 Tryz.underlying131 hj (by rw [hjs]; decide) hsh (show (1 : Nat) < 4 by omega)]
  simp only [Result.andThen]
  rw [Oper.upon_value]
  go_wp2
  rw [run_callFunc_extern Tryz.func144 (by kernel_rfl) (by kernel_rfl) (by kernel_rfl) (e := Extern.AbiNoEscape.same) (by kernel_rfl)]
  rw [Lib.run_noEscape]
  simp only [Result.andThen]
  rw [Oper.upon_value]
  go_wp2
  rw [Lib.run_from_unsafe w ⟨p, 1, none⟩ Tryz.underlying131 Tryz.underlying69 hj hsh hlies]
  simp only [Result.andThen]
  rw [Oper.upon_value]
  go_wp2
  go_end0
  exact ⟨rfl, rfl⟩
theorem check_any (p : Nat) (nv : Value) (bl : Nat) (acc : List UInt8) (w : World) (h : PgSt p nv bl acc w) :
    Calls Tryz.prog 110 #[.pointer (some ⟨p, 1, none⟩)] w fun e w' => e = .returned (.tuple #[]) ∧ PgSt p nv bl acc w' ∧ Kept [p] w w' := by
  obtain ⟨ad, bf, h1, h2, h3, h4⟩ := h.out
  rcases h2 with rfl | rfl
  · refine (check_fresh p w (cell_of_row _ _ 1 _ _ _ h1) (by simp [World.shape?, h1]) (frozen_of_row _ _ 1 _ _ h1)).mono ?_
    rintro e w' ⟨rfl, rfl⟩
    have hk : Kept [p] w (w.setCell ⟨p, 1, none⟩ (.pointer (some ⟨p, 1, none⟩))) := Kept.setCell _ _ _ _ (by simp)
    refine ⟨rfl, ⟨_, bf, ?_, .inr rfl, h3.kept hk fun k hq => ?_, h4⟩, hk⟩
    · simp [World.setCell, Array.getElem?_modify, h1]
    · intro hm
      simp at hm
      subst hm
      exact own_not h3 h1 byte_ne_page hq
  · refine (check_used p w (cell_of_row _ _ 1 _ _ _ h1)).mono ?_
    rintro e w' ⟨rfl, rfl⟩
    exact ⟨rfl, h, Kept.refl _ _⟩
set_option maxRecDepth 100000 in
set_option maxHeartbeats 4000000 in
theorem sbw_any (p : Nat) (nv : Value) (bl : Nat) (acc s : List UInt8) (w : World) (h : PgSt p nv bl acc w) (hl : acc.length + s.length ≤ 70368744177664) :
    Calls Tryz.prog 67 #[.pointer (some ⟨p, 1, none⟩), .string (strL s)] w fun e w' => e = .returned (.tuple #[.int .i64 (s.length : Int), .nilIface]) ∧ PgSt p nv bl (acc ++ s) w' ∧ PF p w w' := by
  have HL := Lib.hid hl
  have H := Lib.hid h
  clear h hl
  obtain ⟨t, ht⟩ : ∃ t, strL s = t := ⟨_, rfl⟩
  have HT := Lib.hid ht
  have hsz : t.size = s.length := by rw [← ht, strL_size]
  rw [ht]
  clear ht
  go_enter Tryz.func67, Tryz.ntmps67
  go_wp2_with fail
  refine (check_any p nv bl acc w H.out).mono ?_
  rintro e w1 ⟨rfl, h1, hk1⟩
  obtain ⟨ad, bf, g1, g2, g3, g4⟩ := h1.out
  have hp1 := h1.lt
  obtain ⟨v', w2, hrun, hown, hk2, hnil, ao, cap, hv'⟩ := papp_text p w1 bf acc s g3 (Nat.le_of_lt hp1) HL.out
  rw [HT.out] at hrun
  have HRUN := Lib.hid hrun
  have hpn : p ∉ bf.ownBlock.toList := fun hm => own_not g3 g1 byte_ne_page (by simpa using hm)
  have g12 : w2.heap[p]? = some (.cells #[nv, ad, bf, .int .i64 (bl : Int)] 74) := hk2.heap hpn g1
  have c2 : w1.cell? ⟨p, 2, none⟩ = some bf := cell_of_row _ _ 2 _ _ _ g1
  have d2 : w2.cell? ⟨p, 2, none⟩ = some bf := cell_of_row _ _ 2 _ _ _ g12
  have f2 : w2.frozen? ⟨p, 2, none⟩ = false := frozen_of_row _ _ 2 _ _ g12
  have HFIN : Hid (PgSt p nv bl (acc ++ s) (w2.setCell ⟨p, 2, none⟩ v') ∧ PF p w (w2.setCell ⟨p, 2, none⟩ v')) := by
    have hk3 : Kept [p] w2 (w2.setCell ⟨p, 2, none⟩ v') := Kept.setCell _ _ _ _ (by simp)
    refine ⟨⟨ad, v', row_setJ g12 2 v', g2, hown.kept hk3 fun k hq hm => ?_, fun e => hnil e (g4 (List.append_eq_nil_iff.1 e).1)⟩, ((PF.ofp hk1).trans ?_).trans (PF.ofp hk3)⟩
    · simp at hm
      subst hm
      exact own_not hown g12 byte_ne_page hq
    · refine ⟨hk2.os, hk2.tape, hk2.output, hk2.size, fun k hk hn hor => hk2.block k hk fun hm => ?_⟩
      simp at hm
      have hlt := (World.ownsRow.lt g3 k hm).1
      rcases hor with hh | hh
      · omega
      · obtain ⟨_, ⟨rfl, _⟩ | ⟨g, cap, cur, rfl, _, hg, _⟩⟩ := g3
        · cases hm
        · injection hm with e
          subst e
          exact hh ⟨_, _, hg⟩
  obtain ⟨ba, bc, hbv, _⟩ := g3.val
  rw [hbv] at c2 d2 HRUN
  rw [hv'] at HRUN HFIN
  clear g1 g2 g3 g4 hnil hrun hown hk2 hk1 h1 hpn g12 hbv hp1 hv'
  go_wp2_with (at_builtin; refine wpList_append_text rfl _ _ 70 9 rfl _ _ _ rfl rfl HRUN.out ?_)
  go_ret2

  exact ⟨rfl, HFIN.out.1, HFIN.out.2⟩
theorem run_freeze_kept (w : World) (p g n : Nat) (hg : p ≤ g) (hr : BRow w g) : PF p w (w.freeze ⟨g, 0, none⟩ n) := by
  unfold World.freeze
  split
  · exact PF.refl _ _
  · refine ⟨rfl, rfl, rfl, by simp, fun k hk hn hor => ?_⟩
    simp only [Array.getElem?_modify]
    split
    · rename_i h
      subst h
      rcases hor with h | h
      · omega
      · exact absurd hr h
    · rfl
/-- The page stands as it stood. -/
def PgSame (p : Nat) (w x : World) : Prop := x.heap[p]? = w.heap[p]?
set_option maxRecDepth 100000 in
set_option maxHeartbeats 4000000 in
theorem sbs_any (p : Nat) (nv : Value) (bl : Nat) (acc : List UInt8) (w : World) (h : PgSt p nv bl acc w) (hl : acc.length ≤ 70368744177664) :
    Calls Tryz.prog 41 #[.pointer (some ⟨p, 1, none⟩)] w fun e w' => e = .returned (.string (strL acc)) ∧ PF p w w' := by
  obtain ⟨ad, bf, h1, h2, h3, h4⟩ := h.out
  by_cases h0 : acc = []
  · subst h0
    have hb := h4 rfl
    subst hb
    have c1 : w.drew.cell? ⟨p, 2, none⟩ = some (.slice none 0 0) := cell_of_row w.drew _ 2 _ _ _ h1
    have hSD : (Builtin.unsafeSliceData_ #[70] 103 #[.slice none 0 0]).run Tryz.prog w.drew = .ok (.pointer none) w.drew := rfl
    have hUS := Lib.run_unsafeString_none (P := Tryz.prog) w.drew 103 3 9 none
    have HE : Hid (strL [] = ByteArray.empty) := rfl
    have z1 : ∀ w', Imp (PgSame p w) w.drew w' → w'.cell? ⟨p, 2, none⟩ = some (.slice none 0 0) := fun w' hk => cell_of_row w' _ 2 _ _ _ ((hk rfl).trans h1)
    clear h h1 h2 h3 h4 hl c1
    go_enter Tryz.func41, Tryz.ntmps41
    go_wp2_with fail
    refine wp_region_ordR (R := Imp (PgSame p w)) [(true, 0), (true, 1), (true, 2), (true, 3), (true, 5), (true, 6), (true, 7), (true, 8), (true, 9), (false, 4), (false, 10), (true, 11)] (fun _ => Imp.refl _ _) (fun _ _ _ h k => Imp.trans h k) (by kernel_rfl) (fun _ _ d _ _ h => by cases d <;> exact h) (by kernel_rfl) rfl (by kernel_rfl) (by kernel_rfl) ?_
    simp only [named, List.getD_cons_zero, List.getD_cons_succ]
    repeat (first | (apply wpR_take; (case hw => rfl); (case hv => intro w' hk; go_simp; with_reducible rfl); simp only [Act.put, List.setIfInBounds_toArray, List.set_cons_zero, List.set_cons_succ]) | (refine wpR_pass (by rfl) ?_; simp only [Act.put, List.setIfInBounds_toArray, List.set_cons_zero, List.set_cons_succ]))
    clear z1
    refine wpR_force (by rfl) (fun K hK => ?_)
    go_simp
    refine hK _ _ (fun hh => hh) ?_
    clear hK K
    repeat (first | (apply wpR_take; (case hw => rfl); (case hv => intro w' hk; go_simp; with_reducible rfl); simp only [Act.put, List.setIfInBounds_toArray, List.set_cons_zero, List.set_cons_succ]) | (refine wpR_pass (by rfl) ?_; simp only [Act.put, List.setIfInBounds_toArray, List.set_cons_zero, List.set_cons_succ]))
    refine wpR_force (by rfl) (fun K hK => ?_)
    go_simp
    refine hK _ _ (fun hh => hh) ?_
    clear hK K
    repeat (first | (apply wpR_take; (case hw => rfl); (case hv => intro w' hk; go_simp; with_reducible rfl); simp only [Act.put, List.setIfInBounds_toArray, List.set_cons_zero, List.set_cons_succ]) | (refine wpR_pass (by rfl) ?_; simp only [Act.put, List.setIfInBounds_toArray, List.set_cons_zero, List.set_cons_succ]))
    refine wpR_nil ?_
    go_wp2_with fail
    go_ret
    exact ⟨by rw [HE.out]; rfl, PF.of (Kept.drew _ _)⟩
  · have hl0 : acc.length ≠ 0 := by simpa using h0
    obtain ⟨g, cap, rfl, hpg, hgl, hnc, hcm, hr⟩ : ∃ g cap, bf = .slice (some ⟨g, 0, none⟩) acc.length cap ∧ p ≤ g ∧ g < w.heap.size ∧ acc.length ≤ cap ∧ cap ≤ maxLen ∧ w.rangeAt g 0 (bv acc) := by
      rcases owns_range h3 with h | ⟨_, e, _⟩
      · exact h
      · exact absurd e hl0
    obtain ⟨cur, hcur, hcs⟩ : ∃ cur, w.heap[g]? = some (.cells cur 5) ∧ cur.size = cap := by
      obtain ⟨_, ⟨e, _⟩ | ⟨g2, cap2, cur, e, _, hg, _, _, hcs, _⟩⟩ := h3
      · cases e
      · injection e with e1 e2 e3
        injection e1 with e1
        injection e1 with e1
        subst e1 e3
        exact ⟨cur, hg, by omega⟩
    have c1 : w.drew.cell? ⟨p, 2, none⟩ = some (.slice (some ⟨g, 0, none⟩) acc.length cap) := cell_of_row w.drew _ 2 _ _ _ h1
    have hSD : (Builtin.unsafeSliceData_ #[70] 103 #[.slice (some ⟨g, 0, none⟩) acc.length cap]).run Tryz.prog w.drew = .ok (.pointer (some ⟨g, 0, none⟩)) w.drew :=
      Lib.run_unsafeSliceData_row _ _ _ _ _ _ (by omega)
    have hUS : (Builtin.unsafeString_ #[103, 3] 9 #[.pointer (some ⟨g, 0, none⟩), .int .i64 acc.length]).run Tryz.prog w.drew = .ok (.string ⟨acc.toArray⟩) (w.drew.freeze ⟨g, 0, none⟩ acc.length) := by
      refine Lib.run_unsafeString_row w.drew 103 3 9 5 Tryz.underlying103 (by kernel_rfl) g cur.size (by have hg' : w.drew.heap[g]? = some (.cells cur 5) := hcur; simp [World.shape?, hg']) acc h0 (by omega) (by omega) ?_
      intro j x hx
      have := hr j (.int .u8 x.toNat) (by simp [bv, hx])
      rw [Addr.add_mid]
      exact this
    have HF : Hid (PF p w (w.drew.freeze ⟨g, 0, none⟩ acc.length)) := (PF.of (Kept.drew _ _)).trans (run_freeze_kept w.drew p g _ hpg ⟨cur, _, hcur⟩)
    have z1 : ∀ w', Imp (PgSame p w) w.drew w' → w'.cell? ⟨p, 2, none⟩ = some (.slice (some ⟨g, 0, none⟩) acc.length cap) := fun w' hk => cell_of_row w' _ 2 _ _ _ ((hk rfl).trans h1)
    have HG : Hid (PgSame p w (w.drew.freeze ⟨g, 0, none⟩ acc.length)) := by
      show _ = _
      have hgp : g ≠ p := by
        rintro rfl
        rw [hcur] at h1
        injection h1 with h1
        injection h1 with _ h1
        exact absurd h1.symm byte_ne_page
      unfold World.freeze
      split
      · rfl
      · simp only [Array.getElem?_modify]
        rw [if_neg hgp]
        rfl
    clear h h1 h2 h3 h4 hl hr hcur c1
    go_enter Tryz.func41, Tryz.ntmps41
    go_wp2_with fail
    refine wp_region_ordR (R := Imp (PgSame p w)) [(true, 0), (true, 1), (true, 2), (true, 3), (true, 5), (true, 6), (true, 7), (true, 8), (true, 9), (false, 4), (false, 10), (true, 11)] (fun _ => Imp.refl _ _) (fun _ _ _ h k => Imp.trans h k) (by kernel_rfl) (fun _ _ d _ _ h => by cases d <;> exact h) (by kernel_rfl) rfl (by kernel_rfl) (by kernel_rfl) ?_
    simp only [named, List.getD_cons_zero, List.getD_cons_succ]
    repeat (first | (apply wpR_take; (case hw => rfl); (case hv => intro w' hk; go_simp; with_reducible rfl); simp only [Act.put, List.setIfInBounds_toArray, List.set_cons_zero, List.set_cons_succ]) | (refine wpR_pass (by rfl) ?_; simp only [Act.put, List.setIfInBounds_toArray, List.set_cons_zero, List.set_cons_succ]))
    clear z1
    refine wpR_force (by rfl) (fun K hK => ?_)
    go_simp
    refine hK _ _ (fun hh => hh) ?_
    clear hK K
    repeat (first | (apply wpR_take; (case hw => rfl); (case hv => intro w' hk; go_simp; with_reducible rfl); simp only [Act.put, List.setIfInBounds_toArray, List.set_cons_zero, List.set_cons_succ]) | (refine wpR_pass (by rfl) ?_; simp only [Act.put, List.setIfInBounds_toArray, List.set_cons_zero, List.set_cons_succ]))
    refine wpR_force (by rfl) (fun K hK => ?_)
    go_simp
    refine hK _ _ (fun _ => HG.out) ?_
    clear hK K
    repeat (first | (apply wpR_take; (case hw => rfl); (case hv => intro w' hk; go_simp; with_reducible rfl); simp only [Act.put, List.setIfInBounds_toArray, List.set_cons_zero, List.set_cons_succ]) | (refine wpR_pass (by rfl) ?_; simp only [Act.put, List.setIfInBounds_toArray, List.set_cons_zero, List.set_cons_succ]))
    refine wpR_nil ?_
    go_wp2_with fail
    go_ret
    exact ⟨rfl, HF.out⟩
end Go.Proofs.YtfpdgdacifiejaaGreat

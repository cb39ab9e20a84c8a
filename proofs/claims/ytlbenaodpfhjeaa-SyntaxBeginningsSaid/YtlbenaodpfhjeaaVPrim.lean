/-
  Layer 12: the parser's small calls: word, refuse, took, sign, take, name, atArrow; the library's Contains.
  Conditions: those that each theorem states.
-/
import Derived.Test.YtlbenaodpfhjeaaVPar
import Derived.Test.YtlbenaodpfhjeaaVShelf
import Derived.Test.YtlbenaodpfhjeaaZReg
import Derived.BigQuiet
namespace Go.Proofs.Ytlbenaodpfhjeaa
open Go.RowKit Go.Maps Go.Shelf

/-- What word answers. -/
def wdV (r : List Tok) (a : Int) : Value := .agg #[.int .i64 (hdK r), .string (strL (hdT r)), .int .i64 a]
theorem drop_hd {l r : List Tok} (h : l.drop (l.length - r.length) = r) (hr : 0 < r.length) (hle : r.length ≤ l.length) : ∃ hk : l.length - r.length < l.length, hdK r = l[l.length - r.length].kd ∧ hdT r = l[l.length - r.length].tx := by
  have hk : l.length - r.length < l.length := by omega
  refine ⟨hk, ?_⟩
  obtain ⟨d, hd⟩ : ∃ d, l.length - r.length = d := ⟨_, rfl⟩
  simp only [hd] at h ⊢
  have e := List.drop_eq_getElem_cons (l := l) (i := d) (by omega)
  rw [h] at e
  exact ⟨(congrArg hdK e).trans rfl, (congrArg hdT e).trans rfl⟩
set_option maxRecDepth 100000 in
set_option maxHeartbeats 4000000 in
theorem yword_any (c : PCx) (A : List Nat) (m : Nat) (s : PSt) (w : World) (h : PrSt c A m s w) :
    Calls Try.prog 19 #[.pointer (some ⟨c.g, 0, none⟩)] w fun e w' => ∃ a, e = .returned (wdV s.r a) ∧ Kept [] w w' := by
  obtain ⟨nv, c0, c1, c2, fz, hnd, hrow⟩ := h.open
  obtain ⟨⟨ao, cap, hva, hcap, hc63, hat⟩, hlen⟩ := h.tk
  have HRW := Lib.hid hrow
  have HLE := Lib.hid h.le
  have HSF := Lib.hid h.suf
  have HWK := Lib.hid h.kept
  have HGL := Lib.hid h.lt
  have hll : c.l.length ≤ 140737488355328 := by omega
  obtain ⟨n, hn⟩ : ∃ n, c.l.length = n := ⟨_, rfl⟩
  obtain ⟨k, hk⟩ : ∃ k, n - s.r.length = k := ⟨_, rfl⟩
  have HN := Lib.hid hn
  have HK := Lib.hid hk
  rw [hn, hk] at c1
  rw [hn] at hva hll
  rw [hva] at c0
  obtain ⟨g, hg⟩ : ∃ g, c.g = g := ⟨_, rfl⟩
  rw [hg] at c0 c1 HGL ⊢
  have hkn : k ≤ n := by omega
  have HAT := Lib.hid hat
  obtain ⟨w1, hw1⟩ : ∃ w1, w.alloc (.cells #[.int .i64 0, .string ⟨#[]⟩, .int .i64 0] 37) = w1 := ⟨_, rfl⟩
  have HA : Hid (Kept [] w w1 ∧ w1.heap[w.heap.size]? = some (.cells #[.int .i64 0, .string ⟨#[]⟩, .int .i64 0] 37)) := ⟨by rw [← hw1]; exact Kept.alloc _ _ _, by rw [← hw1]; exact heap_alloc_last _ _⟩
  have x0 : w1.cell? ⟨g, 0, none⟩ = some (.slice ao n cap) := (HA.out.1.cell (p := ⟨g, 0, none⟩) HGL.out (by simp)).trans c0
  have x1 : w1.cell? ⟨g, 1, none⟩ = some (.int .i64 k) := (HA.out.1.cell (p := ⟨g, 1, none⟩) HGL.out (by simp)).trans c1
  have z0 : w1.cell? ⟨w.heap.size, 0, none⟩ = some (.int .i64 0) := cell_of_row _ _ 0 _ _ _ HA.out.2
  have z1 : w1.cell? ⟨w.heap.size, 1, none⟩ = some (.string ⟨#[]⟩) := cell_of_row _ _ 1 _ _ _ HA.out.2
  have z2 : w1.cell? ⟨w.heap.size, 2, none⟩ = some (.int .i64 0) := cell_of_row _ _ 2 _ _ _ HA.out.2
  have zf : ∀ q, w1.frozen? ⟨w.heap.size, q, none⟩ = false := fun q => frozen_of_row _ _ q _ _ HA.out.2
  have HFIN : Hid (∀ wq kd tx at', Kept [] w1 wq → Kept [] w (((wq.setCell ⟨w.heap.size, 0, none⟩ kd).setCell ⟨w.heap.size, 1, none⟩ tx).setCell ⟨w.heap.size, 2, none⟩ at') ∧ (((wq.setCell ⟨w.heap.size, 0, none⟩ kd).setCell ⟨w.heap.size, 1, none⟩ tx).setCell ⟨w.heap.size, 2, none⟩ at').heap[w.heap.size]? = some (.cells #[kd, tx, at'] 37)) := fun wq kd tx at' hk => by
    have h1 : Kept [w.heap.size] wq (((wq.setCell ⟨w.heap.size, 0, none⟩ kd).setCell ⟨w.heap.size, 1, none⟩ tx).setCell ⟨w.heap.size, 2, none⟩ at') := ((Kept.setCell _ _ _ _ (by simp)).trans (Kept.setCell _ _ _ _ (by simp))).trans (Kept.setCell _ _ _ _ (by simp))
    exact ⟨(HA.out.1.trans hk).into h1 (by simp), row_setJ (row_setJ (row_setJ (hk.heap (by simp) HA.out.2) 0 kd) 1 tx) 2 at'⟩
  clear h hnd hrow c0 c1 c2 fz hn hk hat hlen hva hg
  by_cases hend : k = n
  · have HR : Hid (s.r = []) := by
      have h1 := HLE.out
      have h2 := HK.out
      have h3 := HN.out
      have : s.r.length = 0 := by omega
      exact List.eq_nil_of_length_eq_zero this
    have q1 : ((k : Int) == (n : Int)) = true := by rw [hend]; simp
    clear hend
    go_enter Try.func19, Try.ntmps19
    go_wp2_with fail
    go_quiet (fail)
    generalize hwq : World.drewN _ _ = wq
    have HQ : Hid (Kept [] w1 wq) := by show Kept _ _ _; rw [← hwq]; exact Kept.drewN _ _ _
    have y0 : wq.cell? ⟨w.heap.size, 0, none⟩ = some (.int .i64 0) := by rw [← hwq]; exact z0
    have y1 : wq.cell? ⟨w.heap.size, 1, none⟩ = some (.string ⟨#[]⟩) := by rw [← hwq]; exact z1
    have y2 : wq.cell? ⟨w.heap.size, 2, none⟩ = some (.int .i64 0) := by rw [← hwq]; exact z2
    have yf : ∀ q, wq.frozen? ⟨w.heap.size, q, none⟩ = false := by rw [← hwq]; exact zf
    clear hwq z0 z1 z2 zf hw1
    go_wp2_with fail
    have hf := HFIN.out wq (.int .i64 0) (.string ⟨#[]⟩) (.int .i64 0) HQ.out
    refine bodyPost_ret_by (results_cell_row rfl _ _ w.heap.size 37 _ (0, 0) _ rfl hf.2 Try.underlying37 rfl (by kernel_rfl)) rfl ⟨0, ?_, hf.1⟩
    rw [HR.out]
    rfl
  · have hkn' : k < n := by omega
    have q1 : ((k : Int) == (n : Int)) = false := by simp; omega
    obtain ⟨b, o, rfl, hb, hc⟩ := HAT.out (by have := HN.out; omega)
    have hkl : k < c.l.length := by have := HN.out; omega
    obtain ⟨e0, e1, at', e2⟩ := hc k hkl
    have HD := Lib.hid (drop_hd HSF.out (by have := HN.out; have := HK.out; omega) HLE.out)
    obtain ⟨K, hK⟩ : ∃ K, c.l[k].kd = K := ⟨_, rfl⟩
    obtain ⟨T, hT⟩ : ∃ T, c.l[k].tx = T := ⟨_, rfl⟩
    have HKT : Hid (hdK s.r = K ∧ hdT s.r = T) := by
      show _ ∧ _
      obtain ⟨h1, h2, h3⟩ := HD.out
      have hkk : c.l.length - s.r.length = k := by have := HN.out; have := HK.out; omega
      rw [h2, h3, ← hK, ← hT]
      simp only [hkk]
      exact ⟨trivial, trivial⟩
    rw [hK] at e0
    rw [hT] at e1
    have HW1K : Hid (Kept [] c.W w1) := HWK.out.trans HA.out.1
    have f0 := (HW1K.out.cell (p := ⟨b, o + k * 3, none⟩) hb (by simp)).trans e0
    have f1 := (HW1K.out.cell (p := ⟨b, o + k * 3 + 1, none⟩) hb (by simp)).trans e1
    have f2 := (HW1K.out.cell (p := ⟨b, o + k * 3 + 2, none⟩) hb (by simp)).trans e2
    have HX := Lib.hid (And.intro (And.intro x0 x1) (And.intro z0 (And.intro z1 (And.intro z2 zf))))
    have hbl := World.block_lt_of_cell? w1 _ f0
    have HF := Lib.hid (And.intro hbl (And.intro f0 (And.intro f1 f2)))
    have hgl : g < w1.heap.size := World.block_lt_of_cell? w1 _ x0
    have HGL1 := Lib.hid hgl
    clear hc e0 e1 e2 hK hT hb hkl HAT hend f0 f1 f2 hbl z0 z1 z2 zf hgl
    go_enter Try.func19, Try.ntmps19
    go_wp2_with fail
    go_quiet (fail)
    generalize hwq : World.drewN _ _ = wq
    have HQ : Hid (Kept [] w1 wq) := by show Kept _ _ _; rw [← hwq]; exact Kept.drewN _ _ _
    have g0 : ∀ w', Kept [] wq.drew w' → w'.cell? ⟨g, 0, none⟩ = some (.slice (some ⟨b, o, none⟩) n cap) := fun w' hk => ((HQ.out.trans (Kept.drew _ _)).trans hk).cell (p := ⟨g, 0, none⟩) HGL1.out (by simp) |>.trans HX.out.1.1
    have g1 : ∀ w', Kept [] wq.drew w' → w'.cell? ⟨g, 1, none⟩ = some (.int .i64 k) := fun w' hk => ((HQ.out.trans (Kept.drew _ _)).trans hk).cell (p := ⟨g, 1, none⟩) HGL1.out (by simp) |>.trans HX.out.1.2
    have g2 : ∀ w', Kept [] wq.drew w' → w'.cell? ⟨b, o + k * 3, none⟩ = some (.int .i64 K) := fun w' hk => ((HQ.out.trans (Kept.drew _ _)).trans hk).cell (p := ⟨b, o + k * 3, none⟩) HF.out.1 (by simp) |>.trans HF.out.2.1
    have g3 : ∀ w', Kept [] wq.drew w' → w'.cell? ⟨b, o + k * 3 + 1, none⟩ = some (.string (strL T)) := fun w' hk => ((HQ.out.trans (Kept.drew _ _)).trans hk).cell (p := ⟨b, o + k * 3 + 1, none⟩) HF.out.1 (by simp) |>.trans HF.out.2.2.1
    have g4 : ∀ w', Kept [] wq.drew w' → w'.cell? ⟨b, o + k * 3 + 2, none⟩ = some (.int .i64 at') := fun w' hk => ((HQ.out.trans (Kept.drew _ _)).trans hk).cell (p := ⟨b, o + k * 3 + 2, none⟩) HF.out.1 (by simp) |>.trans HF.out.2.2.2
    clear x0 x1 hwq hw1
    go_wp2_with fail
    refine wp_region_ordZ (R := (Kept [])) 10 [(true, 0), (true, 1), (true, 2), (true, 3), (true, 4), (true, 5), (true, 6), (true, 7), (true, 8), (true, 9)] (fun _ => Kept.refl _ _) (fun _ _ _ h k => h.trans k) (by kernel_rfl) (fun _ _ d _ _ h => by cases d <;> exact h) (by kernel_rfl) rfl (by decide) (by kernel_rfl) (by kernel_rfl) ?_
    simp only [named, List.getD_cons_zero, List.getD_cons_succ]
    repeat (first | (apply wpR_take; (case hw => rfl); (case hv => intro w' hk; go_simp; with_reducible rfl); simp only [Act.put, List.setIfInBounds_toArray, List.set_cons_zero, List.set_cons_succ]) | (refine wpR_pass (by rfl) ?_; simp only [Act.put, List.setIfInBounds_toArray, List.set_cons_zero, List.set_cons_succ]))
    clear g0 g1 g2 g3 g4
    refine wpR_nil ?_; refine lastQ_go rfl ?_
    have y0 : wq.cell? ⟨w.heap.size, 0, none⟩ = some (.int .i64 0) := by
      have := HX.out.2.1
      exact (HQ.out.cell (p := ⟨w.heap.size, 0, none⟩) (World.block_lt_of_cell? w1 _ this) (by simp)).trans this
    have y1 : wq.cell? ⟨w.heap.size, 1, none⟩ = some (.string ⟨#[]⟩) := by
      have := HX.out.2.2.1
      exact (HQ.out.cell (p := ⟨w.heap.size, 1, none⟩) (World.block_lt_of_cell? w1 _ this) (by simp)).trans this
    have y2 : wq.cell? ⟨w.heap.size, 2, none⟩ = some (.int .i64 0) := by
      have := HX.out.2.2.2.1
      exact (HQ.out.cell (p := ⟨w.heap.size, 2, none⟩) (World.block_lt_of_cell? w1 _ this) (by simp)).trans this
    have yf : ∀ q, wq.frozen? ⟨w.heap.size, q, none⟩ = false := fun q => frozen_of_row _ _ q _ _ (HQ.out.heap (by simp) HA.out.2)
    have yf0 := yf 0
    have yf1 := yf 1
    have yf2 := yf 2
    go_simp
    clear y0 y1 y2 yf yf0 yf1 yf2
    go_wp2_with fail
    have hf := HFIN.out wq (.int .i64 K) (.string (strL T)) (.int .i64 at') HQ.out
    have hrow : ((((wq.setCell ⟨w.heap.size, 0, none⟩ (.int .i64 K)).setCell ⟨w.heap.size, 1, none⟩ (.string (strL T))).setCell ⟨w.heap.size, 2, none⟩ (.int .i64 at')).drew).heap[w.heap.size]? = some (.cells #[.int .i64 K, .string (strL T), .int .i64 at'] 37) := hf.2
    refine bodyPost_ret_by (results_cell_row rfl _ _ w.heap.size 37 _ (0, 0) _ rfl hrow Try.underlying37 rfl (by kernel_rfl)) rfl ⟨at', ?_, hf.1.trans (Kept.drew _ _)⟩
    unfold wdV
    rw [HKT.out.1, HKT.out.2]

theorem str_eq12 (a b : List UInt8) : ((strL a).toList == (strL b).toList) = decide (a = b) := by
  rw [strL_bytes, strL_bytes, Bool.eq_iff_iff]; simp
set_option maxRecDepth 100000 in
set_option maxHeartbeats 4000000 in
theorem yrefuse_any (c : PCx) (A : List Nat) (m : Nat) (s : PSt) (w : World) (h : PrSt c A m s w) :
    Calls Try.prog 29 #[.pointer (some ⟨c.g, 0, none⟩)] w fun e w' => e = .panicked (refP (c.l.length - s.r.length)) ∧ w' = w := by
  obtain ⟨nv, c0, c1, c2, fz, hnd, hrow⟩ := h.open
  obtain ⟨k, hk⟩ : ∃ k, c.l.length - s.r.length = k := ⟨_, rfl⟩
  obtain ⟨g, hg⟩ : ∃ g, c.g = g := ⟨_, rfl⟩
  rw [hk] at c1 ⊢
  rw [hg] at c1 ⊢
  clear h c0 c2 fz hnd hrow hk hg
  go_enter Try.func29, Try.ntmps29
  go_wp2_with fail
  exact ⟨rfl, rfl, rfl⟩

/-- What took answers. -/
def TookOut (c : PCx) (A : List Nat) (m : Nat) (p : Tok → Bool) (s : PSt) (w : World) (b : Bool) (w' : World) : Prop :=
  tkB p s.r = b ∧ KA c A w w' ∧ PrSt c A (if b then m - 1 else m) (if b then ⟨s.r.tail, s.ns⟩ else s) w'
set_option maxRecDepth 100000 in
set_option maxHeartbeats 4000000 in
theorem ytook_any (c : PCx) (A : List Nat) (m : Nat) (s : PSt) (w : World) (k : Int) (t : List UInt8) (hk0 : k ≠ 0) (h : PrSt c A m s w) :
    Calls Try.prog 41 #[.pointer (some ⟨c.g, 0, none⟩), .int .i64 k, .string (strL t)] w fun e w' => ∃ b, e = .returned (.bool b) ∧ Hid (TookOut c A m (isTk k t) s w b w') := by
  have HH := Lib.hid h
  have HW := Lib.hid (yword_any c A m s w h)
  have hle := h.le
  have hll : c.l.length ≤ 140737488355328 := by have := h.tk.len; omega
  have HTB := Lib.hid (tkB_tk k t s.r hk0)
  have HK0 := Lib.hid hk0
  have hq1 := str_eq12 (hdT s.r) t
  obtain ⟨x, hx⟩ : ∃ x, hdK s.r = x := ⟨_, rfl⟩
  obtain ⟨y, hy⟩ : ∃ y, hdT s.r = y := ⟨_, rfl⟩
  unfold wdV at HW
  rw [hx, hy] at HW HTB
  rw [hy] at hq1
  have HHD : Hid (s.r = [] → x = 0) := fun h => by rw [← hx, h]; rfl
  obtain ⟨at', hat'⟩ : ∃ n, c.l.length - s.r.length = n := ⟨_, rfl⟩
  have HAT := Lib.hid hat'
  have hatl : at' ≤ 140737488355328 := by omega
  clear h hle hll hk0 hx hy hat'
  go_enter Try.func41, Try.ntmps41
  go_wp2_with fail
  refine HW.out.mono ?_
  rintro e w1 ⟨a, rfl, hk1⟩
  have HK1 := Lib.hid hk1
  obtain ⟨w2, hw2⟩ : ∃ w2, w1.alloc (.cells #[.int .i64 x, .string (strL y), .int .i64 a] 37) = w2 := ⟨_, rfl⟩
  have HA2 : Hid (Kept [] w1 w2 ∧ w2.heap[w1.heap.size]? = some (.cells #[.int .i64 x, .string (strL y), .int .i64 a] 37)) := ⟨by rw [← hw2]; exact Kept.alloc _ _ _, by rw [← hw2]; exact heap_alloc_last _ _⟩
  have HP2 : Hid (PrSt c A m s w2) := HH.out.keep (HK1.out.trans HA2.out.1)
  have v0 : w2.cell? ⟨w1.heap.size, 0, none⟩ = some (.int .i64 x) := cell_of_row _ _ 0 _ _ _ HA2.out.2
  have v1 : w2.cell? ⟨w1.heap.size, 1, none⟩ = some (.string (strL y)) := cell_of_row _ _ 1 _ _ _ HA2.out.2
  clear hk1
  by_cases hxk : x = k
  · by_cases hyt : y = t
    · have HB : Hid (tkB (isTk k t) s.r = true) := by show _ = _; rw [HTB.out]; simp [hxk, hyt]
      have HNE : Hid (s.r ≠ []) := fun hh => by
        have := HHD.out hh
        exact HK0.out (by rw [← hxk, this])
      subst hxk
      subst hyt
      rw [decide_eq_true rfl] at hq1
      obtain ⟨nv, c0, c1, c2, fz, _, _⟩ := HP2.out.open
      rw [HAT.out] at c1
      have hwr : IntKind.i64.wrap ((at' : Int) + 1) = (at' : Int) + 1 := by rw [IntKind.wrap_i64]; omega
      have HE := Lib.hid (HP2.out.eat HNE.out)
      rw [HAT.out] at HE
      clear c0 c2
      go_wp2_with fail
      go_ret
      exact ⟨true, rfl, HB.out, (KA.of (HK1.out.trans HA2.out.1)).trans HE.out.2 (fun _ h => h), HE.out.1⟩
    · have HB : Hid (tkB (isTk k t) s.r = false) := by show _ = _; rw [HTB.out]; simp [hyt]
      subst hxk
      rw [decide_eq_false hyt] at hq1
      go_wp2_with fail
      go_ret
      exact ⟨false, rfl, HB.out, KA.of (HK1.out.trans HA2.out.1), HP2.out⟩
  · have HB : Hid (tkB (isTk k t) s.r = false) := by show _ = _; rw [HTB.out]; simp [hxk]
    have q1 : (x == k) = false := by simpa using hxk
    clear hq1
    go_wp2_with fail
    go_ret
    exact ⟨false, rfl, HB.out, KA.of (HK1.out.trans HA2.out.1), HP2.out⟩
theorem TookOut.yes {c : PCx} {A : List Nat} {m : Nat} {p : Tok → Bool} {s : PSt} {w w' : World} (h : TookOut c A m p s w true w') : tkB p s.r = true ∧ KA c A w w' ∧ PrSt c A (m - 1) ⟨s.r.tail, s.ns⟩ w' := h
theorem TookOut.no {c : PCx} {A : List Nat} {m : Nat} {p : Tok → Bool} {s : PSt} {w w' : World} (h : TookOut c A m p s w false w') : tkB p s.r = false ∧ KA c A w w' ∧ PrSt c A m s w' := h
set_option maxRecDepth 100000 in
set_option maxHeartbeats 4000000 in
theorem ysign_any (c : PCx) (A : List Nat) (m : Nat) (s : PSt) (w : World) (t : List UInt8) (h : PrSt c A m s w) :
    Calls Try.prog 31 #[.pointer (some ⟨c.g, 0, none⟩), .string (strL t)] w (PRes c (must (isSg t) s) uV A (m - 1) w) := by
  have HT := Lib.hid (ytook_any c A m s w 7 t (by decide) h)
  clear h
  go_enter Try.func31, Try.ntmps31
  go_wp2_with fail
  refine HT.out.mono ?_
  rintro e w1 ⟨b, rfl, H1⟩
  cases b
  · obtain ⟨hb, hk, hs⟩ := H1.out.no
    have HF := Lib.hid (yrefuse_any c A m s w1 hs)
    have HZ := Lib.hid (And.intro (must_f (p := isSg t) hb) (And.intro hs.kept hs.le))
    clear hb hk hs
    go_wp2_with fail
    refine HF.out.mono ?_
    rintro e w2 ⟨rfl, rfl⟩
    exact ⟨rfl, PRes.err HZ.out.1 rfl HZ.out.2.1 HZ.out.2.2⟩
  · obtain ⟨hb, hk, hs⟩ := H1.out.yes
    have HZ := Lib.hid (And.intro (must_t (p := isSg t) hb) (And.intro hs hk))
    clear hb hk hs
    go_wp2_with fail
    go_end0
    exact PRes.ok HZ.out.1 rfl HZ.out.2.1 HZ.out.2.2
set_option maxRecDepth 100000 in
set_option maxHeartbeats 4000000 in
theorem ytake_any (c : PCx) (A : List Nat) (m : Nat) (s : PSt) (w : World) (k : Int) (hk0 : k ≠ 0) (h : PrSt c A m s w) :
    Calls Try.prog 30 #[.pointer (some ⟨c.g, 0, none⟩), .int .i64 k] w (PRes c (must (isKd k) s) tV A (m - 1) w) := by
  have HH := Lib.hid h
  have HW := Lib.hid (yword_any c A m s w h)
  have hll : c.l.length ≤ 140737488355328 := by have := h.tk.len; omega
  have HTB := Lib.hid (tkB_kd k s.r hk0)
  have HK0 := Lib.hid hk0
  obtain ⟨x, hx⟩ : ∃ x, hdK s.r = x := ⟨_, rfl⟩
  obtain ⟨y, hy⟩ : ∃ y, hdT s.r = y := ⟨_, rfl⟩
  unfold wdV at HW
  rw [hx, hy] at HW
  rw [hx] at HTB
  have HY := Lib.hid hy
  have HHD : Hid (s.r = [] → x = 0) := fun h => by rw [← hx, h]; rfl
  obtain ⟨at', hat'⟩ : ∃ n, c.l.length - s.r.length = n := ⟨_, rfl⟩
  have HAT := Lib.hid hat'
  have hatl : at' ≤ 140737488355328 := by omega
  clear h hll hk0 hx hy hat'
  go_enter Try.func30, Try.ntmps30
  go_wp2_with fail
  refine HW.out.mono ?_
  rintro e w1 ⟨a, rfl, hk1⟩
  have HK1 := Lib.hid hk1
  obtain ⟨w2, hw2⟩ : ∃ w2, w1.alloc (.cells #[.int .i64 x, .string (strL y), .int .i64 a] 37) = w2 := ⟨_, rfl⟩
  have HA2 : Hid (Kept [] w1 w2 ∧ w2.heap[w1.heap.size]? = some (.cells #[.int .i64 x, .string (strL y), .int .i64 a] 37)) := ⟨by rw [← hw2]; exact Kept.alloc _ _ _, by rw [← hw2]; exact heap_alloc_last _ _⟩
  have HP2 : Hid (PrSt c A m s w2) := HH.out.keep (HK1.out.trans HA2.out.1)
  have v0 : w2.cell? ⟨w1.heap.size, 0, none⟩ = some (.int .i64 x) := cell_of_row _ _ 0 _ _ _ HA2.out.2
  have v1 : w2.cell? ⟨w1.heap.size, 1, none⟩ = some (.string (strL y)) := cell_of_row _ _ 1 _ _ _ HA2.out.2
  clear hk1
  by_cases hxk : x = k
  · have HB : Hid (tkB (isKd k) s.r = true) := by show _ = _; rw [HTB.out]; simp [hxk]
    have HNE : Hid (s.r ≠ []) := fun hh => by
      have := HHD.out hh
      exact HK0.out (by rw [← hxk, this])
    subst hxk
    obtain ⟨nv, c0, c1, c2, fz, _, _⟩ := HP2.out.open
    rw [HAT.out] at c1
    have hwr : IntKind.i64.wrap ((at' : Int) + 1) = (at' : Int) + 1 := by rw [IntKind.wrap_i64]; omega
    have HE := Lib.hid (HP2.out.eat HNE.out)
    rw [HAT.out] at HE
    have y1 : (w2.setCell ⟨c.g, 1, none⟩ (.int .i64 ((at' : Int) + 1))).cell? ⟨w1.heap.size, 1, none⟩ = some (.string (strL y)) := by
      have hlt := (HH.out.keep HK1.out).lt
      have hks : Kept [c.g] w2 (w2.setCell ⟨c.g, 1, none⟩ (.int .i64 ((at' : Int) + 1))) := Kept.setCell _ _ _ _ (by simp)
      exact (hks.cell (p := ⟨w1.heap.size, 1, none⟩) (World.block_lt_of_cell? w2 _ v1) (by simp; omega)).trans v1
    clear c0 c2
    go_wp2_with fail
    go_ret
    refine PRes.ok (must_t HB.out) ?_ HE.out.1 ((KA.of (HK1.out.trans HA2.out.1)).trans HE.out.2 (fun _ h => h))
    rw [HY.out]
    rfl
  · have HB : Hid (tkB (isKd k) s.r = false) := by show _ = _; rw [HTB.out]; simp [hxk]
    have q1 : (x == k) = false := by simpa using hxk
    have HF := Lib.hid (yrefuse_any c A m s w2 HP2.out)
    go_wp2_with fail
    refine HF.out.mono ?_
    rintro e w3 ⟨rfl, rfl⟩
    exact ⟨rfl, PRes.err (must_f HB.out) rfl HP2.out.kept HP2.out.le⟩
theorem fld1 (K : Int) (T : ByteArray) (a : Int) (w : World) : (Instr.field 37 (.agg #[.int .i64 K, .string T, .int .i64 a]) 1).run Try.prog w = .ok (.string T) w := by kernel_rfl
theorem fld0 (K : Int) (T : ByteArray) (a : Int) (w : World) : (Instr.field 37 (.agg #[.int .i64 K, .string T, .int .i64 a]) 0).run Try.prog w = .ok (.int .i64 K) w := by kernel_rfl
theorem nm_split (r : List Tok) : tkB isNm r = (decide (hdK r = 1) && !keyB (hdT r)) := by
  cases r with
  | nil => simp [tkB, hdK]
  | cons t r => rfl
theorem pl_split (r : List Tok) : tkB isPl r = (decide (hdK r = 1) && !decide ((58 : UInt8) ∈ hdT r)) := by
  cases r with
  | nil => simp [tkB, hdK]
  | cons t r => rfl
theorem key12 (y : List UInt8) (w : World) : Calls Try.prog 52 #[.string (strL y)] w fun e w' => e = .returned (.bool (keyB y)) ∧ w = w' := key_any (strL y) w
theorem idx_mem : ∀ (l : List UInt8) (c : UInt8), decide (0 ≤ Lib.indexByte l c) = decide (c ∈ l)
  | [], c => by simp [Lib.indexByte]
  | b :: l, c => by
    have ih := idx_mem l c
    have hge := Lib.indexByte_ge l c
    unfold Lib.indexByte
    by_cases hb : b = c
    · simp [hb]
    · have h1 : (b == c) = false := by simpa using hb
      rw [h1]
      simp only [Bool.false_eq_true, if_false, List.mem_cons, Ne.symm hb, false_or]
      rw [← ih]
      by_cases hf : Lib.indexByte l c = -1
      · simp [hf]
      · have h2 : (Lib.indexByte l c == -1) = false := by simpa using hf
        rw [h2]
        simp only [Bool.false_eq_true, if_false, decide_eq_decide]
        omega
theorem colon12 (y : List UInt8) (w : World) : Calls Try.prog 53 #[.string (strL y), .string ⟨#[58]⟩] w fun e w' => e = .returned (.bool (decide ((58 : UInt8) ∈ y))) ∧ w = w' := by
  refine (Any.strings_Contains_one Try.lays144 (strL y) 58 w).mono fun e w' ⟨he, hw⟩ => ⟨?_, hw.symm⟩
  rw [he, idx_mem]
  rfl
set_option maxRecDepth 100000 in
set_option maxHeartbeats 4000000 in
theorem yname_any (c : PCx) (A : List Nat) (m : Nat) (s : PSt) (w : World) (h : PrSt c A m s w) :
    Calls Try.prog 45 #[.pointer (some ⟨c.g, 0, none⟩)] w (PRes c (must isNm s) tV A (m - 1) w) := by
  have HH := Lib.hid h
  have HW := Lib.hid (yword_any c A m s w h)
  have HNS := Lib.hid (nm_split s.r)
  have HKS := Lib.hid (tkB_kd 1 s.r (by decide))
  have HKY := Lib.hid (key12 (hdT s.r))
  obtain ⟨b, hb⟩ : ∃ b, keyB (hdT s.r) = b := ⟨_, rfl⟩
  rw [hb] at HNS HKY
  unfold wdV at HW
  have hfd := fld1
  clear h hb
  go_enter Try.func45, Try.ntmps45
  go_wp2_with fail
  refine HW.out.mono ?_
  rintro e w1 ⟨a, rfl, hk1⟩
  have HP1 : Hid (PrSt c A m s w1 ∧ Kept [] w w1) := ⟨HH.out.keep hk1, hk1⟩
  clear hk1
  go_wp2_with fail
  refine (HKY.out w1).mono ?_
  rintro e w1' ⟨rfl, rfl⟩
  cases b
  · have HT := Lib.hid (ytake_any c A m s w1 1 (by decide) HP1.out.1)
    have HE : Hid (must (isKd 1) s = must isNm s) := by
      show _ = _
      cases hq : tkB (isKd 1) s.r
      · rw [must_f hq, must_f (p := isNm)]
        rw [HNS.out, ← HKS.out, hq]; rfl
      · rw [must_t hq, must_t (p := isNm)]
        rw [HNS.out, ← HKS.out, hq]; rfl
    rw [HE.out] at HT
    go_wp2_with fail
    refine HT.out.mono ?_
    intro e w2 h2
    rcases h2.way with ⟨r, hm, rfl, h3⟩ | ⟨s1, t, hm, rfl, h3, h4⟩
    · exact ⟨rfl, PRes.err hm rfl h3.1 h3.2⟩
    · have HF := Lib.hid (And.intro hm (And.intro h3 ((KA.of (c := c) (A := A) HP1.out.2).trans h4 (fun _ h => h))))
      clear h2 hm h3 h4
      unfold tV
      go_wp2_with fail
      go_ret
      exact PRes.ok HF.out.1 rfl HF.out.2.1 HF.out.2.2
  · have HF := Lib.hid (yrefuse_any c A m s w1 HP1.out.1)
    have HZ := Lib.hid (must_f (p := isNm) (s := s) (by rw [HNS.out]; simp))
    go_wp2_with fail
    refine HF.out.mono ?_
    rintro e w2 ⟨rfl, rfl⟩
    exact ⟨rfl, PRes.err HZ.out rfl HP1.out.1.kept HP1.out.1.le⟩
/-- What atArrow tells. -/
theorem aw_split (r : List Tok) : tkB isAw r = (decide (hdK r = 7) && (decide (hdT r = [45, 62]) || decide (hdT r = [126, 62]))) := by
  cases r with
  | nil => simp [tkB, hdK]
  | cons t r =>
    show (isSg [45, 62] t || isSg [126, 62] t) = _
    unfold isSg
    simp only [hdK, hdT]
    by_cases hq : t.kd = 7 <;> by_cases h1 : t.tx = [45, 62] <;> by_cases h2 : t.tx = [126, 62] <;> simp [hq, h1, h2]
set_option maxRecDepth 100000 in
set_option maxHeartbeats 4000000 in
theorem yatArrow_any (c : PCx) (A : List Nat) (m : Nat) (s : PSt) (w : World) (h : PrSt c A m s w) :
    Calls Try.prog 35 #[.pointer (some ⟨c.g, 0, none⟩)] w fun e w' => e = .returned (.bool (tkB isAw s.r)) ∧ Kept [] w w' := by
  have HW := Lib.hid (yword_any c A m s w h)
  rw [aw_split]
  unfold wdV at HW
  obtain ⟨x, hx⟩ : ∃ x, hdK s.r = x := ⟨_, rfl⟩
  obtain ⟨y, hy⟩ : ∃ y, hdT s.r = y := ⟨_, rfl⟩
  rw [hx, hy] at HW ⊢
  have h1 := str_eq12 y [45, 62]
  have h2 := str_eq12 y [126, 62]
  obtain ⟨b1, hb1⟩ : ∃ b, decide (y = [45, 62]) = b := ⟨_, rfl⟩
  obtain ⟨b2, hb2⟩ : ∃ b, decide (y = [126, 62]) = b := ⟨_, rfl⟩
  obtain ⟨b0, hb0⟩ : ∃ b, decide (x = 7) = b := ⟨_, rfl⟩
  rw [hb1] at h1
  rw [hb2] at h2
  rw [hb0, hb1, hb2]
  have q0 : (x == 7) = b0 := by rw [← hb0]; by_cases e : x = 7 <;> simp [e]
  have h1' : ((strL y).toList == [45, 62]) = b1 := by rw [← h1, strL_bytes, strL_bytes]
  have h2' : ((strL y).toList == [126, 62]) = b2 := by rw [← h2, strL_bytes, strL_bytes]
  clear h hx hy h1 h2 hb1 hb2 hb0
  go_enter Try.func35, Try.ntmps35
  go_wp2_with fail
  refine HW.out.mono ?_
  rintro e w1 ⟨a, rfl, hk1⟩
  obtain ⟨w2, hw2⟩ : ∃ w2, w1.alloc (.cells #[.int .i64 x, .string (strL y), .int .i64 a] 37) = w2 := ⟨_, rfl⟩
  have HA2 : Hid (Kept [] w1 w2 ∧ w2.heap[w1.heap.size]? = some (.cells #[.int .i64 x, .string (strL y), .int .i64 a] 37)) := ⟨by rw [← hw2]; exact Kept.alloc _ _ _, by rw [← hw2]; exact heap_alloc_last _ _⟩
  have HK2 : Hid (Kept [] w w2) := hk1.trans HA2.out.1
  have v0 : w2.cell? ⟨w1.heap.size, 0, none⟩ = some (.int .i64 x) := cell_of_row _ _ 0 _ _ _ HA2.out.2
  have v1 : w2.cell? ⟨w1.heap.size, 1, none⟩ = some (.string (strL y)) := cell_of_row _ _ 1 _ _ _ HA2.out.2
  clear hk1
  cases b0
  · go_wp2_with fail
    go_ret
    exact ⟨rfl, HK2.out⟩
  · cases b1
    · cases b2
      · go_wp2_with fail
        go_ret
        exact ⟨rfl, HK2.out⟩
      · go_wp2_with fail
        go_ret
        exact ⟨rfl, HK2.out⟩
    · go_wp2_with fail
      go_ret
      exact ⟨rfl, HK2.out⟩
end Go.Proofs.Ytlbenaodpfhjeaa

/-
  Layer 12: the document's parser: name, take, must, node.
  Conditions: those that each theorem states.
  Layer 12: the document's parser: name, node.
  Conditions: those that each theorem states.
  Layer 12: the document's parser: what its walks say of each step.
  Conditions: those that each theorem states.
-/
import Derived.Test.YtfpdgdacifiejaaGreatVRIs
import Derived.Test.YtfpdgdacifiejaaGreatLKit
namespace Go.Proofs.YtfpdgdacifiejaaGreat
open Go.RowKit Go.Maps

theorem must_tR {p : Tok → Bool} {s : PSt} (h : tkB p s.r = true) : QR (must p) (.good s) (hdT s.r) (.good ⟨s.r.tail, s.ns⟩) := by
  unfold QR
  simp only
  rw [must_t h]
  exact ⟨rfl, rfl⟩
theorem must_fR {p : Tok → Bool} {q : QSt} (h : qtk p q = false) (t : List UInt8) : QR (must p) q t (.bad q.n) := by
  cases q with
  | bad k => rfl
  | good s =>
    unfold QR
    simp only
    rw [must_f h]
    rfl
/-- One word is taken. -/
theorem QS.eat {c : PCx} {A : List Nat} {m : Nat} {s : PSt} {w : World} (h : QS c A m (.good s) w) (h0 : s.r ≠ []) :
    let w' := w.setCell ⟨c.g, 1, none⟩ (.int .i64 ((c.l.length - s.r.length : Nat) + 1 : Int))
    QS c A (m - 1) (.good ⟨s.r.tail, s.ns⟩) w' ∧ KA c A w w' := by
  have hlen : s.r.tail.length + 1 = s.r.length := by
    cases hr : s.r with
    | nil => exact absurd hr h0
    | cons t r => rfl
  have hle : s.r.length ≤ c.l.length := h.le
  have hfew := h.few s rfl
  have hat : c.l.length - s.r.tail.length = c.l.length - s.r.length + 1 := by omega
  refine h.set (Kept.setCell _ _ _ _ (by simp)) (fun v hv => ?_) (fun s2 e => ?_) (by show s.r.tail.length ≤ _; omega)
  · have := row_setJ hv 1 (.int .i64 ((c.l.length - s.r.length : Nat) + 1 : Int))
    show _ = some (Obj.cells #[c.va, .int .i64 ((c.l.length - s.r.tail.length : Nat) : Int), .bool false, v] 85)
    rw [hat]
    exact this
  · injection e with e
    subst e
    refine ⟨s, rfl, rfl, ?_, by show s.ns.length + s.r.tail.length ≤ _; omega⟩
    show c.l.drop (c.l.length - s.r.tail.length) = s.r.tail
    rw [hat, ← List.drop_drop, h.suf s rfl, List.drop_one]
/-- All is over. -/
theorem QS.over {c : PCx} {A : List Nat} {m m2 : Nat} {q : QSt} {w : World} (h : QS c A m q w) : QS c A m2 (.bad q.n) (w.setCell ⟨c.g, 2, none⟩ (.bool true)) ∧ KA c A w (w.setCell ⟨c.g, 2, none⟩ (.bool true)) := by
  refine h.set (Kept.setCell _ _ _ _ (by simp)) (fun v hv => ?_) (fun s2 e => by cases e) h.le
  exact row_setJ hv 2 (.bool true)
set_option maxRecDepth 100000 in
set_option maxHeartbeats 4000000 in
theorem ztake_any (c : PCx) (A : List Nat) (m : Nat) (s : PSt) (w : World) (hr : s.r ≠ []) (h : QS c A m (.good s) w) :
    Calls Tryz.prog 78 #[.pointer (some ⟨c.g, 0, none⟩)] w fun e w' => e = .returned (tV (hdT s.r)) ∧ Hid (QS c A (m - 1) (.good ⟨s.r.tail, s.ns⟩) w' ∧ KA c A w w') := by
  obtain ⟨v, ns, c0, c1, _, _, fz, _, hrow, _⟩ := h.open
  have hE := h.eat hr
  obtain ⟨w1, hw1⟩ : ∃ w1, w.setCell ⟨c.g, 1, none⟩ (.int .i64 ((c.l.length - s.r.length : Nat) + 1 : Int)) = w1 := ⟨_, rfl⟩
  simp only [hw1] at hE
  obtain ⟨b, o, a, n, cap, hva, hn, hcap, hc63, hn5, hkn, e0, e1, e2⟩ := h.word hr w1 hE.1.kept
  have HE := Lib.hid hE
  have hrow1 : w1.heap[c.g]? = some (.cells #[c.va, .int .i64 ((c.l.length - s.r.length : Nat) + 1 : Int), .bool false, v] 85) := by rw [← hw1]; exact row_setJ hrow 1 _
  have d0 : w1.cell? ⟨c.g, 0, none⟩ = some c.va := cell_of_row _ _ 0 _ _ _ hrow1
  have d1 : w1.cell? ⟨c.g, 1, none⟩ = some (.int .i64 ((c.l.length - s.r.length : Nat) + 1 : Int)) := cell_of_row _ _ 1 _ _ _ hrow1
  obtain ⟨j, hj⟩ : ∃ j, c.l.length - s.r.length = j := ⟨_, rfl⟩
  have c1' : w.cell? ⟨c.g, 1, none⟩ = some (.int .i64 ((c.l.length - s.r.length : Nat) : Int)) := c1
  have f1 := fz 1
  rw [hj] at c1' d1 hkn e1 hw1
  rw [hva] at d0
  obtain ⟨g, hg⟩ : ∃ g, c.g = g := ⟨_, rfl⟩
  rw [hg] at c1' d0 d1 f1 hw1 ⊢
  have hwr : IntKind.i64.wrap ((j : Int) + 1) = (j : Int) + 1 := by rw [IntKind.wrap_i64]; omega
  have hws : IntKind.i64.wrap ((j : Int) + 1 - 1) = (j : Int) := by rw [IntKind.wrap_i64]; omega
  unfold tV
  obtain ⟨T, hT⟩ : ∃ T, strL (hdT s.r) = T := ⟨_, rfl⟩
  rw [hT] at e1 ⊢
  clear h hE hrow hrow1 c0 c1 fz e0 e2 hva hj hg hn hT hr
  go_enter Tryz.func78, Tryz.ntmps78
  go_wp2_with fail
  go_quiet (fail)
  generalize hwq : World.drewN _ _ = wq
  have HQ : Hid (Kept [] w1 wq) := by show Kept _ _ _; rw [← hwq]; exact Kept.drewN _ _ _
  clear hwq d0 d1 e1 c1' f1 hw1
  go_wp2_with fail
  go_ret
  exact ⟨rfl, HE.out.1.keep HQ.out, HE.out.2.trans (KA.of HQ.out) (fun _ h => h)⟩
set_option maxRecDepth 100000 in
set_option maxHeartbeats 4000000 in
theorem zmust_any (c : PCx) (A : List Nat) (m : Nat) (q : QSt) (w : World) (p : Tok → Bool) (h : QS c A m q w) :
    Calls Tryz.prog 79 #[.pointer (some ⟨c.g, 0, none⟩), .bool (qtk p q)] w (QRes c (must p) tV A (m - 1) q w) := by
  obtain ⟨v, ns, _, _, c2, _, fz, _, _, _⟩ := h.open
  have f2 := fz 2
  cases hb : qtk p q with
  | true =>
    obtain ⟨s, rfl, hs⟩ := qtk_good hb
    have hr : s.r ≠ [] := fun e => by rw [e] at hs; cases hs
    have HT := Lib.hid (ztake_any c A m s w hr h)
    have HM := Lib.hid (must_tR hs)
    have d2 : w.cell? ⟨c.g, 2, none⟩ = some (.bool false) := c2
    clear h fz c2 hs hr hb f2
    go_enter Tryz.func79, Tryz.ntmps79
    go_wp2_with fail
    refine HT.out.mono ?_
    rintro e w1 ⟨rfl, H1⟩
    unfold tV
    go_wp2_with fail
    go_ret
    exact ⟨_, _, rfl, HM.out, H1.out.1, H1.out.2⟩
  | false =>
    have HO := Lib.hid (h.over (m2 := m - 1))
    have HM := Lib.hid (fun t => must_fR hb t)
    obtain ⟨w1, hw1⟩ : ∃ w1, w.setCell ⟨c.g, 2, none⟩ (.bool true) = w1 := ⟨_, rfl⟩
    rw [hw1] at HO
    obtain ⟨bd, hbd⟩ : ∃ b, q.isBad = b := ⟨_, rfl⟩
    rw [hbd] at c2
    clear h fz hb hbd
    cases bd
    · go_enter Tryz.func79, Tryz.ntmps79
      go_wp2_with fail
      go_ret
      exact ⟨[], _, rfl, HM.out [], HO.out.1, HO.out.2⟩
    · go_enter Tryz.func79, Tryz.ntmps79
      go_wp2_with fail
      go_ret
      exact ⟨[], _, rfl, HM.out [], HO.out.1, HO.out.2⟩
end Go.Proofs.YtfpdgdacifiejaaGreat

namespace Go.Proofs.YtfpdgdacifiejaaGreat
open Go.RowKit Go.Maps

theorem nm_splitR (r : List Tok) : tkB isNm r = (decide (hdK r = 1) && !keyB (hdT r)) := by
  cases r with
  | nil => simp [tkB, hdK]
  | cons t r => rfl
theorem rkeyR (y : List UInt8) (w : World) : Calls Tryz.prog 114 #[.string (strL y)] w fun e w' => e = .returned (.bool (keyB y)) ∧ Kept [] w w' := by
  refine (rkey_any (strL y) w).mono ?_
  rintro e w' ⟨rfl, rfl⟩
  exact ⟨rfl, Kept.refl _ _⟩
set_option maxRecDepth 100000 in
set_option maxHeartbeats 8000000 in
theorem zname_any (c : PCx) (A : List Nat) (m : Nat) (q : QSt) (w : World) (h : QS c A m q w) :
    Calls Tryz.prog 80 #[.pointer (some ⟨c.g, 0, none⟩)] w fun e w' => e = .returned (.bool (qtk isNm q)) ∧ Kept [] w w' := by
  cases hb : qtk (isP 1 []) q with
  | false =>
    have hn : qtk isNm q = false := by
      cases q with
      | bad k => rfl
      | good s =>
        show tkB isNm s.r = false
        have h2 : tkB (isP 1 []) s.r = false := hb
        have h3 : tkB (isKd 1) s.r = false := h2
        rw [nm_splitR, ← tkB_kd 1 s.r (by decide), h3]
        rfl
    rw [hn]
    have HI := Lib.hid (zis_any c A m q w.drew 1 [] (h.keep (Kept.drew _ _)))
    rw [hb] at HI
    have HW : Hid (Kept [] w w.drew) := Kept.drew _ _
    clear h hb hn
    go_enter Tryz.func80, Tryz.ntmps80
    go_wp2_with fail
    refine wp_region_ord [(true, 0), (false, 1), (true, 2), (true, 3), (true, 4), (true, 5), (true, 6), (true, 7), (true, 8), (true, 9), (true, 10), (true, 11), (true, 12), (true, 13), (false, 14), (true, 15), (true, 16), (true, 17)] [] (by kernel_rfl) (fun _ _ d _ _ h => by cases d <;> exact h) (by kernel_rfl) rfl (by kernel_rfl) (by kernel_rfl) ?_
    simp only [named, List.getD_cons_zero, List.getD_cons_succ]
    repeat (first | (apply wpGrow_take; (case hw => rfl); (case hv => intro w' hk; go_simp; with_reducible rfl); simp only [Act.put, List.setIfInBounds_toArray, List.set_cons_zero, List.set_cons_succ]) | (refine wpGrow_pass (by rfl) ?_; simp only [Act.put, List.setIfInBounds_toArray, List.set_cons_zero, List.set_cons_succ]) | (refine wpGrow_skip (by rfl) ?_; simp only [Act.put, List.setIfInBounds_toArray, List.set_cons_zero, List.set_cons_succ]))
    refine wpGrow_force (by rfl) (fun K hK => ?_)
    go_simp
    refine HI.out.mono ?_
    rintro e w1 ⟨rfl, hk⟩
    have HK := Lib.hid (HW.out.trans hk)
    refine hK _ _ hk ?_
    clear hK K hk
    repeat (first | (apply wpGrow_take; (case hw => rfl); (case hv => intro w' hk; go_simp; with_reducible rfl); simp only [Act.put, List.setIfInBounds_toArray, List.set_cons_zero, List.set_cons_succ]) | (refine wpGrow_pass (by rfl) ?_; simp only [Act.put, List.setIfInBounds_toArray, List.set_cons_zero, List.set_cons_succ]) | (refine wpGrow_skip (by rfl) ?_; simp only [Act.put, List.setIfInBounds_toArray, List.set_cons_zero, List.set_cons_succ]))
    refine wpGrow_nil ?_
    go_wp2_with fail
    go_ret
    exact ⟨rfl, HK.out⟩
  | true =>
    obtain ⟨s, rfl, hs⟩ := qtk_good hb
    have hr : s.r ≠ [] := fun e => by rw [e] at hs; cases hs
    have hn : qtk isNm (.good s) = !keyB (hdT s.r) := by
      show tkB isNm s.r = _
      have h3 : tkB (isKd 1) s.r = true := hs
      rw [nm_splitR, ← tkB_kd 1 s.r (by decide), h3]
      rfl
    rw [hn]
    obtain ⟨v, ns, c0, c1, _, _, _, _, hrow, _⟩ := h.open
    obtain ⟨b, o, a, n, cap, hva, hl, hcap, hc63, hn5, hkn, e0, e1, e2⟩ := h.word hr w h.kept
    have hgl := h.lt
    have HI := Lib.hid (zis_any c A m (.good s) w.drew 1 [] (h.keep (Kept.drew _ _)))
    rw [hb] at HI
    have HW : Hid (Kept [] w w.drew) := Kept.drew _ _
    obtain ⟨j, hj⟩ : ∃ j, c.l.length - s.r.length = j := ⟨_, rfl⟩
    have d1 : w.cell? ⟨c.g, 1, none⟩ = some (.int .i64 ((c.l.length - s.r.length : Nat) : Int)) := c1
    rw [hj] at d1 hkn e1
    rw [hva] at c0
    have hbl := World.block_lt_of_cell? w _ e1
    obtain ⟨g, hg⟩ : ∃ g, c.g = g := ⟨_, rfl⟩
    rw [hg] at c0 d1 HI hgl ⊢
    have HC := Lib.hid (And.intro (And.intro hgl hbl) (And.intro c0 (And.intro d1 e1)))
    obtain ⟨T, hT⟩ : ∃ T, hdT s.r = T := ⟨_, rfl⟩
    rw [hT] at HC ⊢
    have HKEY := Lib.hid (rkeyR T)
    obtain ⟨kb, hkb⟩ : ∃ b, keyB T = b := ⟨_, rfl⟩
    rw [hkb] at HKEY ⊢
    clear h hb hn hs hrow c0 c1 d1 hr hva hl e0 e1 e2 hj hg hT hkb hgl hbl
    go_enter Tryz.func80, Tryz.ntmps80
    go_wp2_with fail
    refine wp_region_ord [(true, 0), (false, 1), (true, 2), (true, 3), (true, 4), (true, 5), (true, 6), (true, 7), (true, 8), (true, 9), (true, 10), (true, 11), (true, 12), (true, 13), (false, 14), (true, 15), (true, 16), (true, 17)] [] (by kernel_rfl) (fun _ _ d _ _ h => by cases d <;> exact h) (by kernel_rfl) rfl (by kernel_rfl) (by kernel_rfl) ?_
    simp only [named, List.getD_cons_zero, List.getD_cons_succ]
    repeat (first | (apply wpGrow_take; (case hw => rfl); (case hv => intro w' hk; go_simp; with_reducible rfl); simp only [Act.put, List.setIfInBounds_toArray, List.set_cons_zero, List.set_cons_succ]) | (refine wpGrow_pass (by rfl) ?_; simp only [Act.put, List.setIfInBounds_toArray, List.set_cons_zero, List.set_cons_succ]) | (refine wpGrow_skip (by rfl) ?_; simp only [Act.put, List.setIfInBounds_toArray, List.set_cons_zero, List.set_cons_succ]))
    refine wpGrow_force (by rfl) (fun K hK => ?_)
    go_simp
    refine HI.out.mono ?_
    rintro e w1 ⟨rfl, hk⟩
    have HK := Lib.hid (HW.out.trans hk)
    refine hK _ _ hk ?_
    clear hK K hk
    have g0 : ∀ w', Kept [] w1 w' → w'.cell? ⟨g, 0, none⟩ = some (.slice (some ⟨b, o, none⟩) n cap) := fun w' hk => ((HK.out.trans hk).cell (p := ⟨g, 0, none⟩) HC.out.1.1 (by simp)).trans HC.out.2.1
    have g1 : ∀ w', Kept [] w1 w' → w'.cell? ⟨g, 1, none⟩ = some (.int .i64 (j : Int)) := fun w' hk => ((HK.out.trans hk).cell (p := ⟨g, 1, none⟩) HC.out.1.1 (by simp)).trans HC.out.2.2.1
    have g2 : ∀ w', Kept [] w1 w' → w'.cell? ⟨b, o + j * 3 + 1, none⟩ = some (.string (strL T)) := fun w' hk => ((HK.out.trans hk).cell (p := ⟨b, o + j * 3 + 1, none⟩) HC.out.1.2 (by simp)).trans HC.out.2.2.2
    repeat (first | (apply wpGrow_take; (case hw => rfl); (case hv => intro w' hk; go_simp; with_reducible rfl); simp only [Act.put, List.setIfInBounds_toArray, List.set_cons_zero, List.set_cons_succ]) | (refine wpGrow_pass (by rfl) ?_; simp only [Act.put, List.setIfInBounds_toArray, List.set_cons_zero, List.set_cons_succ]) | (refine wpGrow_skip (by rfl) ?_; simp only [Act.put, List.setIfInBounds_toArray, List.set_cons_zero, List.set_cons_succ]))
    clear g0 g1 g2
    refine wpGrow_force (by rfl) (fun K hK => ?_)
    go_simp
    refine (HKEY.out _).mono ?_
    rintro e w2 ⟨rfl, hk2⟩
    have HK2 := Lib.hid (HK.out.trans hk2)
    refine hK _ _ hk2 ?_
    clear hK K hk2
    repeat (first | (apply wpGrow_take; (case hw => rfl); (case hv => intro w' hk; go_simp; with_reducible rfl); simp only [Act.put, List.setIfInBounds_toArray, List.set_cons_zero, List.set_cons_succ]) | (refine wpGrow_pass (by rfl) ?_; simp only [Act.put, List.setIfInBounds_toArray, List.set_cons_zero, List.set_cons_succ]) | (refine wpGrow_skip (by rfl) ?_; simp only [Act.put, List.setIfInBounds_toArray, List.set_cons_zero, List.set_cons_succ]))
    refine wpGrow_nil ?_
    cases kb
    · go_wp2_with fail
      go_ret
      exact ⟨rfl, HK2.out⟩
    · go_wp2_with fail
      go_ret
      exact ⟨rfl, HK2.out⟩
set_option maxRecDepth 100000 in
set_option maxHeartbeats 4000000 in
theorem znode_any (c : PCx) (A : List Nat) (m : Nat) (q : QSt) (w : World) (k : Nat) (tx : List UInt8) (lv : Value) (ks : List Nat) (hm : m ≤ 5000) (h : QS c (lv.ownBlock.toList ++ A) m q w) (ho : OwnJ (c.g + 1) w lv ks) (hlv : ∀ z, lv.ownBlock = some z → z ∉ A) :
    Calls Tryz.prog 54 #[.pointer (some ⟨c.g, 0, none⟩), .int .i64 (k : Int), .string (strL tx), lv] w (QRes c (pnode k tx ks) nV A (m + 1) q w) := by
  obtain ⟨nv, ns, c0, c1, c2, c3, fz, hnd, hrow, hns⟩ := h.open
  obtain ⟨la, lc, hlv2⟩ := ho.slice
  cases q with
  | bad n =>
    have d2 : w.cell? ⟨c.g, 2, none⟩ = some (.bool true) := c2
    have HE : Hid (QR (pnode k tx ks) (.bad n) 0 (.bad n) ∧ QS c A (m + 1) (.bad n) w ∧ KA c A w w) := ⟨rfl, (h.less (fun z hz => by simp [hz])).more (fun s e => by cases e), KA.of (Kept.refl _ _)⟩
    rw [hlv2]
    clear h c0 c1 c2 c3 fz hnd hrow hns ho hlv hlv2
    go_enter Tryz.func54, Tryz.ntmps54
    go_wp2_with fail
    go_ret
    exact ⟨0, _, rfl, HE.out.1, HE.out.2⟩
  | good s =>
    obtain rfl := hns s rfl
    have d2 : w.cell? ⟨c.g, 2, none⟩ = some (.bool false) := c2
    have hfew := h.few s rfl
    have hlt := h.lt
    obtain ⟨v', w2, hrun, hnds, hk2, ⟨ao, cap, hv'⟩, hnv⟩ := hnd.app (A := A) (fun z hz => ⟨by simp [hz], (h.hA z (by simp [hz])).2⟩) hlt ho hlv k tx (by omega)
    obtain ⟨w1, hw1⟩ : ∃ w1, w.alloc (.cells #[.int .i64 (k : Int), .string (strL tx), lv] 41) = w1 := ⟨_, rfl⟩
    rw [hw1] at hrun hk2
    have hk1 : Kept [] w w1 := by rw [← hw1]; exact Kept.alloc _ _ _
    have hgx : c.g ∉ nv.ownBlock.toList := fun hh => by simp at hh; have := (hnv _ hh).1; omega
    have hrow2 := hk2.heap hgx (hk1.heap (by simp) hrow)
    have HRUN := Lib.hid hrun
    have e2 : w2.cell? ⟨c.g, 3, none⟩ = some nv := cell_of_row _ _ 3 _ _ _ hrow2
    have f2 : ∀ z, w2.frozen? ⟨c.g, z, none⟩ = false := fun z => frozen_of_row _ _ z _ _ hrow2
    obtain ⟨w3, hw3⟩ : ∃ w3, w2.setCell ⟨c.g, 3, none⟩ v' = w3 := ⟨_, rfl⟩
    have hk3 : Kept [c.g] w2 w3 := by rw [← hw3]; exact Kept.setCell _ _ _ _ (by simp)
    have hrow3 : w3.heap[c.g]? = some (.cells #[c.va, .int .i64 ((c.l.length - s.r.length : Nat) : Int), .bool false, v'] 85) := by rw [← hw3]; exact row_setJ hrow2 3 v'
    obtain ⟨n, hn⟩ : ∃ n, s.ns.length = n := ⟨_, rfl⟩
    have hn5 : n ≤ 5000 := by omega
    have hwr : IntKind.i64.wrap (((n + 1 : Nat) : Int) - 1) = (n : Int) := by rw [IntKind.wrap_i64]; omega
    have e3 : w3.cell? ⟨c.g, 3, none⟩ = some v' := cell_of_row _ _ 3 _ _ _ hrow3
    rw [hn] at hv'
    have hex : ∀ z ∈ c.g :: nv.ownBlock.toList, z ∉ A ∧ c.g ≤ z := fun z hz => by
      rcases List.mem_cons.1 hz with rfl | hz
      · exact ⟨fun hh => by have := (h.hA c.g (by simp [hh])).1; omega, Nat.le_refl _⟩
      · simp at hz
        exact ⟨fun hh => (hnv z hz).2 (by simp [hh]), Nat.le_of_lt (hnv z hz).1⟩
    have hkall : Kept (c.g :: nv.ownBlock.toList) w w3 := ((hk1.mono (by simp)).trans (hk2.mono (by intro z hz _; simp [hz]))).trans (hk3.mono (by intro z hz _; simp at hz; simp [hz]))
    have hle : s.r.length ≤ c.l.length := h.le
    have hsuf := h.suf s rfl
    have HFIN : Hid (QS c A (m + 1) (.good ⟨s.r, s.ns ++ [⟨k, tx, ks⟩]⟩) w3 ∧ KA c A w w3) := by
      refine ⟨⟨h.hg, fun z hz => ⟨(h.hA z (by simp [hz])).1, Nat.lt_of_lt_of_le (h.hA z (by simp [hz])).2 hkall.size⟩, ⟨v', s.ns ++ [⟨k, tx, ks⟩], hrow3, ?_, fun s2 e => by injection e with e; rw [← e]⟩, fun s2 e => by injection e with e; rw [← e]; exact hsuf, hle, fun s2 e => by injection e with e; rw [← e]; simp; omega, h.tk, h.kept.into hkall (fun z hz => Nat.le_trans h.hg (hex z hz).2)⟩, ⟨_, hkall, hex⟩⟩
      obtain ⟨L, hL, hno, hva, hxx⟩ := hnds.out
      refine ⟨L, hL, owns_kept hno hk3 (fun z hz hh => ?_), hva, fun x hx => ⟨(hxx x hx).1.keptX hk3 (fun z hz hh => ?_), (hxx x hx).2⟩⟩
      · have := (hno.lt z hz).1; simp at hh; omega
      · have := ((hxx x hx).1.blk z hz).1; simp at hh; omega
    obtain ⟨na, nn, nc, hnv2⟩ : ∃ na nn nc, nv = .slice na nn nc := by
      obtain ⟨L, _, hno, _⟩ := hnd.out
      obtain ⟨a, b, e⟩ := own_slice hno
      exact ⟨_, _, _, e⟩
    rw [hnv2] at c3 HRUN e2
    rw [hlv2] at hw1
    rw [hlv2]
    rw [hv'] at e3 hw3 HRUN
    have HNC : Hid (QR (pnode k tx ks) (.good s) n (.good ⟨s.r, s.ns ++ [⟨k, tx, ks⟩]⟩)) := ⟨rfl, hn.symm⟩
    have fz3 := f2 3
    clear h hfew hlt hnds hk2 hnv hv' hk1 hgx hrow2 hrun hk3 hrow3 hn hex hkall c0 c1 c2 fz hnd hrow ho hlv hlv2 hnv2 hns hle hsuf f2
    go_enter Tryz.func54, Tryz.ntmps54
    go_wp2_with (at_builtin; refine wpList_append_run rfl _ _ 27 rfl _ _ _ rfl rfl HRUN.out ?_)
    go_ret
    exact ⟨n, _, rfl, HNC.out, HFIN.out.1, HFIN.out.2⟩
end Go.Proofs.YtfpdgdacifiejaaGreat

namespace Go.Proofs.YtfpdgdacifiejaaGreat
open Go.RowKit Go.Maps

theorem tk_neR {p : Tok → Bool} {r : List Tok} (h : tkB p r = true) : r ≠ [] := fun e => by rw [e] at h; cases h
theorem tk_lenR {p : Tok → Bool} {r : List Tok} (h : tkB p r = true) : r.tail.length + 1 = r.length := by
  cases r with
  | nil => cases h
  | cons t r => rfl
theorem QS.pos {c : PCx} {A : List Nat} {m : Nat} {s : PSt} {w : World} {p : Tok → Bool} (h : QS c A m (.good s) w) (hp : tkB p s.r = true) : 1 ≤ m := by
  have h1 := h.few s rfl
  have h2 := tk_lenR hp
  omega
theorem QR.keep1 {α : Type} {f : Prs α} {q q' : QSt} {x : α} {m : Nat} (h : QR f q x q') (k : ∀ s, q = .good s → 1 ≤ m) : ∀ s, q' = .good s → 1 ≤ m := fun s e => by
  subst e
  obtain ⟨s0, e0, _⟩ := h.back
  exact k s0 e0
theorem QR.must1 {c : PCx} {A : List Nat} {p : Tok → Bool} {q q' : QSt} {x : List UInt8} {m : Nat} {w : World} (h : QR (must p) q x q') (hq : QS c A m q w) : ∀ s, q' = .good s → 1 ≤ m := fun s e => by
  subst e
  obtain ⟨s0, rfl, h1⟩ := h.back
  cases hb : tkB p s0.r with
  | false => rw [must_f hb] at h1; cases h1
  | true => exact hq.pos hb
theorem QR.mustN {p : Tok → Bool} {q q' : QSt} {x : List UInt8} (h : QR (must p) q x q') : q'.n ≤ q.n := h.le (Lc.must p)
theorem zkd_any (c : PCx) (A : List Nat) (m : Nat) (q : QSt) (w : World) (k : Int) (h : QS c A m q w) :
    Calls Tryz.prog 83 #[.pointer (some ⟨c.g, 0, none⟩), .int .i64 k, .string ⟨#[]⟩] w fun e w' => e = .returned (.bool (qtk (isKd k) q)) ∧ Kept [] w w' := zis_any c A m q w k [] h
theorem rnode0 (c : PCx) (A : List Nat) (m : Nat) (q : QSt) (w : World) (k : Nat) (tx : List UInt8) (hm : m ≤ 5000) (h : QS c A m q w) :
    Calls Tryz.prog 54 #[.pointer (some ⟨c.g, 0, none⟩), .int .i64 (k : Int), .string (strL tx), .slice none 0 0] w (QRes c (pnode k tx []) nV A (m + 1) q w) :=
  znode_any c A m q w k tx (.slice none 0 0) [] hm h (OwnJ.nil _ _) (fun z hz => by cases hz)
theorem QRes.pre {α : Type} {c : PCx} {f : Prs α} {val : α → Value} {A : List Nat} {m : Nat} {q : QSt} {w w1 : World} {e : Ending} {w' : World} (h : QRes c f val A m q w1 e w') (hk : KA c A w w1) : QRes c f val A m q w e w' := by
  obtain ⟨x, q', h1, h2⟩ := h
  exact ⟨x, q', h1, h2.out.1, h2.out.2.1, hk.trans h2.out.2.2 (fun _ h => h)⟩
theorem rnode1 (c : PCx) (A : List Nat) (m : Nat) (q : QSt) (w : World) (k : Nat) (tx : List UInt8) (x : Nat) (hm : m ≤ 5000) (h : QS c A m q w) :
    Calls Tryz.prog 54 #[.pointer (some ⟨c.g, 0, none⟩), .int .i64 (k : Int), .string (strL tx), .slice (some ⟨w.heap.size, 0, none⟩) 1 1] (w.alloc (.cells #[.int .i64 (x : Int)] 3)) (QRes c (pnode k tx [x]) nV A (m + 1) q w) :=
  (znode_any c A m q (w.alloc (.cells #[.int .i64 (x : Int)] 3)) k tx (.slice (some ⟨w.heap.size, 0, none⟩) 1 1) [x] hm (h.alloc _) (OwnJ.made w [x] 1 rfl (c.g + 1) h.lt (by omega)) (fun z hz hh => by
    have hz2 : w.heap.size = z := by injection hz
    have := (h.hA z hh).2
    omega)).mono fun e w' h2 => h2.pre (KA.of (Kept.alloc _ _ _))
theorem rnode2 (c : PCx) (A : List Nat) (m : Nat) (q : QSt) (w : World) (k : Nat) (tx : List UInt8) (x y : Nat) (hm : m ≤ 5000) (h : QS c A m q w) :
    Calls Tryz.prog 54 #[.pointer (some ⟨c.g, 0, none⟩), .int .i64 (k : Int), .string (strL tx), .slice (some ⟨w.heap.size, 0, none⟩) 2 2] (w.alloc (.cells #[.int .i64 (x : Int), .int .i64 (y : Int)] 3)) (QRes c (pnode k tx [x, y]) nV A (m + 1) q w) :=
  (znode_any c A m q (w.alloc (.cells #[.int .i64 (x : Int), .int .i64 (y : Int)] 3)) k tx (.slice (some ⟨w.heap.size, 0, none⟩) 2 2) [x, y] hm (h.alloc _) (OwnJ.made w [x, y] 2 rfl (c.g + 1) h.lt (by omega)) (fun z hz hh => by
    have hz2 : w.heap.size = z := by injection hz
    have := (h.hA z hh).2
    omega)).mono fun e w' h2 => h2.pre (KA.of (Kept.alloc _ _ _))
/-- Where a parser's memory says that it stands. -/
def atOfR (c : PCx) (w : World) : Nat := match w.cell? ⟨c.g, 1, none⟩ with
  | some (.int _ k) => k.toNat
  | _ => 0
theorem QS.meas {c : PCx} {A : List Nat} {m : Nat} {q : QSt} {w : World} (h : QS c A m q w) : c.l.length - atOfR c w = q.n := by
  obtain ⟨_, _, _, c1, _⟩ := h.open
  have := h.le
  unfold atOfR
  rw [c1]
  simp only [Int.toNat_natCast]
  omega
theorem KA.lessR {c : PCx} {A A2 : List Nat} {w w' : World} (h : KA c A w w') (h2 : ∀ z ∈ A2, z ∈ A) : KA c A2 w w' := by
  obtain ⟨ex, e1, e2⟩ := h
  exact ⟨ex, e1, fun z hz => ⟨fun hh => (e2 z hz).1 (h2 z hh), (e2 z hz).2⟩⟩
end Go.Proofs.YtfpdgdacifiejaaGreat

/-
  Layer 12: the document's parser: name, node.
  Conditions: those that each theorem states.
  Layer 12: the document's parser: what its walks say of each step.
  Conditions: those that each theorem states.
  Layer 12: the document's parser: plain.
  Conditions: those that each theorem states.
-/
import Derived.Test.YtfpdgdacifiejaaGreatVRPrim
namespace Go.Proofs.YtfpdgdacifiejaaGreat
open Go.RowKit Go.Maps

theorem nm_splitR (r : List Tok) : tkB isNm r = (decide (hdK r = 1) && !keyB (hdT r)) := by
  cases r with
  | nil => simp [tkB, hdK]
  | cons t r => rfl
theorem rkeyR (y : List UInt8) (w : World) : Calls Tryz.prog 114 #[.string (strL y)] w fun e w' => e = .returned (.bool (keyB y)) ∧ Kept [] w w' := by
  refine (rkey_any (strL y) w).mono ?_
  rintro e w' ⟨rfl, rfl⟩
  exact ⟨rfl, Kept.refl _ _⟩
set_option maxRecDepth 100000 in
set_option maxHeartbeats 8000000 in
theorem zname_any (c : PCx) (A : List Nat) (m : Nat) (q : QSt) (w : World) (h : QS c A m q w) :
    Calls Tryz.prog 80 #[.pointer (some ⟨c.g, 0, none⟩)] w fun e w' => e = .returned (.bool (qtk isNm q)) ∧ Kept [] w w' := by
  cases hb : qtk (isP 1 []) q with
  | false =>
    have hn : qtk isNm q = false := by
      cases q with
      | bad k => rfl
      | good s =>
        show tkB isNm s.r = false
        have h2 : tkB (isP 1 []) s.r = false := hb
        have h3 : tkB (isKd 1) s.r = false := h2
        rw [nm_splitR, ← tkB_kd 1 s.r (by decide), h3]
        rfl
    rw [hn]
    have HI := Lib.hid (zis_any c A m q w.drew 1 [] (h.keep (Kept.drew _ _)))
    rw [hb] at HI
    have HW : Hid (Kept [] w w.drew) := Kept.drew _ _
    clear h hb hn
    go_enter Tryz.func80, Tryz.ntmps80
    go_wp2_with fail
    refine wp_region_ord [(true, 0), (false, 1), (true, 2), (true, 3), (true, 4), (true, 5), (true, 6), (true, 7), (true, 8), (true, 9), (true, 10), (true, 11), (true, 12), (true, 13), (false, 14), (true, 15), (true, 16), (true, 17)] [] (by kernel_rfl) (fun _ _ d _ _ h => by cases d <;> exact h) (by kernel_rfl) rfl (by kernel_rfl) (by kernel_rfl) ?_
    simp only [named, List.getD_cons_zero, List.getD_cons_succ]
    repeat (first | (apply wpGrow_take; (case hw => rfl); (case hv => intro w' hk; go_simp; with_reducible rfl); simp only [Act.put, List.setIfInBounds_toArray, List.set_cons_zero, List.set_cons_succ]) | (refine wpGrow_pass (by rfl) ?_; simp only [Act.put, List.setIfInBounds_toArray, List.set_cons_zero, List.set_cons_succ]) | (refine wpGrow_skip (by rfl) ?_; simp only [Act.put, List.setIfInBounds_toArray, List.set_cons_zero, List.set_cons_succ]))
    refine wpGrow_force (by rfl) (fun K hK => ?_)
    go_simp
    refine HI.out.mono ?_
    rintro e w1 ⟨rfl, hk⟩
    have HK := Lib.hid (HW.out.trans hk)
    refine hK _ _ hk ?_
    clear hK K hk
    repeat (first | (apply wpGrow_take; (case hw => rfl); (case hv => intro w' hk; go_simp; with_reducible rfl); simp only [Act.put, List.setIfInBounds_toArray, List.set_cons_zero, List.set_cons_succ]) | (refine wpGrow_pass (by rfl) ?_; simp only [Act.put, List.setIfInBounds_toArray, List.set_cons_zero, List.set_cons_succ]) | (refine wpGrow_skip (by rfl) ?_; simp only [Act.put, List.setIfInBounds_toArray, List.set_cons_zero, List.set_cons_succ]))
    refine wpGrow_nil ?_
    go_wp2_with fail
    go_ret
    exact ⟨rfl, HK.out⟩
  | true =>
    obtain ⟨s, rfl, hs⟩ := qtk_good hb
    have hr : s.r ≠ [] := fun e => by rw [e] at hs; cases hs
    have hn : qtk isNm (.good s) = !keyB (hdT s.r) := by
      show tkB isNm s.r = _
      have h3 : tkB (isKd 1) s.r = true := hs
      rw [nm_splitR, ← tkB_kd 1 s.r (by decide), h3]
      rfl
    rw [hn]
    obtain ⟨v, ns, c0, c1, _, _, _, _, hrow, _⟩ := h.open
    obtain ⟨b, o, a, n, cap, hva, hl, hcap, hc63, hn5, hkn, e0, e1, e2⟩ := h.word hr w h.kept
    have hgl := h.lt
    have HI := Lib.hid (zis_any c A m (.good s) w.drew 1 [] (h.keep (Kept.drew _ _)))
    rw [hb] at HI
    have HW : Hid (Kept [] w w.drew) := Kept.drew _ _
    obtain ⟨j, hj⟩ : ∃ j, c.l.length - s.r.length = j := ⟨_, rfl⟩
    have d1 : w.cell? ⟨c.g, 1, none⟩ = some (.int .i64 ((c.l.length - s.r.length : Nat) : Int)) := c1
    rw [hj] at d1 hkn e1
    rw [hva] at c0
    have hbl := World.block_lt_of_cell? w _ e1
    obtain ⟨g, hg⟩ : ∃ g, c.g = g := ⟨_, rfl⟩
    rw [hg] at c0 d1 HI hgl ⊢
    have HC := Lib.hid (And.intro (And.intro hgl hbl) (And.intro c0 (And.intro d1 e1)))
    obtain ⟨T, hT⟩ : ∃ T, hdT s.r = T := ⟨_, rfl⟩
    rw [hT] at HC ⊢
    have HKEY := Lib.hid (rkeyR T)
    obtain ⟨kb, hkb⟩ : ∃ b, keyB T = b := ⟨_, rfl⟩
    rw [hkb] at HKEY ⊢
    clear h hb hn hs hrow c0 c1 d1 hr hva hl e0 e1 e2 hj hg hT hkb hgl hbl
    go_enter Tryz.func80, Tryz.ntmps80
    go_wp2_with fail
    refine wp_region_ord [(true, 0), (false, 1), (true, 2), (true, 3), (true, 4), (true, 5), (true, 6), (true, 7), (true, 8), (true, 9), (true, 10), (true, 11), (true, 12), (true, 13), (false, 14), (true, 15), (true, 16), (true, 17)] [] (by kernel_rfl) (fun _ _ d _ _ h => by cases d <;> exact h) (by kernel_rfl) rfl (by kernel_rfl) (by kernel_rfl) ?_
    simp only [named, List.getD_cons_zero, List.getD_cons_succ]
    repeat (first | (apply wpGrow_take; (case hw => rfl); (case hv => intro w' hk; go_simp; with_reducible rfl); simp only [Act.put, List.setIfInBounds_toArray, List.set_cons_zero, List.set_cons_succ]) | (refine wpGrow_pass (by rfl) ?_; simp only [Act.put, List.setIfInBounds_toArray, List.set_cons_zero, List.set_cons_succ]) | (refine wpGrow_skip (by rfl) ?_; simp only [Act.put, List.setIfInBounds_toArray, List.set_cons_zero, List.set_cons_succ]))
    refine wpGrow_force (by rfl) (fun K hK => ?_)
    go_simp
    refine HI.out.mono ?_
    rintro e w1 ⟨rfl, hk⟩
    have HK := Lib.hid (HW.out.trans hk)
    refine hK _ _ hk ?_
    clear hK K hk
    have g0 : ∀ w', Kept [] w1 w' → w'.cell? ⟨g, 0, none⟩ = some (.slice (some ⟨b, o, none⟩) n cap) := fun w' hk => ((HK.out.trans hk).cell (p := ⟨g, 0, none⟩) HC.out.1.1 (by simp)).trans HC.out.2.1
    have g1 : ∀ w', Kept [] w1 w' → w'.cell? ⟨g, 1, none⟩ = some (.int .i64 (j : Int)) := fun w' hk => ((HK.out.trans hk).cell (p := ⟨g, 1, none⟩) HC.out.1.1 (by simp)).trans HC.out.2.2.1
    have g2 : ∀ w', Kept [] w1 w' → w'.cell? ⟨b, o + j * 3 + 1, none⟩ = some (.string (strL T)) := fun w' hk => ((HK.out.trans hk).cell (p := ⟨b, o + j * 3 + 1, none⟩) HC.out.1.2 (by simp)).trans HC.out.2.2.2
    repeat (first | (apply wpGrow_take; (case hw => rfl); (case hv => intro w' hk; go_simp; with_reducible rfl); simp only [Act.put, List.setIfInBounds_toArray, List.set_cons_zero, List.set_cons_succ]) | (refine wpGrow_pass (by rfl) ?_; simp only [Act.put, List.setIfInBounds_toArray, List.set_cons_zero, List.set_cons_succ]) | (refine wpGrow_skip (by rfl) ?_; simp only [Act.put, List.setIfInBounds_toArray, List.set_cons_zero, List.set_cons_succ]))
    clear g0 g1 g2
    refine wpGrow_force (by rfl) (fun K hK => ?_)
    go_simp
    refine (HKEY.out _).mono ?_
    rintro e w2 ⟨rfl, hk2⟩
    have HK2 := Lib.hid (HK.out.trans hk2)
    refine hK _ _ hk2 ?_
    clear hK K hk2
    repeat (first | (apply wpGrow_take; (case hw => rfl); (case hv => intro w' hk; go_simp; with_reducible rfl); simp only [Act.put, List.setIfInBounds_toArray, List.set_cons_zero, List.set_cons_succ]) | (refine wpGrow_pass (by rfl) ?_; simp only [Act.put, List.setIfInBounds_toArray, List.set_cons_zero, List.set_cons_succ]) | (refine wpGrow_skip (by rfl) ?_; simp only [Act.put, List.setIfInBounds_toArray, List.set_cons_zero, List.set_cons_succ]))
    refine wpGrow_nil ?_
    cases kb
    · go_wp2_with fail
      go_ret
      exact ⟨rfl, HK2.out⟩
    · go_wp2_with fail
      go_ret
      exact ⟨rfl, HK2.out⟩
set_option maxRecDepth 100000 in
set_option maxHeartbeats 4000000 in
theorem znode_any (c : PCx) (A : List Nat) (m : Nat) (q : QSt) (w : World) (k : Nat) (tx : List UInt8) (lv : Value) (ks : List Nat) (hm : m ≤ 5000) (h : QS c (lv.ownBlock.toList ++ A) m q w) (ho : OwnJ (c.g + 1) w lv ks) (hlv : ∀ z, lv.ownBlock = some z → z ∉ A) :
    Calls Tryz.prog 54 #[.pointer (some ⟨c.g, 0, none⟩), .int .i64 (k : Int), .string (strL tx), lv] w (QRes c (pnode k tx ks) nV A (m + 1) q w) := by
  obtain ⟨nv, ns, c0, c1, c2, c3, fz, hnd, hrow, hns⟩ := h.open
  obtain ⟨la, lc, hlv2⟩ := ho.slice
  cases q with
  | bad n =>
    have d2 : w.cell? ⟨c.g, 2, none⟩ = some (.bool true) := c2
    have HE : Hid (QR (pnode k tx ks) (.bad n) 0 (.bad n) ∧ QS c A (m + 1) (.bad n) w ∧ KA c A w w) := ⟨rfl, (h.less (fun z hz => by simp [hz])).more (fun s e => by cases e), KA.of (Kept.refl _ _)⟩
    rw [hlv2]
    clear h c0 c1 c2 c3 fz hnd hrow hns ho hlv hlv2
    go_enter Tryz.func54, Tryz.ntmps54
    go_wp2_with fail
    go_ret
    exact ⟨0, _, rfl, HE.out.1, HE.out.2⟩
  | good s =>
    obtain rfl := hns s rfl
    have d2 : w.cell? ⟨c.g, 2, none⟩ = some (.bool false) := c2
    have hfew := h.few s rfl
    have hlt := h.lt
    obtain ⟨v', w2, hrun, hnds, hk2, ⟨ao, cap, hv'⟩, hnv⟩ := hnd.app (A := A) (fun z hz => ⟨by simp [hz], (h.hA z (by simp [hz])).2⟩) hlt ho hlv k tx (by omega)
    obtain ⟨w1, hw1⟩ : ∃ w1, w.alloc (.cells #[.int .i64 (k : Int), .string (strL tx), lv] 41) = w1 := ⟨_, rfl⟩
    rw [hw1] at hrun hk2
    have hk1 : Kept [] w w1 := by rw [← hw1]; exact Kept.alloc _ _ _
    have hgx : c.g ∉ nv.ownBlock.toList := fun hh => by simp at hh; have := (hnv _ hh).1; omega
    have hrow2 := hk2.heap hgx (hk1.heap (by simp) hrow)
    have HRUN := Lib.hid hrun
    have e2 : w2.cell? ⟨c.g, 3, none⟩ = some nv := cell_of_row _ _ 3 _ _ _ hrow2
    have f2 : ∀ z, w2.frozen? ⟨c.g, z, none⟩ = false := fun z => frozen_of_row _ _ z _ _ hrow2
    obtain ⟨w3, hw3⟩ : ∃ w3, w2.setCell ⟨c.g, 3, none⟩ v' = w3 := ⟨_, rfl⟩
    have hk3 : Kept [c.g] w2 w3 := by rw [← hw3]; exact Kept.setCell _ _ _ _ (by simp)
    have hrow3 : w3.heap[c.g]? = some (.cells #[c.va, .int .i64 ((c.l.length - s.r.length : Nat) : Int), .bool false, v'] 85) := by rw [← hw3]; exact row_setJ hrow2 3 v'
    obtain ⟨n, hn⟩ : ∃ n, s.ns.length = n := ⟨_, rfl⟩
    have hn5 : n ≤ 5000 := by omega
    have hwr : IntKind.i64.wrap (((n + 1 : Nat) : Int) - 1) = (n : Int) := by rw [IntKind.wrap_i64]; omega
    have e3 : w3.cell? ⟨c.g, 3, none⟩ = some v' := cell_of_row _ _ 3 _ _ _ hrow3
    rw [hn] at hv'
    have hex : ∀ z ∈ c.g :: nv.ownBlock.toList, z ∉ A ∧ c.g ≤ z := fun z hz => by
      rcases List.mem_cons.1 hz with rfl | hz
      · exact ⟨fun hh => by have := (h.hA c.g (by simp [hh])).1; omega, Nat.le_refl _⟩
      · simp at hz
        exact ⟨fun hh => (hnv z hz).2 (by simp [hh]), Nat.le_of_lt (hnv z hz).1⟩
    have hkall : Kept (c.g :: nv.ownBlock.toList) w w3 := ((hk1.mono (by simp)).trans (hk2.mono (by intro z hz _; simp [hz]))).trans (hk3.mono (by intro z hz _; simp at hz; simp [hz]))
    have hle : s.r.length ≤ c.l.length := h.le
    have hsuf := h.suf s rfl
    have HFIN : Hid (QS c A (m + 1) (.good ⟨s.r, s.ns ++ [⟨k, tx, ks⟩]⟩) w3 ∧ KA c A w w3) := by
      refine ⟨⟨h.hg, fun z hz => ⟨(h.hA z (by simp [hz])).1, Nat.lt_of_lt_of_le (h.hA z (by simp [hz])).2 hkall.size⟩, ⟨v', s.ns ++ [⟨k, tx, ks⟩], hrow3, ?_, fun s2 e => by injection e with e; rw [← e]⟩, fun s2 e => by injection e with e; rw [← e]; exact hsuf, hle, fun s2 e => by injection e with e; rw [← e]; simp; omega, h.tk, h.kept.into hkall (fun z hz => Nat.le_trans h.hg (hex z hz).2)⟩, ⟨_, hkall, hex⟩⟩
      obtain ⟨L, hL, hno, hva, hxx⟩ := hnds.out
      refine ⟨L, hL, owns_kept hno hk3 (fun z hz hh => ?_), hva, fun x hx => ⟨(hxx x hx).1.keptX hk3 (fun z hz hh => ?_), (hxx x hx).2⟩⟩
      · have := (hno.lt z hz).1; simp at hh; omega
      · have := ((hxx x hx).1.blk z hz).1; simp at hh; omega
    obtain ⟨na, nn, nc, hnv2⟩ : ∃ na nn nc, nv = .slice na nn nc := by
      obtain ⟨L, _, hno, _⟩ := hnd.out
      obtain ⟨a, b, e⟩ := own_slice hno
      exact ⟨_, _, _, e⟩
    rw [hnv2] at c3 HRUN e2
    rw [hlv2] at hw1
    rw [hlv2]
    rw [hv'] at e3 hw3 HRUN
    have HNC : Hid (QR (pnode k tx ks) (.good s) n (.good ⟨s.r, s.ns ++ [⟨k, tx, ks⟩]⟩)) := ⟨rfl, hn.symm⟩
    have fz3 := f2 3
    clear h hfew hlt hnds hk2 hnv hv' hk1 hgx hrow2 hrun hk3 hrow3 hn hex hkall c0 c1 c2 fz hnd hrow ho hlv hlv2 hnv2 hns hle hsuf f2
    go_enter Tryz.func54, Tryz.ntmps54
    go_wp2_with (at_builtin; refine wpList_append_run rfl _ _ 27 rfl _ _ _ rfl rfl HRUN.out ?_)
    go_ret
    exact ⟨n, _, rfl, HNC.out, HFIN.out.1, HFIN.out.2⟩
end Go.Proofs.YtfpdgdacifiejaaGreat

namespace Go.Proofs.YtfpdgdacifiejaaGreat
open Go.RowKit Go.Maps

theorem tk_neR {p : Tok → Bool} {r : List Tok} (h : tkB p r = true) : r ≠ [] := fun e => by rw [e] at h; cases h
theorem tk_lenR {p : Tok → Bool} {r : List Tok} (h : tkB p r = true) : r.tail.length + 1 = r.length := by
  cases r with
  | nil => cases h
  | cons t r => rfl
theorem QS.pos {c : PCx} {A : List Nat} {m : Nat} {s : PSt} {w : World} {p : Tok → Bool} (h : QS c A m (.good s) w) (hp : tkB p s.r = true) : 1 ≤ m := by
  have h1 := h.few s rfl
  have h2 := tk_lenR hp
  omega
theorem QR.keep1 {α : Type} {f : Prs α} {q q' : QSt} {x : α} {m : Nat} (h : QR f q x q') (k : ∀ s, q = .good s → 1 ≤ m) : ∀ s, q' = .good s → 1 ≤ m := fun s e => by
  subst e
  obtain ⟨s0, e0, _⟩ := h.back
  exact k s0 e0
theorem QR.must1 {c : PCx} {A : List Nat} {p : Tok → Bool} {q q' : QSt} {x : List UInt8} {m : Nat} {w : World} (h : QR (must p) q x q') (hq : QS c A m q w) : ∀ s, q' = .good s → 1 ≤ m := fun s e => by
  subst e
  obtain ⟨s0, rfl, h1⟩ := h.back
  cases hb : tkB p s0.r with
  | false => rw [must_f hb] at h1; cases h1
  | true => exact hq.pos hb
theorem QR.mustN {p : Tok → Bool} {q q' : QSt} {x : List UInt8} (h : QR (must p) q x q') : q'.n ≤ q.n := h.le (Lc.must p)
theorem zkd_any (c : PCx) (A : List Nat) (m : Nat) (q : QSt) (w : World) (k : Int) (h : QS c A m q w) :
    Calls Tryz.prog 83 #[.pointer (some ⟨c.g, 0, none⟩), .int .i64 k, .string ⟨#[]⟩] w fun e w' => e = .returned (.bool (qtk (isKd k) q)) ∧ Kept [] w w' := zis_any c A m q w k [] h
theorem rnode0 (c : PCx) (A : List Nat) (m : Nat) (q : QSt) (w : World) (k : Nat) (tx : List UInt8) (hm : m ≤ 5000) (h : QS c A m q w) :
    Calls Tryz.prog 54 #[.pointer (some ⟨c.g, 0, none⟩), .int .i64 (k : Int), .string (strL tx), .slice none 0 0] w (QRes c (pnode k tx []) nV A (m + 1) q w) :=
  znode_any c A m q w k tx (.slice none 0 0) [] hm h (OwnJ.nil _ _) (fun z hz => by cases hz)
theorem QRes.pre {α : Type} {c : PCx} {f : Prs α} {val : α → Value} {A : List Nat} {m : Nat} {q : QSt} {w w1 : World} {e : Ending} {w' : World} (h : QRes c f val A m q w1 e w') (hk : KA c A w w1) : QRes c f val A m q w e w' := by
  obtain ⟨x, q', h1, h2⟩ := h
  exact ⟨x, q', h1, h2.out.1, h2.out.2.1, hk.trans h2.out.2.2 (fun _ h => h)⟩
theorem rnode1 (c : PCx) (A : List Nat) (m : Nat) (q : QSt) (w : World) (k : Nat) (tx : List UInt8) (x : Nat) (hm : m ≤ 5000) (h : QS c A m q w) :
    Calls Tryz.prog 54 #[.pointer (some ⟨c.g, 0, none⟩), .int .i64 (k : Int), .string (strL tx), .slice (some ⟨w.heap.size, 0, none⟩) 1 1] (w.alloc (.cells #[.int .i64 (x : Int)] 3)) (QRes c (pnode k tx [x]) nV A (m + 1) q w) :=
  (znode_any c A m q (w.alloc (.cells #[.int .i64 (x : Int)] 3)) k tx (.slice (some ⟨w.heap.size, 0, none⟩) 1 1) [x] hm (h.alloc _) (OwnJ.made w [x] 1 rfl (c.g + 1) h.lt (by omega)) (fun z hz hh => by
    have hz2 : w.heap.size = z := by injection hz
    have := (h.hA z hh).2
    omega)).mono fun e w' h2 => h2.pre (KA.of (Kept.alloc _ _ _))
theorem rnode2 (c : PCx) (A : List Nat) (m : Nat) (q : QSt) (w : World) (k : Nat) (tx : List UInt8) (x y : Nat) (hm : m ≤ 5000) (h : QS c A m q w) :
    Calls Tryz.prog 54 #[.pointer (some ⟨c.g, 0, none⟩), .int .i64 (k : Int), .string (strL tx), .slice (some ⟨w.heap.size, 0, none⟩) 2 2] (w.alloc (.cells #[.int .i64 (x : Int), .int .i64 (y : Int)] 3)) (QRes c (pnode k tx [x, y]) nV A (m + 1) q w) :=
  (znode_any c A m q (w.alloc (.cells #[.int .i64 (x : Int), .int .i64 (y : Int)] 3)) k tx (.slice (some ⟨w.heap.size, 0, none⟩) 2 2) [x, y] hm (h.alloc _) (OwnJ.made w [x, y] 2 rfl (c.g + 1) h.lt (by omega)) (fun z hz hh => by
    have hz2 : w.heap.size = z := by injection hz
    have := (h.hA z hh).2
    omega)).mono fun e w' h2 => h2.pre (KA.of (Kept.alloc _ _ _))
/-- Where a parser's memory says that it stands. -/
def atOfR (c : PCx) (w : World) : Nat := match w.cell? ⟨c.g, 1, none⟩ with
  | some (.int _ k) => k.toNat
  | _ => 0
theorem QS.meas {c : PCx} {A : List Nat} {m : Nat} {q : QSt} {w : World} (h : QS c A m q w) : c.l.length - atOfR c w = q.n := by
  obtain ⟨_, _, _, c1, _⟩ := h.open
  have := h.le
  unfold atOfR
  rw [c1]
  simp only [Int.toNat_natCast]
  omega
theorem KA.lessR {c : PCx} {A A2 : List Nat} {w w' : World} (h : KA c A w w') (h2 : ∀ z ∈ A2, z ∈ A) : KA c A2 w w' := by
  obtain ⟨ex, e1, e2⟩ := h
  exact ⟨ex, e1, fun z hz => ⟨fun hh => (e2 z hz).1 (h2 z hh), (e2 z hz).2⟩⟩
end Go.Proofs.YtfpdgdacifiejaaGreat

namespace Go.Proofs.YtfpdgdacifiejaaGreat
open Go.RowKit Go.Maps

set_option maxRecDepth 100000 in
set_option maxHeartbeats 8000000 in
theorem zplain_qc (c : PCx) (n : Nat) (hpl : QC c 156 (plainF n) n) (hval : QC c 85 (value n) n) : QC c 156 (plainF (n + 1)) (n + 1) := by
  intro A m q w hm hr h
  have HP := Lib.hid h
  have HM := Lib.hid (And.intro hm hr)
  have HL := Lib.hid hr
  have HK : Hid (KA c A w w) := KA.of (Kept.refl _ _)
  have HZ : Hid (∀ y q', QR (ifT (isSg [33]) (fun _ => pbind (plainF n) fun x => pnode 20 [] [x]) (ifT (isSg [40]) (fun _ => pbind (value n) fun x => pbind (must (isSg [41])) fun _ => prt x) (ifT (isKd 4) (fun t => pnode 13 t []) (ifT (isKd 5) (fun t => pnode 14 t []) (ifT (isKd 6) (fun t => pnode 15 t []) (ifT (isKd 3) (fun t => pnode 16 t []) (ifT (isKy [116, 114, 117, 101]) (fun _ => pnode 17 [] []) (ifT (isKy [102, 97, 108, 115, 101]) (fun _ => pnode 18 [] []) pfail)))))))) q y q' → QR (plainF (n + 1)) q y q') := fun _ _ h => h
  have HPL := Lib.hid hpl
  have HVA := Lib.hid hval
  clear h hm hr hpl hval
  go_enter Tryz.func156, Tryz.ntmps156
  go_wp2_with fail
  refine (zsign_any c A m q w [33] (by decide) HP.out).mono ?_
  rintro e w1 ⟨rfl, hk⟩
  have HP := Lib.hid (HP.out.keep hk)
  have HK := Lib.hid (HK.out.trans (KA.of hk) (fun _ h => h))
  obtain ⟨b, hb⟩ : ∃ b, qtk (isSg [33]) q = b := ⟨_, rfl⟩
  rw [hb]
  clear hk
  cases b
  case true =>
    obtain ⟨s, rfl, hs⟩ := qtk_good hb
    have HZ := Lib.hid (fun (y : _) (q' : QSt) (h : QR _ _ y q') => HZ.out y q' (QR.ifT_t hs h))
    have HT := Lib.hid (ztake_any c A m s w1 (tk_neR hs) HP.out)
    have HL : Hid ((QSt.good ⟨s.r.tail, s.ns⟩).n < n ∧ 1 ≤ m) := by
      have h1 := tk_lenR hs
      have h2 := HL.out
      have h3 := HP.out.pos hs
      refine ⟨?_, h3⟩
      show s.r.tail.length < n
      have h4 : (QSt.good s).n = s.r.length := rfl
      omega
    have HG : Hid (∀ s', QSt.good ⟨s.r.tail, s.ns⟩ = .good s' → 1 ≤ m) := fun _ _ => HL.out.2
    have HL := Lib.hid HL.out.1
    clear hs hb HP
    go_wp2_with fail
    refine HT.out.mono ?_
    rintro e w2 ⟨rfl, HT⟩
    have HP := Lib.hid HT.out.1
    have HK := Lib.hid (HK.out.trans HT.out.2 (fun _ h => h))
    clear HT
    unfold tV
    obtain ⟨tx, htx⟩ : ∃ t, hdT s.r = t := ⟨_, rfl⟩
    obtain ⟨q1, hq1⟩ : ∃ q1, QSt.good ⟨s.r.tail, s.ns⟩ = q1 := ⟨_, rfl⟩
    try rw [htx] at HZ
    try rw [htx]
    rw [hq1] at HZ HP HL HG
    clear htx hq1
    go_wp2_with fail
    refine (HPL.out A (m - 1) q1 w2 (by have := HM.out.1; omega) HL.out HP.out).mono ?_
    rintro e w3 ⟨x3, q3, rfl, H⟩
    have HZ := Lib.hid (fun (y : _) (q' : QSt) (h : QR _ _ y q') => HZ.out y q' (QR.bind H.out.1 h))
    have HL := Lib.hid (Nat.lt_of_le_of_lt (QR.le (Lc.plain n) H.out.1) HL.out)
    have HG := Lib.hid (QR.keep1 H.out.1 HG.out)
    have HK := Lib.hid (HK.out.trans H.out.2.2 (fun _ h => h))
    have HP := Lib.hid H.out.2.1
    clear H
    unfold nV
    go_wp2_with fail
    refine (rnode1 c A (m - 1) q3 w3 20 [] x3 (by have := HM.out.1; omega) HP.out).mono ?_
    rintro e w4 ⟨y, q', rfl, H⟩
    have HF := Lib.hid (And.intro (HZ.out _ _ H.out.1) (And.intro (H.out.2.1.more (n := m) (fun s e => by have := QR.keep1 H.out.1 HG.out s e; omega)) (HK.out.trans H.out.2.2 (fun _ h => h))))
    clear H
    unfold nV
    go_wp2_with fail
    go_ret
    exact ⟨y, q', rfl, HF.out⟩
  case false =>
    have HZ := Lib.hid (fun (y : _) (q' : QSt) (h : QR _ _ y q') => HZ.out y q' (QR.ifT_f hb h))
    clear hb
    go_wp2_with fail
    refine (zsign_any c A m q w1 [40] (by decide) HP.out).mono ?_
    rintro e w2 ⟨rfl, hk⟩
    have HP := Lib.hid (HP.out.keep hk)
    have HK := Lib.hid (HK.out.trans (KA.of hk) (fun _ h => h))
    obtain ⟨b, hb⟩ : ∃ b, qtk (isSg [40]) q = b := ⟨_, rfl⟩
    rw [hb]
    clear hk
    cases b
    case true =>
      obtain ⟨s, rfl, hs⟩ := qtk_good hb
      have HZ := Lib.hid (fun (y : _) (q' : QSt) (h : QR _ _ y q') => HZ.out y q' (QR.ifT_t hs h))
      have HT := Lib.hid (ztake_any c A m s w2 (tk_neR hs) HP.out)
      have HL : Hid ((QSt.good ⟨s.r.tail, s.ns⟩).n < n ∧ 1 ≤ m) := by
        have h1 := tk_lenR hs
        have h2 := HL.out
        have h3 := HP.out.pos hs
        refine ⟨?_, h3⟩
        show s.r.tail.length < n
        have h4 : (QSt.good s).n = s.r.length := rfl
        omega
      have HG : Hid (∀ s', QSt.good ⟨s.r.tail, s.ns⟩ = .good s' → 1 ≤ m) := fun _ _ => HL.out.2
      have HL := Lib.hid HL.out.1
      clear hs hb HP
      go_wp2_with fail
      refine HT.out.mono ?_
      rintro e w3 ⟨rfl, HT⟩
      have HP := Lib.hid HT.out.1
      have HK := Lib.hid (HK.out.trans HT.out.2 (fun _ h => h))
      clear HT
      unfold tV
      obtain ⟨tx, htx⟩ : ∃ t, hdT s.r = t := ⟨_, rfl⟩
      obtain ⟨q1, hq1⟩ : ∃ q1, QSt.good ⟨s.r.tail, s.ns⟩ = q1 := ⟨_, rfl⟩
      try rw [htx] at HZ
      try rw [htx]
      rw [hq1] at HZ HP HL HG
      clear htx hq1
      go_wp2_with fail
      refine (HVA.out A (m - 1) q1 w3 (by have := HM.out.1; omega) HL.out HP.out).mono ?_
      rintro e w4 ⟨x4, q4, rfl, H⟩
      have HZ := Lib.hid (fun (y : _) (q' : QSt) (h : QR _ _ y q') => HZ.out y q' (QR.bind H.out.1 h))
      have HL := Lib.hid (Nat.lt_of_le_of_lt (QR.le (Lc.value n) H.out.1) HL.out)
      have HG := Lib.hid (QR.keep1 H.out.1 HG.out)
      have HK := Lib.hid (HK.out.trans H.out.2.2 (fun _ h => h))
      have HP := Lib.hid H.out.2.1
      clear H
      unfold nV
      go_wp2_with fail
      refine (zsign_any c A (m - 1) q4 w4 [41] (by decide) HP.out).mono ?_
      rintro e w5 ⟨rfl, hk⟩
      have HP := Lib.hid (HP.out.keep hk)
      have HK := Lib.hid (HK.out.trans (KA.of hk) (fun _ h => h))
      clear hk
      go_wp2_with fail
      refine (zmust_any c A (m - 1) q4 w5 (isSg [41]) HP.out).mono ?_
      rintro e w6 ⟨x6, q6, rfl, H⟩
      have HZ := Lib.hid (fun (y : _) (q' : QSt) (h : QR _ _ y q') => HZ.out y q' (QR.bind H.out.1 h))
      have HL := Lib.hid (Nat.lt_of_le_of_lt (QR.le (Lc.must _) H.out.1) HL.out)
      have HG := Lib.hid (QR.keep1 H.out.1 HG.out)
      have HK := Lib.hid (HK.out.trans H.out.2.2 (fun _ h => h))
      have HP := Lib.hid H.out.2.1
      clear H
      unfold tV
      go_wp2_with fail
      have HF := Lib.hid (And.intro (HZ.out _ _ (QR.prt _ _)) (And.intro (HP.out.more (n := m) (fun s e => by omega)) HK.out))
      go_ret
      exact ⟨x4, _, rfl, HF.out⟩
    case false =>
      have HZ := Lib.hid (fun (y : _) (q' : QSt) (h : QR _ _ y q') => HZ.out y q' (QR.ifT_f hb h))
      clear hb
      go_wp2_with fail
      refine (zkd_any c A m q w2 4 HP.out).mono ?_
      rintro e w3 ⟨rfl, hk⟩
      have HP := Lib.hid (HP.out.keep hk)
      have HK := Lib.hid (HK.out.trans (KA.of hk) (fun _ h => h))
      obtain ⟨b, hb⟩ : ∃ b, qtk (isKd 4) q = b := ⟨_, rfl⟩
      rw [hb]
      clear hk
      cases b
      case true =>
        obtain ⟨s, rfl, hs⟩ := qtk_good hb
        have HZ := Lib.hid (fun (y : _) (q' : QSt) (h : QR _ _ y q') => HZ.out y q' (QR.ifT_t hs h))
        have HT := Lib.hid (ztake_any c A m s w3 (tk_neR hs) HP.out)
        have HL : Hid ((QSt.good ⟨s.r.tail, s.ns⟩).n < n ∧ 1 ≤ m) := by
          have h1 := tk_lenR hs
          have h2 := HL.out
          have h3 := HP.out.pos hs
          refine ⟨?_, h3⟩
          show s.r.tail.length < n
          have h4 : (QSt.good s).n = s.r.length := rfl
          omega
        have HG : Hid (∀ s', QSt.good ⟨s.r.tail, s.ns⟩ = .good s' → 1 ≤ m) := fun _ _ => HL.out.2
        have HL := Lib.hid HL.out.1
        clear hs hb HP
        go_wp2_with fail
        refine HT.out.mono ?_
        rintro e w4 ⟨rfl, HT⟩
        have HP := Lib.hid HT.out.1
        have HK := Lib.hid (HK.out.trans HT.out.2 (fun _ h => h))
        clear HT
        unfold tV
        obtain ⟨tx, htx⟩ : ∃ t, hdT s.r = t := ⟨_, rfl⟩
        obtain ⟨q1, hq1⟩ : ∃ q1, QSt.good ⟨s.r.tail, s.ns⟩ = q1 := ⟨_, rfl⟩
        try rw [htx] at HZ
        try rw [htx]
        rw [hq1] at HZ HP HL HG
        clear htx hq1
        go_wp2_with fail
        refine (rnode0 c A (m - 1) q1 w4 13 tx  (by have := HM.out.1; omega) HP.out).mono ?_
        rintro e w5 ⟨y, q', rfl, H⟩
        have HF := Lib.hid (And.intro (HZ.out _ _ H.out.1) (And.intro (H.out.2.1.more (n := m) (fun s e => by have := QR.keep1 H.out.1 HG.out s e; omega)) (HK.out.trans H.out.2.2 (fun _ h => h))))
        clear H
        unfold nV
        go_wp2_with fail
        go_ret
        exact ⟨y, q', rfl, HF.out⟩
      case false =>
        have HZ := Lib.hid (fun (y : _) (q' : QSt) (h : QR _ _ y q') => HZ.out y q' (QR.ifT_f hb h))
        clear hb
        go_wp2_with fail
        refine (zkd_any c A m q w3 5 HP.out).mono ?_
        rintro e w4 ⟨rfl, hk⟩
        have HP := Lib.hid (HP.out.keep hk)
        have HK := Lib.hid (HK.out.trans (KA.of hk) (fun _ h => h))
        obtain ⟨b, hb⟩ : ∃ b, qtk (isKd 5) q = b := ⟨_, rfl⟩
        rw [hb]
        clear hk
        cases b
        case true =>
          obtain ⟨s, rfl, hs⟩ := qtk_good hb
          have HZ := Lib.hid (fun (y : _) (q' : QSt) (h : QR _ _ y q') => HZ.out y q' (QR.ifT_t hs h))
          have HT := Lib.hid (ztake_any c A m s w4 (tk_neR hs) HP.out)
          have HL : Hid ((QSt.good ⟨s.r.tail, s.ns⟩).n < n ∧ 1 ≤ m) := by
            have h1 := tk_lenR hs
            have h2 := HL.out
            have h3 := HP.out.pos hs
            refine ⟨?_, h3⟩
            show s.r.tail.length < n
            have h4 : (QSt.good s).n = s.r.length := rfl
            omega
          have HG : Hid (∀ s', QSt.good ⟨s.r.tail, s.ns⟩ = .good s' → 1 ≤ m) := fun _ _ => HL.out.2
          have HL := Lib.hid HL.out.1
          clear hs hb HP
          go_wp2_with fail
          refine HT.out.mono ?_
          rintro e w5 ⟨rfl, HT⟩
          have HP := Lib.hid HT.out.1
          have HK := Lib.hid (HK.out.trans HT.out.2 (fun _ h => h))
          clear HT
          unfold tV
          obtain ⟨tx, htx⟩ : ∃ t, hdT s.r = t := ⟨_, rfl⟩
          obtain ⟨q1, hq1⟩ : ∃ q1, QSt.good ⟨s.r.tail, s.ns⟩ = q1 := ⟨_, rfl⟩
          try rw [htx] at HZ
          try rw [htx]
          rw [hq1] at HZ HP HL HG
          clear htx hq1
          go_wp2_with fail
          refine (rnode0 c A (m - 1) q1 w5 14 tx  (by have := HM.out.1; omega) HP.out).mono ?_
          rintro e w6 ⟨y, q', rfl, H⟩
          have HF := Lib.hid (And.intro (HZ.out _ _ H.out.1) (And.intro (H.out.2.1.more (n := m) (fun s e => by have := QR.keep1 H.out.1 HG.out s e; omega)) (HK.out.trans H.out.2.2 (fun _ h => h))))
          clear H
          unfold nV
          go_wp2_with fail
          go_ret
          exact ⟨y, q', rfl, HF.out⟩
        case false =>
          have HZ := Lib.hid (fun (y : _) (q' : QSt) (h : QR _ _ y q') => HZ.out y q' (QR.ifT_f hb h))
          clear hb
          go_wp2_with fail
          refine (zkd_any c A m q w4 6 HP.out).mono ?_
          rintro e w5 ⟨rfl, hk⟩
          have HP := Lib.hid (HP.out.keep hk)
          have HK := Lib.hid (HK.out.trans (KA.of hk) (fun _ h => h))
          obtain ⟨b, hb⟩ : ∃ b, qtk (isKd 6) q = b := ⟨_, rfl⟩
          rw [hb]
          clear hk
          cases b
          case true =>
            obtain ⟨s, rfl, hs⟩ := qtk_good hb
            have HZ := Lib.hid (fun (y : _) (q' : QSt) (h : QR _ _ y q') => HZ.out y q' (QR.ifT_t hs h))
            have HT := Lib.hid (ztake_any c A m s w5 (tk_neR hs) HP.out)
            have HL : Hid ((QSt.good ⟨s.r.tail, s.ns⟩).n < n ∧ 1 ≤ m) := by
              have h1 := tk_lenR hs
              have h2 := HL.out
              have h3 := HP.out.pos hs
              refine ⟨?_, h3⟩
              show s.r.tail.length < n
              have h4 : (QSt.good s).n = s.r.length := rfl
              omega
            have HG : Hid (∀ s', QSt.good ⟨s.r.tail, s.ns⟩ = .good s' → 1 ≤ m) := fun _ _ => HL.out.2
            have HL := Lib.hid HL.out.1
            clear hs hb HP
            go_wp2_with fail
            refine HT.out.mono ?_
            rintro e w6 ⟨rfl, HT⟩
            have HP := Lib.hid HT.out.1
            have HK := Lib.hid (HK.out.trans HT.out.2 (fun _ h => h))
            clear HT
            unfold tV
            obtain ⟨tx, htx⟩ : ∃ t, hdT s.r = t := ⟨_, rfl⟩
            obtain ⟨q1, hq1⟩ : ∃ q1, QSt.good ⟨s.r.tail, s.ns⟩ = q1 := ⟨_, rfl⟩
            try rw [htx] at HZ
            try rw [htx]
            rw [hq1] at HZ HP HL HG
            clear htx hq1
            go_wp2_with fail
            refine (rnode0 c A (m - 1) q1 w6 15 tx  (by have := HM.out.1; omega) HP.out).mono ?_
            rintro e w7 ⟨y, q', rfl, H⟩
            have HF := Lib.hid (And.intro (HZ.out _ _ H.out.1) (And.intro (H.out.2.1.more (n := m) (fun s e => by have := QR.keep1 H.out.1 HG.out s e; omega)) (HK.out.trans H.out.2.2 (fun _ h => h))))
            clear H
            unfold nV
            go_wp2_with fail
            go_ret
            exact ⟨y, q', rfl, HF.out⟩
          case false =>
            have HZ := Lib.hid (fun (y : _) (q' : QSt) (h : QR _ _ y q') => HZ.out y q' (QR.ifT_f hb h))
            clear hb
            go_wp2_with fail
            refine (zkd_any c A m q w5 3 HP.out).mono ?_
            rintro e w6 ⟨rfl, hk⟩
            have HP := Lib.hid (HP.out.keep hk)
            have HK := Lib.hid (HK.out.trans (KA.of hk) (fun _ h => h))
            obtain ⟨b, hb⟩ : ∃ b, qtk (isKd 3) q = b := ⟨_, rfl⟩
            rw [hb]
            clear hk
            cases b
            case true =>
              obtain ⟨s, rfl, hs⟩ := qtk_good hb
              have HZ := Lib.hid (fun (y : _) (q' : QSt) (h : QR _ _ y q') => HZ.out y q' (QR.ifT_t hs h))
              have HT := Lib.hid (ztake_any c A m s w6 (tk_neR hs) HP.out)
              have HL : Hid ((QSt.good ⟨s.r.tail, s.ns⟩).n < n ∧ 1 ≤ m) := by
                have h1 := tk_lenR hs
                have h2 := HL.out
                have h3 := HP.out.pos hs
                refine ⟨?_, h3⟩
                show s.r.tail.length < n
                have h4 : (QSt.good s).n = s.r.length := rfl
                omega
              have HG : Hid (∀ s', QSt.good ⟨s.r.tail, s.ns⟩ = .good s' → 1 ≤ m) := fun _ _ => HL.out.2
              have HL := Lib.hid HL.out.1
              clear hs hb HP
              go_wp2_with fail
              refine HT.out.mono ?_
              rintro e w7 ⟨rfl, HT⟩
              have HP := Lib.hid HT.out.1
              have HK := Lib.hid (HK.out.trans HT.out.2 (fun _ h => h))
              clear HT
              unfold tV
              obtain ⟨tx, htx⟩ : ∃ t, hdT s.r = t := ⟨_, rfl⟩
              obtain ⟨q1, hq1⟩ : ∃ q1, QSt.good ⟨s.r.tail, s.ns⟩ = q1 := ⟨_, rfl⟩
              try rw [htx] at HZ
              try rw [htx]
              rw [hq1] at HZ HP HL HG
              clear htx hq1
              go_wp2_with fail
              refine (rnode0 c A (m - 1) q1 w7 16 tx  (by have := HM.out.1; omega) HP.out).mono ?_
              rintro e w8 ⟨y, q', rfl, H⟩
              have HF := Lib.hid (And.intro (HZ.out _ _ H.out.1) (And.intro (H.out.2.1.more (n := m) (fun s e => by have := QR.keep1 H.out.1 HG.out s e; omega)) (HK.out.trans H.out.2.2 (fun _ h => h))))
              clear H
              unfold nV
              go_wp2_with fail
              go_ret
              exact ⟨y, q', rfl, HF.out⟩
            case false =>
              have HZ := Lib.hid (fun (y : _) (q' : QSt) (h : QR _ _ y q') => HZ.out y q' (QR.ifT_f hb h))
              clear hb
              go_wp2_with fail
              refine (zkey_any c A m q w6 [116, 114, 117, 101] (by decide) HP.out).mono ?_
              rintro e w7 ⟨rfl, hk⟩
              have HP := Lib.hid (HP.out.keep hk)
              have HK := Lib.hid (HK.out.trans (KA.of hk) (fun _ h => h))
              obtain ⟨b, hb⟩ : ∃ b, qtk (isKy [116, 114, 117, 101]) q = b := ⟨_, rfl⟩
              rw [hb]
              clear hk
              cases b
              case true =>
                obtain ⟨s, rfl, hs⟩ := qtk_good hb
                have HZ := Lib.hid (fun (y : _) (q' : QSt) (h : QR _ _ y q') => HZ.out y q' (QR.ifT_t hs h))
                have HT := Lib.hid (ztake_any c A m s w7 (tk_neR hs) HP.out)
                have HL : Hid ((QSt.good ⟨s.r.tail, s.ns⟩).n < n ∧ 1 ≤ m) := by
                  have h1 := tk_lenR hs
                  have h2 := HL.out
                  have h3 := HP.out.pos hs
                  refine ⟨?_, h3⟩
                  show s.r.tail.length < n
                  have h4 : (QSt.good s).n = s.r.length := rfl
                  omega
                have HG : Hid (∀ s', QSt.good ⟨s.r.tail, s.ns⟩ = .good s' → 1 ≤ m) := fun _ _ => HL.out.2
                have HL := Lib.hid HL.out.1
                clear hs hb HP
                go_wp2_with fail
                refine HT.out.mono ?_
                rintro e w8 ⟨rfl, HT⟩
                have HP := Lib.hid HT.out.1
                have HK := Lib.hid (HK.out.trans HT.out.2 (fun _ h => h))
                clear HT
                unfold tV
                obtain ⟨tx, htx⟩ : ∃ t, hdT s.r = t := ⟨_, rfl⟩
                obtain ⟨q1, hq1⟩ : ∃ q1, QSt.good ⟨s.r.tail, s.ns⟩ = q1 := ⟨_, rfl⟩
                try rw [htx] at HZ
                try rw [htx]
                rw [hq1] at HZ HP HL HG
                clear htx hq1
                go_wp2_with fail
                refine (rnode0 c A (m - 1) q1 w8 17 []  (by have := HM.out.1; omega) HP.out).mono ?_
                rintro e w9 ⟨y, q', rfl, H⟩
                have HF := Lib.hid (And.intro (HZ.out _ _ H.out.1) (And.intro (H.out.2.1.more (n := m) (fun s e => by have := QR.keep1 H.out.1 HG.out s e; omega)) (HK.out.trans H.out.2.2 (fun _ h => h))))
                clear H
                unfold nV
                go_wp2_with fail
                go_ret
                exact ⟨y, q', rfl, HF.out⟩
              case false =>
                have HZ := Lib.hid (fun (y : _) (q' : QSt) (h : QR _ _ y q') => HZ.out y q' (QR.ifT_f hb h))
                clear hb
                go_wp2_with fail
                refine (zkey_any c A m q w7 [102, 97, 108, 115, 101] (by decide) HP.out).mono ?_
                rintro e w8 ⟨rfl, hk⟩
                have HP := Lib.hid (HP.out.keep hk)
                have HK := Lib.hid (HK.out.trans (KA.of hk) (fun _ h => h))
                obtain ⟨b, hb⟩ : ∃ b, qtk (isKy [102, 97, 108, 115, 101]) q = b := ⟨_, rfl⟩
                rw [hb]
                clear hk
                cases b
                case true =>
                  obtain ⟨s, rfl, hs⟩ := qtk_good hb
                  have HZ := Lib.hid (fun (y : _) (q' : QSt) (h : QR _ _ y q') => HZ.out y q' (QR.ifT_t hs h))
                  have HT := Lib.hid (ztake_any c A m s w8 (tk_neR hs) HP.out)
                  have HL : Hid ((QSt.good ⟨s.r.tail, s.ns⟩).n < n ∧ 1 ≤ m) := by
                    have h1 := tk_lenR hs
                    have h2 := HL.out
                    have h3 := HP.out.pos hs
                    refine ⟨?_, h3⟩
                    show s.r.tail.length < n
                    have h4 : (QSt.good s).n = s.r.length := rfl
                    omega
                  have HG : Hid (∀ s', QSt.good ⟨s.r.tail, s.ns⟩ = .good s' → 1 ≤ m) := fun _ _ => HL.out.2
                  have HL := Lib.hid HL.out.1
                  clear hs hb HP
                  go_wp2_with fail
                  refine HT.out.mono ?_
                  rintro e w9 ⟨rfl, HT⟩
                  have HP := Lib.hid HT.out.1
                  have HK := Lib.hid (HK.out.trans HT.out.2 (fun _ h => h))
                  clear HT
                  unfold tV
                  obtain ⟨tx, htx⟩ : ∃ t, hdT s.r = t := ⟨_, rfl⟩
                  obtain ⟨q1, hq1⟩ : ∃ q1, QSt.good ⟨s.r.tail, s.ns⟩ = q1 := ⟨_, rfl⟩
                  try rw [htx] at HZ
                  try rw [htx]
                  rw [hq1] at HZ HP HL HG
                  clear htx hq1
                  go_wp2_with fail
                  refine (rnode0 c A (m - 1) q1 w9 18 []  (by have := HM.out.1; omega) HP.out).mono ?_
                  rintro e w10 ⟨y, q', rfl, H⟩
                  have HF := Lib.hid (And.intro (HZ.out _ _ H.out.1) (And.intro (H.out.2.1.more (n := m) (fun s e => by have := QR.keep1 H.out.1 HG.out s e; omega)) (HK.out.trans H.out.2.2 (fun _ h => h))))
                  clear H
                  unfold nV
                  go_wp2_with fail
                  go_ret
                  exact ⟨y, q', rfl, HF.out⟩
                case false =>
                  have HZ := Lib.hid (fun (y : _) (q' : QSt) (h : QR _ _ y q') => HZ.out y q' (QR.ifT_f hb h))
                  have HO := Lib.hid (HP.out.over (m2 := m))
                  obtain ⟨v, ns, _, _, c2, _, fz, _, _, _⟩ := HP.out.open
                  have f2 := fz 2
                  have hfz := fz
                  clear hb fz
                  go_wp2_with fail
                  go_ret
                  exact ⟨0, _, rfl, HZ.out _ _ (QR.fail 0 _), HO.out.1, HK.out.trans HO.out.2 (fun _ h => h)⟩
end Go.Proofs.YtfpdgdacifiejaaGreat

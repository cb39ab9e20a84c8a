/-
  Layer 12: the parser lays a node.
  Conditions: those that the theorem states.
-/
import Derived.Test.YtfpdgdacifiejaaGreatWPg
namespace Go.Proofs.YtfpdgdacifiejaaGreat
open Go.RowKit Go.Maps

set_option maxRecDepth 100000 in
set_option maxHeartbeats 4000000 in
theorem ynode_any (c : PCx) (A : List Nat) (m : Nat) (s : PSt) (w : World) (k : Nat) (tx : List UInt8) (lv : Value) (ks : List Nat) (hm : m ≤ 5000) (h : PrSt c (lv.ownBlock.toList ++ A) m s w) (ho : OwnJ (c.g + 1) w lv ks) (hlv : ∀ q, lv.ownBlock = some q → q ∉ A) :
    Calls Tryz.prog 40 #[.pointer (some ⟨c.g, 0, none⟩), .int .i64 (k : Int), .string (strL tx), lv] w (PRes c (pnode k tx ks s) nV A (m + 1) w) := by
  obtain ⟨nv, c0, c1, c2, fz, hnd, hrow⟩ := h.open
  have hfew := h.few
  have hlt := h.lt
  obtain ⟨v', w2, hrun, hnds, hk2, ⟨ao, cap, hv'⟩, hnv⟩ := hnd.app (A := A) (fun q hq => ⟨by simp [hq], (h.hA q (by simp [hq])).2⟩) hlt ho hlv k tx (by omega)
  obtain ⟨w1, hw1⟩ : ∃ w1, w.alloc (.cells #[.int .i64 (k : Int), .string (strL tx), lv] 41) = w1 := ⟨_, rfl⟩
  rw [hw1] at hrun hk2
  have hk1 : Kept [] w w1 := by rw [← hw1]; exact Kept.alloc _ _ _
  have hgx : c.g ∉ nv.ownBlock.toList := fun hh => by simp at hh; have := (hnv _ hh).1; omega
  have hrow2 := hk2.heap hgx (hk1.heap (by simp) hrow)
  have HRUN := Lib.hid hrun
  have d2 : w2.cell? ⟨c.g, 2, none⟩ = some nv := cell_of_row _ _ 2 _ _ _ hrow2
  have f2 : ∀ q, w2.frozen? ⟨c.g, q, none⟩ = false := fun q => frozen_of_row _ _ q _ _ hrow2
  obtain ⟨w3, hw3⟩ : ∃ w3, w2.setCell ⟨c.g, 2, none⟩ v' = w3 := ⟨_, rfl⟩
  have hk3 : Kept [c.g] w2 w3 := by rw [← hw3]; exact Kept.setCell _ _ _ _ (by simp)
  have hrow3 : w3.heap[c.g]? = some (.cells #[c.va, .int .i64 ((c.l.length - s.r.length : Nat) : Int), v'] 53) := by rw [← hw3]; exact row_setJ hrow2 2 v'
  obtain ⟨n, hn⟩ : ∃ n, s.ns.length = n := ⟨_, rfl⟩
  have hn5 : n ≤ 5000 := by omega
  have hwr : IntKind.i64.wrap (((n + 1 : Nat) : Int) - 1) = (n : Int) := by rw [IntKind.wrap_i64]; omega
  have e3 : w3.cell? ⟨c.g, 2, none⟩ = some v' := cell_of_row _ _ 2 _ _ _ hrow3
  rw [hn] at hv'
  have hex : ∀ q ∈ c.g :: nv.ownBlock.toList, q ∉ A ∧ c.g ≤ q := fun q hq => by
    rcases List.mem_cons.1 hq with rfl | hq
    · exact ⟨fun hh => by have := (h.hA c.g (by simp [hh])).1; omega, Nat.le_refl _⟩
    · simp at hq
      exact ⟨fun hh => (hnv q hq).2 (by simp [hh]), Nat.le_of_lt (hnv q hq).1⟩
  have hkall : Kept (c.g :: nv.ownBlock.toList) w w3 := ((hk1.mono (by simp)).trans (hk2.mono (by intro q hq _; simp [hq]))).trans (hk3.mono (by intro q hq _; simp at hq; simp [hq]))
  have HFIN : Hid (PrSt c A (m + 1) ⟨s.r, s.ns ++ [⟨k, tx, ks⟩]⟩ w3 ∧ KA c A w w3) := by
    refine ⟨⟨h.hg, fun q hq => ⟨(h.hA q (by simp [hq])).1, Nat.lt_of_lt_of_le (h.hA q (by simp [hq])).2 hkall.size⟩, ⟨v', hrow3, ?_⟩, h.suf, h.le, by simp; omega, h.tk, h.kept.into hkall (fun q hq => Nat.le_trans h.hg (hex q hq).2)⟩, ⟨_, hkall, hex⟩⟩
    obtain ⟨L, hL, hno, hva, hxx⟩ := hnds.out
    refine ⟨L, hL, owns_kept hno hk3 (fun q hq hh => ?_), hva, fun x hx => ⟨(hxx x hx).1.keptX hk3 (fun q hq hh => ?_), (hxx x hx).2⟩⟩
    · have := (hno.lt q hq).1; simp at hh; omega
    · have := ((hxx x hx).1.blk q hq).1; simp at hh; omega
  obtain ⟨la, lc, hlv2⟩ := ho.slice
  obtain ⟨na, nn, nc, hnv2⟩ : ∃ na nn nc, nv = .slice na nn nc := by
    obtain ⟨L, _, hno, _⟩ := hnd.out
    obtain ⟨a, b, e⟩ := own_slice hno
    exact ⟨_, _, _, e⟩
  rw [hnv2] at c2 HRUN d2
  rw [hlv2] at hw1
  rw [hlv2]
  have HN := Lib.hid hn
  rw [hv'] at e3 hw3 HRUN
  have hnc : pnode k tx ks s = .ok ⟨s.r, s.ns ++ [⟨k, tx, ks⟩]⟩ n := by unfold pnode; rw [hn]
  have HNC := Lib.hid hnc
  clear h hfew hlt hnds hk2 hnv hv' hk1 hgx hrow2 hrun hk3 hrow3 hn hex hkall hnc c0 c1 fz hnd hrow ho hlv hlv2 hnv2
  go_enter Tryz.func40, Tryz.ntmps40
  go_wp2_with (at_builtin; refine wpList_append_run rfl _ _ 27 rfl _ _ _ rfl rfl HRUN.out ?_)
  go_ret
  exact PRes.ok HNC.out rfl HFIN.out.1 HFIN.out.2
end Go.Proofs.YtfpdgdacifiejaaGreat

/-
  Layer 12: the parser lays a node.
  Conditions: those that the theorem states.
-/
import Derived.Test.YtlbenaodpfhjeaaVPrim
namespace Go.Proofs.Ytlbenaodpfhjeaa
open Go.RowKit Go.Maps

theorem own_slice {w : World} {base : Nat} {e : TypeId} {size : Nat} {v : Value} {n : Nat} {xs : List Value} (h : w.ownsRow base e size v n xs) : ∃ ao cap, v = .slice ao n cap := by
  obtain ⟨_, ⟨rfl, h2⟩ | ⟨g, cap, cur, e, _⟩⟩ := h
  · exact ⟨none, 0, by rw [h2]⟩
  · exact ⟨_, _, e⟩
/-- A node that lies in a new block is appended. -/
theorem NdsIs.app {c : PCx} {A1 A : List Nat} {w : World} {nv lv : Value} {ns : List Nod} {ks : List Nat} (h : NdsIs c A1 w nv ns) (hA : ∀ q ∈ A, q ∈ A1 ∧ q < w.heap.size) (hc : c.g < w.heap.size) (ho : OwnJ (c.g + 1) w lv ks) (hlv : ∀ q, lv.ownBlock = some q → q ∉ A) (k : Nat) (tx : List UInt8) (hl : ns.length ≤ 5000) :
    ∃ v' w', (Builtin.append_ #[23, 23] 23 #[nv, .slice (some ⟨w.heap.size, 0, none⟩) 1 1]).run Try.prog (w.alloc (.cells #[.int .i64 (k : Int), .string (strL tx), lv] 33)) = .ok v' w' ∧
      NdsIs c A w' v' (ns ++ [⟨k, tx, ks⟩]) ∧ Kept nv.ownBlock.toList (w.alloc (.cells #[.int .i64 (k : Int), .string (strL tx), lv] 33)) w' ∧ (∃ ao cap, v' = .slice ao (ns.length + 1) cap) ∧ (∀ q, nv.ownBlock = some q → c.g < q ∧ q ∉ A1) := by
  obtain ⟨L, hL, hn, hv, hx⟩ := h.out
  have hlen : L.length = ns.length := by rw [← hL]; simp
  obtain ⟨w1, hw1⟩ : ∃ w1, w.alloc (.cells #[.int .i64 (k : Int), .string (strL tx), lv] 33) = w1 := ⟨_, rfl⟩
  have hk1 : Kept [] w w1 := by rw [← hw1]; exact Kept.alloc _ _ _
  have hc1 : w1.heap[w.heap.size]? = some (.cells #[.int .i64 (k : Int), .string (strL tx), lv] 33) := by rw [← hw1]; exact heap_alloc_last _ _
  have hs1 : w1.heap.size = w.heap.size + 1 := by rw [← hw1, size_alloc]
  have hone : ∀ u ∈ ndcv [((⟨k, tx, ks⟩ : Nod), lv)], u.oneCell' = true := by
    obtain ⟨ao, cap, e⟩ := ho.slice
    intro u hu
    simp only [ndcv, List.mem_cons, List.not_mem_nil, or_false] at hu
    rcases hu with rfl | rfl | rfl
    · rfl
    · rfl
    · rw [e]; rfl
  obtain ⟨v', w', hrun, hown, hk, hor⟩ := own_app elemNd 23 w1 (c.g + 1) nv L.length (ndcv L) (owns_kept hn hk1 (by simp)) ⟨w.heap.size, 0, none⟩ 1 1 (ndcv [((⟨k, tx, ks⟩ : Nod), lv)]) rfl
    (fun j u hu => by
      rw [Addr.add_mid, Nat.zero_add, cell_of_row _ _ j _ _ _ hc1]
      simpa [ndcv] using hu) hone (by unfold maxLen; omega) (by omega) (by omega)
  have hnv : ∀ q, nv.ownBlock = some q → c.g < q ∧ q < w.heap.size ∧ q ∉ A1 := fun q hq => ⟨(hn.lt q hq).1, (hn.lt q hq).2, hv q hq⟩
  have hnx : ∀ q, nv.ownBlock = some q → lv.ownBlock ≠ some q := own_apart hn ho (by decide)
  rw [hw1]
  refine ⟨v', w', hrun, ⟨L ++ [((⟨k, tx, ks⟩ : Nod), lv)], by simp [hL], ?_, fun q hq hm => ?_, fun x hxm => ?_⟩, hk, ?_, fun q hq => ⟨(hnv q hq).1, (hnv q hq).2.2⟩⟩
  · rw [List.length_append, ndcv_append]
    exact hown
  · rcases hor with e | e
    · rw [e] at hq
      exact (hnv q hq).2.2 (hA q hm).1
    · rw [e] at hq
      injection hq with hq
      have := (hA q hm).2
      omega
  · rcases List.mem_append.1 hxm with hxm | hxm
    · obtain ⟨h1, h2⟩ := hx x hxm
      refine ⟨(h1.kept hk1).keptX hk (fun q hq hm => ?_), fun q hq hm => h2 q hq (hA q hm).1⟩
      simp at hm
      exact own_apart hn h1 (by decide) q hm hq
    · simp only [List.mem_singleton] at hxm
      subst hxm
      refine ⟨(ho.kept hk1).keptX hk (fun q hq hm => ?_), hlv⟩
      simp at hm
      exact hnx q hm hq
  · obtain ⟨h1, ⟨rfl, h2⟩ | ⟨g, cap, cur, e, _⟩⟩ := hown
    · omega
    · exact ⟨_, _, by rw [e, hlen]⟩

set_option maxRecDepth 100000 in
set_option maxHeartbeats 4000000 in
theorem ynode_any (c : PCx) (A : List Nat) (m : Nat) (s : PSt) (w : World) (k : Nat) (tx : List UInt8) (lv : Value) (ks : List Nat) (hm : m ≤ 5000) (h : PrSt c (lv.ownBlock.toList ++ A) m s w) (ho : OwnJ (c.g + 1) w lv ks) (hlv : ∀ q, lv.ownBlock = some q → q ∉ A) :
    Calls Try.prog 15 #[.pointer (some ⟨c.g, 0, none⟩), .int .i64 (k : Int), .string (strL tx), lv] w (PRes c (pnode k tx ks s) nV A (m + 1) w) := by
  obtain ⟨nv, c0, c1, c2, fz, hnd, hrow⟩ := h.open
  have hfew := h.few
  have hlt := h.lt
  obtain ⟨v', w2, hrun, hnds, hk2, ⟨ao, cap, hv'⟩, hnv⟩ := hnd.app (A := A) (fun q hq => ⟨by simp [hq], (h.hA q (by simp [hq])).2⟩) hlt ho hlv k tx (by omega)
  obtain ⟨w1, hw1⟩ : ∃ w1, w.alloc (.cells #[.int .i64 (k : Int), .string (strL tx), lv] 33) = w1 := ⟨_, rfl⟩
  rw [hw1] at hrun hk2
  have hk1 : Kept [] w w1 := by rw [← hw1]; exact Kept.alloc _ _ _
  have hgx : c.g ∉ nv.ownBlock.toList := fun hh => by simp at hh; have := (hnv _ hh).1; omega
  have hrow2 := hk2.heap hgx (hk1.heap (by simp) hrow)
  have HRUN := Lib.hid hrun
  have d2 : w2.cell? ⟨c.g, 2, none⟩ = some nv := cell_of_row _ _ 2 _ _ _ hrow2
  have f2 : ∀ q, w2.frozen? ⟨c.g, q, none⟩ = false := fun q => frozen_of_row _ _ q _ _ hrow2
  obtain ⟨w3, hw3⟩ : ∃ w3, w2.setCell ⟨c.g, 2, none⟩ v' = w3 := ⟨_, rfl⟩
  have hk3 : Kept [c.g] w2 w3 := by rw [← hw3]; exact Kept.setCell _ _ _ _ (by simp)
  have hrow3 : w3.heap[c.g]? = some (.cells #[c.va, .int .i64 ((c.l.length - s.r.length : Nat) : Int), v'] 41) := by rw [← hw3]; exact row_setJ hrow2 2 v'
  obtain ⟨n, hn⟩ : ∃ n, s.ns.length = n := ⟨_, rfl⟩
  have hn5 : n ≤ 5000 := by omega
  have hwr : IntKind.i64.wrap (((n + 1 : Nat) : Int) - 1) = (n : Int) := by rw [IntKind.wrap_i64]; omega
  have e3 : w3.cell? ⟨c.g, 2, none⟩ = some v' := cell_of_row _ _ 2 _ _ _ hrow3
  rw [hn] at hv'
  have hex : ∀ q ∈ c.g :: nv.ownBlock.toList, q ∉ A ∧ c.g ≤ q := fun q hq => by
    rcases List.mem_cons.1 hq with rfl | hq
    · exact ⟨fun hh => by have := (h.hA c.g (by simp [hh])).1; omega, Nat.le_refl _⟩
    · simp at hq
      exact ⟨fun hh => (hnv q hq).2 (by simp [hh]), Nat.le_of_lt (hnv q hq).1⟩
  have hkall : Kept (c.g :: nv.ownBlock.toList) w w3 := ((hk1.mono (by simp)).trans (hk2.mono (by intro q hq _; simp [hq]))).trans (hk3.mono (by intro q hq _; simp at hq; simp [hq]))
  have HFIN : Hid (PrSt c A (m + 1) ⟨s.r, s.ns ++ [⟨k, tx, ks⟩]⟩ w3 ∧ KA c A w w3) := by
    refine ⟨⟨h.hg, fun q hq => ⟨(h.hA q (by simp [hq])).1, Nat.lt_of_lt_of_le (h.hA q (by simp [hq])).2 hkall.size⟩, ⟨v', hrow3, ?_⟩, h.suf, h.le, by simp; omega, h.tk, h.kept.into hkall (fun q hq => Nat.le_trans h.hg (hex q hq).2)⟩, ⟨_, hkall, hex⟩⟩
    obtain ⟨L, hL, hno, hva, hxx⟩ := hnds.out
    refine ⟨L, hL, owns_kept hno hk3 (fun q hq hh => ?_), hva, fun x hx => ⟨(hxx x hx).1.keptX hk3 (fun q hq hh => ?_), (hxx x hx).2⟩⟩
    · have := (hno.lt q hq).1; simp at hh; omega
    · have := ((hxx x hx).1.blk q hq).1; simp at hh; omega
  obtain ⟨la, lc, hlv2⟩ := ho.slice
  obtain ⟨na, nn, nc, hnv2⟩ : ∃ na nn nc, nv = .slice na nn nc := by
    obtain ⟨L, _, hno, _⟩ := hnd.out
    obtain ⟨a, b, e⟩ := own_slice hno
    exact ⟨_, _, _, e⟩
  rw [hnv2] at c2 HRUN d2
  rw [hlv2] at hw1
  rw [hlv2]
  have HN := Lib.hid hn
  rw [hv'] at e3 hw3 HRUN
  have hnc : pnode k tx ks s = .ok ⟨s.r, s.ns ++ [⟨k, tx, ks⟩]⟩ n := by unfold pnode; rw [hn]
  have HNC := Lib.hid hnc
  clear h hfew hlt hnds hk2 hnv hv' hk1 hgx hrow2 hrun hk3 hrow3 hn hex hkall hnc c0 c1 fz hnd hrow ho hlv hlv2 hnv2
  go_enter Try.func15, Try.ntmps15
  go_wp2_with (at_builtin; refine wpList_append_run rfl _ _ 23 rfl _ _ _ rfl rfl HRUN.out ?_)
  go_ret
  exact PRes.ok HNC.out rfl HFIN.out.1 HFIN.out.2
end Go.Proofs.Ytlbenaodpfhjeaa

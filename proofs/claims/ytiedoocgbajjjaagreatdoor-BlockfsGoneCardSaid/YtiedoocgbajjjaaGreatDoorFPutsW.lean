/-
  The helpers of layer 2's statements: among, full, ground; and a commit on a disk without a fuse.
  Conditions: those that each theorem states.
  Layer 4: a journal on a disk that answers: Commit of a group.
  Conditions: those that each theorem states.
  Layer 4: a row of writes of the call's own, each one's bytes in a block of their own.
  Conditions: those that each theorem states.
  Layer 4: puts: the walk.
  Conditions: those that each theorem states.
-/
import Derived.Test.YtiedoocgbajjjaaGreatDoorLTakeE
import Derived.Test.YtiedoocgbajjjaaGreatDoorPure
import Derived.Test.YtiedoocgbajjjaaGreatDoorTKit
import Derived.Test.YtiedoocgbajjjaaGreatDoorFPutN
import Derived.Test.YtiedoocgbajjjaaGreatDoorFInode
import Derived.Test.YtiedoocgbajjjaaGreatDoorFCut
namespace Go.Proofs.YtiedoocgbajjjaaGreatDoor
open Go.RowKit Go.Maps
set_option maxRecDepth 100000

def kindF (c n : Int) : Int := (if c < 0 then -(c+1) else c) % n
theorem kindF_range (c n : Int) (hn : 0 < n) : 0 ≤ kindF c n ∧ kindF c n < n := ⟨Int.emod_nonneg _ (by omega), Int.emod_lt_of_pos _ hn⟩
theorem kindF_neg {c n : Int} (h : c < 0) : -((c + 1).tmod n) = kindF c n := by
  rw [kindF, if_pos h, ← Int.neg_tmod, Int.tmod_eq_emod_of_nonneg (by omega)]
theorem kindF_pos {c n : Int} (h : 0 ≤ c) : c % n = kindF c n := by
  rw [kindF, if_neg (by omega)]

/-- A block of one byte, and another one at its end. -/
def fullE (c d : UInt8) : List UInt8 := (fullL c).set 63 d
theorem fullE_length (c d : UInt8) : (fullE c d).length = 64 := by simp [fullE, fullL]

theorem ofNat_toNat (n : Int) (h0 : 0 ≤ n) (h1 : n < 256) : (((UInt8.ofNat n.toNat).toNat : Nat) : Int) = n := by
  simp; omega
/-- A disk that answers: its power is on, no fuse. -/
structure Live (w : World) (a : Nat) (S : DiskS) : Prop where
  disk : IsDisk w a S
  off : S.off = false
  fused : S.fused = false

theorem Live.kept {w w' : World} {a : Nat} {S : DiskS} (h : Live w a S) {ex : List Nat} (hk : Kept ex w w') (ha : a ∉ ex) (hm : S.m ∉ ex) : Live w' a S := ⟨h.disk.kept hk ha hm, h.off, h.fused⟩

/-- 'Commit' of a group on a disk that answers. -/
theorem commit_live (j : Nat) (J : JourS) (S : DiskS) (ao : Option Addr) (len cap : Nat) (l : List PutL) (w : World) (hj : IsJour w j J) (hd : Live w J.a S) (hl : PutsIs w ao len l) (hat : (J.at_ : Int) + 199 ≤ S.size)
    (hr : Ready S J.at_ J.g) (hg : Grp J.at_ S.size l) (ho : J.owed = false) (hgb : J.g < 1000000) (hlw : S.writes < 1000000000) :
    Calls Tryz.prog 81 #[.pointer (some ⟨j, 0, none⟩), .slice ao len cap] w fun e w' => e = .returned (.int .i64 0) ∧ ∃ S', Live w' J.a S' ∧ S'.size = S.size ∧ S'.m = S.m ∧ S'.writes = S.writes + (spanN len + 1 + len + 1 : Nat) ∧
      Ready S' J.at_ (J.g + 1) ∧ (∀ i, Out J.at_ i → S'.blk i = applyL S.blk l i) ∧ IsJour w' j (J.head (J.g + 1) false 0) ∧ Kept [J.a, S.m, j] w w' := by
  have hs1 := hd.disk.s1
  have hln := hl.1
  refine (commit_yes j J S ao len cap l w hj hd.disk hl (by omega) hg ho (by omega) (by omega)).mono ?_
  rintro e w' ⟨M, hM, hMl, rfl, hd', ⟨J', hj', _, _, hJ'⟩, hk⟩
  have hwf := cmt_wf (g := J.g) hg hat hMl
  obtain ⟨f1, f2, f3, f4, f5, f6, f7⟩ := wrs_free S hd.off hd.fused hd.disk.l0 _ hwf
  have hc := wrs_cut S hd.off hd.disk.l0 _ hwf
  have hcc := commit_cut hr hs1 hg hM hMl hc
  rw [f1] at hcc
  refine ⟨by rw [f1], _, ⟨hd', f2, f7⟩, f3, f4, ?_, ?_⟩
  · rw [f6]
    simp only [cmtL, List.length_append, storeL_length, List.length_cons, List.length_nil, hln]
    push_cast
    omega
  · rcases hcc with ⟨_, h2, h3⟩ | ⟨h, _⟩ | ⟨h, _⟩
    · exact ⟨h2, h3, by rw [← hJ' f1]; exact hj', hk⟩
    · cases h
    · cases h

/-- The disk that ground makes. -/
def grS (m at_ : Nat) : DiskS := ⟨259, m, false, false, 0, 1, updL (fun _ => zeroL) at_ (encL at_ 0 0 false)⟩
theorem grS_ready (m at_ : Nat) : Ready (grS m at_) at_ 0 := by simp [Ready, grS, updL]

end Go.Proofs.YtiedoocgbajjjaaGreatDoor

namespace Go.Proofs.YtiedoocgbajjjaaGreatDoor
open Go.RowKit Go.Maps
set_option maxRecDepth 100000

/-- A journal behind g groups. -/
structure JLive (w : World) (a j at_ g : Nat) (S : DiskS) : Prop where
  live : Live w a S
  jour : IsJour w j ⟨a, at_, g, false, 0⟩
  ready : Ready S at_ g
  room : (at_ : Int) + 199 ≤ S.size
theorem JLive.kept {w w' : World} {a j at_ g : Nat} {S : DiskS} (h : JLive w a j at_ g S) {ex : List Nat} (hk : Kept ex w w') (ha : a ∉ ex) (hm : S.m ∉ ex) (hj : j ∉ ex) : JLive w' a j at_ g S :=
  ⟨h.live.kept hk ha hm, h.jour.kept hk hj, h.ready, h.room⟩

theorem commit_j (w : World) (a j at_ g : Nat) (S : DiskS) (h : JLive w a j at_ g S) (ao : Option Addr) (len cap : Nat) (l : List PutL) (hl : PutsIs w ao len l) (hg : Grp at_ S.size l) (hgb : g < 1000000) (hlw : S.writes < 1000000000) :
    Calls Tryz.prog 81 #[.pointer (some ⟨j, 0, none⟩), .slice ao len cap] w fun e w' => e = .returned (.int .i64 0) ∧ ∃ S', JLive w' a j at_ (g + 1) S' ∧ S'.size = S.size ∧ S'.m = S.m ∧ S'.writes = S.writes + (spanN len + 1 + len + 1 : Nat) ∧
      (∀ i, Out at_ i → S'.blk i = applyL S.blk l i) ∧ Kept [a, S.m, j] w w' := by
  refine (commit_live j ⟨a, at_, g, false, 0⟩ S ao len cap l w h.jour h.live hl h.room h.ready hg rfl hgb hlw).mono ?_
  rintro e w' ⟨he, S', h1, h2, h3, h4, h5, h6, h7, h8⟩
  exact ⟨he, S', ⟨h1, h7, h5, by rw [h2]; exact h.room⟩, h2, h3, h4, h6, h8⟩
end Go.Proofs.YtiedoocgbajjjaaGreatDoor

namespace Go.Proofs.YtiedoocgbajjjaaGreatDoor
open Go.RowKit Go.Maps
set_option maxRecDepth 100000

theorem elemPut : ElemOk Tryz.prog 135 169 (.agg #[.int .i64 0, .slice none 0 0]) 2 32 := ⟨Tryz.underlying135, by kernel_rfl, rfl, by omega⟩
/-- Writes whose bytes lie in blocks that stay. -/
def EachPut (base : Nat) (w : World) (l : List PutL) (xs : List Value) : Prop := xs.length = l.length * 2 ∧ ∀ k (hk : k < l.length), ∃ s t, xs[k * 2]? = some (.int .i64 l[k].1) ∧ xs[k * 2 + 1]? = some (.slice (some ⟨s, 0, none⟩) 64 64) ∧
  w.heap[s]? = some (.cells (bvA l[k].2) t) ∧ t ≠ 169 ∧ base ≤ s ∧ l[k].2.length = 64 ∧ 0 ≤ l[k].1 ∧ l[k].1 < 4096
theorem EachPut.keptX {base : Nat} {w w' : World} {l : List PutL} {xs : List Value} {ex : List Nat} (h : EachPut base w l xs) (hk : Kept ex w w') (hx : ∀ q ∈ ex, q < base ∨ ∃ cs fr, w.heap[q]? = some (.cells cs 169 fr)) : EachPut base w' l xs :=
  ⟨h.1, fun k hkl => by
    obtain ⟨s, t, e1, e2, e3, e4, e5, e6⟩ := h.2 k hkl
    refine ⟨s, t, e1, e2, hk.heap (fun hm => ?_) e3, e4, e5, e6⟩
    rcases hx s hm with h1 | ⟨cs, fr, h1⟩
    · omega
    · rw [e3] at h1
      injection h1 with h1
      injection h1 with _ h2
      exact e4 h2⟩
theorem EachPut.nil (base : Nat) (w : World) : EachPut base w [] [] := ⟨rfl, fun k hk => by cases hk⟩
theorem EachPut.one {base : Nat} {w : World} {s : Nat} {t : TypeId} {p : Int} {b : List UInt8} (h : w.heap[s]? = some (.cells (bvA b) t)) (ht : t ≠ 169) (hb : base ≤ s) (h64 : b.length = 64) (hp : 0 ≤ p ∧ p < 4096) : EachPut base w [(p, b)] [.int .i64 p, .slice (some ⟨s, 0, none⟩) 64 64] :=
  ⟨rfl, fun k hk => by
    obtain rfl : k = 0 := by simp at hk; exact hk
    exact ⟨s, t, rfl, rfl, h, ht, hb, h64, hp.1, hp.2⟩⟩
theorem EachPut.append {base : Nat} {w : World} {l m : List PutL} {xs ys : List Value} (h : EachPut base w l xs) (g : EachPut base w m ys) : EachPut base w (l ++ m) (xs ++ ys) := by
  refine ⟨by simp [h.1, g.1]; omega, fun k hk => ?_⟩
  by_cases hl : k < l.length
  · obtain ⟨s, t, e1, e2, e3⟩ := h.2 k hl
    rw [List.getElem_append_left hl]
    exact ⟨s, t, by rw [List.getElem?_append_left (by rw [h.1]; omega)]; exact e1, by rw [List.getElem?_append_left (by rw [h.1]; omega)]; exact e2, e3⟩
  · obtain ⟨s, t, e1, e2, e3⟩ := g.2 (k - l.length) (by simp at hk; omega)
    rw [List.getElem_append_right (by omega)]
    refine ⟨s, t, ?_, ?_, e3⟩
    · rw [List.getElem?_append_right (by rw [h.1]; omega), h.1, show k * 2 - l.length * 2 = (k - l.length) * 2 by omega]; exact e1
    · rw [List.getElem?_append_right (by rw [h.1]; omega), h.1, show k * 2 + 1 - l.length * 2 = (k - l.length) * 2 + 1 by omega]; exact e2
theorem EachPut.base {base base' : Nat} {w : World} {l : List PutL} {xs : List Value} (h : EachPut base w l xs) (hb : base' ≤ base) : EachPut base' w l xs :=
  ⟨h.1, fun k hk => by
    obtain ⟨s, t, e1, e2, e3, e4, e5, e6⟩ := h.2 k hk
    exact ⟨s, t, e1, e2, e3, e4, by omega, e6⟩⟩
theorem EachPut.ones {base : Nat} {w : World} {l : List PutL} {xs : List Value} (h : EachPut base w l xs) : ∀ x ∈ xs, x.oneCell' = true := fun x hx => by
  obtain ⟨i, hi, rfl⟩ := List.getElem_of_mem hx
  have hl := h.1
  obtain ⟨s, t, e1, e2, _⟩ := h.2 (i / 2) (by omega)
  by_cases hm : i % 2 = 0
  · have : i = i / 2 * 2 := by omega
    rw [← this, List.getElem?_eq_getElem hi] at e1
    injection e1 with e1
    rw [e1]; rfl
  · have : i = i / 2 * 2 + 1 := by omega
    rw [← this, List.getElem?_eq_getElem hi] at e2
    injection e2 with e2
    rw [e2]; rfl
/-- A ROW OF WRITES OF THE CALL's OWN. -/
structure RPuts (base : Nat) (w : World) (v : Value) (l : List PutL) : Prop where
  row : ∃ xs, w.ownsRow base 169 2 v l.length xs ∧ EachPut base w l xs
theorem RPuts.nil (base : Nat) (w : World) : RPuts base w (.slice none 0 0) [] := ⟨[], World.ownsRow_nil w base _ 2, EachPut.nil _ _⟩
theorem RPuts.blk {base : Nat} {w : World} {v : Value} {l : List PutL} (h : RPuts base w v l) : ∀ q, v.ownBlock = some q → (base ≤ q ∧ q < w.heap.size) ∧ ∃ cs fr, w.heap[q]? = some (.cells cs 169 fr) := fun q hq => by
  obtain ⟨xs, ho, _⟩ := h.row
  refine ⟨ho.lt q hq, ?_⟩
  obtain ⟨_, ⟨rfl, _⟩ | ⟨g, cap, cur, rfl, hb, hg, _⟩⟩ := ho
  · cases hq
  · simp [Value.ownBlock] at hq
    subst hq
    exact ⟨cur, _, hg⟩
theorem RPuts.keptX {base : Nat} {w w' : World} {v : Value} {l : List PutL} {ex : List Nat} (h : RPuts base w v l) (hk : Kept ex w w') (hx : ∀ q ∈ ex, q < base) : RPuts base w' v l := by
  obtain ⟨xs, ho, he⟩ := h.row
  exact ⟨xs, owns_kept ho hk (fun q hq hh => by have := (ho.lt q hq).1; have := hx q hh; omega), he.keptX hk (fun q hq => .inl (hx q hq))⟩
theorem RPuts.kept {base : Nat} {w w' : World} {v : Value} {l : List PutL} (h : RPuts base w v l) (hk : Kept [] w w') : RPuts base w' v l := h.keptX hk (by simp)
theorem RPuts.mono {base base' : Nat} {w : World} {v : Value} {l : List PutL} (h : RPuts base w v l) (hb : base' ≤ base) : RPuts base' w v l := by
  obtain ⟨xs, ho, he⟩ := h.row
  exact ⟨xs, ⟨ho.1, ho.2.imp id (fun ⟨g, cap, cur, e, h1, h2⟩ => ⟨g, cap, cur, e, by omega, h2⟩)⟩, he.base hb⟩
theorem RPuts.slice {base : Nat} {w : World} {v : Value} {l : List PutL} (h : RPuts base w v l) : ∃ ao cap, v = .slice ao l.length cap := by
  obtain ⟨xs, ho, _⟩ := h.row
  obtain ⟨_, ⟨rfl, h2⟩ | ⟨g, cap, cur, rfl, _⟩⟩ := ho
  · exact ⟨none, 0, by rw [h2]⟩
  · exact ⟨_, _, rfl⟩
/-- Writes are appended. -/
theorem RPuts.app {base : Nat} {w : World} {v : Value} {l : List PutL} (h : RPuts base w v l) (hb : base ≤ w.heap.size) (ad : Addr) (m cap : Nat) (l2 : List PutL) (ys : List Value) (hm : l2.length = m) (he2 : EachPut base w l2 ys) (hsrc : ∀ q u, ys[q]? = some u → w.cell? (ad.add q) = some u) (hl : l.length + m ≤ 4096) :
    ∃ v' w', (Builtin.append_ #[135, 135] 135 #[v, .slice (some ad) m cap]).run Tryz.prog w = .ok v' w' ∧ RPuts base w' v' (l ++ l2) ∧ Kept v.ownBlock.toList w w' ∧ (v'.ownBlock = v.ownBlock ∨ ∃ g, v'.ownBlock = some g ∧ w.heap.size ≤ g) := by
  obtain ⟨xs, ho, he⟩ := h.row
  obtain ⟨v', w', hrun, hown, hk, hor⟩ := own_app elemPut 135 w base v l.length xs ho ad m cap ys (by rw [he2.1, hm]) hsrc he2.ones (by unfold maxLen; omega) (by omega) hb
  refine ⟨v', w', hrun, ⟨xs ++ ys, by rw [List.length_append, hm]; exact hown, ?_⟩, hk, ?_⟩
  · exact (he.append he2).keptX hk (fun q hq => .inr (h.blk q (by simpa using hq)).2)
  · rcases hor with e | e
    · exact .inl e
    · exact .inr ⟨_, e, Nat.le_refl _⟩
theorem RPuts.puts {base : Nat} {w : World} {v : Value} {l : List PutL} (h : RPuts base w v l) (hl : l.length ≤ 4096) : ∃ ao cap, v = .slice ao l.length cap ∧ PutsIs w ao l.length l := by
  obtain ⟨xs, ho, he⟩ := h.row
  obtain ⟨h1, ⟨rfl, h2⟩ | ⟨g, cap, cur, rfl, hb, hg, hc1, hc2, hcs, htk⟩⟩ := ho
  · exact ⟨none, 0, by rw [h2], rfl, by omega, fun hh => by omega⟩
  · refine ⟨_, cap, rfl, rfl, by omega, fun _ => ⟨g, 0, rfl, fun k hk => ?_⟩⟩
    obtain ⟨s, t, e1, e2, e3, _, _, e4, e5, e6⟩ := he.2 k hk
    rw [← htk, List.getElem?_take_of_lt (by omega)] at e1 e2
    refine ⟨some ⟨s, 0, none⟩, 64, 64, ?_, ?_, (.inl (SlIs.row e3 64 64 e4)), by omega, by omega, by omega⟩
    · rw [cell_of_row w g _ _ _ _ hg, Nat.zero_add]; simpa using e1
    · rw [cell_of_row w g _ _ _ _ hg, Nat.zero_add]; simpa using e2
end Go.Proofs.YtiedoocgbajjjaaGreatDoor

namespace Go.Proofs.YtiedoocgbajjjaaGreatDoor
open Go.RowKit Go.Maps
set_option maxRecDepth 100000

/-- The i-th block of bytes. -/
def blkAt (M : List UInt8) (i : Nat) : List UInt8 := ((padL M).drop (64 * i)).take 64
theorem blkAt_len {M : List UInt8} {i : Nat} (h : i < blkN M) : (blkAt M i).length = 64 := by
  unfold blkAt
  rw [List.length_take, List.length_drop, padL_length]
  omega
/-- The writes of a node's first j blocks; all of them, the further block too. -/
def ATr.putsTo (t : ATr) (j : Nat) : List PutL := (List.range j).map fun i => (((t.rc.blocks.getD i 0 : Nat) : Int), blkAt t.bodyL i)
def ATr.putsL (t : ATr) : List PutL := t.putsTo t.cont ++ if 0 < t.rc.more then [((t.rc.more : Int), moreOf t.rc.blocks)] else []
theorem putsTo_succ (t : ATr) (j : Nat) : t.putsTo (j + 1) = t.putsTo j ++ [(((t.rc.blocks.getD j 0 : Nat) : Int), blkAt t.bodyL j)] := by
  unfold ATr.putsTo
  rw [List.range_succ, List.map_append]
  rfl
theorem putsTo_len (t : ATr) (j : Nat) : (t.putsTo j).length = j := by simp [ATr.putsTo]
/-- The blocks that 'cut' made. -/
theorem CutSt.blocks {w w' : World} {M : List UInt8} {v : Value} (h : CutSt w M (blkN M) v w') : ∃ ao cap, v = .slice ao (blkN M) cap ∧ ∀ j, j < blkN M → ∃ g, ao = some ⟨g, 0, none⟩ ∧ g < w'.heap.size ∧ w'.rangeAt g (j * 64) (bv (blkAt M j)) := by
  obtain ⟨h1, ⟨rfl, h2⟩ | ⟨g, cap, cur, rfl, hb, hg, hc1, hc2, hcs, htk⟩⟩ := h.own
  · exact ⟨none, 0, by rw [h2], fun j hj => by omega⟩
  · refine ⟨_, cap, rfl, fun j hj => ⟨g, rfl, (Array.getElem?_eq_some_iff.1 hg).1, fun q u hu => ?_⟩⟩
    rw [cell_of_row w' g _ _ _ _ hg]
    have hq : q < 64 := by
      have := (List.getElem?_eq_some_iff.1 hu).1
      rw [bv_length, blkAt_len hj] at this
      exact this
    have e : (bv ((padL M).take (64 * blkN M)))[j * 64 + q]? = some u := by
      rw [List.take_of_length_le (by rw [padL_length]; omega)]
      unfold blkAt at hu
      simp only [bv, List.map_take, List.map_drop] at hu ⊢
      rw [List.getElem?_take_of_lt hq, List.getElem?_drop] at hu
      rw [show j * 64 + q = 64 * j + q by omega]
      exact hu
    rw [← htk, List.getElem?_take_of_lt (by omega)] at e
    simpa using e

set_option maxRecDepth 100000 in
set_option maxHeartbeats 4000000 in
theorem nputs_any (t : ATr) (w : World) (h : TrOk w t) (hl : t.ks.kids.length ≤ 16) (hg : t.rc.kind = 2 → goodB t.ks.ents = true) (hv : validB t.rc.kind t.rc.mode t.size t.rc.more (natI t.rc.blocks) = true)
    (hin : ∀ b ∈ t.nd.blks, 0 < b ∧ b < 4096) (hbl : t.rc.blocks.length = t.cont) (hE : blkN t.bodyL = t.cont) (h38 : t.cont ≤ 38) (hfar : 0 < t.rc.more ↔ 6 < t.cont) :
    Calls Tryz.prog 109 #[.pointer (some ⟨t.addr, 0, none⟩)] w fun e w' => ∃ v, e = .returned v ∧ Hid (RPuts w.heap.size w' v t.putsL ∧ Kept [] w w') := by
  obtain ⟨m, va, vb, hrow, _, _, _, hnums⟩ := h.row
  obtain ⟨bo, bc, rfl, _, _, hints⟩ := hnums
  have HB := Lib.hid (nbody_any t w h hl hg)
  have HI := Lib.hid (fun w' (hk : Kept [] w w') => ninode_any t w' (h.kept hk) (by omega))
  have HROW := Lib.hid hrow
  have HINT := Lib.hid hints
  obtain ⟨B, hB⟩ : ∃ B, w.heap.size = B := ⟨_, rfl⟩
  have HBE := Lib.hid hB
  obtain ⟨a, ha⟩ : ∃ a, t.addr = a := ⟨_, rfl⟩
  obtain ⟨E, hEE⟩ : ∃ E, t.cont = E := ⟨_, rfl⟩
  obtain ⟨mo, hmo⟩ : ∃ mo, t.rc.more = mo := ⟨_, rfl⟩
  obtain ⟨bl, hbe⟩ : ∃ bl, t.rc.blocks = bl := ⟨_, rfl⟩
  have hMl : t.bodyL.length ≤ 2432 := by have : blkN t.bodyL ≤ 38 := by omega
                                         unfold blkN at this; omega
  obtain ⟨M, hM⟩ : ∃ M, t.bodyL = M := ⟨_, rfl⟩
  have HPS : Hid (∀ j, t.putsTo (j + 1) = t.putsTo j ++ [(((bl.getD j 0 : Nat) : Int), blkAt M j)]) := fun j => by rw [← hbe, ← hM]; exact putsTo_succ t j
  have HPL : Hid (t.putsL = t.putsTo E ++ if 0 < mo then [((mo : Int), moreOf bl)] else []) := by show _ = _; unfold ATr.putsL; rw [hEE, hmo, hbe]
  have HLEN : Hid (∀ j, (t.putsTo j).length = j) := putsTo_len t
  obtain ⟨kN, hkN⟩ : ∃ kN : Nat, t.rc.kind = kN := by
    obtain ⟨kN, _, _, _, _, e, _⟩ := valid_parts hv
    exact ⟨kN, e⟩
  obtain ⟨mN, hmN⟩ : ∃ mN : Nat, t.rc.mode = mN := by
    obtain ⟨_, mN, _, _, _, _, e, _⟩ := valid_parts hv
    exact ⟨mN, e⟩
  obtain ⟨sz, hsz⟩ : ∃ sz, t.size = sz := ⟨_, rfl⟩
  have HIN : Hid ((∀ b ∈ bl, 0 < b ∧ b < 4096) ∧ (0 < mo → mo < 4096)) := by
    rw [← hbe, ← hmo]
    refine ⟨fun b hb => hin b (List.mem_append.2 (.inl hb)), fun hp => (hin t.rc.more (List.mem_append.2 (.inr ?_))).2⟩
    show t.rc.more ∈ if 0 < t.rc.more then [t.rc.more] else []
    rw [if_pos hp]; simp
  rw [ha] at HB HI HROW
  rw [hbe] at HINT hbl
  rw [hM] at HB hE hMl
  rw [hmo] at HI hfar
  rw [hkN, hmN, hsz, hbe] at HI
  rw [hkN, hmN, hsz, hmo, hbe] at hv
  rw [hEE] at hbl hE h38 hfar
  unfold nodeRow at HROW
  rw [hmo, hbe, hkN, hmN, hbl] at HROW
  rw [hbl] at HINT HI
  have HV := Lib.hid hv
  have HBL := Lib.hid hbl
  have HEM := Lib.hid hE
  have c5 : w.cell? ⟨a, 5, none⟩ = some (.slice bo E bc) := cell_of_row _ _ 5 _ _ _ HROW.out
  have HFAR := Lib.hid hfar
  have HC5 : Hid (∀ w', Kept [] w w' → w'.cell? ⟨a, 5, none⟩ = some (.slice bo E bc) ∧ w'.cell? ⟨a, 6, none⟩ = some (.int .i64 (mo : Int))) := fun w' hk => ⟨cell_of_row _ _ 5 _ _ _ (hk.heap (by simp) HROW.out), cell_of_row _ _ 6 _ _ _ (hk.heap (by simp) HROW.out)⟩
  rw [hB]
  clear h hg hv hin hbl hE hfar hrow hints hB hEE hmo hbe hM hkN hmN hsz c5
  rw [ha]
  clear ha
  go_enter Tryz.func109, Tryz.ntmps109
  go_wp2_with fail
  refine HB.out.mono ?_
  rintro e w1 ⟨v1, rfl, H1⟩
  go_wp2_with fail
  refine (bcut_any v1 M w1 H1.out.2.1 H1.out.2.2 (by omega)).mono ?_
  rintro e w2 ⟨v2, rfl, H2⟩
  have HK2 : Hid (Kept [] w w2) := H1.out.1.trans H2.out.kept
  obtain ⟨ca, cc, rfl, hcut⟩ := H2.out.blocks
  rw [HEM.out] at hcut
  rw [HEM.out]
  have HCUT := Lib.hid hcut
  obtain ⟨B2, hB2⟩ : ∃ B2, w2.heap.size = B2 := ⟨_, rfl⟩
  have HB2 : Hid (w2.heap.size = B2 ∧ B ≤ B2) := ⟨hB2, by have := HK2.out.size; have := HBE.out; omega⟩
  have H0 : Hid (RPuts B2 w2 (.slice none 0 0) (t.putsTo 0) ∧ Kept [] w2 w2) := ⟨RPuts.nil _ _, Kept.refl _ _⟩
  clear hB2
  clear hcut H1 H2
  go_wp2_with fail
  go_loopw [3, 13] (fun v i wr => ∃ j : Nat, j ≤ E ∧ i = .int .i64 j ∧ Hid (RPuts B2 wr v (t.putsTo j) ∧ Kept [] w2 wr)) (fun _ i _ => E - (intOf i).toNat)
  case atStart => exact ⟨0, by omega, rfl, H0.out⟩
  case round =>
    clear H0
    obtain ⟨j, hj, rfl, HS⟩ := hrel
    obtain ⟨pa, pc, rfl⟩ := HS.out.1.slice
    have hkw : Kept [] w wr := HK2.out.trans HS.out.2
    have HKW := Lib.hid hkw
    by_cases hlt : j < E
    · obtain ⟨g, rfl, hgl, hrg0⟩ := HCUT.out j hlt
      have hrg : wr.rangeAt g (j * 64) (bv (blkAt M j)) := HS.out.2.range hgl (by simp) hrg0
      obtain ⟨L, hL⟩ : ∃ L, blkAt M j = L := ⟨_, rfl⟩
      have hLl : L.length = 64 := by rw [← hL]; exact blkAt_len (by rw [HEM.out]; exact hlt)
      rw [hL] at hrg
      obtain ⟨x, hx⟩ : ∃ x, bl.getD j 0 = x := ⟨_, rfl⟩
      have hjl : j < bl.length := by rw [HBL.out]; exact hlt
      have hxe : bl[j] = x := by rw [← hx, List.getD_eq_getElem?_getD, List.getElem?_eq_getElem hjl]; rfl
      have HX : Hid (0 < x ∧ x < 4096) := HIN.out.1 x (by rw [← hxe]; exact List.getElem_mem hjl)
      obtain ⟨b1, o1, rfl, hb1, cx⟩ : ∃ b1 o1, bo = some ⟨b1, o1, none⟩ ∧ b1 < w.heap.size ∧ w.cell? ⟨b1, o1 + j, none⟩ = some (.int .i64 (x : Int)) := by
        rcases HINT.out.2.2 with h0 | ⟨b1, o1, e, hb, hr⟩
        · omega
        · exact ⟨b1, o1, e, hb, hr j _ (by simp [iv, natI, hjl, hxe])⟩
      have HCX : Hid (∀ w', Kept [] w w' → w'.cell? ⟨b1, o1 + j, none⟩ = some (.int .i64 (x : Int))) := fun w' hk => (hk.cell (p := ⟨b1, o1 + j, none⟩) hb1 (by simp)).trans cx
      have HNX : Hid (t.putsTo (j + 1) = t.putsTo j ++ [((x : Int), L)]) := by show _ = _; rw [HPS.out, hx, hL]
      have zb := zeroB wr
      have hszL : (Tryz.prog.info? 77).map (·.size) = some (bv L).length := by rw [bv_length, hLl]; exact sizeB
      have hszL2 : (Tryz.prog.info? 77).map (·.size) = some L.length := by rw [hLl]; exact sizeB
      have hra : (wr.alloc (.cells (bvA (zerosL 64)) 77)).heap[wr.heap.size]? = some (.cells (bvA (zerosL 64)) 77) := heap_alloc_last _ _
      have hl64 : L.length = (zerosL 64).length := by rw [hLl]; rfl
      obtain ⟨w3, hw3⟩ : ∃ w3, (wr.alloc (.cells (bvA (zerosL 64)) 77)).setRow wr.heap.size (bvA L) = w3 := ⟨_, rfl⟩
      obtain ⟨s, hs⟩ : ∃ s, wr.heap.size = s := ⟨_, rfl⟩
      have H3 : Hid (Kept [] wr w3 ∧ w3.heap[s]? = some (.cells (bvA L) 77) ∧ B2 ≤ s) := by
        rw [← hw3, ← hs]
        refine ⟨(Kept.alloc _ _ _).into (setRow_kept _ _ _) (by simp), setRow_heap _ _ _ _ _ _ hra, ?_⟩
        rw [← HB2.out.1]; exact HS.out.2.size
      have HK3 : Hid (Kept [] w w3.drew) := (HKW.out.trans H3.out.1).trans (Kept.drew _ _)
      obtain ⟨w4, hw4⟩ : ∃ w4, (w3.alloc (.cells #[.int .i64 (x : Int), .slice (some ⟨s, 0, none⟩) 64 64] 169)).drew = w4 := ⟨_, rfl⟩
      have HK34 : Hid (Kept [] w3.drew w4) := by show Kept _ _ _; rw [← hw4]; exact Kept.alloc [] w3.drew _
      have hsw4 : w4.heap[s]? = some (.cells (bvA L) 77) := HK34.out.heap (by simp) ((Kept.drew [] _).heap (by simp) H3.out.2.1)
      have hR4 : RPuts B2 w4 (.slice pa (t.putsTo j).length pc) (t.putsTo j) := ((HS.out.1.kept H3.out.1).kept (Kept.drew _ _)).kept HK34.out
      obtain ⟨v5, w5, hrun, hR5, hk5, _⟩ := hR4.app (by have := (HS.out.2.trans H3.out.1).size; have h2 : w3.heap.size ≤ w4.heap.size := HK34.out.size; have := HB2.out; omega) ⟨w3.heap.size, 0, none⟩ 1 1 [((x : Int), L)] [.int .i64 (x : Int), .slice (some ⟨s, 0, none⟩) 64 64] rfl
        (EachPut.one hsw4 (by decide) H3.out.2.2 hLl ⟨by omega, by have := HX.out; omega⟩) (fun q u hu => by
          rw [Addr.add_mid, Nat.zero_add, ← hw4]
          show (w3.drew.alloc _).cell? ⟨w3.drew.heap.size, q, none⟩ = _
          rw [cell_of_row _ _ q _ _ _ (heap_alloc_last w3.drew _)]
          simpa using hu) (by rw [HLEN.out]; omega)
      rw [← HNX.out] at hR5
      have HK25 : Hid (Kept [] w2 w5) := by
        refine (((HS.out.2.trans H3.out.1).trans (Kept.drew _ _)).trans HK34.out).into hk5 (fun q hq => ?_)
        have := (hR4.blk q (by simpa using hq)).1.1
        have := HB2.out.1
        omega
      have HRUN := Lib.hid hrun
      have HR5 := Lib.hid hR5
      have HW4 := Lib.hid hw4
      have z5 : ∀ w', Imp (Kept [] w) w3.drew w' → w'.cell? ⟨a, 5, none⟩ = some (.slice (some ⟨b1, o1, none⟩) E bc) := fun w' hk => (HC5.out w' (hk HK3.out)).1
      have zx : ∀ w', Imp (Kept [] w) w3.drew w' → w'.cell? ⟨b1, o1 + j, none⟩ = some (.int .i64 (x : Int)) := fun w' hk => HCX.out w' (hk HK3.out)
      rw [HLEN.out] at HRUN
      rw [HLEN.out]
      have HW3 := Lib.hid hw3
      have HSZ := Lib.hid hs
      clear hkw hgl hrg0 hL hx hjl hxe cx hsw4 hR4 hrun hR5 hk5 hw4 hLl hb1 hw3 hs
      go_wp2_with first
        | (refine wpList_load_mid rfl 77 _ rfl _ _ rfl (bv L) _ (by first | exact hrg | (simpa using hrg)) Tryz.underlying77 rfl hszL ?_)
        | (refine wpList_store_row rfl 77 _ _ rfl wr.heap.size 77 (zerosL 64) L rfl rfl hra hl64 hszL2 ?_)
      rw [HW3.out, HSZ.out]
      clear HW3
      refine wp_region_ordR (R := Imp (Kept [] w)) [(true, 0), (true, 1), (true, 2), (true, 3), (true, 4), (true, 5), (true, 6), (true, 7), (true, 8), (true, 9), (false, 10), (false, 11), (true, 12)] (fun _ => Imp.refl _ _) (fun _ _ _ h k => Imp.trans h k) (by kernel_rfl) (fun _ _ d _ _ h => by cases d <;> exact h) (by kernel_rfl) rfl (by kernel_rfl) (by kernel_rfl) ?_
      simp only [named, List.getD_cons_zero, List.getD_cons_succ]
      repeat (first | (apply wpR_take; (case hw => rfl); (case hv => intro w' hk; go_simp; with_reducible rfl); simp only [Act.put, List.setIfInBounds_toArray, List.set_cons_zero, List.set_cons_succ]) | (refine wpR_pass (by rfl) ?_; simp only [Act.put, List.setIfInBounds_toArray, List.set_cons_zero, List.set_cons_succ]))
      clear z5 zx
      refine wpR_force (by rfl) (fun K hK => ?_)
      go_simp
      rw [HW4.out]
      refine hK _ _ (fun hh => hh.trans HK34.out) ?_
      clear hK K
      refine wpR_force (by rfl) (fun K hK => ?_)
      refine wp_append_run _ _ _ rfl _ _ _ rfl rfl HRUN.out ?_
      refine hK _ _ (fun _ => HK2.out.trans HK25.out) ?_
      clear hK K
      repeat (first | (apply wpR_take; (case hw => rfl); (case hv => intro w' hk; go_simp; with_reducible rfl); simp only [Act.put, List.setIfInBounds_toArray, List.set_cons_zero, List.set_cons_succ]) | (refine wpR_pass (by rfl) ?_; simp only [Act.put, List.setIfInBounds_toArray, List.set_cons_zero, List.set_cons_succ]))
      refine wpR_nil ?_
      go_wp2_with fail
      go_roundw
      case rel => exact ⟨j + 1, by omega, by go_num, HR5.out, HK25.out⟩
      case measure => simp [intOf]; omega
    · obtain rfl : j = E := by omega
      obtain ⟨c5, c6⟩ := HC5.out wr hkw
      clear c5
      by_cases hmo : 0 < mo
      · have hmi : (0 : Int) < (mo : Int) := by omega
        have HI2 := Lib.hid (HI.out wr hkw)
        have H6 : Hid (6 < bl.length) := by show _ < _; rw [HBL.out]; exact HFAR.out.1 hmo
        have HMB : Hid (mo < 4096) := HIN.out.2 hmo
        go_wp2_with fail
        clear c6
        refine HI2.out.mono ?_
        rintro e w3 ⟨ao, cap, rfl, H3⟩
        have HPN := Lib.hid (putNodeN_yes kN mN sz mo ao j cap bl w3 H3.out.2.2 H3.out.2.1 HV.out)
        unfold nodeV at HPN ⊢
        go_wp2_with fail
        refine HPN.out.mono ?_
        rintro e w4 ⟨va4, vm4, rfl, hsl4, hvm4, hk4⟩
        obtain ⟨gm, rfl, hgm, hgm2⟩ := hvm4 H6.out
        have HGM := Lib.hid (And.intro hgm (And.intro hgm2 hk4))
        obtain ⟨aa, an, ac, rfl⟩ : ∃ aa an ac, va4 = .slice aa an ac := by
          rcases hsl4 with ⟨_, _, _, e, _⟩ | ⟨e, _⟩ <;> exact ⟨_, _, _, e⟩
        clear hsl4 hvm4 hk4 hgm hgm2
        go_wp2_with fail
        refine (bsure_any w4).mono ?_
        rintro e w5 ⟨rfl, rfl⟩
        have HKB : Hid (Kept [] w w5) := (HKW.out.trans H3.out.1).trans HGM.out.2.2
        obtain ⟨c5, c6⟩ := HC5.out w5 HKB.out
        clear c5
        obtain ⟨w6, hw6⟩ : ∃ w6, w5.alloc (.cells #[.int .i64 (mo : Int), .slice (some ⟨gm, 0, none⟩) 64 64] 169) = w6 := ⟨_, rfl⟩
        have HK56 : Hid (Kept [] w5 w6) := by show Kept _ _ _; rw [← hw6]; exact Kept.alloc _ _ _
        have hR6 : RPuts B2 w6 (.slice pa (t.putsTo j).length pc) (t.putsTo j) := (((HS.out.1.kept H3.out.1).kept HGM.out.2.2).kept HK56.out)
        have hBw : B2 ≤ wr.heap.size := by rw [← HB2.out.1]; exact HS.out.2.size
        have hml : (moreOf bl).length = 64 := by
          unfold moreOf
          rw [if_pos H6.out]
          exact moreL_length (by rw [List.length_drop, HBL.out]; omega)
        obtain ⟨v7, w7, hrun, hR7, hk7, _⟩ := hR6.app (by have h1 := H3.out.1.size; have h2 := HGM.out.2.2.size; have h3 := HK56.out.size; omega) ⟨w5.heap.size, 0, none⟩ 1 1 [((mo : Int), moreOf bl)] [.int .i64 (mo : Int), .slice (some ⟨gm, 0, none⟩) 64 64] rfl
          (EachPut.one (HK56.out.heap (by simp) HGM.out.1) (by decide) (by have h1 := H3.out.1.size; have := HGM.out.2.1; omega) hml ⟨by omega, by have := HMB.out; omega⟩) (fun q u hu => by
            rw [Addr.add_mid, Nat.zero_add, ← hw6, cell_of_row _ _ q _ _ _ (heap_alloc_last w5 _)]
            simpa using hu) (by rw [HLEN.out]; omega)
        have HFIN : Hid (RPuts B w7 v7 t.putsL ∧ Kept [] w w7) := by
          refine ⟨?_, (HKB.out.trans HK56.out).into hk7 (fun q hq => ?_)⟩
          · rw [HPL.out, if_pos hmo]
            exact hR7.mono HB2.out.2
          · have := (hR6.blk q (by simpa using hq)).1.1
            have := HB2.out.2
            have := HBE.out
            omega
        rw [HLEN.out] at hrun
        have HRUN := Lib.hid hrun
        rw [HLEN.out]
        clear hR6 hR7 hk7 hrun hml hBw
        go_wp2_with (at_builtin; refine wpList_append_run rfl _ _ 135 rfl _ _ _ rfl rfl HRUN.out ?_)
        go_ret
        exact ⟨_, rfl, HFIN.out⟩
      · have hmi : ¬ (0 : Int) < (mo : Int) := by omega
        have HFIN : Hid (RPuts B wr (.slice pa (t.putsTo j).length pc) t.putsL ∧ Kept [] w wr) := by
          refine ⟨?_, hkw⟩
          rw [HPL.out, if_neg hmo, List.append_nil]
          exact HS.out.1.mono HB2.out.2
        rw [HLEN.out] at HFIN
        rw [HLEN.out]
        go_wp2_with fail
        go_ret
        exact ⟨_, rfl, HFIN.out⟩
end Go.Proofs.YtiedoocgbajjjaaGreatDoor

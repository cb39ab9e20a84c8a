/-
  JournalCrashes: what it holds between two calls; Open of what may be owed, on a disk whose power may go off; the switch's code.
  Conditions: those that each theorem states.
-/
import Derived.Test.YtmckapfncnoddaaLgrp
import Derived.Test.YtmckapfncnoddaaWith
import Derived.Test.YtmckapfncnoddaaArgTypes
import Derived.Deep.CutBlock
namespace Go.Proofs.Ytmckapfncnoddaa
open Go.RowKit Go.Maps

/-- No group is at hand; the blocks are f's. -/
def Calm (S : DiskS) (at_ n : Nat) (f : Int → List UInt8) : Prop := Ready S at_ n ∧ ∀ i, Out at_ i → S.blk i = f i
/-- The group l is at hand. -/
def Mid (S : DiskS) (at_ n : Nat) (f : Int → List UInt8) (l : List PutL) : Prop := Owes S at_ n l ∧ ∀ i, Out at_ i → (∀ p ∈ l, p.1 ≠ i) → S.blk i = f i
def Pend (S : DiskS) (at_ n : Nat) (f : Int → List UInt8) (l : List PutL) : Prop := Calm S at_ n f ∨ Mid S at_ n f l ∨ Calm S at_ (n + 1) (applyL f l)

theorem Calm.congr {S T : DiskS} {at_ n : Nat} {f : Int → List UInt8} (h : Calm S at_ n f) (hb : T.blk = S.blk) : Calm T at_ n f := ⟨by unfold Ready; rw [hb]; exact h.1, fun i hi => by rw [hb]; exact h.2 i hi⟩
theorem Mid.congr {S T : DiskS} {at_ n : Nat} {f : Int → List UInt8} {l : List PutL} (h : Mid S at_ n f l) (hb : T.blk = S.blk) (hs : T.size = S.size) : Mid T at_ n f l := ⟨h.1.congr hs (fun i _ => by rw [hb]), fun i hi hn => by rw [hb]; exact h.2 i hi hn⟩
theorem Pend.congr {S T : DiskS} {at_ n : Nat} {f : Int → List UInt8} {l : List PutL} (h : Pend S at_ n f l) (hb : T.blk = S.blk) (hs : T.size = S.size) : Pend T at_ n f l := by
  rcases h with h | h | h
  · exact .inl (h.congr hb)
  · exact .inr (.inl (h.congr hb hs))
  · exact .inr (.inr (h.congr hb))

/-- Open of what may be owed, wherever the power goes off. -/
theorem open_loose (w : World) (a at_ n : Nat) (at' : Int) (hat' : at' = at_) (S : DiskS) (hd : IsDisk w a S) (hoff : S.off = false) (hat : (at_ : Int) + 199 ≤ S.size) (l : List PutL) (f : Int → List UInt8)
    (hp : Pend S at_ n f l) (hgb : n < 1000000) (hlw : S.writes < 1000000000) :
    Calls Try.prog 18 #[.pointer (some ⟨a, 0, none⟩), .int .i64 at'] w fun e w' => ∃ v S', e = .returned v ∧ IsDisk w' a S' ∧ S'.size = S.size ∧ S'.m = S.m ∧ S'.writes ≤ S.writes + 200 ∧ Pend S' at_ n f l ∧ Kept [a, S.m] w w' := by
  rcases hp with h | h | h
  · refine (open_ready a S at_ at' n w hd hat' hat hoff h.1 (by omega)).mono ?_
    rintro e w' ⟨j, rfl, hj, hjl, hk⟩
    exact ⟨_, S, rfl, hd.kept hk (by simp) (by simp), rfl, rfl, by omega, .inl h, hk.mono (by simp)⟩
  · have hwf := prf_wf (g := n + 1) h.1.grp hat
    have hc := wrs_cut S hoff hd.l0 _ hwf
    have hcc := perform_cut f h.1 h.2 hc
    have hwr := S.wrs_writes (l ++ [((at_ : Int), encL at_ (n + 1) 0 false)])
    have hm := S.wrs_m (l ++ [((at_ : Int), encL at_ (n + 1) 0 false)])
    have hlen := h.1.grp.len
    refine (open_owed a S _ _ at_ at' n l w hd hat' hat hoff h.1.head h.1.flat h.1.grp (by omega) (by omega) rfl).mono ?_
    rintro e w' ⟨j, hj, hd', hk⟩
    have hpend : Pend (S.wrs (l ++ [((at_ : Int), encL at_ (n + 1) 0 false)])).2 at_ n f l := by
      rcases hcc with ⟨_, h2, h3⟩ | ⟨_, h2, h3⟩
      · exact .inr (.inr ⟨h2, h3⟩)
      · exact .inr (.inl ⟨h2, h3⟩)
    rw [List.length_append] at hwr
    simp only [List.length_cons, List.length_nil] at hwr
    rcases hj with ⟨_, rfl, _⟩ | ⟨_, rfl⟩
    · exact ⟨_, _, rfl, hd', hm.2, hm.1, by omega, hpend, hk⟩
    · exact ⟨_, _, rfl, hd', hm.2, hm.1, by omega, hpend, hk⟩
  · refine (open_ready a S at_ at' (n + 1) w hd hat' hat hoff h.1 (by omega)).mono ?_
    rintro e w' ⟨j, rfl, hj, hjl, hk⟩
    exact ⟨_, S, rfl, hd.kept hk (by simp) (by simp), rfl, rfl, by omega, .inr (.inr h), hk.mono (by simp)⟩

/-- Open of what may be owed, on a disk that answers. -/
theorem open_pend (w : World) (a at_ n : Nat) (at' : Int) (hat' : at' = at_) (S : DiskS) (hd : IsDisk w a S) (hoff : S.off = false) (hfz : S.fused = false) (hat : (at_ : Int) + 199 ≤ S.size) (l : List PutL) (f : Int → List UInt8)
    (hp : Pend S at_ n f l) (hgb : n < 1000000) (hlw : S.writes < 1000000000) :
    Calls Try.prog 18 #[.pointer (some ⟨a, 0, none⟩), .int .i64 at'] w fun e w' => ∃ j g S', e = .returned (.tuple #[.pointer (some ⟨j, 0, none⟩), .int .i64 0]) ∧ IsDisk w' a S' ∧ S'.off = false ∧ S'.size = S.size ∧ S'.m = S.m ∧ S'.writes ≤ S.writes + 200 ∧
      IsJour w' j ⟨a, at_, g, false, 0⟩ ∧ ((g = n ∧ Calm S' at_ n f) ∨ (g = n + 1 ∧ Calm S' at_ (n + 1) (applyL f l))) ∧ w.heap.size ≤ j ∧ Kept [a, S.m] w w' := by
  rcases hp with h | h | h
  · refine (open_ready a S at_ at' n w hd hat' hat hoff h.1 (by omega)).mono ?_
    rintro e w' ⟨j, rfl, hj, hjl, hk⟩
    exact ⟨j, n, S, rfl, hd.kept hk (by simp) (by simp), hoff, rfl, rfl, by omega, hj, .inl ⟨rfl, h⟩, hjl, hk.mono (by simp)⟩
  · refine (open_owes w a at_ n at' hat' S ⟨hd, hoff, hfz⟩ hat l f h.1 h.2 hgb hlw).mono ?_
    rintro e w' ⟨j, S', rfl, hj, h1, h2, h3, h4, h5, h6⟩
    exact ⟨j, n + 1, S', rfl, hj.live.disk, hj.live.off, h1, h2, h3, hj.jour, .inr ⟨rfl, hj.ready, h4⟩, h5, h6⟩
  · refine (open_ready a S at_ at' (n + 1) w hd hat' hat hoff h.1 (by omega)).mono ?_
    rintro e w' ⟨j, rfl, hj, hjl, hk⟩
    exact ⟨j, n + 1, S, rfl, hd.kept hk (by simp) (by simp), hoff, rfl, rfl, by omega, hj, .inr ⟨rfl, h⟩, hjl, hk.mono (by simp)⟩

/-- What is held between two calls, whatever the power is. -/
structure CrB (w : World) (a m at_ k n : Nat) (S : DiskS) (f : Int → List UInt8) (hv : Value) (wr : World) : Prop where
  disk : IsDisk wr a S
  m : S.m = m
  size : S.size = 259
  writes : S.writes ≤ 1 + 2000 * (k : Int)
  gk : n ≤ k
  has : RowsIs wr hv (rowsK f at_ 259)
  kept : Kept [] w wr

inductive CrSt (w : World) (a m at_ k : Nat) (jv hv : Value) (n : Nat) (hd : Value) (sm fr : Bool) (wr : World) : Prop
  | on (S : DiskS) (f : Int → List UInt8) (j : Nat) (B : CrB w a m at_ k n S f hv wr) (off : S.off = false) (calm : Calm S at_ n f) (jr : IsJour wr j ⟨a, at_, n, false, 0⟩) (jn : w.heap.size ≤ j)
      (hjv : jv = .pointer (some ⟨j, 0, none⟩)) (h1 : sm = false) (h2 : fr = false)
  | hand (S : DiskS) (f : Int → List UInt8) (l : List PutL) (ao : Option Addr) (len cap : Nat) (B : CrB w a m at_ k n S f hv wr) (off : S.off = true) (hhd : hd = .slice ao len cap) (hl : PutsIs w ao len l) (hg : Grp at_ 259 l)
      (pend : Pend S at_ n f l) (h1 : sm = true) (h2 : fr = false)
  | fresh (S : DiskS) (f : Int → List UInt8) (B : CrB w a m at_ k n S f hv wr) (off : S.off = true) (calm : Calm S at_ n f) (h1 : sm = false) (h2 : fr = true)

theorem CrB.grow {w : World} {a m at_ k n : Nat} {S : DiskS} {f : Int → List UInt8} {hv : Value} {wr w' : World} (B : CrB w a m at_ k n S f hv wr) (hk : Kept [] wr w') : CrB w a m at_ k n S f hv w' :=
  ⟨B.disk.kept hk (by simp) (by simp), B.m, B.size, B.writes, B.gk, B.has.kept hk (Off.nil _), B.kept.trans hk⟩

/-- The disk has changed, in its own blocks alone. -/
theorem CrB.step {w : World} {a m at_ k n n' : Nat} {S S' : DiskS} {f : Int → List UInt8} {hv : Value} {wr w' : World} (B : CrB w a m at_ k n S f hv wr) {ex : List Nat} (hk : Kept ex wr w') (hx : Off wr ex) (hn : ∀ i ∈ ex, w.heap.size ≤ i) (hd : IsDisk w' a S')
    (hm : S'.m = S.m) (hs : S'.size = S.size) (hw : S'.writes ≤ S.writes + 2000) (hg : n' ≤ k + 1) : CrB w a m at_ (k + 1) n' S' f hv w' :=
  ⟨hd, hm.trans B.m, hs.trans B.size, by have := B.writes; push_cast; omega, hg, B.has.kept hk hx, B.kept.into hk hn⟩

theorem DiskS.fuse_keep (S : DiskS) (n : Int) : (S.fuse n).m = S.m ∧ (S.fuse n).size = S.size ∧ (S.fuse n).writes = S.writes ∧ (S.fuse n).blk = S.blk ∧ (S.off = false → (S.fuse n).off = false) := by
  unfold DiskS.fuse
  split
  · exact ⟨rfl, rfl, rfl, rfl, fun h => h⟩
  · split <;> exact ⟨rfl, rfl, rfl, rfl, fun h => h⟩

theorem ne_ty {w : World} {b b' : Nat} {cs cs' : Array Value} {t t' : TypeId} (h : w.heap[b]? = some (.cells cs t)) (h' : w.heap[b']? = some (.cells cs' t')) (ht : t ≠ t') : b' ≠ b := fun e => by
  rw [e, h] at h'
  simp at h'
  exact ht h'.2

def findBlock (n : Nat) : Code → Option Code
  | .block id c => bif id == n then some (.block id c) else findBlock n c
  | .seq a b => match findBlock n a with
    | some c => some c
    | none => findBlock n b
  | .loop c => findBlock n c
  | .scope c => findBlock n c
  | .cond _ a b => match findBlock n a with
    | some c => some c
    | none => findBlock n b
  | _ => none
noncomputable def sw : Code := (Try.f3.body.bind (findBlock 2)).getD .skip
end Go.Proofs.Ytmckapfncnoddaa

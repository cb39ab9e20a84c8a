/-
  Layer 4: two trees on disks of their own; BlockfsOrder's files in them.
  Conditions: those that each theorem states.
-/
import Derived.Test.YtiedoocgbajjjaaGreatDoorFPut4
namespace Go.Proofs.YtiedoocgbajjjaaGreatDoor
open Go.RowKit Go.Maps
set_option maxRecDepth 100000

/-- A tree that was made since w, and edited n times; ex: another one's blocks. -/
structure GrX (w : World) (f d j m : Nat) (ex : List Nat) (n : Nat) (T : PTr) (wr : World) : Prop where
  fs : ∃ g, g ≤ n ∧ FsAt wr f d j m 900 2 g (1000 * (n + 1)) zeroL ex T
  kept : Kept [] w wr
  low : ∀ b ∈ [f, d, m, j], w.heap.size ≤ b
section
variable {w wr w' : World} {f d j m n : Nat} {ex : List Nat} {T : PTr}
theorem GrX.go (h : GrX w f d j m ex n T wr) (hk : Kept [] wr w') : GrX w f d j m ex n T w' := by
  obtain ⟨g, hg, hf⟩ := h.fs
  exact ⟨⟨g, hg, hf.kept hk⟩, h.kept.trans hk, h.low⟩
theorem GrX.other (h : GrX w f d j m ex n T wr) (hk : Kept ex wr w') (hx : ∀ b ∈ ex, NoBytes wr b ∧ b ∉ [f, d, m, j]) (hl : ∀ b ∈ ex, w.heap.size ≤ b) : GrX w f d j m ex n T w' := by
  obtain ⟨g, hg, hf⟩ := h.fs
  exact ⟨⟨g, hg, hf.keptX hk (fun b hb => ⟨(hx b hb).1, hb, (hx b hb).2⟩)⟩, h.kept.into hk hl, h.low⟩
theorem GrX.lt (h : GrX w f d j m ex n T wr) : ∀ b ∈ [f, d, m, j], w.heap.size ≤ b ∧ b < wr.heap.size ∧ NoBytes wr b := fun b hb => by
  obtain ⟨g, hg, hf⟩ := h.fs
  exact ⟨h.low b hb, hf.lt b hb⟩
theorem GrX.lit (h : GrX w f d j m ex n T wr) (hn : n < 900) (k md : Int) (path B : List UInt8) (ao : Option Addr) (len cap : Nat) (hB : ArgB wr ao len cap B) (hp : path.length ≤ 9223372036854775807) :
    Calls Tryz.prog 14 #[.pointer (some ⟨f, 0, none⟩), .slice (some ⟨wr.heap.size, 0, none⟩) 1 1] (wr.alloc (.cells #[.int .i64 k, .string (strL path), .int .i64 md, .slice ao len cap] 35)) fun e w' =>
      ∃ c, e = .returned (.int .i64 c) ∧ Hid (GrX w f d j m ex (n + 1) (doP 900 2 T [⟨k, md, path, B⟩]).2 w' ∧ Kept [f, d, m, j] wr w') := by
  have hk : Kept [] wr (wr.alloc (.cells #[.int .i64 k, .string (strL path), .int .i64 md, .slice ao len cap] 35)) := Kept.alloc _ _ _
  obtain ⟨g, hg, hf⟩ := h.fs
  refine (fsat_do f d j m 900 2 g _ zeroL ex T _ (hf.kept hk) _ 1 1 _ _ (edarg1 (heap_alloc_last _ _) (hB.kept hk) hp) (by omega) (by omega)).mono ?_
  rintro e w' ⟨rfl, ⟨⟨g', h1, h2, h3, h4⟩, h5⟩⟩
  exact ⟨_, rfl, ⟨⟨g', by omega, h1.more (by omega)⟩, (h.kept.trans hk).into h5 h.low, h.low⟩, (hk.mono (by simp)).trans h5⟩
theorem GrX.read (h : GrX w f d j m ex n T wr) (path : List UInt8) (hp : path.length ≤ 9223372036854775807) :
    Calls Tryz.prog 22 #[.pointer (some ⟨f, 0, none⟩), .string (strL path)] wr fun e w' => ∃ v, e = .returned (.tuple #[v, .int .i64 (readP T path).1]) ∧ Hid (Kept [] wr w' ∧ OwnB wr.heap.size w' v (readP T path).2) := by
  obtain ⟨g, hg, hf⟩ := h.fs
  refine (fsat_read f d j m 900 2 g _ zeroL ex T wr hf path hp).mono ?_
  rintro e w' ⟨v, rfl, hk, ho⟩
  exact ⟨v, rfl, hk, ho⟩
theorem GrX.free (h : GrX w f d j m ex n T wr) :
    Calls Tryz.prog 18 #[.pointer (some ⟨f, 0, none⟩)] wr fun e w' => e = .returned (.int .i64 ((900 : Int) - 235 - T.costP)) ∧ Kept [] wr w' := by
  obtain ⟨g, hg, hf⟩ := h.fs
  exact fsat_free f d j m 900 2 g _ zeroL ex T wr hf
theorem GrX.count (h : GrX w f d j m ex n T wr) :
    Calls Tryz.prog 16 #[.pointer (some ⟨f, 0, none⟩)] wr fun e w' => e = .returned (.int .i64 (T.recs.length : Int)) ∧ Kept [] wr w' := by
  obtain ⟨g, hg, hf⟩ := h.fs
  exact fsat_count f d j m 900 2 g _ zeroL ex T wr hf
end
/-- Two trees. -/
structure Both (w : World) (f d j m f2 d2 j2 m2 : Nat) (n n2 : Nat) (U V : PTr) (wr : World) : Prop where
  one : GrX w f d j m [f2, d2, m2, j2] n U wr
  two : GrX w f2 d2 j2 m2 [f, d, m, j] n2 V wr
  ne : ∀ b ∈ [f, d, m, j], b ∉ [f2, d2, m2, j2]
section
variable {w wr w' : World} {f d j m f2 d2 j2 m2 n n2 : Nat} {U V : PTr}
theorem Both.go (h : Both w f d j m f2 d2 j2 m2 n n2 U V wr) (hk : Kept [] wr w') : Both w f d j m f2 d2 j2 m2 n n2 U V w' := ⟨h.one.go hk, h.two.go hk, h.ne⟩
theorem Both.kept (h : Both w f d j m f2 d2 j2 m2 n n2 U V wr) : Kept [] w wr := h.one.kept
theorem Both.up (h : Both w f d j m f2 d2 j2 m2 n n2 U V wr) {k : Nat} (hk : n2 ≤ k) : Both w f d j m f2 d2 j2 m2 n k U V wr := by
  obtain ⟨g, hg, hf⟩ := h.two.fs
  exact ⟨h.one, ⟨⟨g, by omega, hf.more (by omega)⟩, h.two.kept, h.two.low⟩, h.ne⟩
theorem Both.lit1 (h : Both w f d j m f2 d2 j2 m2 n n2 U V wr) (hn : n < 900) (k md : Int) (path B : List UInt8) (ao : Option Addr) (len cap : Nat) (hB : ArgB wr ao len cap B) (hp : path.length ≤ 9223372036854775807) :
    Calls Tryz.prog 14 #[.pointer (some ⟨f, 0, none⟩), .slice (some ⟨wr.heap.size, 0, none⟩) 1 1] (wr.alloc (.cells #[.int .i64 k, .string (strL path), .int .i64 md, .slice ao len cap] 35)) fun e w' =>
      ∃ c, e = .returned (.int .i64 c) ∧ Hid (Both w f d j m f2 d2 j2 m2 (n + 1) n2 (doP 900 2 U [⟨k, md, path, B⟩]).2 V w') := by
  refine (h.one.lit hn k md path B ao len cap hB hp).mono ?_
  rintro e w' ⟨c, rfl, h1, h2⟩
  refine ⟨c, rfl, h1, h.two.other h2 (fun b hb => ⟨(h.one.lt b hb).2.2, h.ne b hb⟩) (fun b hb => (h.one.lt b hb).1), h.ne⟩
theorem Both.lit2 (h : Both w f d j m f2 d2 j2 m2 n n2 U V wr) (hn : n2 < 900) (k md : Int) (path B : List UInt8) (ao : Option Addr) (len cap : Nat) (hB : ArgB wr ao len cap B) (hp : path.length ≤ 9223372036854775807) :
    Calls Tryz.prog 14 #[.pointer (some ⟨f2, 0, none⟩), .slice (some ⟨wr.heap.size, 0, none⟩) 1 1] (wr.alloc (.cells #[.int .i64 k, .string (strL path), .int .i64 md, .slice ao len cap] 35)) fun e w' =>
      ∃ c, e = .returned (.int .i64 c) ∧ Hid (Both w f d j m f2 d2 j2 m2 n (n2 + 1) U (doP 900 2 V [⟨k, md, path, B⟩]).2 w') := by
  refine (h.two.lit hn k md path B ao len cap hB hp).mono ?_
  rintro e w' ⟨c, rfl, h1, h2⟩
  refine ⟨c, rfl, h.one.other h2 (fun b hb => ⟨(h.two.lt b hb).2.2, fun hh => h.ne b hh hb⟩) (fun b hb => (h.two.lt b hb).1), h1, h.ne⟩
end
/-- What the files hold. -/
def flB (F : List BRow) (i : Nat) : List UInt8 := match F[i]? with
  | some x => x.b
  | none => []
theorem flB_get {F : List BRow} {i : Nat} (h : i < F.length) : F[i].b = flB F i := by
  unfold flB
  rw [List.getElem?_eq_getElem h]
def okF (F : List BRow) (i : Nat) : Bool := decide ((flB F i).length ≤ 2432)
/-- The two trees' files. -/
structure OrSt (w : World) (f d j m f2 d2 j2 m2 n n2 : Nat) (F : List BRow) (A B : (Nat → Bool) → Prop) (wr : World) : Prop where
  at' : ∃ U V S T, Both w f d j m f2 d2 j2 m2 n n2 U V wr ∧ FRow (flB F) S U ∧ FRow (flB F) T V ∧ A S ∧ B T
theorem frow_rootP (F : Nat → List UInt8) : FRow F (fun _ => false) rootP := frow_root F rfl
end Go.Proofs.YtiedoocgbajjjaaGreatDoor

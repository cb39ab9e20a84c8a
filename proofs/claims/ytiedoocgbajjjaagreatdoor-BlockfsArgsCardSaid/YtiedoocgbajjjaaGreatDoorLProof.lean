/-
  Layer 4: the statements' ground: a disk with an empty tree.
  Conditions: those that each theorem states.
  Layer 4: edits that are written out: one, two, in memory of the call's own.
  Conditions: those that each theorem states.
  Layer 4: the document's examples, that stand at the head of all statements.
  Conditions: those that each theorem states.
  Layer 4: what the statements' walks keep of a tree on a disk: how often it was edited, at most, and that all that was there ahead stays.
  Conditions: those that each theorem states.
  What the proofs of layer 3's statements share: a world in which the listed variables hold what the rows list.
  Conditions: none.
-/
import Derived.Test.YtiedoocgbajjjaaGreatDoorFOpen
import Derived.Test.YtiedoocgbajjjaaGreatDoorFSt
import Derived.Test.YtiedoocgbajjjaaGreatDoorFAt
import Derived.Test.YtiedoocgbajjjaaGreatDoorRows
import Derived.Test.YtiedoocgbajjjaaGreatDoorCards
import Derived.Test.YtiedoocgbajjjaaGreatDoorTie
import Derived.Test.YtiedoocgbajjjaaGreatDoorTKit
import Derived.WalkKit
import Derived.ProofKit
import Derived.OpenShut
import Derived.ChangeOld
import Derived.Below
import Derived.LaidMore
import Derived.Lay
import Derived.SevenTiedAt
import Derived.Stop.Joined
import Derived.ChangeMaps5
namespace Go.Proofs.YtiedoocgbajjjaaGreatDoor
open Go.RowKit Go.Maps
set_option maxRecDepth 100000

def rootP : PTr := .node ⟨2, 493, [], 0, [], 0, false⟩ .nil
theorem rootT_core (a : Nat) (ao : Option Addr) (cap : Nat) : (rootT a ao cap).er.core = rootP.core := rfl

set_option maxRecDepth 100000 in
set_option maxHeartbeats 2000000 in
theorem ground4_ex (N q : Nat) (w : World) (hok : SizeOk N q) (hq : q = (N + 511) / 512) (ex : List Nat) (hex : ∀ b ∈ ex, b < w.heap.size) :
    Calls Tryz.prog 17 #[.int .i64 N] w fun e w' => ∃ f d j m, e = .returned (.tuple #[.pointer (some ⟨d, 0, none⟩), .pointer (some ⟨f, 0, none⟩)]) ∧ Hid (FsAt w' f d j m N q 0 1000 zeroL ex rootP ∧ Kept [] w w' ∧ ∀ b ∈ [f, d, m, j], w.heap.size ≤ b) := by
  have HEX := Lib.hid hex
  clear hex
  have HNW := Lib.hid (new_ok N w (by have := hok.lo; omega) (by have := hok.hi; omega))
  have HS := Lib.hid (And.intro hok hq)
  obtain ⟨m, hm⟩ : ∃ m, w.heap.size = m := ⟨_, rfl⟩
  rw [hm] at HNW
  have HM := Lib.hid hm
  clear hok hq hm
  go_enter Tryz.func17, Tryz.ntmps17
  go_wp2_with fail
  refine HNW.out.mono ?_
  rintro e w1 ⟨rfl, hd1, hk1⟩
  obtain ⟨d, hd⟩ : ∃ d, m + 1 = d := ⟨_, rfl⟩
  rw [hd] at hd1
  have HL1 : Hid (Live w1 d (DiskS.new N m)) := ⟨hd1, rfl, rfl⟩
  have HK1 := Lib.hid (And.intro hk1 hd)
  have HFM := Lib.hid (bFormat_any d N q (DiskS.new N m) w1 HL1.out rfl HS.out.1 HS.out.2 (by show (0 : Int) ≤ _; omega))
  rw [hd]
  clear hd1 hk1 hd
  go_wp2_with fail
  refine HFM.out.mono ?_
  rintro e w2 ⟨rfl, S, hl2, hm2, hf2, hw2, hb2, hk2⟩
  have H2 : Hid (S.m = m ∧ S.writes ≤ 1000 ∧ S.blk 1 = zeroL ∧ Kept [d, m] w1 w2 ∧ S.blk 0 = superL N) := ⟨hm2, (by have : (DiskS.new N m).writes = 0 := rfl; omega), hb2, hk2, hf2.super⟩
  have HOP := Lib.hid (bOpen_any d N q S w2 hl2 hf2.size HS.out.1 HS.out.2 (by have : (DiskS.new N m).writes = 0 := rfl; omega) (.inr hf2))
  clear hl2 hm2 hf2 hw2 hb2 hk2 HFM
  go_wp2_with fail
  refine HOP.out.mono ?_
  rintro e w3 ⟨hk3, ⟨hne, _⟩ | ⟨f, j, a, ao, cap, rfl, H3⟩⟩
  · exact absurd H2.out.2.2.2.2 hne
  have HFIN : Hid (FsAt w3 f d j m N q 0 1000 zeroL ex rootP ∧ Kept [] w w3 ∧ ∀ b ∈ [f, d, m, j], w.heap.size ≤ b) := by
    obtain ⟨base, hfs, hb, hfl, hjl⟩ := H3.out
    obtain ⟨e1, e2, e3, e4, _⟩ := H2.out
    have hm := HM.out
    have hd := HK1.out.2
    have hs := (HK1.out.1.into e4 (by simp; omega)).size
    refine ⟨⟨base, S, _, hfs, e1, e2, e3, rootT_core a ao cap, fun b hb => ?_⟩, (HK1.out.1.into e4 (by simp; omega)).trans hk3, fun b hb => ?_⟩
    · have hb2 := HEX.out b hb
      have hk3 := hk3.size
      refine ⟨by omega, fun hh => ?_⟩
      have := (foot_mem hfs.tree.ok hfs.tree.own b hh).1
      omega
    · simp at hb
      omega
  clear hk3 HOP H3
  go_wp2_with fail
  go_ret2
  exact ⟨f, d, j, m, rfl, HFIN.out⟩
theorem ground4_any (N q : Nat) (w : World) (hok : SizeOk N q) (hq : q = (N + 511) / 512) :
    Calls Tryz.prog 17 #[.int .i64 N] w fun e w' => ∃ f d j m, e = .returned (.tuple #[.pointer (some ⟨d, 0, none⟩), .pointer (some ⟨f, 0, none⟩)]) ∧ Hid (FsAt w' f d j m N q 0 1000 zeroL [] rootP ∧ Kept [] w w' ∧ ∀ b ∈ [f, d, m, j], w.heap.size ≤ b) :=
  ground4_ex N q w hok hq [] (by simp)
end Go.Proofs.YtiedoocgbajjjaaGreatDoor

namespace Go.Proofs.YtiedoocgbajjjaaGreatDoor
open Go.RowKit Go.Maps
set_option maxRecDepth 100000

def edC (k : Int) (p : List UInt8) (m : Int) (ao : Option Addr) (len cap : Nat) : List Value := [.int .i64 k, .string (strL p), .int .i64 m, .slice ao len cap]
theorem edarg1 {w : World} {g : Nat} {k m : Int} {p B : List UInt8} {ao : Option Addr} {len cap : Nat} {t : TypeId} (hrow : w.heap[g]? = some (.cells #[.int .i64 k, .string (strL p), .int .i64 m, .slice ao len cap] t)) (hB : ArgB w ao len cap B) (hp : p.length ≤ 9223372036854775807) :
    EdArg w (some ⟨g, 0, none⟩) 1 [⟨k, p, m, ao, len, cap⟩] [⟨k, m, p, B⟩] := by
  have hg := (Array.getElem?_eq_some_iff.1 hrow).1
  refine ⟨⟨rfl, .inr ⟨g, 0, rfl, hg, fun q hq => ?_⟩⟩, rfl, fun q hq hq2 => ?_, by omega⟩
  · obtain rfl : q = 0 := by simpa using hq
    exact ⟨cell_of_row _ _ 0 _ _ _ hrow, cell_of_row _ _ 1 _ _ _ hrow, cell_of_row _ _ 2 _ _ _ hrow, cell_of_row _ _ 3 _ _ _ hrow⟩
  · obtain rfl : q = 0 := by simpa using hq
    exact ⟨rfl, rfl, rfl, hB, hp⟩
theorem edarg2 {w : World} {g : Nat} {k m k2 m2 : Int} {p B p2 B2 : List UInt8} {ao ao2 : Option Addr} {len cap len2 cap2 : Nat} {t : TypeId}
    (hrow : w.heap[g]? = some (.cells #[.int .i64 k, .string (strL p), .int .i64 m, .slice ao len cap, .int .i64 k2, .string (strL p2), .int .i64 m2, .slice ao2 len2 cap2] t)) (hB : ArgB w ao len cap B) (hp : p.length ≤ 9223372036854775807) (hB2 : ArgB w ao2 len2 cap2 B2) (hp2 : p2.length ≤ 9223372036854775807) :
    EdArg w (some ⟨g, 0, none⟩) 2 [⟨k, p, m, ao, len, cap⟩, ⟨k2, p2, m2, ao2, len2, cap2⟩] [⟨k, m, p, B⟩, ⟨k2, m2, p2, B2⟩] := by
  have hg := (Array.getElem?_eq_some_iff.1 hrow).1
  refine ⟨⟨rfl, .inr ⟨g, 0, rfl, hg, fun q hq => ?_⟩⟩, rfl, fun q hq hq2 => ?_, by omega⟩
  · rcases (by simp at hq; omega : q = 0 ∨ q = 1) with rfl | rfl
    · exact ⟨cell_of_row _ _ 0 _ _ _ hrow, cell_of_row _ _ 1 _ _ _ hrow, cell_of_row _ _ 2 _ _ _ hrow, cell_of_row _ _ 3 _ _ _ hrow⟩
    · exact ⟨cell_of_row _ _ 4 _ _ _ hrow, cell_of_row _ _ 5 _ _ _ hrow, cell_of_row _ _ 6 _ _ _ hrow, cell_of_row _ _ 7 _ _ _ hrow⟩
  · rcases (by simp at hq; omega : q = 0 ∨ q = 1) with rfl | rfl
    · exact ⟨rfl, rfl, rfl, hB, hp⟩
    · exact ⟨rfl, rfl, rfl, hB2, hp2⟩
theorem argB_nil (w : World) : ArgB w none 0 0 [] := ⟨rfl, by omega, by omega, by omega, fun _ => rfl, .inl rfl⟩
/-- Bytes in a block of their own. -/
theorem argB_new {w : World} {g : Nat} {L : List UInt8} {t : TypeId} (h : w.heap[g]? = some (.cells (bvA L) t)) (hl : L.length ≤ 140737488355328) : ArgB w (some ⟨g, 0, none⟩) L.length L.length L :=
  ⟨rfl, hl, Nat.le_refl _, by omega, fun e => (by cases e), .inr ⟨g, 0, rfl, (Array.getElem?_eq_some_iff.1 h).1, range_row h⟩⟩
end Go.Proofs.YtiedoocgbajjjaaGreatDoor

namespace Go.Proofs.YtiedoocgbajjjaaGreatDoor
open Go.RowKit Go.Maps
set_option maxRecDepth 100000

def shA : List UInt8 := [47, 97]
def shF : List UInt8 := [47, 97, 47, 102]
def shC : List UInt8 := [47, 98, 47, 99]
def sh1 : List EdP := [⟨2, 493, shA, []⟩, ⟨1, 420, shF, zerosL 65⟩]
def sh2 : List EdP := [⟨1, 420, shF, zerosL 65⟩]
def sh3 : List EdP := [⟨5, 0, shA, []⟩, ⟨1, 0, shC, []⟩]
def shT1 : PTr := (doP 512 1 rootP sh1).2
def shT2 : PTr := (doP 512 1 shT1 sh2).2
theorem sh_one : (doP 512 1 rootP sh1).1 = 0 ∧ shT1.costP = 4 ∧ shT1.recs.length = 3 := by decide +kernel
theorem sh_two : (doP 512 1 shT1 sh2).1 = 0 ∧ shT2.core = shT1.core ∧ shT2.recs.length = 3 := ⟨by decide +kernel, by rfl, by decide +kernel⟩
theorem sh_three : (doP 512 1 shT2 sh3).1 = 41 ∧ (doP 512 1 shT2 sh3).2.core = shT2.core := ⟨by decide +kernel, by rfl⟩
theorem sh_stat : statV (atP shT2 shA).2 = .agg #[.int .i64 2, .int .i64 493, .int .i64 1] ∧ (atP shT2 shA).1 = 0 := ⟨by rfl, by decide +kernel⟩
theorem sh_new : (doP 512 1 rootP sh1).2.core ≠ rootP.core := fun h => by
  have h1 := recs_core h
  have h2 : (doP 512 1 rootP sh1).2.recs.length = 3 := sh_one.2.2
  rw [h2] at h1
  exact absurd h1 (by decide)

/-- A row of sixty-five noughts in memory of the call's own. -/
theorem run_make65 : ∀ w, (Instr.makeSlice 22 (.int .i64 65) (.int .i64 65)).run Tryz.prog w = .ok (.slice (some ⟨w.heap.size, 0, none⟩) 65 65) (w.alloc (.cells (bvA (zerosL 65)) 5)) := fun w => run_make_bytes (P := Tryz.prog) w 22 5 Tryz.underlying22 infoByte 65 (by omega) (by omega)
set_option maxRecDepth 100000 in
set_option maxHeartbeats 4000000 in
theorem shown4_any (w : World) : Calls Tryz.prog 9 #[] w fun e w' => e = .returned (.bool true) ∧ Kept [] w w' := by
  have HG := Lib.hid (ground4_any 512 1 w ⟨by omega, by omega, by omega⟩ rfl)
  have hmk := run_make65
  obtain ⟨Z, hZ⟩ : ∃ Z, bvA (zerosL 65) = Z := ⟨_, rfl⟩
  have HZ := Lib.hid hZ
  rw [hZ] at hmk
  clear hZ
  go_enter Tryz.func9, Tryz.ntmps9
  go_wp2_with fail
  refine HG.out.mono ?_
  rintro e w1 ⟨f, d, j, m, rfl, H1⟩
  have HF1 := Lib.hid (fsat_free f d j m 512 1 0 1000 zeroL [] rootP w1 H1.out.1)
  go_wp2_with fail
  refine HF1.out.mono ?_
  rintro e w2 ⟨rfl, hk2⟩
  have HK2 := Lib.hid hk2
  clear hk2 HF1
  go_wp2_with fail
  have HD1 : Hid (Calls Tryz.prog 14 #[.pointer (some ⟨f, 0, none⟩), .slice (some ⟨w2.heap.size + 1, 0, none⟩) 2 2] ((w2.alloc (.cells Z 5)).alloc (.cells #[.int .i64 2, .string ⟨#[47, 97]⟩, .int .i64 493, .slice none 0 0, .int .i64 1, .string ⟨#[47, 97, 47, 102]⟩, .int .i64 420, .slice (some ⟨w2.heap.size, 0, none⟩) 65 65] 35)) fun e w' => e = .returned (.int .i64 0) ∧ Hid (FsAt w' f d j m 512 1 1 2000 zeroL [] shT1 ∧ Kept [f, d, m, j] w2 w')) := by
    have hka : Kept [] w2 (w2.alloc (.cells Z 5)) := Kept.alloc _ _ _
    have hkb : Kept [] (w2.alloc (.cells Z 5)) ((w2.alloc (.cells Z 5)).alloc (.cells #[.int .i64 2, .string ⟨#[47, 97]⟩, .int .i64 493, .slice none 0 0, .int .i64 1, .string ⟨#[47, 97, 47, 102]⟩, .int .i64 420, .slice (some ⟨w2.heap.size, 0, none⟩) 65 65] 35)) := Kept.alloc _ _ _
    have hr := heap_alloc_last (w2.alloc (.cells Z 5)) (.cells #[.int .i64 2, .string ⟨#[47, 97]⟩, .int .i64 493, .slice none 0 0, .int .i64 1, .string ⟨#[47, 97, 47, 102]⟩, .int .i64 420, .slice (some ⟨w2.heap.size, 0, none⟩) 65 65] 35)
    rw [size_alloc] at hr
    have hb := argB_new (L := zerosL 65) (t := 5) (hkb.heap (by simp) (by rw [heap_alloc_last, ← HZ.out])) (by decide)
    have hA := edarg2 (k := 2) (m := 493) (p := shA) (k2 := 1) (m2 := 420) (p2 := shF) (B := []) hr (argB_nil _) (by decide) hb (by decide)
    refine (fsat_do f d j m 512 1 0 1000 zeroL [] rootP _ (H1.out.1.kept (HK2.out.trans (hka.trans hkb))) _ 2 2 _ sh1 hA (by omega) (by omega)).mono ?_
    rintro e w' ⟨rfl, ⟨⟨g', h1, h2, h3, h4⟩, h5⟩⟩
    obtain rfl : g' = 1 := h4 sh_new
    exact ⟨by rw [sh_one.1], h1, (hka.trans hkb |>.mono (by simp)).trans h5⟩
  refine HD1.out.mono ?_
  rintro e w3 ⟨rfl, H3⟩
  clear HD1
  have HF3 := Lib.hid (fsat_free f d j m 512 1 1 2000 zeroL [] shT1 w3 H3.out.1)
  rw [sh_one.2.1] at HF3
  go_wp2_with fail
  refine HF3.out.mono ?_
  rintro e w4 ⟨rfl, hk4⟩
  have HK4 := Lib.hid hk4
  clear hk4 HF3
  go_wp2_with fail
  have HD2 : Hid (Calls Tryz.prog 14 #[.pointer (some ⟨f, 0, none⟩), .slice (some ⟨w4.heap.size + 1, 0, none⟩) 1 1] ((w4.alloc (.cells Z 5)).alloc (.cells #[.int .i64 1, .string ⟨#[47, 97, 47, 102]⟩, .int .i64 420, .slice (some ⟨w4.heap.size, 0, none⟩) 65 65] 35)) fun e w' => e = .returned (.int .i64 0) ∧ Hid (FsAt w' f d j m 512 1 1 3000 zeroL [] shT2 ∧ Kept [f, d, m, j] w4 w')) := by
    have hka : Kept [] w4 (w4.alloc (.cells Z 5)) := Kept.alloc _ _ _
    have hkb : Kept [] (w4.alloc (.cells Z 5)) ((w4.alloc (.cells Z 5)).alloc (.cells #[.int .i64 1, .string ⟨#[47, 97, 47, 102]⟩, .int .i64 420, .slice (some ⟨w4.heap.size, 0, none⟩) 65 65] 35)) := Kept.alloc _ _ _
    have hr := heap_alloc_last (w4.alloc (.cells Z 5)) (.cells #[.int .i64 1, .string ⟨#[47, 97, 47, 102]⟩, .int .i64 420, .slice (some ⟨w4.heap.size, 0, none⟩) 65 65] 35)
    rw [size_alloc] at hr
    have hb := argB_new (L := zerosL 65) (t := 5) (hkb.heap (by simp) (by rw [heap_alloc_last, ← HZ.out])) (by decide)
    have hA := edarg1 (k := 1) (m := 420) (p := shF) hr hb (by decide)
    refine (fsat_do f d j m 512 1 1 2000 zeroL [] shT1 _ (H3.out.1.kept (HK4.out.trans (hka.trans hkb))) _ 1 1 _ sh2 hA (by omega) (by omega)).mono ?_
    rintro e w' ⟨rfl, ⟨⟨g', h1, h2, h3, h4⟩, h5⟩⟩
    obtain rfl : g' = 1 := h3 sh_two.2.1
    exact ⟨by rw [sh_two.1], h1, (hka.trans hkb |>.mono (by simp)).trans h5⟩
  refine HD2.out.mono ?_
  rintro e w5 ⟨rfl, H5⟩
  clear HD2 hmk
  have HG5 := Lib.hid (fsat_groups f d j m 512 1 1 3000 zeroL [] shT2 w5 H5.out.1)
  go_wp2_with fail
  refine HG5.out.mono ?_
  rintro e w6 ⟨rfl, rfl⟩
  clear HG5
  go_wp2_with fail
  have HD3 : Hid (Calls Tryz.prog 14 #[.pointer (some ⟨f, 0, none⟩), .slice (some ⟨w5.heap.size, 0, none⟩) 2 2] (w5.alloc (.cells #[.int .i64 5, .string ⟨#[47, 97]⟩, .int .i64 0, .slice none 0 0, .int .i64 1, .string ⟨#[47, 98, 47, 99]⟩, .int .i64 0, .slice none 0 0] 35)) fun e w' => e = .returned (.int .i64 41) ∧ Hid (FsAt w' f d j m 512 1 1 4000 zeroL [] shT2 ∧ Kept [f, d, m, j] w5 w')) := by
    have hka : Kept [] w5 (w5.alloc (.cells #[.int .i64 5, .string ⟨#[47, 97]⟩, .int .i64 0, .slice none 0 0, .int .i64 1, .string ⟨#[47, 98, 47, 99]⟩, .int .i64 0, .slice none 0 0] 35)) := Kept.alloc _ _ _
    have hr := heap_alloc_last w5 (.cells #[.int .i64 5, .string ⟨#[47, 97]⟩, .int .i64 0, .slice none 0 0, .int .i64 1, .string ⟨#[47, 98, 47, 99]⟩, .int .i64 0, .slice none 0 0] 35)
    have hA := edarg2 (k := 5) (m := 0) (p := shA) (k2 := 1) (m2 := 0) (p2 := shC) (B := []) (B2 := []) hr (argB_nil _) (by decide) (argB_nil _) (by decide)
    refine (fsat_do f d j m 512 1 1 3000 zeroL [] shT2 _ (H5.out.1.kept hka) _ 2 2 _ sh3 hA (by omega) (by omega)).mono ?_
    rintro e w' ⟨rfl, ⟨⟨g', h1, h2, h3, h4⟩, h5⟩⟩
    obtain rfl : g' = 1 := h3 sh_three.2
    exact ⟨by rw [sh_three.1], h1.congr sh_three.2, (hka.mono (by simp)).trans h5⟩
  refine HD3.out.mono ?_
  rintro e w7 ⟨rfl, H7⟩
  clear HD3
  have HS7 := Lib.hid (fsat_stat f d j m 512 1 1 4000 zeroL [] shT2 w7 H7.out.1 shA (by decide))
  rw [sh_stat.1, sh_stat.2] at HS7
  go_wp2_with fail
  refine HS7.out.mono ?_
  rintro e w8 ⟨rfl, hk8⟩
  have HK8 := Lib.hid hk8
  clear hk8 HS7
  go_wp2_with fail
  obtain ⟨x, hx⟩ : ∃ x, w8.heap.size = x := ⟨_, rfl⟩
  obtain ⟨w9, hw9⟩ : ∃ w9, w8.alloc (.cells #[.int .i64 2, .int .i64 493, .int .i64 1] 48) = w9 := ⟨_, rfl⟩
  have hk9 : Kept [] w8 w9 := by rw [← hw9]; exact Kept.alloc _ _ _
  have hr9 : w9.heap[x]? = some (.cells #[.int .i64 2, .int .i64 493, .int .i64 1] 48) := by rw [← hw9, ← hx]; exact heap_alloc_last _ _
  rw [hw9, hx]
  have HR9 := Lib.hid (And.intro hk9 hr9)
  have HC9 := Lib.hid (fsat_count f d j m 512 1 1 4000 zeroL [] shT2 w9 (H7.out.1.kept (HK8.out.trans hk9)))
  rw [sh_two.2.2] at HC9
  clear hk9 hr9 hw9 hx
  refine HC9.out.mono ?_
  rintro e w10 ⟨rfl, hk10⟩
  have hr10 := hk10.heap (by simp) HR9.out.2
  have y0 : w10.cell? ⟨x, 0, none⟩ = some (.int .i64 2) := cell_of_row _ _ 0 _ _ _ hr10
  have y1 : w10.cell? ⟨x, 1, none⟩ = some (.int .i64 493) := cell_of_row _ _ 1 _ _ _ hr10
  have y2 : w10.cell? ⟨x, 2, none⟩ = some (.int .i64 1) := cell_of_row _ _ 2 _ _ _ hr10
  have HK10 := Lib.hid hk10
  have hq : ∀ w', (Op.equalIn 10000 48 (.agg #[.int .i64 2, .int .i64 493, .int .i64 1]) (.agg #[.int .i64 2, .int .i64 493, .int .i64 1])).run Tryz.prog w' = .ok true w' := fun _ => by kernel_rfl
  clear hr10 hk10
  go_wp2_with fail
  go_ret
  refine ⟨rfl, H1.out.2.1.into (ex := [f, d, m, j]) ?_ (fun b hb => H1.out.2.2 b hb)⟩
  exact (HK2.out.mono (by simp)).trans (H3.out.2.trans ((HK4.out.mono (by simp)).trans (H5.out.2.trans (H7.out.2.trans ((HK8.out.trans (HR9.out.1.trans HK10.out)).mono (by simp))))))
end Go.Proofs.YtiedoocgbajjjaaGreatDoor

namespace Go.Proofs.YtiedoocgbajjjaaGreatDoor
open Go.RowKit Go.Maps
set_option maxRecDepth 100000

theorem strL_cat (a b : List UInt8) : strL a ++ strL b = strL (a ++ b) := by
  show _ = (⟨(a ++ b).toArray⟩ : ByteArray)
  apply ByteArray.ext
  simp [strL]
theorem statV_agg (o : Option PTr) : ∃ a b c : Int, statV o = .agg #[.int .i64 a, .int .i64 b, .int .i64 c] := by
  cases o with
  | none => exact ⟨0, 0, 0, rfl⟩
  | some t => exact ⟨_, _, _, rfl⟩
theorem list_root {T : PTr} (h : T.rc.kind = 2) : listP T [47] = (0, T.ks.names) := by
  have e : atP T [47] = (0, some T) := by unfold atP; rw [show pathO [47] = some [] from by decide]; rfl
  unfold listP
  rw [e]
  simp only [h, if_pos]
theorem StrsIs.keptX {w w' : World} {v : Value} {l : List (List UInt8)} {ex : List Nat} (h : StrsIs w v l) (hk : Kept ex w w') (hx : ∀ g, v.ownBlock = some g → g ∉ ex) : StrsIs w' v l := by
  rcases h with ⟨b, o, cap, rfl, hb, hr⟩ | h
  · exact .inl ⟨b, o, cap, rfl, Nat.lt_of_lt_of_le hb hk.size, hk.range hb (hx b rfl) hr⟩
  · exact .inr h
theorem Fits.len {N q : Nat} {t : PTr} (h : Fits N q t) : t.ks.len ≤ 16 := by
  obtain ⟨r, k⟩ := t
  exact h.fine.2.1
/-- A tree that was made since w, and edited n times. -/
structure Grd (w : World) (f d j m N q n : Nat) (T : PTr) (wr : World) : Prop where
  fs : ∃ g, g ≤ n ∧ FsAt wr f d j m N q g (1000 * (n + 1)) zeroL [] T
  kept : Kept [] w wr
  low : ∀ b ∈ [f, d, m, j], w.heap.size ≤ b
section
variable {w wr w' : World} {f d j m N q n : Nat} {T : PTr}
theorem Grd.go (h : Grd w f d j m N q n T wr) (hk : Kept [] wr w') : Grd w f d j m N q n T w' := by
  obtain ⟨g, hg, hf⟩ := h.fs
  exact ⟨⟨g, hg, hf.kept hk⟩, h.kept.trans hk, h.low⟩
theorem Grd.up (h : Grd w f d j m N q n T wr) {n' : Nat} (hn : n ≤ n') : Grd w f d j m N q n' T wr := by
  obtain ⟨g, hg, hf⟩ := h.fs
  exact ⟨⟨g, by omega, hf.more (by omega)⟩, h.kept, h.low⟩
theorem Grd.fits (h : Grd w f d j m N q n T wr) : Fits N q T := by
  obtain ⟨g, hg, hf⟩ := h.fs
  exact hf.fits
theorem Grd.congr {U : PTr} (h : Grd w f d j m N q n T wr) (hc : T.core = U.core) : Grd w f d j m N q n U wr := by
  obtain ⟨g, hg, hf⟩ := h.fs
  exact ⟨⟨g, hg, hf.congr hc⟩, h.kept, h.low⟩
theorem Grd.lt (h : Grd w f d j m N q n T wr) : ∀ b ∈ [f, d, m, j], w.heap.size ≤ b ∧ b < wr.heap.size := fun b hb => by
  obtain ⟨g, hg, hf⟩ := h.fs
  exact ⟨h.low b hb, (hf.lt b hb).1⟩
theorem ground_grd (w0 w : World) (hk : Kept [] w0 w) (N q : Nat) (hok : SizeOk N q) (hq : q = (N + 511) / 512) :
    Calls Tryz.prog 17 #[.int .i64 N] w fun e w' => ∃ f d j m, e = .returned (.tuple #[.pointer (some ⟨d, 0, none⟩), .pointer (some ⟨f, 0, none⟩)]) ∧ Hid (Grd w0 f d j m N q 0 rootP w' ∧ Kept [] w w' ∧ ∀ b ∈ [f, d, m, j], w.heap.size ≤ b) := by
  refine (ground4_any N q w hok hq).mono ?_
  rintro e w' ⟨f, d, j, m, rfl, h, hk', hl⟩
  exact ⟨f, d, j, m, rfl, ⟨⟨0, Nat.le_refl _, h⟩, hk.trans hk', fun b hb => Nat.le_trans hk.size (hl b hb)⟩, hk', hl⟩
theorem Grd.doo (h : Grd w f d j m N q n T wr) (hn : n < 900) {ao : Option Addr} {len cap : Nat} {H : List EdH} {P : List EdP} (hA : EdArg wr ao len H P) :
    Calls Tryz.prog 14 #[.pointer (some ⟨f, 0, none⟩), .slice ao len cap] wr fun e w' => e = .returned (.int .i64 (doP N q T P).1) ∧ Hid (Grd w f d j m N q (n + 1) (doP N q T P).2 w' ∧ Kept [f, d, m, j] wr w') := by
  obtain ⟨g, hg, hf⟩ := h.fs
  refine (fsat_do f d j m N q g _ zeroL [] T wr hf ao len cap H P hA (by omega) (by omega)).mono ?_
  rintro e w' ⟨rfl, ⟨⟨g', h1, h2, h3, h4⟩, h5⟩⟩
  exact ⟨rfl, ⟨⟨g', by omega, h1.more (by omega)⟩, h.kept.into h5 h.low, h.low⟩, h5⟩
/-- One of the edits that came in. -/
theorem Grd.one (h : Grd w f d j m N q n T wr) (hn : n < 900) {ao : Option Addr} {len cap : Nat} {H : List EdH} {P : List EdP} (hA : EdsIn w ao len cap H P) {k : Nat} (hk : k < len) (hp : k < P.length) (c : Nat) :
    ∃ b o, ao = some ⟨b, o, none⟩ ∧ Calls Tryz.prog 14 #[.pointer (some ⟨f, 0, none⟩), .slice (some ⟨b, o + k * 4, none⟩) 1 c] wr fun e w' => e = .returned (.int .i64 (doP N q T [P[k]]).1) ∧ Hid (Grd w f d j m N q (n + 1) (doP N q T [P[k]]).2 w' ∧ Kept [f, d, m, j] wr w') := by
  obtain ⟨b, o, x, rfl, hE⟩ := (hA.kept h.kept).one hk hp
  exact ⟨b, o, rfl, h.doo hn hE⟩
theorem Grd.stat (h : Grd w f d j m N q n T wr) (path : List UInt8) (hp : path.length ≤ 9223372036854775807) :
    Calls Tryz.prog 20 #[.pointer (some ⟨f, 0, none⟩), .string (strL path)] wr fun e w' => e = .returned (.tuple #[statV (atP T path).2, .int .i64 (atP T path).1]) ∧ Hid (Grd w f d j m N q n T w' ∧ Kept [] wr w') := by
  obtain ⟨g, hg, hf⟩ := h.fs
  refine (fsat_stat f d j m N q g _ zeroL [] T wr hf path hp).mono ?_
  rintro e w' ⟨rfl, hk⟩
  exact ⟨rfl, h.go hk, hk⟩
theorem Grd.read (h : Grd w f d j m N q n T wr) (path : List UInt8) (hp : path.length ≤ 9223372036854775807) :
    Calls Tryz.prog 22 #[.pointer (some ⟨f, 0, none⟩), .string (strL path)] wr fun e w' => ∃ v, e = .returned (.tuple #[v, .int .i64 (readP T path).1]) ∧ Hid (Grd w f d j m N q n T w' ∧ Kept [] wr w' ∧ w'.ownsRow wr.heap.size 5 1 v (readP T path).2.length (bv (readP T path).2)) := by
  obtain ⟨g, hg, hf⟩ := h.fs
  refine (fsat_read f d j m N q g _ zeroL [] T wr hf path hp).mono ?_
  rintro e w' ⟨v, rfl, hk, ho⟩
  exact ⟨v, rfl, h.go hk, hk, ho⟩
theorem Grd.list (h : Grd w f d j m N q n T wr) (path : List UInt8) (hp : path.length ≤ 9223372036854775807) :
    Calls Tryz.prog 19 #[.pointer (some ⟨f, 0, none⟩), .string (strL path)] wr fun e w' => ∃ v, e = .returned (.tuple #[v, .int .i64 (listP T path).1]) ∧ Hid (Grd w f d j m N q n T w' ∧ Kept [] wr w' ∧ StrsIs w' v (listP T path).2 ∧ ∀ g, v.ownBlock = some g → wr.heap.size ≤ g) := by
  obtain ⟨g, hg, hf⟩ := h.fs
  refine (fsat_list f d j m N q g _ zeroL [] T wr hf path hp).mono ?_
  rintro e w' ⟨v, rfl, hk, ho, hb⟩
  exact ⟨v, rfl, h.go hk, hk, ho, hb⟩
theorem Grd.free (h : Grd w f d j m N q n T wr) :
    Calls Tryz.prog 18 #[.pointer (some ⟨f, 0, none⟩)] wr fun e w' => e = .returned (.int .i64 ((N : Int) - ((233 + q : Nat) : Int) - T.costP)) ∧ Hid (Grd w f d j m N q n T w' ∧ Kept [] wr w') := by
  obtain ⟨g, hg, hf⟩ := h.fs
  refine (fsat_free f d j m N q g _ zeroL [] T wr hf).mono ?_
  rintro e w' ⟨rfl, hk⟩
  exact ⟨rfl, h.go hk, hk⟩
theorem Grd.count (h : Grd w f d j m N q n T wr) :
    Calls Tryz.prog 16 #[.pointer (some ⟨f, 0, none⟩)] wr fun e w' => e = .returned (.int .i64 (T.recs.length : Int)) ∧ Hid (Grd w f d j m N q n T w' ∧ Kept [] wr w') := by
  obtain ⟨g, hg, hf⟩ := h.fs
  refine (fsat_count f d j m N q g _ zeroL [] T wr hf).mono ?_
  rintro e w' ⟨rfl, hk⟩
  exact ⟨rfl, h.go hk, hk⟩
/-- One edit that is written out. -/
theorem Grd.lit (h : Grd w f d j m N q n T wr) (hn : n < 900) (k md : Int) (path B : List UInt8) (ao : Option Addr) (len cap : Nat) (hB : ArgB wr ao len cap B) (hp : path.length ≤ 9223372036854775807) :
    Calls Tryz.prog 14 #[.pointer (some ⟨f, 0, none⟩), .slice (some ⟨wr.heap.size, 0, none⟩) 1 1] (wr.alloc (.cells #[.int .i64 k, .string (strL path), .int .i64 md, .slice ao len cap] 35)) fun e w' =>
      e = .returned (.int .i64 (doP N q T [⟨k, md, path, B⟩]).1) ∧ Hid (Grd w f d j m N q (n + 1) (doP N q T [⟨k, md, path, B⟩]).2 w' ∧ Kept [f, d, m, j] wr w' ∧ Kept [f, d, m, j] (wr.alloc (.cells #[.int .i64 k, .string (strL path), .int .i64 md, .slice ao len cap] 35)) w') := by
  have hk : Kept [] wr (wr.alloc (.cells #[.int .i64 k, .string (strL path), .int .i64 md, .slice ao len cap] 35)) := Kept.alloc _ _ _
  refine ((h.go hk).doo hn (edarg1 (heap_alloc_last _ _) (hB.kept hk) hp)).mono ?_
  rintro e w' ⟨rfl, h1, h2⟩
  exact ⟨rfl, h1, (hk.mono (by simp)).trans h2, h2⟩
end
theorem hung_at {T U : PTr} (h : Hung T U) (hk : T.rc.kind = 2) (hg : T.ks.get zzN = none) : (atP U zzP).1 = 0 := by
  obtain ⟨D, _, h2⟩ := h
  rw [(stat_congr h2 zzP).1]
  unfold atP
  rw [zz_path]
  have hgz : (PTr.node T.rc (T.ks.ins zzN D)).ks.get zzN = some D := by rw [show (PTr.node T.rc (T.ks.ins zzN D)).ks = T.ks.ins zzN D from rfl, PKs.get_ins hg, if_pos rfl]
  simp only [folP]
  rw [if_pos (show (PTr.node T.rc (T.ks.ins zzN D)).rc.kind = 2 from hk), hgz]
theorem file_path : ∀ k < 12, pathO ([47, 122, 122, 45, 110, 101, 119, 47] ++ [UInt8.ofNat (97 + k)]) = some [zzN, [UInt8.ofNat (97 + k)]] := by decide
end Go.Proofs.YtiedoocgbajjjaaGreatDoor

namespace Go.Proofs.YtiedoocgbajjjaaGreatDoor
open Go.ChangeShapes Go.WideShapes Go.ChangeAt Go.RowKit
set_option maxRecDepth 100000

theorem own3 : ownKnob Tryz.prog.godebug = none := by kernel_rfl
theorem laidOut3 : laidOutB Tryz.prog = true := by kernel_rfl
def laid3 : List (String × DataW Unit) := Rows.blockfsArgsRow.laid
theorem laid3_fits (os : Os) : (World.holding Tryz.prog os ⟨#[], #[], []⟩).layFits Tryz.prog laid3 [] = true := by kernel_rfl
theorem laid3_ifaces (os : Os) : (World.holding Tryz.prog os ⟨#[], #[], []⟩).layIfaces Tryz.prog laid3 (World.laidAll Tryz.prog os laid3) = true := by kernel_rfl
theorem laid3_plain (w : World) : laidMetH Tryz.prog laid3 w = laidMet Tryz.prog laid3 w := MakeChecks.laidMetH_plain _ _ _ (by kernel_rfl)
theorem laid3_met (os : Os) (args : Array Value) : laidMetH Tryz.prog laid3 ((World.laidAll Tryz.prog os laid3).forCall (fun _ _ => 0) ⟨#[], args, []⟩).memory := by
  rw [laid3_plain]
  exact laidMet_laidAll _ (laid3_fits os) (laid3_ifaces os)
theorem laid3_shaped (os : Os) (args : Array Value) : ((World.laidAll Tryz.prog os laid3).forCall (fun _ _ => 0) ⟨#[], args, []⟩).Shaped Tryz.prog := World.shaped_of_ZipB (by kernel_rfl) (by kernel_rfl)
end Go.Proofs.YtiedoocgbajjjaaGreatDoor

/-
  Layer 4: Read and List of a tree on a disk.
  Conditions: those that each theorem states.
  Layer 4: List of a tree on a disk.
  Conditions: those that each theorem states.
  Layer 4: Free, Count, Groups of a tree on a disk.
  Conditions: those that each theorem states.
  Layer 4: a block written, a block read, on a disk that answers.
  Conditions: those that each theorem states.
-/
import Derived.Test.YtiedoocgbajjjaaGreatDoorFAsk
import Derived.Test.YtiedoocgbajjjaaGreatDoorFClnW
import Derived.Test.YtiedoocgbajjjaaGreatDoorPure
namespace Go.Proofs.YtiedoocgbajjjaaGreatDoor
open Go.RowKit Go.Maps
set_option maxRecDepth 100000

theorem BytesIs.arg {w : World} {v : Value} {L : List UInt8} (h : BytesIs w v L) (hl : L.length ≤ 2432) : ∃ ao cap, v = .slice ao L.length cap ∧ ArgB w ao L.length cap L := by
  obtain ⟨h1, _, ao, n, c, he, hc1, hc2⟩ := h
  rcases h1 with ⟨b, o, cap, hv, hb, hr⟩ | ⟨hv, rfl⟩
  · rw [hv] at he
    injection he with e1 e2 e3
    subst e1 e2 e3
    exact ⟨_, cap, hv, rfl, by omega, hc1, hc2, fun hh => (by cases hh), .inr ⟨b, o, rfl, hb, hr⟩⟩
  · exact ⟨none, 0, hv, rfl, Nat.zero_le _, Nat.le_refl _, by omega, fun _ => rfl, .inl rfl⟩
theorem owns_low {w : World} {base base' : Nat} {e : TypeId} {size : Nat} {v : Value} {n : Nat} {xs : List Value} (h : w.ownsRow base e size v n xs) (hb : base' ≤ base) : w.ownsRow base' e size v n xs := by
  obtain ⟨h1, h2 | ⟨g, cap, cur, rfl, hb', r⟩⟩ := h
  · exact ⟨h1, .inl h2⟩
  · exact ⟨h1, .inr ⟨g, cap, cur, rfl, by omega, r⟩⟩
/-- What Read and List answer. -/
def readP (t : PTr) (path : List UInt8) : Int × List UInt8 := match atP t path with
  | (c, none) => (c, [])
  | (_, some u) => if u.rc.kind = 2 then (42, []) else (0, u.rc.bytes)
def listP (t : PTr) (path : List UInt8) : Int × List (List UInt8) := match atP t path with
  | (c, none) => (c, [])
  | (_, some u) => if u.rc.kind = 2 then (0, u.ks.names) else (42, [])
def ReadOut (t : PTr) (path : List UInt8) (w : World) (e : Ending) (w' : World) : Prop :=
  ∃ v, e = .returned (.tuple #[v, .int .i64 (readP t path).1]) ∧ Hid (Kept [] w w' ∧ w'.ownsRow w.heap.size 5 1 v (readP t path).2.length (bv (readP t path).2))
def ListOut (t : PTr) (path : List UInt8) (w : World) (e : Ending) (w' : World) : Prop :=
  ∃ v, e = .returned (.tuple #[v, .int .i64 (listP t path).1]) ∧ Hid (Kept [] w w' ∧ StrsIs w' v (listP t path).2 ∧ ∀ g, v.ownBlock = some g → w.heap.size ≤ g)

set_option maxRecDepth 100000 in
set_option maxHeartbeats 4000000 in
theorem fRead_any (f d j N q g base : Nat) (S : DiskS) (t : ATr) (w : World) (h : FsIs w f d j N q g base S t) (path : List UInt8) (hp : path.length ≤ 9223372036854775807) :
    Calls Tryz.prog 22 #[.pointer (some ⟨f, 0, none⟩), .string (strL path)] w (ReadOut t.er path w) := by
  have hmf : ∀ (fn : Fn) (first cap : Array Value) (w : World), (Instr.makeFunc fn first cap).run Tryz.prog w = .ok (.func fn first cap) w := fun _ _ _ _ => rfl
  obtain ⟨w1, hw1⟩ : ∃ w1, (w.alloc (.cells #[.slice none 0 0] 22)).alloc (.cells #[.int .i64 0] 25) = w1 := ⟨_, rfl⟩
  have HK1 : Hid (Kept [] w w1) := by show Kept _ _ _; rw [← hw1]; exact (Kept.alloc [] _ _).trans (Kept.alloc [] _ _)
  have HV1 : Hid (TwoV w.heap.size #[.slice none 0 0] 22 (.int .i64 0) w1) := by
    rw [← hw1]
    exact ⟨(Kept.alloc [] _ _).heap (by simp) (heap_alloc_last _ _), by rw [← size_alloc]; exact heap_alloc_last _ _⟩
  have hf1 := h.kept HK1.out
  have HB := Lib.hid (bat_any base t path w1 hf1.tree hp)
  have HA := Lib.hid (at_out path h.tree h.st.fine)
  have HTR := Lib.hid (And.intro hf1.tree (hf1.row))
  have HW1 := Lib.hid hw1
  obtain ⟨gc, hgc⟩ : ∃ gc, w.heap.size = gc := ⟨_, rfl⟩
  have HGC := Lib.hid hgc
  rw [hgc] at HV1
  have HOUT : Hid (∀ (wz : World) (v : Value) (n : Int) (ww : World), TwoV gc #[v] 22 (.int .i64 n) wz → Kept [] w ww → Kept [gc, gc + 1] ww wz → (readP t.er path).1 = n → wz.ownsRow w.heap.size 5 1 v (readP t.er path).2.length (bv (readP t.er path).2) → ∀ T : Array Value, T.getD 4 undef = .pointer (some ⟨gc, 0, none⟩) → T.getD 5 undef = .pointer (some ⟨gc + 1, 0, none⟩) →
      bodyPostD Tryz.prog Tryz.f22 (ReadOut t.er path w) Exit.ret { tmps := T, defers := doors2 57 gc } wz) := by
    rintro wz v n ww h1 h2 h3 h4 h5 T h6 h7
    exact read_door gc v n T wz _ h1 h6 h7 ⟨v, by rw [h4], h2.into h3 (fun q hq => by simp at hq; omega), h5⟩
  clear h hw1 hgc hf1 hp
  go_enter_defers Tryz.func22, Tryz.ntmps22
  go_wp2_with fail
  rw [HW1.out, HGC.out]
  refine (ftree_any f d j N q t w1 HTR.out.2).mono ?_
  rintro e w2 ⟨rfl, rfl⟩
  go_wp2_with fail
  refine HB.out.mono ?_
  rintro e w2 ⟨rfl, hk2⟩
  have hv2 := HV1.out.go hk2
  have e0 : w2.cell? ⟨gc + 1, 0, none⟩ = some (.int .i64 0) := cell_of_row _ _ 0 _ _ _ hv2.e
  have fe2 : ∀ q, w2.frozen? ⟨gc + 1, q, none⟩ = false := fun q => frozen_of_row _ _ q _ _ hv2.e
  cases HA.out with
  | no c hat hc hap =>
    have hcb : (c != 0) = true := by simpa using hc
    rw [hat]
    obtain ⟨w3, hw3⟩ : ∃ w3, w2.setCell ⟨gc + 1, 0, none⟩ (.int .i64 c) = w3 := ⟨_, rfl⟩
    have hv3 := hv2.setE (.int .i64 c)
    rw [hw3] at hv3
    have hrp : readP t.er path = (c, []) := by unfold readP; rw [hap]
    have HV3 := Lib.hid (And.intro hv3 (And.intro (HK1.out.trans hk2) hrp))
    have HW3 := Lib.hid hw3
    have f0 : w3.cell? ⟨gc + 1, 0, none⟩ = some (.int .i64 c) := cell_of_row _ _ 0 _ _ _ hv3.1.e
    have ff : ∀ q, w3.frozen? ⟨gc + 1, q, none⟩ = false := fun q => frozen_of_row _ _ q _ _ hv3.1.e
    have f1 : w3.cell? ⟨gc, 0, none⟩ = some (.slice none 0 0) := cell_of_row _ _ 0 _ _ _ hv3.1.c
    have fg : ∀ q, w3.frozen? ⟨gc, q, none⟩ = false := fun q => frozen_of_row _ _ q _ _ hv3.1.c
    clear hk2 hv2 hw3 hv3 hap hat hc hrp
    go_wp2_with fail
    rw [HW3.out]
    go_wp2_with fail
    go_region
    go_wp2_with fail
    have h4 := HV3.out.1.1.setC 0 (.slice none 0 0)
    refine HOUT.out _ _ c w2 (h4.1.setE (.int .i64 c)).1.drew HV3.out.2.1 ?_ (by rw [HV3.out.2.2]) ?_ _ rfl rfl
    · exact ((HV3.out.1.2.trans h4.2).trans (h4.1.setE _).2).trans (Kept.drew _ _)
    · rw [HV3.out.2.2]; exact World.ownsRow_nil _ _ _ _
  | yes u hat hu hfu hap =>
    rw [hat]
    have hpt : ptrO (((0 : Int), some u) : Int × Option ATr).2 = .pointer (some ⟨u.addr, 0, none⟩) := rfl
    rw [hpt]
    clear hpt
    have hv3 := hv2.setE (.int .i64 0)
    have hrp : readP t.er path = if u.rc.kind = 2 then (42, []) else (0, u.rc.bytes) := by unfold readP; rw [hap]; simp only [er_rc]
    have HV3 := Lib.hid (And.intro hv3 (And.intro (HK1.out.trans hk2) hrp))
    have f0 : (w2.setCell ⟨gc + 1, 0, none⟩ (.int .i64 0)).cell? ⟨gc + 1, 0, none⟩ = some (.int .i64 0) := cell_of_row _ _ 0 _ _ _ hv3.1.e
    have hnb : NoBytes w2 gc ∧ NoBytes w2 (gc + 1) := ⟨fun cs fr hh => (by rw [hv2.c] at hh; injection hh with hh; injection hh with _ hh; cases hh), fun cs fr hh => (by rw [hv2.e] at hh; injection hh with hh; injection hh with _ hh; cases hh)⟩
    have hM3 : MTr base (w2.setCell ⟨gc + 1, 0, none⟩ (.int .i64 0)) u := (hu.frame (HK1.out.trans hk2) (by simp)).frame hv3.2 (fun b hb => by
      have hbn : b ∉ u.foot := fun hh => by
        have h1 := (foot_mem hu.ok hu.own b hh).2.1
        have h4 := HGC.out
        simp at hb
        omega
      simp at hb
      rcases hb with rfl | rfl
      · exact ⟨hnb.1, hbn⟩
      · exact ⟨hnb.2, hbn⟩)
    obtain ⟨m, va, vb, hrow, _, _, hby, _⟩ := hM3.ok.row
    have hbl : u.rc.bytes.length ≤ 2432 := by
      have := hM3.ok
      obtain ⟨a, m, va, vb, r, ks⟩ := u
      exact this.2.1.2
    obtain ⟨ao, cap, rfl, harg⟩ := hby.arg hbl
    obtain ⟨L, hL⟩ : ∃ L, u.rc.bytes = L := ⟨_, rfl⟩
    rw [hL] at harg hrp hbl
    have k0 : (w2.setCell ⟨gc + 1, 0, none⟩ (.int .i64 0)).cell? ⟨u.addr, 0, none⟩ = some (.int .i64 u.rc.kind) := cell_of_row _ _ 0 _ _ _ hrow
    have k2 : (w2.setCell ⟨gc + 1, 0, none⟩ (.int .i64 0)).cell? ⟨u.addr, 2, none⟩ = some (.slice ao u.rc.bytes.length cap) := cell_of_row _ _ 2 _ _ _ hrow
    rw [hL] at k2
    have HCL := Lib.hid (slCloneB_any ao L.length cap L (w2.setCell ⟨gc + 1, 0, none⟩ (.int .i64 0)) harg (by omega))
    have f1 : (w2.setCell ⟨gc + 1, 0, none⟩ (.int .i64 0)).cell? ⟨gc, 0, none⟩ = some (.slice none 0 0) := cell_of_row _ _ 0 _ _ _ hv3.1.c
    have fg : ∀ q, (w2.setCell ⟨gc + 1, 0, none⟩ (.int .i64 0)).frozen? ⟨gc, q, none⟩ = false := fun q => frozen_of_row _ _ q _ _ hv3.1.c
    have ff : ∀ q, (w2.setCell ⟨gc + 1, 0, none⟩ (.int .i64 0)).frozen? ⟨gc + 1, q, none⟩ = false := fun q => frozen_of_row _ _ q _ _ hv3.1.e
    obtain ⟨n, hn⟩ : ∃ n, L.length = n := ⟨_, rfl⟩
    have HN := Lib.hid hn
    rw [hn] at HCL k2
    by_cases hk : u.rc.kind = 2
    · have hrp2 : Hid (readP t.er path = (42, [])) := by show _ = _; rw [hrp, if_pos hk]
      rw [hk] at k0
      clear hk2 hv2 hv3 hap hat hM3 hrow hu hfu hnb hby harg hbl hk hL hn hrp k2
      go_wp2_with fail
      have h4 := HV3.out.1.1.setC 0 (.slice none 0 0)
      refine HOUT.out _ _ 42 w2 (h4.1.setE (.int .i64 42)).1 HV3.out.2.1 ?_ (by rw [hrp2.out]) ?_ _ rfl rfl
      · exact (HV3.out.1.2.trans h4.2).trans (h4.1.setE _).2
      · rw [hrp2.out]; exact World.ownsRow_nil _ _ _ _
    · have hrp2 : Hid (readP t.er path = (0, L)) := by show _ = _; rw [hrp, if_neg hk]
      have hkb : (u.rc.kind == 2) = false := by simpa using hk
      clear hk2 hv2 hv3 hap hat hM3 hrow hu hfu hnb hby harg hbl hk hL hn hrp
      go_wp2_with fail
      refine HCL.out.mono ?_
      rintro e w4 ⟨v, rfl, H4⟩
      obtain ⟨ga, gn, gk, rfl⟩ : ∃ ga gn gk, v = .slice ga gn gk := by rcases H4.out.2.2 with ⟨e, _⟩ | ⟨_, _, _, e, _⟩ <;> exact ⟨_, _, _, e⟩
      have hv4 := HV3.out.1.1.go H4.out.1
      have H5 := Lib.hid hv4
      have i0 : w4.cell? ⟨gc + 1, 0, none⟩ = some (.int .i64 0) := cell_of_row _ _ 0 _ _ _ hv4.e
      have i1 : w4.cell? ⟨gc, 0, none⟩ = some (.slice none 0 0) := cell_of_row _ _ 0 _ _ _ hv4.c
      have ig : ∀ q, w4.frozen? ⟨gc, q, none⟩ = false := fun q => frozen_of_row _ _ q _ _ hv4.c
      have ie : ∀ q, w4.frozen? ⟨gc + 1, q, none⟩ = false := fun q => frozen_of_row _ _ q _ _ hv4.e
      clear hv4 f0 f1 fg ff k0 k2
      go_wp2_with fail
      have h4 := H5.out.setC 0 (.slice ga gn gk)
      have hkk : Kept [gc, gc + 1] w4 _ := h4.2.trans (h4.1.setE (.int .i64 0)).2
      refine HOUT.out _ _ 0 w2 (h4.1.setE (.int .i64 0)).1 HV3.out.2.1 ?_ (by rw [hrp2.out]) ?_ _ rfl rfl
      · exact (HV3.out.1.2.trans (H4.out.1.mono (by simp))).trans hkk
      · rw [hrp2.out, HN.out]
        refine owns_low (owns_kept H4.out.2 hkk (fun q hq => ?_)) ?_
        · have h1 := (World.ownsRow.lt H4.out.2 q hq).1
          have h2 := (Array.getElem?_eq_some_iff.1 HV3.out.1.1.e).1
          simp
          omega
        · have h1 := HV3.out.2.1.size
          have h2 := HV3.out.1.2.size
          omega
end Go.Proofs.YtiedoocgbajjjaaGreatDoor

namespace Go.Proofs.YtiedoocgbajjjaaGreatDoor
open Go.RowKit Go.Maps
set_option maxRecDepth 100000

theorem strs_none (w : World) (b : Nat) : StrsIs w (.slice none 0 0) [] ∧ ∀ g, (Value.slice none 0 0).ownBlock = some g → b ≤ g := ⟨.inr ⟨rfl, rfl⟩, fun g hg => by cases hg⟩
set_option maxRecDepth 100000 in
set_option maxHeartbeats 4000000 in
theorem fList_any (f d j N q g base : Nat) (S : DiskS) (t : ATr) (w : World) (h : FsIs w f d j N q g base S t) (path : List UInt8) (hp : path.length ≤ 9223372036854775807) :
    Calls Tryz.prog 19 #[.pointer (some ⟨f, 0, none⟩), .string (strL path)] w (ListOut t.er path w) := by
  have hmf : ∀ (fn : Fn) (first cap : Array Value) (w : World), (Instr.makeFunc fn first cap).run Tryz.prog w = .ok (.func fn first cap) w := fun _ _ _ _ => rfl
  obtain ⟨w1, hw1⟩ : ∃ w1, (w.alloc (.cells #[.slice none 0 0] 44)).alloc (.cells #[.int .i64 0] 25) = w1 := ⟨_, rfl⟩
  have HK1 : Hid (Kept [] w w1) := by show Kept _ _ _; rw [← hw1]; exact (Kept.alloc [] _ _).trans (Kept.alloc [] _ _)
  have HV1 : Hid (TwoV w.heap.size #[.slice none 0 0] 44 (.int .i64 0) w1) := by
    rw [← hw1]
    exact ⟨(Kept.alloc [] _ _).heap (by simp) (heap_alloc_last _ _), by rw [← size_alloc]; exact heap_alloc_last _ _⟩
  have hf1 := h.kept HK1.out
  have HB := Lib.hid (bat_any base t path w1 hf1.tree hp)
  have HA := Lib.hid (at_out path h.tree h.st.fine)
  have HTR := Lib.hid (And.intro hf1.tree (hf1.row))
  have HW1 := Lib.hid hw1
  obtain ⟨gc, hgc⟩ : ∃ gc, w.heap.size = gc := ⟨_, rfl⟩
  have HGC := Lib.hid hgc
  rw [hgc] at HV1
  have HOUT : Hid (∀ (wz : World) (v : Value) (n : Int) (ww : World), TwoV gc #[v] 44 (.int .i64 n) wz → Kept [] w ww → Kept [gc, gc + 1] ww wz → (listP t.er path).1 = n → (StrsIs wz v (listP t.er path).2 ∧ ∀ g, v.ownBlock = some g → w.heap.size ≤ g) → ∀ T : Array Value, T.getD 4 undef = .pointer (some ⟨gc, 0, none⟩) → T.getD 5 undef = .pointer (some ⟨gc + 1, 0, none⟩) →
      bodyPostD Tryz.prog Tryz.f19 (ListOut t.er path w) Exit.ret { tmps := T, defers := doors2 52 gc } wz) := by
    rintro wz v n ww h1 h2 h3 h4 h5 T h6 h7
    exact list_door gc v n T wz _ h1 h6 h7 ⟨v, by rw [h4], h2.into h3 (fun q hq => by simp at hq; omega), h5⟩
  clear h hw1 hgc hf1 hp
  go_enter_defers Tryz.func19, Tryz.ntmps19
  go_wp2_with fail
  rw [HW1.out, HGC.out]
  refine (ftree_any f d j N q t w1 HTR.out.2).mono ?_
  rintro e w2 ⟨rfl, rfl⟩
  go_wp2_with fail
  refine HB.out.mono ?_
  rintro e w2 ⟨rfl, hk2⟩
  have hv2 := HV1.out.go hk2
  have e0 : w2.cell? ⟨gc + 1, 0, none⟩ = some (.int .i64 0) := cell_of_row _ _ 0 _ _ _ hv2.e
  have fe2 : ∀ q, w2.frozen? ⟨gc + 1, q, none⟩ = false := fun q => frozen_of_row _ _ q _ _ hv2.e
  cases HA.out with
  | no c hat hc hap =>
    have hcb : (c != 0) = true := by simpa using hc
    rw [hat]
    obtain ⟨w3, hw3⟩ : ∃ w3, w2.setCell ⟨gc + 1, 0, none⟩ (.int .i64 c) = w3 := ⟨_, rfl⟩
    have hv3 := hv2.setE (.int .i64 c)
    rw [hw3] at hv3
    have hrp : listP t.er path = (c, []) := by unfold listP; rw [hap]
    have HV3 := Lib.hid (And.intro hv3 (And.intro (HK1.out.trans hk2) hrp))
    have HW3 := Lib.hid hw3
    have f0 : w3.cell? ⟨gc + 1, 0, none⟩ = some (.int .i64 c) := cell_of_row _ _ 0 _ _ _ hv3.1.e
    have ff : ∀ q, w3.frozen? ⟨gc + 1, q, none⟩ = false := fun q => frozen_of_row _ _ q _ _ hv3.1.e
    have f1 : w3.cell? ⟨gc, 0, none⟩ = some (.slice none 0 0) := cell_of_row _ _ 0 _ _ _ hv3.1.c
    have fg : ∀ q, w3.frozen? ⟨gc, q, none⟩ = false := fun q => frozen_of_row _ _ q _ _ hv3.1.c
    clear hk2 hv2 hw3 hv3 hap hat hc hrp
    go_wp2_with fail
    rw [HW3.out]
    go_wp2_with fail
    go_region
    go_wp2_with fail
    have h4 := HV3.out.1.1.setC 0 (.slice none 0 0)
    refine HOUT.out _ _ c w2 (h4.1.setE (.int .i64 c)).1.drew HV3.out.2.1 ?_ (by rw [HV3.out.2.2]) ?_ _ rfl rfl
    · exact ((HV3.out.1.2.trans h4.2).trans (h4.1.setE _).2).trans (Kept.drew _ _)
    · rw [HV3.out.2.2]; exact strs_none _ _
  | yes u hat hu hfu hap =>
    rw [hat]
    have hpt : ptrO (((0 : Int), some u) : Int × Option ATr).2 = .pointer (some ⟨u.addr, 0, none⟩) := rfl
    rw [hpt]
    clear hpt
    have hv3 := hv2.setE (.int .i64 0)
    have hrp : listP t.er path = if u.rc.kind = 2 then (0, u.ks.names) else (42, []) := by unfold listP; rw [hap]; simp only [er_rc, er_ks, er_names]
    have HV3 := Lib.hid (And.intro hv3 (And.intro (HK1.out.trans hk2) hrp))
    have f0 : (w2.setCell ⟨gc + 1, 0, none⟩ (.int .i64 0)).cell? ⟨gc + 1, 0, none⟩ = some (.int .i64 0) := cell_of_row _ _ 0 _ _ _ hv3.1.e
    have hnb : NoBytes w2 gc ∧ NoBytes w2 (gc + 1) := ⟨fun cs fr hh => (by rw [hv2.c] at hh; injection hh with hh; injection hh with _ hh; cases hh), fun cs fr hh => (by rw [hv2.e] at hh; injection hh with hh; injection hh with _ hh; cases hh)⟩
    have hM3 : MTr base (w2.setCell ⟨gc + 1, 0, none⟩ (.int .i64 0)) u := (hu.frame (HK1.out.trans hk2) (by simp)).frame hv3.2 (fun b hb => by
      have hbn : b ∉ u.foot := fun hh => by
        have h1 := (foot_mem hu.ok hu.own b hh).2.1
        have h4 := HGC.out
        simp at hb
        omega
      simp at hb
      rcases hb with rfl | rfl
      · exact ⟨hnb.1, hbn⟩
      · exact ⟨hnb.2, hbn⟩)
    obtain ⟨m, va, vb, hrow, _, _, _, _⟩ := hM3.ok.row
    have k0 : (w2.setCell ⟨gc + 1, 0, none⟩ (.int .i64 0)).cell? ⟨u.addr, 0, none⟩ = some (.int .i64 u.rc.kind) := cell_of_row _ _ 0 _ _ _ hrow
    have HNM := Lib.hid (nnames_any u (w2.setCell ⟨gc + 1, 0, none⟩ (.int .i64 0)) hM3.ok (by have := (ATr.small_ks (fine_small hfu)).1; omega))
    have f1 : (w2.setCell ⟨gc + 1, 0, none⟩ (.int .i64 0)).cell? ⟨gc, 0, none⟩ = some (.slice none 0 0) := cell_of_row _ _ 0 _ _ _ hv3.1.c
    have fg : ∀ q, (w2.setCell ⟨gc + 1, 0, none⟩ (.int .i64 0)).frozen? ⟨gc, q, none⟩ = false := fun q => frozen_of_row _ _ q _ _ hv3.1.c
    have ff : ∀ q, (w2.setCell ⟨gc + 1, 0, none⟩ (.int .i64 0)).frozen? ⟨gc + 1, q, none⟩ = false := fun q => frozen_of_row _ _ q _ _ hv3.1.e
    by_cases hk : u.rc.kind = 2
    case neg =>
      have hrp2 : Hid (listP t.er path = (42, [])) := by show _ = _; rw [hrp, if_neg hk]
      have hkb : (u.rc.kind != 2) = true := by simpa using hk
      clear hk2 hv2 hv3 hap hat hM3 hrow hu hfu hnb hk hrp
      go_wp2_with fail
      have h4 := HV3.out.1.1.setC 0 (.slice none 0 0)
      refine HOUT.out _ _ 42 w2 (h4.1.setE (.int .i64 42)).1 HV3.out.2.1 ?_ (by rw [hrp2.out]) ?_ _ rfl rfl
      · exact (HV3.out.1.2.trans h4.2).trans (h4.1.setE _).2
      · rw [hrp2.out]; exact strs_none _ _
    · have hrp2 : Hid (listP t.er path = (0, u.ks.names)) := by show _ = _; rw [hrp, if_pos hk]
      rw [hk] at k0
      clear hk2 hv2 hv3 hap hat hM3 hrow hu hfu hnb hk hrp
      go_wp2_with fail
      refine HNM.out.mono ?_
      rintro e w4 ⟨v, rfl, H4⟩
      obtain ⟨ga, gn, gk, rfl⟩ : ∃ ga gn gk, v = .slice ga gn gk := by rcases H4.out.2.1 with ⟨_, _, _, e, _⟩ | ⟨e, _⟩ <;> exact ⟨_, _, _, e⟩
      have hv4 := HV3.out.1.1.go H4.out.1
      have H5 := Lib.hid hv4
      have i0 : w4.cell? ⟨gc + 1, 0, none⟩ = some (.int .i64 0) := cell_of_row _ _ 0 _ _ _ hv4.e
      have i1 : w4.cell? ⟨gc, 0, none⟩ = some (.slice none 0 0) := cell_of_row _ _ 0 _ _ _ hv4.c
      have ig : ∀ q, w4.frozen? ⟨gc, q, none⟩ = false := fun q => frozen_of_row _ _ q _ _ hv4.c
      have ie : ∀ q, w4.frozen? ⟨gc + 1, q, none⟩ = false := fun q => frozen_of_row _ _ q _ _ hv4.e
      clear hv4 f0 f1 fg ff k0
      go_wp2_with fail
      have h4 := H5.out.setC 0 (.slice ga gn gk)
      have hkk : Kept [gc, gc + 1] w4 _ := h4.2.trans (h4.1.setE (.int .i64 0)).2
      refine HOUT.out _ _ 0 w2 (h4.1.setE (.int .i64 0)).1 HV3.out.2.1 ?_ (by rw [hrp2.out]) ?_ _ rfl rfl
      · exact (HV3.out.1.2.trans (H4.out.1.mono (by simp))).trans hkk
      · rw [hrp2.out]
        refine ⟨H4.out.2.1.keptEx hkk (fun q hq => ?_), fun q hq => ?_⟩
        · have h1 := H4.out.2.2 q hq
          have h2 := (Array.getElem?_eq_some_iff.1 HV3.out.1.1.e).1
          simp
          omega
        · have h0 := H4.out.2.2 q hq
          have h1 := HV3.out.2.1.size
          have h2 := HV3.out.1.2.size
          omega
end Go.Proofs.YtiedoocgbajjjaaGreatDoor

namespace Go.Proofs.YtiedoocgbajjjaaGreatDoor
open Go.RowKit Go.Maps
set_option maxRecDepth 100000

theorem FsIs.allSm {w : World} {f d j N q g base : Nat} {S : DiskS} {t : ATr} (h : FsIs w f d j N q g base S t) : TrOk w t ∧ t.small ∧ t.all.length ≤ 100000 := ⟨h.tree.ok, fine_small h.st.fine, by have := h.st.len; omega⟩

set_option maxRecDepth 100000 in
set_option maxHeartbeats 2000000 in
theorem fCount_any (f d j N q g base : Nat) (S : DiskS) (t : ATr) (w : World) (h : FsIs w f d j N q g base S t) :
    Calls Tryz.prog 16 #[.pointer (some ⟨f, 0, none⟩)] w fun e w' => e = .returned (.int .i64 (t.er.recs.length : Int)) ∧ Kept [] w w' := by
  have hrow := h.row
  unfold fsRow at hrow
  have c10 : w.cell? ⟨f, 10, none⟩ = some (.pointer (some ⟨t.addr, 0, none⟩)) := cell_of_row _ _ 10 _ _ _ hrow
  have HA := Lib.hid (nall_any t.ht t w (Nat.le_refl _) h.allSm.1 h.allSm.2.1 h.allSm.2.2)
  have HL : Hid (t.er.recs.length = t.all.length) := recs_len t
  clear h hrow
  go_enter Tryz.func16, Tryz.ntmps16
  go_wp2_with fail
  refine HA.out.mono ?_
  rintro e w2 ⟨v, rfl, H2⟩
  obtain ⟨g, cap, hv⟩ : ∃ g cap, v = .slice g t.all.length cap := by
    rcases owns_range H2.out.2 with ⟨g, cap, rfl, _⟩ | ⟨rfl, hz, _⟩
    · exact ⟨_, cap, rfl⟩
    · exact ⟨_, 0, by rw [hz]⟩
  subst hv
  clear c10
  go_wp2_with fail
  go_ret
  exact ⟨by rw [HL.out]; rfl, H2.out.1⟩
set_option maxRecDepth 100000 in
set_option maxHeartbeats 2000000 in
theorem fGroups_any (f d j N q g base : Nat) (S : DiskS) (t : ATr) (w : World) (h : FsIs w f d j N q g base S t) :
    Calls Tryz.prog 29 #[.pointer (some ⟨f, 0, none⟩)] w fun e w' => e = .returned (.int .i64 (g : Int)) ∧ w = w' := by
  have hrow := h.row
  unfold fsRow at hrow
  have c9 : w.cell? ⟨f, 9, none⟩ = some (.pointer (some ⟨j, 0, none⟩)) := cell_of_row _ _ 9 _ _ _ hrow
  have HG := Lib.hid (groups_any j _ w h.jl.jour)
  clear h hrow
  go_enter Tryz.func29, Tryz.ntmps29
  go_wp2_with fail
  refine HG.out.mono ?_
  rintro e w2 ⟨rfl, rfl⟩
  clear c9
  go_wp2_with fail
  go_ret
  exact ⟨rfl, rfl⟩
set_option maxRecDepth 100000 in
set_option maxHeartbeats 2000000 in
theorem fFree_any (f d j N q g base : Nat) (S : DiskS) (t : ATr) (w : World) (h : FsIs w f d j N q g base S t) :
    Calls Tryz.prog 18 #[.pointer (some ⟨f, 0, none⟩)] w fun e w' => e = .returned (.int .i64 ((N : Int) - ((233 + q : Nat) : Int) - costL t.all)) ∧ Kept [] w w' := by
  have hrow := h.row
  unfold fsRow at hrow
  obtain ⟨D, hD⟩ : ∃ D : Int, ((233 + q : Nat) : Int) = D := ⟨_, rfl⟩
  obtain ⟨E, hE⟩ : ∃ E : Int, ((201 + q : Nat) : Int) = E := ⟨_, rfl⟩
  rw [hD, hE] at hrow
  have HROW := Lib.hid hrow
  have hfd : ∀ w', Kept [] w w' → FsIs w' f d j N q g base S t := fun w' hk => h.kept hk
  have HS := Lib.hid hfd
  have hdr := h.kept (Kept.drew [] w)
  have HA := Lib.hid (nall_any t.ht t w.drew (Nat.le_refl _) hdr.allSm.1 hdr.allSm.2.1 hdr.allSm.2.2)
  obtain ⟨C, hC⟩ : ∃ C, costL t.all = C := ⟨_, rfl⟩
  have hb := costL_bd t.all
  have hsz := h.ok
  have hln := h.st.len
  have hw1 : IntKind.i64.wrap ((N : Int) - D) = (N : Int) - D := by rw [IntKind.wrap_i64]; have := hsz.hi; have := hsz.q; omega
  have hw2 : IntKind.i64.wrap ((N : Int) - D - C) = (N : Int) - D - C := by
    rw [hC] at hb
    have := hsz.hi; have := hsz.q
    rw [IntKind.wrap_i64]; omega
  have z0 : ∀ w', Kept [] w.drew w' → w'.cell? ⟨f, 1, none⟩ = some (.int .i64 N) := fun w' hk => cell_of_row _ _ 1 _ _ _ (hk.heap (by simp) (show w.drew.heap[f]? = _ from hrow))
  have z1 : ∀ w', Kept [] w.drew w' → w'.cell? ⟨f, 7, none⟩ = some (.int .i64 D) := fun w' hk => cell_of_row _ _ 7 _ _ _ (hk.heap (by simp) (show w.drew.heap[f]? = _ from hrow))
  have z2 : ∀ w', Kept [] w.drew w' → w'.cell? ⟨f, 10, none⟩ = some (.pointer (some ⟨t.addr, 0, none⟩)) := fun w' hk => cell_of_row _ _ 10 _ _ _ (hk.heap (by simp) (show w.drew.heap[f]? = _ from hrow))
  have HC := Lib.hid hC
  have HD := Lib.hid hD
  clear h hrow hfd hdr hC hb hsz hln hD hE
  go_enter Tryz.func18, Tryz.ntmps18
  go_wp2_with fail
  refine wp_region_ordZ (R := (Kept [])) 18 [(true, 0), (true, 1), (true, 2), (true, 3), (true, 4), (true, 5), (true, 6), (true, 7), (true, 8), (true, 9), (true, 10), (true, 11), (true, 12), (true, 13), (true, 14), (false, 15), (false, 16), (true, 17)] (fun _ => Kept.refl _ _) (fun _ _ _ h k => h.trans k) (by kernel_rfl) (fun _ _ d _ _ h => by cases d <;> exact h) (by kernel_rfl) rfl (by decide) (by kernel_rfl) (by kernel_rfl) ?_
  simp only [named, List.getD_cons_zero, List.getD_cons_succ]
  repeat (first | (apply wpR_take; (case hw => rfl); (case hv => intro w' hk; go_simp; with_reducible rfl); simp only [Act.put, List.setIfInBounds_toArray, List.set_cons_zero, List.set_cons_succ]) | (refine wpR_pass (by rfl) ?_; simp only [Act.put, List.setIfInBounds_toArray, List.set_cons_zero, List.set_cons_succ]))
  clear z0 z1 z2
  refine wpR_force (by rfl) (fun K hK => ?_)
  go_simp
  refine HA.out.mono ?_
  rintro e w2 ⟨v, rfl, H2⟩
  refine hK _ _ H2.out.1 ?_
  clear hK K
  have HF2 := HS.out w2 ((Kept.drew _ _).trans H2.out.1)
  have HCO := Lib.hid (bcost_any t.all w.drew.heap.size v w2 H2.out.2 t.all_pos (fun x hx => ⟨((TrOk.mem HF2.allSm.1 HF2.allSm.2.1) x hx).1, ((TrOk.mem HF2.allSm.1 HF2.allSm.2.1) x hx).2⟩) HF2.allSm.2.2)
  rw [HC.out] at HCO
  have H22 := Lib.hid H2.out.1
  clear HF2 H2
  refine wpR_force (by rfl) (fun K hK => ?_)
  go_simp
  refine HCO.out.mono ?_
  rintro e w3 ⟨rfl, k3, rfl⟩
  refine hK _ _ (Kept.drewN _ _ _) ?_
  clear hK K
  repeat (first | (apply wpR_take; (case hw => rfl); (case hv => intro w' hk; go_simp; with_reducible rfl); simp only [Act.put, List.setIfInBounds_toArray, List.set_cons_zero, List.set_cons_succ]) | (refine wpR_pass (by rfl) ?_; simp only [Act.put, List.setIfInBounds_toArray, List.set_cons_zero, List.set_cons_succ]))
  refine wpR_nil ?_; refine lastQ_go rfl ?_
  go_simp
  go_wp2_with fail
  go_ret
  exact ⟨by rw [HC.out, HD.out]; rfl, (Kept.drew _ _).trans (H22.out.trans (Kept.drewN _ _ _))⟩
end Go.Proofs.YtiedoocgbajjjaaGreatDoor

namespace Go.Proofs.YtiedoocgbajjjaaGreatDoor
open Go.RowKit Go.Maps
set_option maxRecDepth 100000

/-- A block is written. -/
def DiskS.putB (S : DiskS) (i : Int) (l : List UInt8) : DiskS := { S with blk := updL S.blk i l, writes := S.writes + 1 }
theorem wr_live {S : DiskS} {i : Int} {l : List UInt8} (h0 : 0 ≤ i) (h1 : i < S.size) (ho : S.off = false) (hf : S.fused = false) (hl : l.length = 64) : S.wr i l = (0, S.putB i l) := by
  have hr := reach_in h0 h1 ho
  unfold DiskS.wr DiskS.burn DiskS.putB
  rw [if_pos hr, if_pos hl, hf]
  simp [hf]

set_option maxRecDepth 100000 in
set_option maxHeartbeats 2000000 in
theorem bwrite_any (d : Nat) (S : DiskS) (i : Int) (l : List UInt8) (w : World) (h : Live w d S) (h0 : 0 ≤ i) (h1 : i < S.size) (hl : l.length = 64) (hw : S.writes ≤ 1000000) :
    Calls Tryz.prog 37 #[.pointer (some ⟨d, 0, none⟩), .int .i64 i, .agg (bvA l)] w fun e w' => e = .returned (.tuple #[]) ∧ Live w' d (S.putB i l) ∧ Kept [d, S.m] w w' := by
  obtain ⟨w1, hw1⟩ : ∃ w1, w.alloc (.cells (bvA l) 77) = w1 := ⟨_, rfl⟩
  have hk1 : Kept [] w w1 := by rw [← hw1]; exact Kept.alloc _ _ _
  have hr1 : w1.heap[w.heap.size]? = some (.cells (bvA l) 77) := by rw [← hw1]; exact heap_alloc_last _ _
  have h1L := h.kept hk1 (by simp) (by simp)
  have hd := (Array.getElem?_eq_some_iff.1 h.disk.here).1
  have HC := Lib.hid (write_any d S i (.slice (some ⟨w.heap.size, 0, none⟩) 64 64) l w1 h1L.disk (by omega) (.inl ⟨_, 0, 64, by rw [hl], by have := (Array.getElem?_eq_some_iff.1 hr1).1; exact this, range_row hr1⟩) (fun b o n c hh => by injection hh with hh; injection hh with hh; injection hh with hh; omega))
  rw [wr_live h0 h1 h.off h.fused hl] at HC
  have HW1 := Lib.hid hw1
  have HF := Lib.hid (And.intro hk1 (And.intro h.off h.fused))
  clear hr1 h1L hd h hw1 hk1
  go_enter Tryz.func37, Tryz.ntmps37
  go_wp2_with fail
  rw [HW1.out]
  refine HC.out.mono ?_
  rintro e w2 ⟨rfl, hd2, hk2⟩
  have H2 := Lib.hid (And.intro hd2 hk2)
  clear hd2 hk2
  go_wp2_with fail
  go_end0
  exact ⟨rfl, ⟨H2.out.1, HF.out.2.1, HF.out.2.2⟩, (HF.out.1.mono (by simp)).trans H2.out.2⟩

set_option maxRecDepth 100000 in
set_option maxHeartbeats 2000000 in
theorem bread_any (d : Nat) (S : DiskS) (i : Int) (w : World) (h : Live w d S) (h0 : 0 ≤ i) (h1 : i < S.size) :
    Calls Tryz.prog 64 #[.pointer (some ⟨d, 0, none⟩), .int .i64 i] w fun e w' => e = .returned (.agg (bvA (S.blk i))) ∧ Kept [] w w' := by
  obtain ⟨w1, hw1⟩ : ∃ w1, w.alloc (.cells (bvA zeroL) 77) = w1 := ⟨_, rfl⟩
  have hk1 : Kept [] w w1 := by rw [← hw1]; exact Kept.alloc _ _ _
  have hr1 : w1.heap[w.heap.size]? = some (.cells (bvA zeroL) 77) := by rw [← hw1]; exact heap_alloc_last _ _
  have HC := Lib.hid (read_ok d S i w1 (h.disk.kept hk1 (by simp) (by simp)) (reach_in h0 h1 h.off))
  have HW1 := Lib.hid hw1
  have HL : Hid ((S.blk i).length = 64) := h.disk.blk64 i
  have HF := Lib.hid (And.intro hk1 hr1)
  have hz : ∀ w, (zeroValue 77).run Tryz.prog w = .ok (.agg (bvA zeroL)) w := fun _ => by kernel_rfl
  clear hr1 h hw1 hk1
  go_enter Tryz.func64, Tryz.ntmps64
  go_wp2_with fail
  rw [HW1.out]
  refine HC.out.mono ?_
  rintro e w2 ⟨rfl, hw2⟩
  have har := run_arrayAt (P := Tryz.prog) 77 5 64 Tryz.underlying77 (some ⟨w1.heap.size, 0, none⟩) 64 64 (Nat.le_refl _)
  obtain ⟨L, hL⟩ : ∃ L, S.blk i = L := ⟨_, rfl⟩
  rw [hL] at hw2
  have hl64 : L.length = 64 := by rw [← hL]; exact HL.out
  have hr2 : w2.heap[w1.heap.size]? = some (.cells (bvA L) 73) := by rw [hw2]; exact heap_alloc_last _ _
  have hk2 : Kept [] w1 w2 := by rw [hw2]; exact Kept.alloc _ _ _
  have HR := hk2.heap (by simp) HF.out.2
  have HK2 := Lib.hid hk2
  have HLL := Lib.hid hL
  have hrg := range_row hr2
  have hsz : (Tryz.prog.info? 77).map (·.size) = some (bv L).length := by rw [bv_length, hl64]; kernel_rfl
  have hsz2 : (Tryz.prog.info? 77).map (·.size) = some L.length := by rw [hl64]; kernel_rfl
  have hl2 : L.length = zeroL.length := by rw [hl64]; rfl
  clear hw2 hr2 hk2 hL
  go_wp2_with first
    | (refine wpList_load_mid rfl 77 _ rfl _ 0 rfl (bv L) _ hrg Tryz.underlying77 rfl hsz ?_)
    | (refine wpList_store_row rfl 77 _ _ rfl w.heap.size 77 zeroL L rfl rfl HR hl2 hsz2 ?_)
  refine bodyPost_ret_by (results_cell_row rfl _ _ w.heap.size 77 (bvA L) (0, 0) _ rfl (setRow_heap _ _ _ _ _ _ HR) Tryz.underlying77 rfl (by rw [bvA_size]; exact hsz2)) rfl ⟨by rw [HLL.out], ?_⟩
  exact (HF.out.1.trans HK2.out).into (setRow_kept _ _ _) (by simp)

/-- The super block. -/
def treeL : List UInt8 := [109, 97, 106, 111, 114, 100, 111, 109, 111, 32, 116, 114, 101, 101]
def superL (N : Nat) : List UInt8 := treeL ++ [UInt8.ofNat (N / 256), UInt8.ofNat (N % 256)] ++ List.replicate 48 0
theorem superL_length (N : Nat) : (superL N).length = 64 := rfl
set_option maxRecDepth 100000 in
set_option maxHeartbeats 2000000 in
theorem superBlock_any (N : Nat) (x1 x2 x3 x4 x5 D c : Int) (w : World) (hN : N ≤ 4096) :
    Calls Tryz.prog 41 #[.agg (layW N x1 x2 x3 x4 x5 D c)] w fun e w' => e = .returned (.agg (bvA (superL N))) ∧ Kept [] w w' := by
  unfold layW
  have hz : ∀ w, (zeroValue 77).run Tryz.prog w = .ok (.agg (bvA zeroL)) w := fun _ => by kernel_rfl
  go_enter Tryz.func41, Tryz.ntmps41
  go_wp2_with fail
  obtain ⟨w1, hw1⟩ : ∃ w1, (((w.alloc (.cells #[.int .i64 N, .int .i64 x1, .int .i64 x2, .int .i64 x3, .int .i64 x4, .int .i64 x5, .int .i64 D, .int .i64 c] 60)).alloc (.cells (bvA zeroL) 77)).alloc (.cells (bvA zeroL) 77)) = w1 := ⟨_, rfl⟩
  have hk1 : Kept [] w w1 := by rw [← hw1]; exact ((Kept.alloc [] _ _).trans (Kept.alloc [] _ _)).trans (Kept.alloc [] _ _)
  have ha : w1.heap[w.heap.size]? = some (.cells #[.int .i64 N, .int .i64 x1, .int .i64 x2, .int .i64 x3, .int .i64 x4, .int .i64 x5, .int .i64 D, .int .i64 c] 60) := by
    rw [← hw1]
    exact (Kept.alloc [] _ _).heap (by simp) ((Kept.alloc [] _ _).heap (by simp) (heap_alloc_last w _))
  have hb : w1.heap[w.heap.size + 1]? = some (.cells (bvA zeroL) 77) := by
    rw [← hw1]
    exact (Kept.alloc [] _ _).heap (by simp) (by rw [← size_alloc]; exact heap_alloc_last _ _)
  have hc : w1.heap[w.heap.size + 1 + 1]? = some (.cells (bvA zeroL) 77) := by
    rw [← hw1, ← size_alloc, ← size_alloc]
    exact heap_alloc_last _ _
  rw [hw1]
  rw [Lib.run_copy_row_string w1 22 9 3 5 (w.heap.size + 1 + 1) 0 64 64 _ (bvA zeroL) 77 Tryz.underlying22 (by kernel_rfl) hc (by decide) (by decide)]
  generalize hw4 : World.setRow w1 _ _ = w4
  have hk4 : Kept [w.heap.size + 1 + 1] w1 w4 := by rw [← hw4]; exact setRow_kept _ _ _
  have hc4 : w4.heap[w.heap.size + 1 + 1]? = some (.cells (bvA (treeL ++ List.replicate 50 0)) 77) := by
    rw [← hw4, setRow_heap _ _ _ _ _ _ hc]
    rfl
  have ha4 := hk4.heap (by simp; omega) ha
  have hb4 := hk4.heap (by simp) hb
  have H4 := Lib.hid (And.intro hk1 (And.intro hk4 (And.intro ha4 (And.intro hb4 hc4))))
  clear hw4 hw1 ha hb hc hk1 hk4
  rw [show ∀ b : ByteArray, goInt (b.size : Int) = goInt (b.data.size : Int) from fun _ => rfl]
  have c0 : w4.cell? ⟨w.heap.size, 0, none⟩ = some (.int .i64 N) := cell_of_row _ _ 0 _ _ _ ha4
  have d0 : w4.cell? ⟨w.heap.size + 1 + 1, 14, none⟩ = some (.int .u8 0) := cell_of_row _ _ 14 _ _ _ hc4
  have d1 : w4.cell? ⟨w.heap.size + 1 + 1, 15, none⟩ = some (.int .u8 0) := cell_of_row _ _ 15 _ _ _ hc4
  have fz : ∀ q, w4.frozen? ⟨w.heap.size + 1 + 1, q, none⟩ = false := fun q => frozen_of_row _ _ q _ _ hc4
  clear ha4 hb4 hc4
  go_wp2_with fail
  go_region
  obtain ⟨w5, hw5⟩ : ∃ w5, ((w4.setCell ⟨w.heap.size + 1 + 1, 14, none⟩ (.int .u8 ((N : Int) / 256))).setCell ⟨w.heap.size + 1 + 1, 15, none⟩ (.int .u8 ((N : Int) % 256))).drew = w5 := ⟨_, rfl⟩
  rw [hw5]
  obtain ⟨L, hL⟩ : ∃ L, superL N = L := ⟨_, rfl⟩
  have hk5 : Kept [w.heap.size + 1 + 1] w4 w5 := by
    rw [← hw5]
    exact ((Kept.setCell _ _ _ _ (by simp)).trans (Kept.setCell _ _ _ _ (by simp))).trans (Kept.drew _ _)
  have e1 : ((N : Int) / 256) = ((UInt8.ofNat (N / 256)).toNat : Int) := by rw [UInt8.toNat_ofNat']; omega
  have e2 : ((N : Int) % 256) = ((UInt8.ofNat (N % 256)).toNat : Int) := by rw [UInt8.toNat_ofNat']; omega
  have hrow : w5.heap[w.heap.size + 1 + 1]? = some (.cells (bvA L) 77) := by
    rw [← hw5, ← hL]
    show ((w4.setCell ⟨w.heap.size + 1 + 1, 14, none⟩ (.int .u8 ((N : Int) / 256))).setCell ⟨w.heap.size + 1 + 1, 15, none⟩ (.int .u8 ((N : Int) % 256))).heap[w.heap.size + 1 + 1]? = _
    rw [rowSet (rowSet H4.out.2.2.2.2 14 _) 15 _, e1, e2]
    rfl
  have HR := hk5.heap (by simp) H4.out.2.2.2.1
  have hl64 : L.length = 64 := by rw [← hL]; exact superL_length N
  have HK5 := Lib.hid hk5
  have HLL := Lib.hid hL
  have hrg := range_row hrow
  have hsz : (Tryz.prog.info? 77).map (·.size) = some (bv L).length := by rw [bv_length, hl64]; kernel_rfl
  have hsz2 : (Tryz.prog.info? 77).map (·.size) = some L.length := by rw [hl64]; kernel_rfl
  have hl2 : L.length = zeroL.length := by rw [hl64]; rfl
  clear hw5 hrow hk5 hL c0 d0 d1 fz
  go_wp2_with first
    | (refine wpList_load_mid rfl 77 _ rfl _ 0 rfl (bv L) _ hrg Tryz.underlying77 rfl hsz ?_)
    | (refine wpList_store_row rfl 77 _ _ rfl (w.heap.size + 1) 77 zeroL L rfl rfl HR hl2 hsz2 ?_)
  refine bodyPost_ret_by (results_cell_row rfl _ _ (w.heap.size + 1) 77 (bvA L) (0, 0) _ rfl (setRow_heap _ _ _ _ _ _ HR) Tryz.underlying77 rfl (by rw [bvA_size]; exact hsz2)) rfl ⟨by rw [HLL.out], ?_⟩
  exact ((H4.out.1.into H4.out.2.1 (by simp; omega)).into HK5.out (by simp; omega)).into (setRow_kept _ _ _) (by simp)
end Go.Proofs.YtiedoocgbajjjaaGreatDoor

/-
  Layer 7: the program's Decode: what it panics with is caught by a deferred closure.
  Conditions: those that each theorem states.
  Layer 7: the program's Decode.
  Conditions: those that each theorem states.
-/
import Derived.Test.YtfofhnbijjocfaaGreatDoorKDec
import Derived.Test.YtfofhnbijjocfaaGreatDoorLPath
import Derived.Recover
import Derived.Defers
namespace Go.Proofs.YtfofhnbijjocfaaGreatDoor
open Go.RowKit Go.Maps Go.Shelf
set_option maxRecDepth 100000

theorem kbytesEqual_any (v1 v2 : Value) (l1 l2 : List UInt8) (w : World) (h1 : ConvIs w v1 l1) (h2 : ConvIs w v2 l2) :
    Calls Tryz.prog 25 #[v1, v2] w fun e w' => e = .returned (.bool (decide (l1 = l2))) ∧ w = w' := by
  have hb : ∀ l : List UInt8, Lib.bytesOf (l.map fun b => (b.toNat : Int)) = l := fun l => by simp [Lib.bytesOf, Function.comp_def]
  have hs : ∀ l : List UInt8, strOfNums (l.map fun b => (b.toNat : Int)) = strL l := fun l => by simp [strOfNums, strL, Function.comp_def]
  refine (Any.bytes_Equal { Tryz.lays115 with } v1 v2 (l1.map fun b => (b.toNat : Int)) (l2.map fun b => (b.toNat : Int)) w (by rw [hs]; exact h1) (by rw [hs]; exact h2)).mono fun e w' ⟨he, hw⟩ => ⟨?_, hw.symm⟩
  rw [he, hb, hb]
  exact retB (by rw [Bool.eq_iff_iff]; simp)

set_option maxRecDepth 100000 in
set_option maxHeartbeats 2000000 in
theorem caught_any (w : World) : Calls Tryz.prog 23 #[.iface 78 (.agg #[])] w fun e w' => e = .returned (.int .i64 70) ∧ w = w' := by
  have hta : ∀ w, (Instr.typeAssert (.iface 78 (.agg #[])) 20 78 true).run Tryz.prog w = .ok (.tuple #[.agg #[], .bool true]) w := fun _ => by kernel_rfl
  go_enter Tryz.func23, Tryz.ntmps23
  go_wp2_with fail
  go_ret
  exact ⟨rfl, rfl⟩

/-- The result's two variables. -/
structure ResV (gc : Nat) (a b c d x : Value) (w : World) : Prop where
  c : w.heap[gc]? = some (.cells #[a, b, c, d] 25)
  e : w.heap[gc + 1]? = some (.cells #[x] 29)
theorem ResV.go {gc : Nat} {a b c d x : Value} {w w' : World} {ex : List Nat} (h : ResV gc a b c d x w) (hk : Kept ex w w') (h1 : gc ∉ ex) (h2 : gc + 1 ∉ ex) : ResV gc a b c d x w' := ⟨hk.heap h1 h.c, hk.heap h2 h.e⟩
/-- The two variables are set. -/
def setV (gc : Nat) (a b c d x : Value) (w : World) : World := ((((w.setCell ⟨gc, 0, none⟩ a).setCell ⟨gc, 1, none⟩ b).setCell ⟨gc, 2, none⟩ c).setCell ⟨gc, 3, none⟩ d).setCell ⟨gc + 1, 0, none⟩ x
theorem ResV.set {gc : Nat} {a b c d x : Value} {w : World} (h : ResV gc a b c d x w) (a' b' c' d' x' : Value) : ResV gc a' b' c' d' x' (setV gc a' b' c' d' x' w) ∧ Kept [gc, gc + 1] w (setV gc a' b' c' d' x' w) := by
  have hk1 : ∀ (w : World) (q : Nat) (v : Value), Kept [gc] w (w.setCell ⟨gc, q, none⟩ v) := fun w q v => Kept.setCell _ _ _ _ (by simp)
  have r := row_setCell (row_setCell (row_setCell (row_setCell h.c 0 a') 1 b') 2 c') 3 d'
  have k4 := (((hk1 w 0 a').trans (hk1 _ 1 b')).trans (hk1 _ 2 c')).trans (hk1 _ 3 d')
  have k5 : Kept [gc + 1] ((((w.setCell ⟨gc, 0, none⟩ a').setCell ⟨gc, 1, none⟩ b').setCell ⟨gc, 2, none⟩ c').setCell ⟨gc, 3, none⟩ d') (setV gc a' b' c' d' x' w) := Kept.setCell _ _ _ _ (by simp)
  refine ⟨⟨k5.heap (by simp) r, row_setCell (k4.heap (by simp) h.e) 0 x'⟩, (k4.mono (by simp)).trans (k5.mono (by simp))⟩

set_option maxRecDepth 100000 in
set_option maxHeartbeats 2000000 in
theorem clo_panic (gc : Nat) (a b c d x : Value) (older : List PanicEntry) (w : World) (h : ResV gc a b c d x w) :
    CallsD Tryz.prog 22 #[.pointer (some ⟨gc, 0, none⟩), .pointer (some ⟨gc + 1, 0, none⟩)] (.panicking ({ v := .iface 78 (.agg #[]), recovered := false } :: older)) w fun e u' w' =>
      e = .returned (.tuple #[]) ∧ u' = .panicking ({ v := .iface 78 (.agg #[]), recovered := true } :: older) ∧ w' = setV gc (.int .i64 0) (.string ⟨#[]⟩) (.slice none 0 0) (.slice none 0 0) (.int .i64 70) w := by
  have c0 : w.cell? ⟨gc, 0, none⟩ = some a := cell_of_row _ _ 0 _ _ _ h.c
  have c1 : w.cell? ⟨gc, 1, none⟩ = some b := cell_of_row _ _ 1 _ _ _ h.c
  have c2 : w.cell? ⟨gc, 2, none⟩ = some c := cell_of_row _ _ 2 _ _ _ h.c
  have c3 : w.cell? ⟨gc, 3, none⟩ = some d := cell_of_row _ _ 3 _ _ _ h.c
  have e0 : w.cell? ⟨gc + 1, 0, none⟩ = some x := cell_of_row _ _ 0 _ _ _ h.e
  have fz : ∀ q, w.frozen? ⟨gc, q, none⟩ = false := fun q => frozen_of_row _ _ q _ _ h.c
  have fe : ∀ q, w.frozen? ⟨gc + 1, q, none⟩ = false := fun q => frozen_of_row _ _ q _ _ h.e
  refine callsD_of_wpS Tryz.func22 rfl fun c₀ stk hu => ?_
  apply wpS_seq
  apply wpS_region
  simp [wpOpsS, go_sem, recoverD, hu, Tryz.ntmps22, Exit.thenS]
  apply wpS_of_wp
  change Code.wp _ _ _ { tmps := #[Value.pointer (some ⟨gc, 0, none⟩), Value.pointer (some ⟨gc + 1, 0, none⟩), .iface 78 (.agg #[]), .iface 78 (.agg #[]), undef, undef, undef, undef, undef], defers := [] } w
  clear h hu
  go_wp2_with fail
  refine (caught_any _).mono ?_
  rintro e w' ⟨rfl, rfl⟩
  go_wp2_with fail
  simp [bodyPostS, results, Tryz.results22, setV]
theorem clo_idle (p q : Addr) (w : World) :
    CallsD Tryz.prog 22 #[.pointer (some p), .pointer (some q)] .returning w fun e u' w' => e = .returned (.tuple #[]) ∧ u' = .returning ∧ w' = w := by
  refine callsD_of_wpS Tryz.func22 rfl fun c₀ stk hu => ?_
  apply wpS_seq
  apply wpS_region
  simp [wpOpsS, go_sem, recoverD, hu, Tryz.ntmps22, Exit.thenS]
  apply wpS_of_wp
  change Code.wp _ _ _ { tmps := #[Value.pointer (some p), Value.pointer (some q), .nilIface, .nilIface, undef, undef, undef, undef, undef], defers := [] } w
  go_wp2_with fail
  cases c₀
  simp_all [bodyPostS, results, Tryz.results22]
end Go.Proofs.YtfofhnbijjocfaaGreatDoor

namespace Go.Proofs.YtfofhnbijjocfaaGreatDoor
open Go.RowKit Go.Maps Go.Shelf
set_option maxRecDepth 100000

def zeroC : Cat := ⟨0, [], [], []⟩
def decE (B : List UInt8) : Int := match decO B with
  | none => 70
  | some _ => 0
def decC (B : List UInt8) : Cat := (decO B).getD zeroC
/-- What Decode answers. -/
def DecodeOut (B : List UInt8) (w : World) (e : Ending) (w' : World) : Prop := ∃ v, e = .returned (.tuple #[v, .int .i64 (decE B)]) ∧ Hid (CatAt w.heap.size w' v (decC B) ∧ Kept [] w w')
theorem zero_cat (b : Nat) (w : World) : CatAt b w (.agg #[.int .i64 0, .string ⟨#[]⟩, .slice none 0 0, .slice none 0 0]) zeroC := fun _ _ _ _ => ⟨⟨_, _, rfl, RsIs.nil _, EsIs.nil _⟩, by decide⟩
theorem DecodeOut.no {B : List UInt8} {w w' : World} (h : decO B = none) (hk : Kept [] w w') : DecodeOut B w (.returned (.tuple #[.agg #[.int .i64 0, .string ⟨#[]⟩, .slice none 0 0, .slice none 0 0], .int .i64 70])) w' := by
  refine ⟨.agg #[.int .i64 0, .string ⟨#[]⟩, .slice none 0 0, .slice none 0 0], ?_, ?_, hk⟩
  · unfold decE; rw [h]
  · unfold decC; rw [h]; exact zero_cat _ _
theorem DecodeOut.yes {B : List UInt8} {c : Cat} {v : Value} {w w' : World} (h : decO B = some c) (hc : CatAt w.heap.size w' v c) (hk : Kept [] w w') : DecodeOut B w (.returned (.tuple #[v, .int .i64 0])) w' := by
  refine ⟨v, ?_, ?_, hk⟩
  · unfold decE; rw [h]
  · unfold decC; rw [h]; exact hc

theorem results_catE {P : Program} {fn : Func} {p q : Tmp} {ty ty2 : TypeId} (h : fn.results = #[.cell p ty, .cell q ty2]) (tmps : Array Value) (w : World) (g k : Nat) (t : TypeId) (cs : Array Value) (x : Value) (d : TypeDesc)
    (hp : tmps.getD p undef = .pointer (some ⟨g, 0, none⟩)) (hq : tmps.getD q undef = .pointer (some ⟨k, 0, none⟩)) (hg : w.heap[g]? = some (.cells cs t))
    (hu : P.underlying ty = some d) (hd : d.isRow = true) (hi : (P.info? ty).map (·.size) = some cs.size) (hx : (loadVar ty2 ⟨k, 0, none⟩).run P w = .ok x w) :
    (results fn tmps).run P w = .ok (.tuple #[.agg cs, x]) w := by
  have hl := run_loadVar_mid (P := P) w g 0 ty cs.toList d (fun j v hv => by rw [Nat.zero_add, cell_of_row w g j _ _ _ hg]; simpa using hv) hu hd (by simpa using hi)
  have hp' : tmps[p]?.getD undef = .pointer (some ⟨g, 0, none⟩) := by simpa using hp
  have hq' : tmps[q]?.getD undef = .pointer (some ⟨k, 0, none⟩) := by simpa using hq
  simp [results, h, hp', hq', asAddr, hl, hx, Sem.run_bind, Result.andThen]

def doors (gc : Nat) : List Deferred := [{ target := Target.fn (Fn.func 22) #[.pointer (some ⟨gc, 0, none⟩), .pointer (some ⟨gc + 1, 0, none⟩)], args := #[] }]
theorem ResV.load {gc : Nat} {a b c d : Value} {n : Int} {w : World} (h : ResV gc a b c d (.int .i64 n) w) : (loadVar 29 ⟨gc + 1, 0, none⟩).run Tryz.prog w = .ok (.int .i64 n) w := by
  have e0 : w.cell? ⟨gc + 1, 0, none⟩ = some (.int .i64 n) := cell_of_row _ _ 0 _ _ _ h.e
  simp [loadVar, go_sem, e0]
theorem door_ret (gc : Nat) (a b c d : Value) (n : Int) (T : Array Value) (w : World) (R : Ending → World → Prop) (h : ResV gc a b c d (.int .i64 n) w) (h2 : T.getD 2 undef = .pointer (some ⟨gc, 0, none⟩)) (h3 : T.getD 3 undef = .pointer (some ⟨gc + 1, 0, none⟩))
    (hR : R (.returned (.tuple #[.agg #[a, b, c, d], .int .i64 n])) w) : bodyPostD Tryz.prog Tryz.f12 R Exit.ret { tmps := T, defers := doors gc } w := by
  refine leaves_cons (f := 22) (args := #[.pointer (some ⟨gc, 0, none⟩), .pointer (some ⟨gc + 1, 0, none⟩)]) (by simp) (by simp [go_sem]) ?_
  refine (clo_idle ⟨gc, 0, none⟩ ⟨gc + 1, 0, none⟩ _).mono ?_
  rintro e u' w'' ⟨rfl, rfl, rfl⟩
  exact ⟨_, results_catE rfl T _ gc (gc + 1) 25 _ _ _ h2 h3 h.c Tryz.underlying25 rfl (by kernel_rfl) h.load, hR⟩
theorem door_panic (gc : Nat) (a b c d x : Value) (T : Array Value) (w : World) (R : Ending → World → Prop) (h : ResV gc a b c d x w) (h2 : T.getD 2 undef = .pointer (some ⟨gc, 0, none⟩)) (h3 : T.getD 3 undef = .pointer (some ⟨gc + 1, 0, none⟩))
    (hR : R (.returned (.tuple #[.agg #[.int .i64 0, .string ⟨#[]⟩, .slice none 0 0, .slice none 0 0], .int .i64 70])) (setV gc (.int .i64 0) (.string ⟨#[]⟩) (.slice none 0 0) (.slice none 0 0) (.int .i64 70) w)) :
    bodyPostD Tryz.prog Tryz.f12 R (Exit.panic endP) { tmps := T, defers := doors gc } w := by
  refine leaves_cons (f := 22) (args := #[.pointer (some ⟨gc, 0, none⟩), .pointer (some ⟨gc + 1, 0, none⟩)]) (by simp) (by simp [go_sem]) ?_
  refine (clo_panic gc a b c d x [] w h).mono ?_
  rintro e u' w'' ⟨rfl, rfl, rfl⟩
  have hs := (h.set (.int .i64 0) (.string ⟨#[]⟩) (.slice none 0 0) (.slice none 0 0) (.int .i64 70)).1
  exact ⟨_, results_catE rfl T _ gc (gc + 1) 25 _ _ _ h2 h3 hs.c Tryz.underlying25 rfl (by kernel_rfl) hs.load, hR⟩

set_option maxRecDepth 100000 in
set_option maxHeartbeats 8000000 in
theorem Decode_long (B : List UInt8) (ao : Option Addr) (len cap : Nat) (w : World) (h : ArgB w ao len cap B) (hl : 2432 < len) : Calls Tryz.prog 12 #[.slice ao len cap] w (DecodeOut B w) := by
  have hle := h.hle
  have HZ : Hid (decO B = none) := decO_long (by rw [h.hlen]; exact hl)
  have hmf : ∀ (fn : Fn) (first cap : Array Value) (w : World), (Instr.makeFunc fn first cap).run Tryz.prog w = .ok (.func fn first cap) w := fun _ _ _ _ => rfl
  clear h
  go_enter_defers Tryz.func12, Tryz.ntmps12
  go_wp2_with fail
  refine door_ret w.heap.size _ _ _ _ _ _ _ _ ⟨(Kept.alloc [] _ _).heap (by simp) (heap_alloc_last _ _), by rw [← size_alloc]; exact heap_alloc_last _ _⟩ rfl rfl ?_
  exact DecodeOut.no HZ.out ((Kept.alloc [] _ _).trans (Kept.alloc [] _ _))

set_option maxRecDepth 100000 in
set_option maxHeartbeats 8000000 in
theorem Decode_any (B : List UInt8) (ao : Option Addr) (len cap : Nat) (w : World) (h : ArgB w ao len cap B) (ht : TysIs w) : Calls Tryz.prog 12 #[.slice ao len cap] w (DecodeOut B w) := by
  by_cases hlong : 2432 < len
  · exact Decode_long B ao len cap w h hlong
  have hle := h.hle
  have HARG := Lib.hid h
  have hmf : ∀ (fn : Fn) (first cap : Array Value) (w : World), (Instr.makeFunc fn first cap).run Tryz.prog w = .ok (.func fn first cap) w := fun _ _ _ _ => rfl
  obtain ⟨w1, hw1⟩ : ∃ w1, (w.alloc (.cells #[.int .i64 0, .string ⟨#[]⟩, .slice none 0 0, .slice none 0 0] 25)).alloc (.cells #[.int .i64 0] 29) = w1 := ⟨_, rfl⟩
  have HK1 : Hid (Kept [] w w1) := by show Kept _ _ _; rw [← hw1]; exact (Kept.alloc [] _ _).trans (Kept.alloc [] _ _)
  have HV1 : Hid (ResV w.heap.size (.int .i64 0) (.string ⟨#[]⟩) (.slice none 0 0) (.slice none 0 0) (.int .i64 0) w1) := by
    rw [← hw1]
    exact ⟨(Kept.alloc [] _ _).heap (by simp) (heap_alloc_last _ _), by rw [← size_alloc]; exact heap_alloc_last _ _⟩
  have HTY : Hid (TysIs w) := ht
  have HDEC := Lib.hid (decode_any B ao len cap w1 (h.kept HK1.out) (ht.kept HK1.out))
  have HW1 := Lib.hid hw1
  have q1 : ¬ (2432 : Int) < (len : Int) := by omega
  obtain ⟨gc, hgc⟩ : ∃ gc, w.heap.size = gc := ⟨_, rfl⟩
  have HGC := Lib.hid hgc
  rw [hgc] at HV1
  clear h ht hw1 hlong hgc
  go_enter_defers Tryz.func12, Tryz.ntmps12
  go_wp2_with fail
  rw [HW1.out]
  refine HDEC.out.mono ?_
  intro e w2 hout
  rcases hout with ⟨hn, rfl, hk2⟩ | ⟨c, r, v, hs, rfl, H2⟩
  · have HZ : Hid (decO B = none) := by show _ = _; unfold decO; rw [hn]
    rw [HGC.out]
    have hv2 := HV1.out.go hk2 (by simp) (by simp)
    have hset := hv2.set (.int .i64 0) (.string ⟨#[]⟩) (.slice none 0 0) (.slice none 0 0) (.int .i64 70)
    refine door_panic gc _ _ _ _ _ _ _ _ hv2 rfl rfl ?_
    exact DecodeOut.no HZ.out ((HK1.out.trans hk2).into hset.2 (by have := HGC.out; simp; omega))
  have HS := Lib.hid hs
  have HC2 := Lib.hid H2.out.1
  obtain ⟨ra, rc, ea, ec, rfl, _⟩ := H2.out.1.is.box
  have HV2 : Hid (ResV gc (.int .i64 0) (.string ⟨#[]⟩) (.slice none 0 0) (.slice none 0 0) (.int .i64 0) w2) := HV1.out.go H2.out.2 (by simp) (by simp)
  have HK2 : Hid (Kept [] w w2) := HK1.out.trans H2.out.2
  have HSW : Hid (gc = w.heap.size ∧ gc + 1 < w1.heap.size) := ⟨HGC.out.symm, (Array.getElem?_eq_some_iff.1 HV1.out.e).1⟩
  clear hs HDEC
  obtain ⟨vv, hvv⟩ : ∃ vv, c.ver = vv := ⟨_, rfl⟩
  obtain ⟨n, hn⟩ : ∃ n, c.R.length = n := ⟨_, rfl⟩
  obtain ⟨m, hm⟩ : ∃ m, c.E.length = m := ⟨_, rfl⟩
  obtain ⟨nd, hnd⟩ : ∃ nd, strL c.node = nd := ⟨_, rfl⟩
  rw [hvv, hn, hm, hnd] at HC2
  rw [hvv, hn, hm, hnd]
  rw [HGC.out]
  clear hvv hn hm hnd
  obtain ⟨w3, hw3⟩ : ∃ w3, (((w2.setCell ⟨gc, 0, none⟩ (.int .i64 vv)).setCell ⟨gc, 1, none⟩ (.string nd)).setCell ⟨gc, 2, none⟩ (.slice ra n rc)).setCell ⟨gc, 3, none⟩ (.slice ea m ec) = w3 := ⟨_, rfl⟩
  have HK23 : Hid (Kept [gc] w2 w3) := by
    show Kept _ _ _
    rw [← hw3]
    exact (((Kept.setCell _ _ _ _ (by simp)).trans (Kept.setCell _ _ _ _ (by simp))).trans (Kept.setCell _ _ _ _ (by simp))).trans (Kept.setCell _ _ _ _ (by simp))
  have HV3 : Hid (ResV gc (.int .i64 vv) (.string nd) (.slice ra n rc) (.slice ea m ec) (.int .i64 0) w3) := by
    refine ⟨?_, HK23.out.heap (by simp) HV2.out.e⟩
    rw [← hw3]
    exact row_setCell (row_setCell (row_setCell (row_setCell HV2.out.c 0 _) 1 _) 2 _) 3 _
  have HW3 := Lib.hid hw3
  have HK3 : Hid (Kept [] w w3) := HK2.out.into HK23.out (by have := HSW.out.1; simp; omega)
  have HC3 : Hid (CatAt w1.heap.size w3 (.agg #[.int .i64 vv, .string nd, .slice ra n rc, .slice ea m ec]) c) := HC2.out.kept HK23.out (fun q hq => by simp at hq; have := HSW.out.2; omega)
  have HENC := Lib.hid (Encode_any c _ w3 HC3.out.is (HTY.out.kept HK3.out))
  obtain ⟨p, hp⟩ : ∃ p, checkO c = p := ⟨_, rfl⟩
  have HP := Lib.hid hp
  have d0 : w2.cell? ⟨gc, 0, none⟩ = some (.int .i64 0) := cell_of_row _ _ 0 _ _ _ HV2.out.c
  have d1 : w2.cell? ⟨gc, 1, none⟩ = some (.string ⟨#[]⟩) := cell_of_row _ _ 1 _ _ _ HV2.out.c
  have d2 : w2.cell? ⟨gc, 2, none⟩ = some (.slice none 0 0) := cell_of_row _ _ 2 _ _ _ HV2.out.c
  have d3 : w2.cell? ⟨gc, 3, none⟩ = some (.slice none 0 0) := cell_of_row _ _ 3 _ _ _ HV2.out.c
  have fz : ∀ q, w2.frozen? ⟨gc, q, none⟩ = false := fun q => frozen_of_row _ _ q _ _ HV2.out.c
  clear hw3 hp
  go_wp2_with fail
  rw [HW3.out]
  refine HENC.out.mono ?_
  rintro e w4 ⟨va, rfl, H4⟩
  rw [HP.out]
  have HV4 : Hid (ResV gc (.int .i64 vv) (.string nd) (.slice ra n rc) (.slice ea m ec) (.int .i64 0) w4) := HV3.out.go H4.out.2 (by simp) (by simp)
  obtain ⟨w5, hw5⟩ : ∃ w5, w4.setCell ⟨gc + 1, 0, none⟩ (.int .i64 p) = w5 := ⟨_, rfl⟩
  have HK45 : Hid (Kept [gc + 1] w4 w5) := by show Kept _ _ _; rw [← hw5]; exact Kept.setCell _ _ _ _ (by simp)
  have HV5 : Hid (ResV gc (.int .i64 vv) (.string nd) (.slice ra n rc) (.slice ea m ec) (.int .i64 p) w5) := ⟨HK45.out.heap (by simp) HV4.out.c, by rw [← hw5]; exact row_setCell HV4.out.e 0 _⟩
  have HK5 : Hid (Kept [] w w5) := (HK3.out.trans H4.out.2).into HK45.out (by have := HSW.out.1; simp; omega)
  have HC5 : Hid (CatAt w1.heap.size w5 (.agg #[.int .i64 vv, .string nd, .slice ra n rc, .slice ea m ec]) c) := (HC3.out.kept H4.out.2 (by simp)).kept HK45.out (fun q hq => by simp at hq; have := HSW.out.2; omega)
  have HOB : Hid (OwnB w3.heap.size w5 va (encL c)) := H4.out.1.kept HK45.out (fun q hq => by
    have h1 := (World.ownsRow.lt H4.out.1 q hq).1
    have h2 := (Array.getElem?_eq_some_iff.1 HV3.out.e).1
    simp; omega)
  obtain ⟨ga, gn, gk, rfl⟩ : ∃ ga gn gk, va = .slice ga gn gk := by obtain ⟨x, y, e, _⟩ := H4.out.1.val; exact ⟨x, _, y, e⟩
  have HEQ : Hid (Calls Tryz.prog 25 #[.slice ga gn gk, .slice ao len cap] w5 fun e w' => e = .returned (.bool (decide (encL c = B))) ∧ w5 = w') := kbytesEqual_any _ _ _ _ w5 HOB.out.slIs.conv (HARG.out.kept HK5.out).conv
  have e0 : w4.cell? ⟨gc + 1, 0, none⟩ = some (.int .i64 0) := cell_of_row _ _ 0 _ _ _ HV4.out.e
  have fe : ∀ q, w4.frozen? ⟨gc + 1, q, none⟩ = false := fun q => frozen_of_row _ _ q _ _ HV4.out.e
  have x0 : w5.cell? ⟨gc, 0, none⟩ = some (.int .i64 vv) := cell_of_row _ _ 0 _ _ _ HV5.out.c
  have x1 : w5.cell? ⟨gc, 1, none⟩ = some (.string nd) := cell_of_row _ _ 1 _ _ _ HV5.out.c
  have x2 : w5.cell? ⟨gc, 2, none⟩ = some (.slice ra n rc) := cell_of_row _ _ 2 _ _ _ HV5.out.c
  have x3 : w5.cell? ⟨gc, 3, none⟩ = some (.slice ea m ec) := cell_of_row _ _ 3 _ _ _ HV5.out.c
  have xe : w5.cell? ⟨gc + 1, 0, none⟩ = some (.int .i64 p) := cell_of_row _ _ 0 _ _ _ HV5.out.e
  have fz5 : ∀ q, w5.frozen? ⟨gc, q, none⟩ = false := fun q => frozen_of_row _ _ q _ _ HV5.out.c
  have fe5 : ∀ q, w5.frozen? ⟨gc + 1, q, none⟩ = false := fun q => frozen_of_row _ _ q _ _ HV5.out.e
  have HNO : Hid (decO B = none → ∀ T : Array Value, T.getD 2 undef = .pointer (some ⟨gc, 0, none⟩) → T.getD 3 undef = .pointer (some ⟨gc + 1, 0, none⟩) → bodyPostD Tryz.prog Tryz.f12 (DecodeOut B w) Exit.ret { tmps := T, defers := doors gc } (setV gc (.int .i64 0) (.string ⟨#[]⟩) (.slice none 0 0) (.slice none 0 0) (.int .i64 70) w5)) := fun hz T h2 h3 => by
    have hset := HV5.out.set (.int .i64 0) (.string ⟨#[]⟩) (.slice none 0 0) (.slice none 0 0) (.int .i64 70)
    exact door_ret gc _ _ _ _ _ T _ _ hset.1 h2 h3 (DecodeOut.no hz (HK5.out.into hset.2 (by have := HSW.out.1; simp; omega)))
  by_cases h0 : p = 0
  case neg =>
    have q0 : (p != 0) = true := by simpa using h0
    have HZ : Hid (decO B = none) := by
      show _ = _
      unfold decO
      rw [HS.out]
      simp only
      rw [if_neg (fun hh => h0 (by rw [← HP.out]; exact hh.1))]
    clear h0
    go_wp2_with fail
    exact HNO.out HZ.out _ rfl rfl
  subst h0
  by_cases hE : encL c = B
  case neg =>
    have HZ : Hid (decO B = none) := by
      show _ = _
      unfold decO
      rw [HS.out]
      simp only
      rw [if_neg (fun hh => hE (by unfold encL; rw [if_pos hh.1]; exact hh.2))]
    rw [decide_eq_false hE] at HEQ
    clear hE
    go_wp2_with fail
    refine HEQ.out.mono ?_
    rintro e w6 ⟨rfl, rfl⟩
    go_wp2_with fail
    exact HNO.out HZ.out _ rfl rfl
  have HZ : Hid (decO B = some c) := by
    show _ = _
    unfold decO
    rw [HS.out]
    simp only
    rw [if_pos ⟨HP.out, by rw [← hE]; unfold encL; rw [if_pos HP.out]⟩]
  rw [decide_eq_true hE] at HEQ
  clear hE
  go_wp2_with fail
  refine HEQ.out.mono ?_
  rintro e w6 ⟨rfl, rfl⟩
  go_wp2_with fail
  have hset := HV5.out.set (.int .i64 vv) (.string nd) (.slice ra n rc) (.slice ea m ec) (.int .i64 0)
  refine door_ret gc (.int .i64 vv) (.string nd) (.slice ra n rc) (.slice ea m ec) 0 _ _ _ hset.1 rfl rfl ?_
  exact DecodeOut.yes HZ.out ((HC5.out.kept hset.2 (fun q hq => by simp at hq; have := HSW.out.2; omega)).mono HK1.out.size) (HK5.out.into hset.2 (by have := HSW.out.1; simp; omega))
end Go.Proofs.YtfofhnbijjocfaaGreatDoor

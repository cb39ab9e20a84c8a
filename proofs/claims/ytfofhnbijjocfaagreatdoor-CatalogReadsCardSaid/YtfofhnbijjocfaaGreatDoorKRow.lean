/-
  Layer 7: bytes that are laid one behind the other: the program's putNumber, putText.
  Conditions: those that each theorem states.
  Layer 7: the program's putResource.
  Conditions: those that each theorem states.
-/
import Derived.Test.YtfofhnbijjocfaaGreatDoorKRes
namespace Go.Proofs.YtfofhnbijjocfaaGreatDoor
open Go.RowKit Go.Maps
set_option maxRecDepth 100000

theorem kapp_text (base : Nat) (w : World) (v : Value) (L p : List UInt8) (hown : OwnB base w v L) (hb : base ≤ w.heap.size) (hl : L.length + p.length ≤ 10000000) :
    ∃ v' w', (Builtin.append_ #[28, 9] 28 #[v, .string (strL p)]).run Tryz.prog w = .ok v' w' ∧ OwnB base w' v' (L ++ p) ∧ AppB w v w' v' := by
  obtain ⟨i, hi, hz, hs, hby⟩ := info_parts elemByte.info
  have hp : (strL p).size ≤ 10000000 := by rw [strL_size]; omega
  obtain ⟨v', w', hr, ho, hg, hiff⟩ := Lib.run_append_own_string (P := Tryz.prog) w base 28 9 28 5 i Tryz.underlying28 Tryz.underlying9 hi hz hs hby v L.length (bv L) hown (strL p) (by rw [strL_size]; unfold maxLen; omega) (by rw [strL_size]; omega) hb
  have hk : Kept v.ownBlock.toList w w' := Kept.grown hg (fun k hk => by simp [hk])
  refine ⟨v', w', hr, ?_, hk, ?_⟩
  · unfold OwnB
    rw [List.length_append, show bv (L ++ p) = bv L ++ bv p by simp [bv]]
    rw [strL_size] at ho
    exact ho
  · rcases hown.2 with ⟨rfl, h0⟩ | ⟨g, cap, cur, rfl, hbg, hgg, hnc, hcm, hcs, htake⟩
    · by_cases hm : (strL p).size = 0
      · left; rw [hiff.2 ⟨rfl, hm⟩]
      · right
        have hr2 := run_append_nil_string (P := Tryz.prog) w 28 9 28 5 i (.int .u8 0) Tryz.underlying28 Tryz.underlying9 hi hz (strL p) (by omega) (by omega) (by rw [hby]; omega)
        rw [hr2] at hr
        injection hr with h2 h3
        exact ⟨_, by rw [← h2]; rfl, Nat.le_refl _⟩
    · by_cases hroom : L.length + (strL p).size ≤ cap
      · left
        have hr2 := Lib.run_append_room_string (P := Tryz.prog) w 28 9 28 5 i Tryz.underlying28 Tryz.underlying9 hi hs g L.length cap cur hgg (strL p) hroom (by omega)
        rw [hr2] at hr
        injection hr with h2 h3
        rw [← h2]
        rfl
      · right
        have holds : ∀ j u, (bv L)[j]? = some u → w.cell? ((⟨g, 0, none⟩ : Addr).add j) = some u := World.ownsRow.cells hown (g := g) rfl
        have hlz : L.length ≤ 10000000 := by omega
        have hr2 := Lib.run_append_grow_string (P := Tryz.prog) w 28 9 28 5 i (.int .u8 0) Tryz.underlying28 Tryz.underlying9 hi hz ⟨g, 0, none⟩ L.length cap (bv L) (by rw [hs, bv_length]; omega) holds (strL p) (by omega) (by omega) (by rw [hby]; exact growslice_fits (by omega) (by omega))
        rw [hr2] at hr
        injection hr with h2 h3
        exact ⟨_, by rw [← h2]; rfl, Nat.le_refl _⟩
theorem kwpList_append_run2 {P : Program} {ops : Array Oper} {rest : List Oper} {o : Oper} {a : Act} {w w' : World} {Q : Exit → Act → World → Prop} (hgd : o.guard = none) (s x : Operand) (t t2 : TypeId)
    (ho : o.op = .call { callee := .builtin .append, args := #[s, x], argTypes := #[t, t2] }) (u v r : Value) (hs : a.eval s = u) (hx : a.eval x = v)
    (hrun : (Builtin.append_ #[t, t2] o.type #[u, v]).run P w = .ok r w') (h : wpList P ops Q rest (a.put o.dst r) w') : wpList P ops Q (o :: rest) a w := by
  refine wpList_plain hgd fun _ hK => ?_
  unfold Oper.wp execOp
  simp only [ho, resolve, invoke, builtin, Sem.run_bind, Sem.run_pure, Result.andThen_ok, List.map_toArray, List.map_cons, List.map_nil, hs, hx, hrun]
  exact hK _ _ h

theorem kapp_new (base : Nat) (w : World) (v : Value) (L N : List UInt8) (hown : OwnB base w v L) (hb : base ≤ w.heap.size) (hl : L.length + N.length ≤ 10000000) :
    ∃ v' w', (Builtin.append_ #[28, 28] 28 #[v, .slice (some ⟨w.heap.size, 0, none⟩) N.length N.length]).run Tryz.prog (w.alloc (.cells (bvA N) 5)) = .ok v' w' ∧ OwnB base w' v' (L ++ N) ∧ AppB w v w' v' ∧ Kept v.ownBlock.toList (w.alloc (.cells (bvA N) 5)) w' := by
  have hs0 : base ≤ (w.alloc (.cells (bvA N) 5)).heap.size := by rw [size_alloc]; omega
  obtain ⟨v', w', hrun, ho, hk, hor⟩ := own_app elemByte 28 (w.alloc (.cells (bvA N) 5)) base v L.length (bv L) (World.ownsRow.alloc hown _) ⟨w.heap.size, 0, none⟩ N.length N.length (bv N) (by rw [bv_length]; omega)
    (fun j u hu => by
      rw [Addr.add_mid, Nat.zero_add, cell_of_row _ _ j _ _ _ (heap_alloc_last w _)]
      simpa [bvA] using hu) (bv_one _) (by unfold maxLen; omega) (by omega) hs0
  refine ⟨v', w', hrun, ?_, AppB.pre (Kept.alloc [] w (.cells (bvA N) 5)) ⟨hk, ?_⟩, hk⟩
  · unfold OwnB
    rw [List.length_append, show bv (L ++ N) = bv L ++ bv N by simp [bv]]
    exact ho
  · rcases hor with e | e
    · exact .inl e
    · exact .inr ⟨_, e, Nat.le_refl _⟩
theorem OwnB.mono {base base' : Nat} {w : World} {v : Value} {L : List UInt8} (h : OwnB base w v L) (hb : base' ≤ base) : OwnB base' w v L := by
  obtain ⟨h1, h2⟩ := h
  refine ⟨h1, ?_⟩
  rcases h2 with h2 | ⟨g, cap, cur, e, hbg, r⟩
  · exact .inl h2
  · exact .inr ⟨g, cap, cur, e, by omega, r⟩

/-- Bytes that were laid since the world w. -/
structure PtSt (w : World) (T : List UInt8) (v : Value) (wr : World) : Prop where
  own : OwnB w.heap.size wr v T
  kept : Kept [] w wr
theorem PtSt.go {w : World} {T : List UInt8} {v : Value} {wr w' : World} (h : PtSt w T v wr) (hk : Kept [] wr w') : PtSt w T v w' := ⟨h.own.kept hk (by simp), h.kept.trans hk⟩
theorem PtSt.nil (w : World) : PtSt w [] (.slice none 0 0) w := ⟨World.ownsRow_nil _ _ _ _, Kept.refl _ _⟩
theorem PtSt.app {w : World} {T : List UInt8} {v : Value} {wr : World} (h : PtSt w T v wr) (p : List UInt8) (hl : T.length + p.length ≤ 10000000) :
    ∃ v' w', (Builtin.append_ #[28, 9] 28 #[v, .string (strL p)]).run Tryz.prog wr = .ok v' w' ∧ PtSt w (T ++ p) v' w' ∧ AppB wr v w' v' := by
  obtain ⟨v', w', hr, ho, hk⟩ := kapp_text w.heap.size wr v T p h.own h.kept.size hl
  exact ⟨v', w', hr, ⟨ho, AppB.into h.kept hk h.own (Nat.le_refl _)⟩, hk⟩
theorem PtSt.appN {w : World} {T : List UInt8} {v : Value} {wr : World} (h : PtSt w T v wr) (N : List UInt8) (hl : T.length + N.length ≤ 10000000) :
    ∃ v' w', (Builtin.append_ #[28, 28] 28 #[v, .slice (some ⟨wr.heap.size, 0, none⟩) N.length N.length]).run Tryz.prog (wr.alloc (.cells (bvA N) 5)) = .ok v' w' ∧ PtSt w (T ++ N) v' w' ∧ AppB wr v w' v' := by
  obtain ⟨v', w', h1, h2, h3, _⟩ := app_newB w.heap.size wr v T N h.own h.kept.size hl
  exact ⟨v', w', h1, ⟨h2, AppB.into h.kept h3 h.own (Nat.le_refl _)⟩, h3⟩
theorem PtSt.appS {w : World} {T : List UInt8} {v : Value} {wr : World} (h : PtSt w T v wr) (p : List UInt8) (hl : T.length + p.length ≤ 10000000) (o : Obj) (cap c2 : Nat) (m : Nat × Nat) (ho : o = .cells (bytesRow (strL p) cap) 5 m) :
    ∃ v' w', (Builtin.append_ #[28, 28] 28 #[v, .slice (some ⟨wr.heap.size, 0, none⟩) p.length c2]).run Tryz.prog (wr.alloc o) = .ok v' w' ∧ PtSt w (T ++ p) v' w' ∧ AppB wr v w' v' := by
  obtain ⟨v', w', h1, h2, h3⟩ := app_str w.heap.size wr v T p h.own h.kept.size hl o cap c2 m ho
  exact ⟨v', w', h1, ⟨h2, AppB.into h.kept h3 h.own (Nat.le_refl _)⟩, h3⟩
/-- What a function that lays bytes answers. -/
def Laid7 (W : World) (T : List UInt8) (v : Value) (w : World) (e : Ending) (w' : World) : Prop := ∃ v', e = .returned v' ∧ Hid (PtSt W T v' w' ∧ AppB w v w' v')
theorem own_off (v : Value) (g : Nat) (h : ∀ q, v.ownBlock = some q → q ≠ g) : g ∉ v.ownBlock.toList := fun hm => h g (by simpa using hm) rfl
theorem PtSt.off {W : World} {T : List UInt8} {v : Value} {w : World} (h : PtSt W T v w) : w.heap.size ∉ v.ownBlock.toList := own_off _ _ fun q hq => by have := (World.ownsRow.lt h.own q hq).2; omega
theorem PtSt.slice {W : World} {T : List UInt8} {v : Value} {w : World} (h : PtSt W T v w) : ∃ ao cap, v = .slice ao T.length cap := by obtain ⟨ao, cap, e, _⟩ := h.own.val; exact ⟨ao, cap, e⟩

set_option maxHeartbeats 1000000 in
theorem putNumber_any (W : World) (T : List UInt8) (v : Value) (n : Nat) (w : World) (h : PtSt W T v w) (hl : T.length ≤ 9000000) (hn : n < 65536) :
    Calls Tryz.prog 33 #[v, .int .i64 n] w (Laid7 W (T ++ two n) v w) := by
  obtain ⟨v', w', hrun, ho, hap⟩ := h.appN (two n) (by simp [two]; omega)
  have e1 : bvA (two n) = #[.int .u8 ((n : Int) / 256), .int .u8 ((n : Int) % 256)] := by
    have h1 := hiB_val n
    have h2 := loB_val n
    have h3 : (n : Int) / 256 % 256 = (n : Int) / 256 := by omega
    simp [bvA, bv, two, ← h1, ← h2, h3]
  rw [e1, show (two n).length = 2 from rfl] at hrun
  have HRUN := Lib.hid hrun
  have HO := Lib.hid (And.intro ho hap)
  clear hrun ho e1 h hap
  go_enter Tryz.func33, Tryz.ntmps33
  go_wp2_with (refine wpList_append_run rfl _ _ 28 rfl _ _ _ rfl rfl HRUN.out ?_)
  go_ret
  exact ⟨v', rfl, HO⟩

set_option maxHeartbeats 1000000 in
theorem putText_any (W : World) (T : List UInt8) (v : Value) (s : List UInt8) (w : World) (h : PtSt W T v w) (hl : T.length ≤ 8000000) (hs : s.length < 65536) :
    Calls Tryz.prog 34 #[v, .string (strL s)] w (Laid7 W (T ++ txt s) v w) := by
  have HN : Hid (Calls Tryz.prog 33 #[v, .int .i64 s.length] w (Laid7 W (T ++ two s.length) v w)) := putNumber_any W T v s.length w h (by omega) hs
  have hz : ((strL s).size : Int) = (s.length : Int) := by rw [strL_size]
  clear h
  go_enter Tryz.func34, Tryz.ntmps34
  go_wp2_with fail
  clear hz
  refine HN.out.mono ?_
  rintro e w1 ⟨v1, rfl, H1⟩
  obtain ⟨v2, w2, hrun, ho, hap⟩ := H1.out.1.app s (by simp [two]; omega)
  have HRUN := Lib.hid hrun
  have HO : Hid (PtSt W (T ++ txt s) v2 w2 ∧ AppB w v w2 v2) := ⟨by rw [show T ++ txt s = T ++ two s.length ++ s by simp [txt]]; exact ho, H1.out.2.trans hap⟩
  clear hrun ho hap
  go_wp2_with (refine kwpList_append_run2 rfl _ _ 28 9 rfl _ _ _ rfl rfl HRUN.out ?_)
  go_ret
  exact ⟨v2, rfl, HO⟩
end Go.Proofs.YtfofhnbijjocfaaGreatDoor

namespace Go.Proofs.YtfofhnbijjocfaaGreatDoor
open Go.RowKit Go.Maps
set_option maxRecDepth 100000

theorem PsIs.pick {w : World} {ao : Option Addr} {n cap : Nat} {P : List Prm} (h : PsIs w (.slice ao n cap) P) (k : Nat) (hk : k < P.length) (p : Prm) (hp : P[k] = p) :
    ∃ b o, ao = some ⟨b, o, none⟩ ∧ b < w.heap.size ∧ w.cell? ⟨b, o + k * 2, none⟩ = some (.string (strL p.1)) ∧ w.cell? ⟨b, o + k * 2 + 1, none⟩ = some (.string (strL p.2)) := by
  obtain ⟨ao', cap', e, _, _, _, h5⟩ := h.open
  injection e with e1 _ _
  obtain ⟨b, o, h6, hb, hc⟩ := h5 (by omega)
  obtain ⟨c0, c1⟩ := hc k hk
  subst hp
  exact ⟨b, o, by rw [e1, h6], hb, c0, c1⟩
theorem prmB_snoc (P : List Prm) (k : Nat) (hk : k < P.length) : (P.take (k + 1)).flatMap prmB = (P.take k).flatMap prmB ++ prmB P[k] := by
  rw [List.take_succ_eq_append_getElem hk, List.flatMap_append, List.flatMap_cons, List.flatMap_nil, List.append_nil]
theorem take_len {α : Type} {f : α → List UInt8} {m : Nat} {l : List α} (h : ∀ x ∈ l, (f x).length ≤ m) (k : Nat) : ((l.take k).flatMap f).length ≤ l.length * m := by
  have := flat_len (f := f) (m := m) (l := l.take k) fun x hx => h x (List.mem_of_mem_take hx)
  rw [List.length_take] at this
  exact Nat.le_trans this (Nat.mul_le_mul_right _ (Nat.min_le_right _ _))

set_option maxRecDepth 100000 in
set_option maxHeartbeats 8000000 in
theorem putRes_any (W : World) (T : List UInt8) (v : Value) (r : Res) (u : Value) (w : World) (h : PtSt W T v w) (hl : T.length ≤ 3000000) (hu : PsIs W u r.P) (hr : ResOk r) (ht : TysIs W) :
    Calls Tryz.prog 35 #[v, resV r.t r.ti u] w (Laid7 W (T ++ resB r) v w) := by
  obtain ⟨pa, pc, rfl⟩ := hu.slice
  obtain ⟨m, hm⟩ : ∃ m, r.P.length = m := ⟨_, rfl⟩
  rw [hm] at hu
  rw [hm]
  unfold resV
  have hm100 : m ≤ 100 := by rw [← hm]; exact hr.count
  have HU := Lib.hid hu
  have HR := Lib.hid hr
  have HM := Lib.hid hm
  obtain ⟨w1, hw1⟩ : ∃ w1, w.alloc (.cells #[.string (strL r.t), .string (strL r.ti), .slice pa m pc] 40) = w1 := ⟨_, rfl⟩
  have HA : Hid (Kept [] w w1 ∧ w1.heap[w.heap.size]? = some (.cells #[.string (strL r.t), .string (strL r.ti), .slice pa m pc] 40)) := ⟨by rw [← hw1]; exact Kept.alloc _ _ _, by rw [← hw1]; exact heap_alloc_last _ _⟩
  have HP1 : Hid (PtSt W T v w1) := h.go HA.out.1
  have HOFF : Hid (w.heap.size ∉ v.ownBlock.toList) := h.off
  have HTY : Hid (TysIs w1) := ht.kept (HP1.out.kept)
  have HCEL : Hid (∀ w' v', AppB w1 v w' v' → w'.cell? ⟨w.heap.size, 0, none⟩ = some (.string (strL r.t)) ∧ w'.cell? ⟨w.heap.size, 1, none⟩ = some (.string (strL r.ti)) ∧ w'.cell? ⟨w.heap.size, 2, none⟩ = some (.slice pa m pc)) := fun w' v' ha => by
    have e0 := ha.kept.heap HOFF.out HA.out.2
    exact ⟨cell_of_row _ _ 0 _ _ _ e0, cell_of_row _ _ 1 _ _ _ e0, cell_of_row _ _ 2 _ _ _ e0⟩
  have a0 : w1.cell? ⟨w.heap.size, 0, none⟩ = some (.string (strL r.t)) := cell_of_row _ _ 0 _ _ _ HA.out.2
  obtain ⟨v2, w2, hrun2, hp2, hap2⟩ := HP1.out.appN [tyN r.t] (by simp; omega)
  have HR2 := Lib.hid hrun2
  have HP2 : Hid (PtSt W (T ++ [tyN r.t]) v2 w2 ∧ AppB w1 v w2 v2) := ⟨hp2, hap2⟩
  have e1 : bvA [tyN r.t] = #[.int .u8 ((tyN r.t).toNat : Int)] := rfl
  rw [e1] at HR2
  clear h hu hr hm hrun2 hp2 hap2 ht e1
  go_enter Tryz.func35, Tryz.ntmps35
  go_wp2_with fail
  refine (ctypeNumber_any r.t _ HTY.out).mono ?_
  rintro e w1' ⟨rfl, rfl⟩
  clear hw1
  obtain ⟨b0, b1, b2⟩ := HCEL.out w2 v2 HP2.out.2
  go_wp2_with (at_builtin; refine wpList_append_run rfl _ _ 28 rfl _ _ _ rfl rfl HR2.out ?_)
  clear HR2
  refine (putText_any W _ v2 r.ti w2 HP2.out.1 (by simp; omega) (by have := HR.out.title; omega)).mono ?_
  rintro e w3 ⟨v3, rfl, H3⟩
  have HP3 : Hid (PtSt W (T ++ [tyN r.t] ++ txt r.ti) v3 w3 ∧ AppB w1 v w3 v3) := ⟨H3.out.1, HP2.out.2.trans H3.out.2⟩
  clear H3 HP2 a0 b0 b1 b2
  obtain ⟨a0, a1, a2⟩ := HCEL.out w3 v3 HP3.out.2
  obtain ⟨v4, w4, hrun4, hp4, hap4⟩ := HP3.out.1.appN [loB m] (by have := HR.out.title; simp [txt_length]; omega)
  have HR4 := Lib.hid hrun4
  have HP4 : Hid (PtSt W (T ++ [tyN r.t] ++ txt r.ti ++ [loB m]) v4 w4 ∧ AppB w1 v w4 v4) := ⟨hp4, HP3.out.2.trans hap4⟩
  have e1 : bvA [loB m] = #[.int .u8 ((m : Int) % 256)] := by rw [loB_val]; rfl
  rw [e1] at HR4
  have e2 : (m : Int) % 256 = (m : Int) := by omega
  rw [e2] at HR4
  clear hrun4 hp4 hap4 e1 e2
  obtain ⟨H, hH⟩ : ∃ H, T ++ [tyN r.t] ++ txt r.ti ++ [loB m] = H := ⟨_, rfl⟩
  have HHL : Hid (H.length ≤ 3000200) := by show _ ≤ _; rw [← hH]; have := HR.out.title; simp [txt_length]; omega
  have HH : Hid (T ++ resB r = H ++ r.P.flatMap prmB) := by show _ = _; rw [← hH]; unfold resB; rw [HM.out]; simp
  rw [hH] at HP4
  clear hH
  obtain ⟨b0, b1, b2⟩ := HCEL.out w4 v4 HP4.out.2
  go_wp2_with (at_builtin; refine wpList_append_run rfl _ _ 28 rfl _ _ _ rfl rfl HR4.out ?_)
  clear HR4
  go_loopw [0, 27] (fun v' i wr => ∃ k : Nat, k ≤ m ∧ i = .int .i64 k ∧ Hid (PtSt W (H ++ (r.P.take k).flatMap prmB) v' wr ∧ AppB w1 v wr v')) (fun _ i _ => m - (intOf i).toNat)
  case atStart => exact ⟨0, by omega, rfl, (by have := HP4.out; show _ ∧ _; simpa using this)⟩
  case round =>
    clear HP3 HP4 a0 a1 a2 b0 b1 b2
    obtain ⟨k, hk, rfl, HS⟩ := hrel
    by_cases hlt : k < m
    · have hkp : k < r.P.length := by rw [HM.out]; exact hlt
      obtain ⟨p, hp⟩ : ∃ p, r.P[k] = p := ⟨_, rfl⟩
      have HPL : Hid (p.1.length ≤ 100 ∧ p.2.length ≤ 512) := by show _ ∧ _; rw [← hp]; exact HR.out.each _ (List.getElem_mem hkp)
      obtain ⟨b, o, rfl, hb, d0, d1⟩ := (HU.out.kept HS.out.1.kept).pick k hkp p hp
      have HSN : Hid ((r.P.take (k + 1)).flatMap prmB = (r.P.take k).flatMap prmB ++ prmB p) := by show _ = _; rw [prmB_snoc r.P k hkp, hp]
      have HTL : Hid (((r.P.take k).flatMap prmB).length ≤ 61600) := by
        have h1 := take_len (f := prmB) (m := 616) (l := r.P) (fun p hp => prmB_len (HR.out.each p hp)) k
        have h2 := HM.out
        show _ ≤ _
        omega
      obtain ⟨w5, hw5⟩ : ∃ w5, wr.alloc (.cells #[.string (strL p.1), .string (strL p.2)] 61) = w5 := ⟨_, rfl⟩
      have H5 : Hid (Kept [] wr w5 ∧ w5.heap[wr.heap.size]? = some (.cells #[.string (strL p.1), .string (strL p.2)] 61)) := ⟨by rw [← hw5]; exact Kept.alloc _ _ _, by rw [← hw5]; exact heap_alloc_last _ _⟩
      have HP5 : Hid (PtSt W (H ++ (r.P.take k).flatMap prmB) u0 w5) := HS.out.1.go H5.out.1
      have HO5 : Hid (wr.heap.size ∉ u0.ownBlock.toList) := HS.out.1.off
      have f0 : w5.cell? ⟨wr.heap.size, 0, none⟩ = some (.string (strL p.1)) := cell_of_row _ _ 0 _ _ _ H5.out.2
      clear hp
      go_wp2_with fail
      refine (putText_any W _ u0 p.1 w5 HP5.out (by have := HHL.out; have := HTL.out; rw [List.length_append]; omega) (by have := HPL.out; omega)).mono ?_
      rintro e w6 ⟨v6, rfl, H6⟩
      have f1 : w6.cell? ⟨wr.heap.size, 1, none⟩ = some (.string (strL p.2)) := cell_of_row _ _ 1 _ _ _ (H6.out.2.kept.heap HO5.out H5.out.2)
      clear f0 d0 d1 hw5
      go_wp2_with fail
      refine (putText_any W _ v6 p.2 w6 H6.out.1 (by have := HHL.out; have := HTL.out; have := HPL.out; rw [List.length_append, List.length_append, txt_length]; omega) (by have := HPL.out; omega)).mono ?_
      rintro e w7 ⟨v7, rfl, H7⟩
      have HN : Hid (PtSt W (H ++ (r.P.take (k + 1)).flatMap prmB) v7 w7 ∧ AppB w1 v w7 v7) := by
        refine ⟨?_, HS.out.2.trans (AppB.pre H5.out.1 (H6.out.2.trans H7.out.2))⟩
        rw [HSN.out, show H ++ ((r.P.take k).flatMap prmB ++ prmB p) = H ++ (r.P.take k).flatMap prmB ++ txt p.1 ++ txt p.2 by simp [prmB]]
        exact H7.out.1
      clear f1
      go_wp2_with fail
      go_roundw
      case rel => exact ⟨k + 1, by omega, by go_num, HN⟩
      case measure => simp [intOf]; omega
    · have HF : Hid (r.P.take k = r.P) := List.take_of_length_le (by rw [HM.out]; omega)
      go_wp2_with fail
      go_ret
      refine ⟨_, rfl, ?_, AppB.pre HA.out.1 HS.out.2⟩
      rw [HH.out]
      have := HS.out.1
      rw [HF.out] at this
      exact this
end Go.Proofs.YtfofhnbijjocfaaGreatDoor

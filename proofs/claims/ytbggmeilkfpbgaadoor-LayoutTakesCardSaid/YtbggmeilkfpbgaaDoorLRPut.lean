/-
  Layer 3: the document's PutNode, with two and pad: bytes that are laid one behind the other.
  Conditions: those that each theorem states.
-/
import Derived.Test.YtbggmeilkfpbgaaDoorLPut
import Derived.Test.YtbggmeilkfpbgaaDoorLReg
namespace Go.Proofs.YtbggmeilkfpbgaaDoor
open Go.RowKit Go.Maps

theorem elemByte : ElemOk Tryd.prog 22 5 (.int .u8 0) 1 1 := ⟨Tryd.underlying22, by kernel_rfl, rfl, by omega⟩

/-- A row of bytes of the call's own. -/
def OwnB (base : Nat) (w : World) (v : Value) (L : List UInt8) : Prop := w.ownsRow base 5 1 v L.length (bv L)
/-- A row that was appended to lies where it lay, or is new; all else is as it was. -/
structure AppB (w : World) (v : Value) (w' : World) (v' : Value) : Prop where
  kept : Kept v.ownBlock.toList w w'
  own : v'.ownBlock = v.ownBlock ∨ ∃ g, v'.ownBlock = some g ∧ w.heap.size ≤ g

theorem Kept.step {w wr w2 : World} {ex : List Nat} {o : Option Nat} (h : Kept ex w wr) (k : Kept o.toList wr w2) (ho : ∀ g, o = some g → g ∈ ex ∨ w.heap.size ≤ g) : Kept ex w w2 :=
  ⟨k.os.trans h.os, k.tape.trans h.tape, k.output.trans h.output, Nat.le_trans h.size k.size, fun i hi hn => by
    rw [k.block i (Nat.lt_of_lt_of_le hi h.size) (fun hm => by
      have := ho i (by simpa using hm)
      rcases this with hh | hh
      · exact hn hh
      · omega)]
    exact h.block i hi hn⟩
theorem AppB.refl (w : World) (v : Value) : AppB w v w v := ⟨Kept.refl _ _, .inl rfl⟩
theorem AppB.trans {w w1 w2 : World} {v v1 v2 : Value} (h : AppB w v w1 v1) (k : AppB w1 v1 w2 v2) : AppB w v w2 v2 := by
  have hs := h.kept.size
  refine ⟨h.kept.step k.kept fun g hg => ?_, ?_⟩
  · rcases h.own with e | ⟨g', e, hg'⟩
    · left; rw [e] at hg; simp [hg]
    · right; rw [e] at hg; injection hg with hg; omega
  · rcases k.own with e | ⟨g, e, hg⟩
    · rw [e]; exact h.own
    · exact .inr ⟨g, e, by omega⟩
theorem AppB.pre {w w1 w2 : World} {v v2 : Value} (h : Kept [] w w1) (k : AppB w1 v w2 v2) : AppB w v w2 v2 := by
  have hs := h.size
  refine ⟨(h.mono (by simp)).trans k.kept, ?_⟩
  rcases k.own with e | ⟨g, e, hg⟩
  · exact .inl e
  · exact .inr ⟨g, e, by omega⟩

theorem OwnB.kept {base : Nat} {w w' : World} {v : Value} {L : List UInt8} (h : OwnB base w v L) {ex : List Nat} (hk : Kept ex w w') (hne : ∀ k, v.ownBlock = some k → k ∉ ex) : OwnB base w' v L := owns_kept h hk hne
theorem OwnB.slIs {base : Nat} {w : World} {v : Value} {L : List UInt8} (h : OwnB base w v L) : SlIs w v L := by
  rcases owns_range h with ⟨g, cap, rfl, _, hg, _, _, hr⟩ | ⟨rfl, hn, _⟩
  · exact .inl ⟨g, 0, cap, rfl, hg, hr⟩
  · exact .inr ⟨rfl, List.eq_nil_of_length_eq_zero hn⟩
theorem OwnB.val {base : Nat} {w : World} {v : Value} {L : List UInt8} (h : OwnB base w v L) : ∃ ao cap, v = .slice ao L.length cap ∧ L.length ≤ cap := by
  rcases owns_range h with ⟨g, cap, rfl, _, hg, hc, _, hr⟩ | ⟨rfl, hn, _⟩
  · exact ⟨_, _, rfl, hc⟩
  · exact ⟨_, _, by rw [hn], by omega⟩

/-- Bytes that lie in a new block are appended. -/
theorem app_new (base : Nat) (w : World) (v : Value) (L N : List UInt8) (hown : OwnB base w v L) (hb : base ≤ w.heap.size) (hl : L.length + N.length ≤ 100000) :
    ∃ v' w', (Builtin.append_ #[22, 22] 22 #[v, .slice (some ⟨w.heap.size, 0, none⟩) N.length N.length]).run Tryd.prog (w.alloc (.cells (bvA N) 5)) = .ok v' w' ∧ OwnB base w' v' (L ++ N) ∧ AppB w v w' v' := by
  have hs0 : base ≤ (w.alloc (.cells (bvA N) 5)).heap.size := by rw [size_alloc]; omega
  obtain ⟨v', w', hrun, ho, hk, hor⟩ := own_app elemByte 22 (w.alloc (.cells (bvA N) 5)) base v L.length (bv L) (World.ownsRow.alloc hown _) ⟨w.heap.size, 0, none⟩ N.length N.length (bv N) (by rw [bv_length]; omega)
    (fun j u hu => by
      rw [Addr.add_mid, Nat.zero_add, cell_of_row _ _ j _ _ _ (heap_alloc_last w _)]
      simpa [bvA] using hu) (bv_one _) (by unfold maxLen; omega) (by omega) hs0
  refine ⟨v', w', hrun, ?_, ?_⟩
  · unfold OwnB
    rw [List.length_append, show bv (L ++ N) = bv L ++ bv N by simp [bv]]
    exact ho
  · refine AppB.pre (Kept.alloc [] w (.cells (bvA N) 5)) ⟨hk, ?_⟩
    rcases hor with e | e
    · exact .inl e
    · exact .inr ⟨_, e, Nat.le_refl _⟩

theorem rtwo_any (base : Nat) (v : Value) (L : List UInt8) (n : Nat) (w : World) (hown : OwnB base w v L) (hb : base ≤ w.heap.size) (hl : L.length ≤ 1000) (hn : n < 65536) :
    Calls Tryd.prog 45 #[v, .int .i64 n] w fun e w' => ∃ v', e = .returned v' ∧ Hid (OwnB base w' v' (L ++ twoB n) ∧ AppB w v w' v') := by
  obtain ⟨v', w', hrun, ho, hap⟩ := app_new base w v L (twoB n) hown hb (by simp [twoB]; omega)
  have e1 : bvA (twoB n) = #[.int .u8 ((n : Int) / 256), .int .u8 ((n : Int) % 256)] := by
    have h1 := hiB_val n
    have h2 := loB_val n
    have h3 : (n : Int) / 256 % 256 = (n : Int) / 256 := by omega
    simp [bvA, bv, twoB, ← h1, ← h2, h3]
  rw [e1, show (twoB n).length = 2 from rfl] at hrun
  have HRUN := Lib.hid hrun
  have HO := Lib.hid ho
  have HAP := Lib.hid hap
  clear hrun ho hap e1 hown
  go_enter Tryd.func45, Tryd.ntmps45
  go_wp2_with (refine wpList_append_run rfl _ _ 22 rfl _ _ _ rfl rfl HRUN.out ?_)
  go_ret
  exact ⟨v', rfl, HO.out, HAP.out⟩

set_option maxRecDepth 100000 in
set_option maxHeartbeats 1000000 in
theorem rpad_any (base : Nat) (v : Value) (L : List UInt8) (n : Nat) (w : World) (hown : OwnB base w v L) (hb : base ≤ w.heap.size) (hn : n ≤ 10000) :
    Calls Tryd.prog 36 #[v, .int .i64 n] w fun e w' => ∃ v', e = .returned v' ∧ Hid (OwnB base w' v' (L ++ zerosL (n - L.length)) ∧ AppB w v w' v') := by
  have HO := Lib.hid hown
  clear hown
  go_enter Tryd.func36, Tryd.ntmps36
  go_wp2_with fail
  go_loopw [0] (fun v' wr => ∃ k : Nat, k ≤ n - L.length ∧ Hid (OwnB base wr v' (L ++ zerosL k) ∧ AppB w v wr v') ∧ ∃ ao cap, v' = .slice ao (L.length + k) cap) (fun v' _ => n - (match v' with | .slice _ len _ => len | _ => 0))
  case atStart =>
    obtain ⟨ao, cap, rfl, _⟩ := HO.out.val
    exact ⟨0, by omega, ⟨by simpa [zerosL] using HO.out, AppB.refl _ _⟩, ao, cap, rfl⟩
  case round =>
    obtain ⟨k, hk, HS, ao, cap, rfl⟩ := hrel
    by_cases hlt : L.length + k < n
    · obtain ⟨v', w', hrun, ho, hap⟩ := app_new base wr _ (L ++ zerosL k) [0] HS.out.1 (by have := HS.out.2.kept.size; omega) (by simp [zerosL]; omega)
      have e1 : L ++ zerosL k ++ [0] = L ++ zerosL (k + 1) := by simp [zerosL, List.replicate_succ']
      rw [e1] at ho
      obtain ⟨ao', cap', rfl, _⟩ := ho.val
      have e2 : (L ++ zerosL (k + 1)).length = L.length + (k + 1) := by simp [zerosL]
      rw [e2] at hrun ho hap
      have HRUN := Lib.hid hrun
      have HN := Lib.hid (And.intro ho (HS.out.2.trans hap))
      clear hrun ho hap e1 e2
      go_wp2_with (at_builtin; refine wpList_append_run rfl _ _ 22 rfl _ _ _ rfl rfl HRUN.out ?_)
      go_roundw
      case rel => exact ⟨k + 1, by omega, HN, ao', cap', rfl⟩
      case measure => simp; omega
    · have hkn : Hid (k = n - L.length) := by show _ = _; omega
      have HS2 : Hid (OwnB base wr (.slice ao (L.length + k) cap) (L ++ zerosL (n - L.length)) ∧ AppB w v wr (.slice ao (L.length + k) cap)) := by
        have := HS.out
        rw [← hkn.out]
        exact this
      go_wp2_with fail
      go_ret
      exact ⟨_, rfl, HS2.out⟩

theorem AppB.below {base : Nat} {w w' : World} {v v' : Value} {L : List UInt8} (h : AppB w v w' v') (ho : OwnB base w v L) (hb : base ≤ w.heap.size) : Below base w w' :=
  h.kept.below hb fun q hq => (World.ownsRow.lt ho q (by simpa using hq)).1
theorem AppB.into {base : Nat} {w0 w w' : World} {v v' : Value} {L : List UInt8} (hk : Kept [] w0 w) (h : AppB w v w' v') (ho : OwnB base w v L) (hb : w0.heap.size ≤ base) : Kept [] w0 w' :=
  hk.into h.kept fun q hq => by have := (World.ownsRow.lt ho q (by simpa using hq)).1; omega
theorem own_made (w : World) (N : List UInt8) (base : Nat) (hb : base ≤ w.heap.size) (hN : N.length ≤ 1000) : OwnB base (w.alloc (.cells (bvA N) 5)) (.slice (some ⟨w.heap.size, 0, none⟩) N.length N.length) N :=
  ⟨by rw [bv_length]; omega, .inr ⟨w.heap.size, N.length, bvA N, rfl, hb, heap_alloc_last _ _, Nat.le_refl _, by unfold maxLen; omega, by rw [bvA_size]; omega, by rw [bvA_toList, List.take_of_length_le (by rw [bv_length]; omega)]⟩⟩
theorem OwnB.drew {base : Nat} {w : World} {v : Value} {L : List UInt8} (h : OwnB base w v L) : OwnB base w.drew v L := h.kept (Kept.drew [] w) (by simp)

theorem below_new (w : World) (o : Obj) : Below w.heap.size w.drew (w.alloc o).drew := (show Kept [] w.drew (w.alloc o).drew from Kept.alloc [] w.drew o).below (Nat.le_refl _) (by simp)

theorem rputNode_no (k m s more : Int) (ao : Option Addr) (len cap : Nat) (l : List Int) (w : World) (hl : IntsIs w ao len l) (hv : validB k m s more l = false) :
    Calls Tryd.prog 28 #[nodeV k m s ao len cap more] w fun e w' => e = .returned (.tuple #[.slice none 0 0, .slice none 0 0, .int .i64 1]) ∧ Kept [] w w' := by
  have HV := Lib.hid hv
  have HL := Lib.hid hl
  clear hv hl
  unfold nodeV
  go_enter Tryd.func28, Tryd.ntmps28
  go_wp2_with fail
  refine (rmay_any k m s more ao len cap l _ (HL.out.kept (Kept.alloc _ _ _))).mono ?_
  rw [HV.out]
  rintro e w1 ⟨rfl, hk1⟩
  have HK1 := Lib.hid ((Kept.alloc [] w (.cells #[.int .i64 k, .int .i64 m, .int .i64 s, .slice ao len cap, .int .i64 more] 26)).trans hk1)
  clear hk1
  go_wp2_with fail
  go_ret3
  exact ⟨rfl, HK1.out⟩

theorem twosB_zeros (j : Nat) : twosB (List.replicate j 0) = zerosL (2 * j) := by
  induction j with
  | zero => rfl
  | succ j ih =>
    rw [List.replicate_succ, show twosB (0 :: List.replicate j 0) = 0 :: 0 :: twosB (List.replicate j 0) from rfl, ih, show 2 * (j + 1) = 2 * j + 1 + 1 by omega]
    rfl
theorem recL_pad (k m s more : Nat) (r : List Nat) : ([loB k] ++ twoB m ++ twoB s ++ twoB more ++ twosB (r.take 6)) ++ zerosL (32 - ([loB k] ++ twoB m ++ twoB s ++ twoB more ++ twosB (r.take 6)).length) = recL k (fieldsL m s more r) := by
  have hl : ([loB k] ++ twoB m ++ twoB s ++ twoB more ++ twosB (r.take 6)).length = 7 + 2 * min 6 r.length := by
    simp [twoB, twosB_length]; omega
  rw [hl]
  unfold recL fieldsL
  rw [show twosB (m :: s :: more :: (r.take 6 ++ List.replicate (6 - r.length) 0)) = twoB m ++ twoB s ++ twoB more ++ twosB (r.take 6 ++ List.replicate (6 - r.length) 0) by simp [twosB], twosB_append, twosB_zeros]
  have hz : zerosL (32 - (7 + 2 * min 6 r.length)) = zerosL (2 * (6 - r.length)) ++ zerosL 13 := by
    unfold zerosL
    rw [List.replicate_append_replicate]
    congr 1
    omega
  rw [hz]
  simp

structure RpnSt (w : World) (B : Nat) (cs : Array Value) (hd : List UInt8) (r : List Nat) (i : Nat) (vb vm : Value) (wr : World) : Prop where
  box : wr.heap[w.heap.size]? = some (.cells cs 26)
  lt : w.heap.size < B
  b : OwnB B wr vb (hd ++ twosB ((r.take i).take 6))
  m : OwnB B wr vm (twosB ((r.take i).drop 6))
  dis : ∀ g, vb.ownBlock = some g → vm.ownBlock ≠ some g
  kept : Kept [] w wr
  bs : B ≤ wr.heap.size
theorem RpnSt.appB {w : World} {B : Nat} {cs : Array Value} {hd : List UInt8} {r : List Nat} {i : Nat} {vb vm : Value} {wr : World} (R : RpnSt w B cs hd r i vb vm wr) {w' : World} {vb' : Value} (h : AppB wr vb w' vb') {L : List UInt8} (hL : OwnB B w' vb' L)
    (hb : L = hd ++ twosB ((r.take (i + 1)).take 6)) (hm : (r.take (i + 1)).drop 6 = (r.take i).drop 6) : RpnSt w B cs hd r (i + 1) vb' vm w' := by
  have hlt := R.lt
  have hex : ∀ q ∈ vb.ownBlock.toList, B ≤ q := fun q hq => (World.ownsRow.lt R.b q (by simpa using hq)).1
  refine ⟨h.kept.heap (fun hq => by have := hex _ hq; omega) R.box, R.lt, hb ▸ hL, ?_, ?_, R.kept.into h.kept (fun q hq => by have := hex q hq; omega), Nat.le_trans R.bs h.kept.size⟩
  · rw [hm]
    exact R.m.kept h.kept fun q hq hh => R.dis q (by simpa using hh) hq
  · intro g hg hgm
    rcases h.own with e | ⟨g', e, hg'⟩
    · rw [e] at hg; exact R.dis g hg hgm
    · rw [e] at hg
      injection hg with hg
      have := (World.ownsRow.lt R.m g hgm).2
      omega
theorem RpnSt.appM {w : World} {B : Nat} {cs : Array Value} {hd : List UInt8} {r : List Nat} {i : Nat} {vb vm : Value} {wr : World} (R : RpnSt w B cs hd r i vb vm wr) {w' : World} {vm' : Value} (h : AppB wr vm w' vm') {L : List UInt8} (hL : OwnB B w' vm' L)
    (hm : L = twosB ((r.take (i + 1)).drop 6)) (hb : (r.take (i + 1)).take 6 = (r.take i).take 6) : RpnSt w B cs hd r (i + 1) vb vm' w' := by
  have hlt := R.lt
  have hex : ∀ q ∈ vm.ownBlock.toList, B ≤ q := fun q hq => (World.ownsRow.lt R.m q (by simpa using hq)).1
  refine ⟨h.kept.heap (fun hq => by have := hex _ hq; omega) R.box, R.lt, ?_, hm ▸ hL, ?_, R.kept.into h.kept (fun q hq => by have := hex q hq; omega), Nat.le_trans R.bs h.kept.size⟩
  · rw [hb]
    exact R.b.kept h.kept fun q hq hh => R.dis q hq (by simpa using hh)
  · intro g hg hgm
    rcases h.own with e | ⟨g', e, hg'⟩
    · rw [e] at hgm; exact R.dis g hg hgm
    · rw [e] at hgm
      injection hgm with hgm
      have := (World.ownsRow.lt R.b g hg).2
      omega

set_option maxRecDepth 100000 in
set_option maxHeartbeats 4000000 in
theorem rputNode_yes (k m s more : Nat) (ao : Option Addr) (len cap : Nat) (r : List Nat) (w : World) (hl : IntsIs w ao len (natI r)) (hv : validB k m s more (natI r) = true) :
    Calls Tryd.prog 28 #[nodeV k m s ao len cap more] w (NodeOut k m s more r w) := by
  obtain ⟨kN, mN, sN, moreN, r', e1, e2, e3, e4, e5, g1, g2, g3, g4, g5, g6, g7, g8, g9, g10, g11⟩ := valid_parts hv
  obtain rfl : k = kN := by omega
  obtain rfl : m = mN := by omega
  obtain rfl : s = sN := by omega
  obtain rfl : more = moreN := by omega
  have er : r = r' := by
    have := congrArg (List.map Int.toNat) e5
    simpa [natI, Function.comp_def] using this
  subst er
  have hrl : r.length = len := by have := hl.1; rwa [natI_length] at this
  have HV := Lib.hid hv
  have HL := Lib.hid hl
  have HRL := Lib.hid hrl
  have G6 := Lib.hid g6
  have h38 : len ≤ 38 := by omega
  clear e1 e2 e3 e4 e5 g6 g7 g8 g9 g10 g11 hl hv hrl
  unfold nodeV
  go_enter Tryd.func28, Tryd.ntmps28
  go_wp2_with fail
  refine (rmay_any k m s more ao len cap (natI r) _ (HL.out.kept (Kept.alloc _ _ _))).mono ?_
  rw [HV.out]
  rintro e w1 ⟨rfl, hk1⟩
  have HB1 := Lib.hid (hk1.heap (by simp) (heap_alloc_last w _))
  have HK1 := Lib.hid ((Kept.alloc [] w (.cells #[.int .i64 k, .int .i64 m, .int .i64 s, .slice ao len cap, .int .i64 more] 26)).trans hk1)
  clear hk1 HV
  have hw1 : w.heap.size < w1.heap.size := (Array.getElem?_eq_some_iff.1 HB1.out).1
  have hbx : ∀ w', Below w1.heap.size w1.drew w' → w'.heap[w.heap.size]? = some (.cells #[.int .i64 k, .int .i64 m, .int .i64 s, .slice ao len cap, .int .i64 more] 26) := fun w' hb => by rw [hb.block _ hw1]; exact HB1.out
  have HBX := Lib.hid hbx
  have c0 : ∀ w', Below w1.heap.size w1.drew w' → w'.cell? ⟨w.heap.size, 0, none⟩ = some (.int .i64 k) := fun w' hb => cell_of_row _ _ 0 _ _ _ (hbx w' hb)
  have c1 : ∀ w', Below w1.heap.size w1.drew w' → w'.cell? ⟨w.heap.size, 1, none⟩ = some (.int .i64 m) := fun w' hb => cell_of_row _ _ 1 _ _ _ (hbx w' hb)
  have c2 : ∀ w', Below w1.heap.size w1.drew w' → w'.cell? ⟨w.heap.size, 2, none⟩ = some (.int .i64 s) := fun w' hb => cell_of_row _ _ 2 _ _ _ (hbx w' hb)
  have c4 : ∀ w', Below w1.heap.size w1.drew w' → w'.cell? ⟨w.heap.size, 4, none⟩ = some (.int .i64 more) := fun w' hb => cell_of_row _ _ 4 _ _ _ (hbx w' hb)
  have hwk : IntKind.u8.wrap (k : Int) = k := by simp [IntKind.wrap, IntKind.signed, IntKind.bits]; omega
  clear hbx
  go_wp2_with fail
  refine wp_region_ordR (R := (Below w1.heap.size)) [(true, 0), (true, 1), (true, 2), (true, 4), (true, 5), (true, 7), (true, 8), (true, 10), (true, 11), (false, 3), (false, 6), (false, 9), (false, 12), (true, 13)] (fun _ => Below.refl _ _) (fun _ _ _ h k => h.trans k) (by kernel_rfl) (fun _ _ d _ _ h => by cases d <;> exact h) (by kernel_rfl) rfl (by kernel_rfl) (by kernel_rfl) ?_
  simp only [named, List.getD_cons_zero, List.getD_cons_succ]
  repeat (first | (apply wpR_take; (case hw => rfl); (case hv => intro w' hk; go_simp; with_reducible rfl); simp only [Act.put, List.setIfInBounds_toArray, List.set_cons_zero, List.set_cons_succ]) | (refine wpR_pass (by rfl) ?_; simp only [Act.put, List.setIfInBounds_toArray, List.set_cons_zero, List.set_cons_succ]))
  clear c0 c1 c2 c4
  refine wpR_force (by rfl) (fun K hK => ?_)
  go_simp
  refine hK _ _ (below_new w1 _) ?_
  clear hK K hwk
  generalize hw2 : World.drew (World.alloc w1 _) = w2
  have hk8 : #[Value.int .u8 (k : Int)] = bvA [loB k] := by
    have : ((loB k).toNat : Int) = k := by simp [loB]; omega
    simp [bvA, bv, this]
  have H2 : Hid (OwnB w1.heap.size w2 (.slice (some ⟨w1.heap.size, 0, none⟩) 1 1) [loB k] ∧ Below w1.heap.size w1.drew w2 ∧ Kept [] w w2 ∧ w1.heap.size ≤ w2.heap.size) := by
    rw [← hw2, hk8]
    exact ⟨(own_made w1 [loB k] _ (Nat.le_refl _) (by simp)).drew, below_new w1 _, (HK1.out.trans (Kept.alloc _ _ _)).trans (Kept.drew _ _), by show _ ≤ (w1.alloc _).heap.size; rw [size_alloc]; omega⟩
  clear hw2 hk8
  refine wpR_force (by rfl) (fun K hK => ?_)
  go_simp
  refine (rtwo_any w1.heap.size _ [loB k] m w2 H2.out.1 H2.out.2.2.2 (by simp) (by omega)).mono ?_
  rintro e w3 ⟨v3, rfl, H3⟩
  refine hK _ _ (H3.out.2.below H2.out.1 H2.out.2.2.2) ?_
  clear hK K
  have H3' : Hid (OwnB w1.heap.size w3 v3 ([loB k] ++ twoB m) ∧ Below w1.heap.size w1.drew w3 ∧ Kept [] w w3 ∧ w1.heap.size ≤ w3.heap.size) :=
    ⟨H3.out.1, H2.out.2.1.trans (H3.out.2.below H2.out.1 H2.out.2.2.2), H3.out.2.into H2.out.2.2.1 H2.out.1 (by omega), Nat.le_trans H2.out.2.2.2 H3.out.2.kept.size⟩
  clear H2 H3
  clear w2
  refine wpR_force (by rfl) (fun K hK => ?_)
  go_simp
  refine (rtwo_any w1.heap.size _ ([loB k] ++ twoB m) s w3 H3'.out.1 H3'.out.2.2.2 (by simp [twoB]) (by omega)).mono ?_
  rintro e w4 ⟨v4, rfl, H4⟩
  refine hK _ _ (H4.out.2.below H3'.out.1 H3'.out.2.2.2) ?_
  clear hK K
  have H4' : Hid (OwnB w1.heap.size w4 v4 ([loB k] ++ twoB m ++ twoB s) ∧ Below w1.heap.size w1.drew w4 ∧ Kept [] w w4 ∧ w1.heap.size ≤ w4.heap.size) :=
    ⟨H4.out.1, H3'.out.2.1.trans (H4.out.2.below H3'.out.1 H3'.out.2.2.2), H4.out.2.into H3'.out.2.2.1 H3'.out.1 (by omega), Nat.le_trans H3'.out.2.2.2 H4.out.2.kept.size⟩
  clear H4 H3'
  clear w3
  refine wpR_force (by rfl) (fun K hK => ?_)
  go_simp
  refine (rtwo_any w1.heap.size _ ([loB k] ++ twoB m ++ twoB s) more w4 H4'.out.1 H4'.out.2.2.2 (by simp [twoB]) (by omega)).mono ?_
  rintro e w5 ⟨v5, rfl, H5⟩
  refine hK _ _ (H5.out.2.below H4'.out.1 H4'.out.2.2.2) ?_
  clear hK K
  have H5' : Hid (OwnB w1.heap.size w5 v5 ([loB k] ++ twoB m ++ twoB s ++ twoB more) ∧ Below w1.heap.size w1.drew w5 ∧ Kept [] w w5 ∧ w1.heap.size ≤ w5.heap.size) :=
    ⟨H5.out.1, H4'.out.2.1.trans (H5.out.2.below H4'.out.1 H4'.out.2.2.2), H5.out.2.into H4'.out.2.2.1 H4'.out.1 (by omega), Nat.le_trans H4'.out.2.2.2 H5.out.2.kept.size⟩
  clear H5 H4'
  clear w4
  repeat (first | (apply wpR_take; (case hw => rfl); (case hv => intro w' hk; go_simp; with_reducible rfl); simp only [Act.put, List.setIfInBounds_toArray, List.set_cons_zero, List.set_cons_succ]) | (refine wpR_pass (by rfl) ?_; simp only [Act.put, List.setIfInBounds_toArray, List.set_cons_zero, List.set_cons_succ]))
  refine wpR_nil ?_
  go_wp2_with fail
  generalize hw6 : World.alloc w5 _ = w6
  obtain ⟨hd, hhd⟩ : ∃ hd, [loB k] ++ twoB m ++ twoB s ++ twoB more = hd := ⟨_, rfl⟩
  have hdl : hd.length = 7 := by rw [← hhd]; rfl
  rw [hhd] at H5'
  have HHD := Lib.hid hhd
  have H6 : Hid (RpnSt w w1.heap.size #[.int .i64 k, .int .i64 m, .int .i64 s, .slice ao len cap, .int .i64 more] hd r 0 v5 (.slice (some ⟨w5.heap.size, 0, none⟩) 0 0) w6) := by
    have hka : Kept [] w5 w6 := by rw [← hw6]; exact Kept.alloc _ _ _
    refine ⟨hka.heap (by simp) (HBX.out w5 H5'.out.2.1), hw1, ?_, ?_, ?_, H5'.out.2.2.1.trans hka, Nat.le_trans H5'.out.2.2.2 hka.size⟩
    · have := H5'.out.1.kept hka (by simp)
      simpa [twosB] using this
    · rw [← hw6]
      exact own_made w5 [] _ H5'.out.2.2.2 (by simp)
    · intro g hg hgm
      have := (World.ownsRow.lt H5'.out.1 g hg).2
      simp [Value.ownBlock] at hgm
      omega
  clear hw6 H5' hhd HBX HB1 HK1
  generalize w1.heap.size = B at H6 ⊢
  go_loopw [5, 6, 7] (fun vb vm i wr => ∃ j : Nat, j ≤ len ∧ i = .int .i64 j ∧ Hid (RpnSt w B #[.int .i64 k, .int .i64 m, .int .i64 s, .slice ao len cap, .int .i64 more] hd r j vb vm wr)) (fun _ _ i _ => len - (intOf i).toNat)
  case atStart => exact ⟨0, by omega, rfl, H6⟩
  case round =>
    clear H6
    obtain ⟨j, hj, rfl, HS⟩ := hrel
    have c3 : wr.cell? ⟨w.heap.size, 3, none⟩ = some (.slice ao len cap) := cell_of_row _ _ 3 _ _ _ HS.out.box
    by_cases hlt : j < len
    · obtain ⟨b, o, rfl, hb, hc⟩ := (HL.out.kept HS.out.kept).cell (by omega)
      have hjr : j < r.length := by rw [HRL.out]; exact hlt
      have cx := hc j hlt
      rw [natI_get] at cx
      obtain ⟨x, hx⟩ : ∃ x, r[j] = x := ⟨_, rfl⟩
      have hx4 : x < 65536 := by have := G6.out x (by rw [← hx]; exact List.getElem_mem hjr); omega
      rw [hx] at cx
      have HX := Lib.hid hx
      clear hc hx
      by_cases h6 : j < 6
      · go_wp2_with fail
        refine (rtwo_any B _ _ x _ HS.out.b HS.out.bs (by rw [List.length_append, twosB_length, hdl]; simp; omega) hx4).mono ?_
        rintro e w7 ⟨v7, rfl, H7⟩
        have HN : Hid (RpnSt w B #[.int .i64 k, .int .i64 m, .int .i64 s, .slice (some ⟨b, o, none⟩) len cap, .int .i64 more] hd r (j + 1) v7 u6 w7) := by
          refine HS.out.appB H7.out.2 H7.out.1 ?_ ?_
          · rw [List.take_of_length_le (by simp; omega), List.take_of_length_le (l := r.take (j + 1)) (by simp; omega), twosB_snoc r j hjr, HX.out, List.append_assoc]
          · rw [List.drop_of_length_le (by simp; omega), List.drop_of_length_le (by simp; omega)]
        clear H7 HS
        go_wp2_with fail
        go_roundw
        case rel => exact ⟨j + 1, by omega, by go_num, HN⟩
        case measure => simp [intOf]; omega
      · go_wp2_with fail
        refine (rtwo_any B _ _ x _ HS.out.m HS.out.bs (by rw [twosB_length]; simp; omega) hx4).mono ?_
        rintro e w7 ⟨v7, rfl, H7⟩
        have HN : Hid (RpnSt w B #[.int .i64 k, .int .i64 m, .int .i64 s, .slice (some ⟨b, o, none⟩) len cap, .int .i64 more] hd r (j + 1) u5 v7 w7) := by
          refine HS.out.appM H7.out.2 H7.out.1 ?_ ?_
          · rw [List.take_succ_eq_append_getElem hjr, List.drop_append_of_le_length (by simp; omega), twosB_append, HX.out]
            simp [twosB]
          · rw [List.take_take, List.take_take, show min 6 (j + 1) = min 6 j by omega]
        clear H7 HS
        go_wp2_with fail
        go_roundw
        case rel => exact ⟨j + 1, by omega, by go_num, HN⟩
        case measure => simp [intOf]; omega
    · have hjl : r.take j = r := List.take_of_length_le (by rw [HRL.out]; omega)
      have HB := HS.out.b
      have HM := HS.out.m
      rw [hjl] at HB HM
      obtain ⟨ao2, cap2, hvm, _⟩ := HM.val
      rw [twosB_length, List.length_drop, HRL.out] at hvm
      subst hvm
      have HBh := Lib.hid HB
      have HMh := Lib.hid HM
      have HPAD := Lib.hid (recL_pad k m s more r)
      rw [HHD.out] at HPAD
      clear hjl HB HM
      by_cases h6 : 6 < len
      · have hpos : (0 : Int) < ((2 * (len - 6) : Nat) : Int) := by omega
        go_wp2_with fail
        refine (rpad_any B _ _ 64 _ HMh.out HS.out.bs (by omega)).mono ?_
        rintro e w7 ⟨v7, rfl, H7⟩
        have HB7 : Hid (OwnB B w7 u5 (hd ++ twosB (r.take 6)) ∧ SlIs w7 v7 (moreOf r) ∧ (∀ g, u5.ownBlock = some g → v7.ownBlock ≠ some g) ∧ OwnB B w7 v7 (moreOf r) ∧ Kept [] w w7 ∧ B ≤ w7.heap.size) := by
          have R := HS.out
          have hmo : twosB (r.drop 6) ++ zerosL (64 - (twosB (r.drop 6)).length) = moreOf r := by
            unfold moreOf moreL
            rw [if_pos (by rw [HRL.out]; omega), twosB_length]
          have h7 := H7.out.1
          rw [hmo] at h7
          refine ⟨HBh.out.kept H7.out.2.kept (fun q hq hh => R.dis q hq (by simpa using hh)), h7.slIs, ?_, h7, H7.out.2.into R.kept HMh.out (by have := R.lt; omega), Nat.le_trans R.bs H7.out.2.kept.size⟩
          intro g hg hgm
          rcases H7.out.2.own with e | ⟨g', e, hg'⟩
          · rw [e] at hgm; exact R.dis g hg hgm
          · rw [e] at hgm
            injection hgm with hgm
            have := (World.ownsRow.lt HBh.out g hg).2
            omega
        clear H7 HBh HMh
        go_wp2_with fail
        refine (rpad_any B _ _ 32 _ HB7.out.1 HB7.out.2.2.2.2.2 (by omega)).mono ?_
        rintro e w8 ⟨v8, rfl, H8⟩
        have HF : Hid (SlIs w8 v8 (recL k (fieldsL m s more r)) ∧ SlIs w8 v7 (moreOf r) ∧ Kept [] w w8) := by
          have h8 := H8.out.1
          rw [HPAD.out] at h8
          have hlt := HS.out.lt
          exact ⟨h8.slIs, (HB7.out.2.2.2.1.kept H8.out.2.kept fun q hq hh => HB7.out.2.2.1 q (by simpa using hh) hq).slIs, H8.out.2.into HB7.out.2.2.2.2.1 HB7.out.1 (by omega)⟩
        clear H8 HB7
        go_wp2_with fail
        go_ret3
        exact ⟨v8, v7, rfl, HF.out⟩
      · have hz0 : 2 * (len - 6) = 0 := by omega
        have hmo : moreOf r = [] := by unfold moreOf; rw [if_neg (by rw [HRL.out]; omega)]
        have hdr : twosB (r.drop 6) = [] := by rw [List.drop_of_length_le (by rw [HRL.out]; omega)]; rfl
        rw [hdr] at HMh
        rw [hz0] at HMh HS
        have HMO := Lib.hid hmo
        clear hmo hdr
        have HZ0 := Lib.hid hz0
        clear hz0
        go_wp2_with fail
        refine (rpad_any B _ _ 32 _ HBh.out HS.out.bs (by omega)).mono ?_
        rintro e w8 ⟨v8, rfl, H8⟩
        have HF : Hid (SlIs w8 v8 (recL k (fieldsL m s more r)) ∧ SlIs w8 (.slice ao2 (2 * (len - 6)) cap2) (moreOf r) ∧ Kept [] w w8) := by
          have h8 := H8.out.1
          rw [HPAD.out] at h8
          have R := HS.out
          have hlt := R.lt
          rw [HZ0.out, HMO.out]
          exact ⟨h8.slIs, (HMh.out.kept H8.out.2.kept fun q hq hh => R.dis q (by simpa using hh) hq).slIs, H8.out.2.into R.kept HBh.out (by omega)⟩
        clear H8
        go_wp2_with fail
        go_ret3
        exact ⟨v8, _, rfl, HF.out⟩

end Go.Proofs.YtbggmeilkfpbgaaDoor

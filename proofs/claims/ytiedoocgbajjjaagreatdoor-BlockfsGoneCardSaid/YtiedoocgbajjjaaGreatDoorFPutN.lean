/-
  Layer 4: what the blocks of the areas hold for a tree. No walk.
  Conditions: those that each theorem states.
  Layer 4: cut: memory as blocks.
  Conditions: those that each theorem states.
  Layer 4: PutNode of a node that may be: the further block's bytes lie in a new block.
  Conditions: those that each theorem states.
-/
import Derived.Test.YtiedoocgbajjjaaGreatDoorFCut
import Derived.Deep.LoopGhost
import Derived.Test.YtiedoocgbajjjaaGreatDoorLPut
namespace Go.Proofs.YtiedoocgbajjjaaGreatDoor
open Go.RowKit Go.Maps
set_option maxRecDepth 100000

theorem wrap_u8_rng (z : Int) : 0 ≤ IntKind.u8.wrap z ∧ IntKind.u8.wrap z < 256 := by
  rw [IntKind.wrap_u8]
  omega
/-- A byte with one more bit. -/
def orB (x : UInt8) (k : Nat) : UInt8 := UInt8.ofNat (bits .or .u8 (x.toNat : Int) (IntKind.u8.wrap (1 * 2 ^ k))).toNat
theorem bits_rng (a b : Int) : 0 ≤ bits .or .u8 a b ∧ bits .or .u8 a b < 256 := wrap_u8_rng _
theorem orB_val (x : UInt8) (k : Nat) : ((orB x k).toNat : Int) = bits .or .u8 (x.toNat : Int) (IntKind.u8.wrap (1 * 2 ^ k)) := by
  have h := bits_rng (x.toNat : Int) (IntKind.u8.wrap (1 * 2 ^ k))
  unfold orB
  rw [UInt8.toNat_ofNat']
  omega
/-- The i-th bit of a row of bytes is set. -/
def bitL (M : List UInt8) (i : Nat) : List UInt8 := M.set (i / 8) (orB (M.getD (i / 8) 0) (i % 8))
def bitsTo (M : List UInt8) (F : List Bool) : Nat → List UInt8
  | 0 => M
  | j + 1 => if F.getD j false then bitL (bitsTo M F j) j else bitsTo M F j
theorem bitsTo_len (M : List UInt8) (F : List Bool) : ∀ j, (bitsTo M F j).length = M.length
  | 0 => rfl
  | j + 1 => by
    simp only [bitsTo]
    split
    · rw [bitL, List.length_set, bitsTo_len M F j]
    · exact bitsTo_len M F j
/-- Bytes laid at a place. -/
def putAtL (M : List UInt8) (k : Nat) (b : List UInt8) : List UInt8 := M.take k ++ b ++ M.drop (k + b.length)
theorem putAtL_len {M : List UInt8} {k : Nat} {b : List UInt8} (h : k + b.length ≤ M.length) : (putAtL M k b).length = M.length := by
  simp [putAtL]
  omega
/-- A node's record. -/
def ATr.recB (s : ATr) : List UInt8 := recL s.rc.kind.toNat (fieldsL s.rc.mode.toNat s.size s.rc.more s.rc.blocks)
def recsTo (k0 : Nat) (M : List UInt8) (l : List ATr) : List UInt8 := l.foldl (fun M s => putAtL M (k0 + s.rc.slot * 32) s.recB) M
theorem recsTo_snoc (k0 : Nat) (M : List UInt8) (l : List ATr) (s : ATr) : recsTo k0 M (l ++ [s]) = putAtL (recsTo k0 M l) (k0 + s.rc.slot * 32) s.recB := by
  simp [recsTo, List.foldl_append]
theorem recsTo_len (k0 : Nat) : ∀ (l : List ATr) (M : List UInt8), (∀ x ∈ l, x.recB.length = 32 ∧ k0 + x.rc.slot * 32 + 32 ≤ M.length) → (recsTo k0 M l).length = M.length
  | [], _, _ => rfl
  | x :: l, M, h => by
    have hx := h x (by simp)
    have e : (putAtL M (k0 + x.rc.slot * 32) x.recB).length = M.length := putAtL_len (by rw [hx.1]; exact hx.2)
    have := recsTo_len k0 l (putAtL M (k0 + x.rc.slot * 32) x.recB) (fun y hy => by rw [e]; exact h y (by simp [hy]))
    rw [e] at this
    exact this
theorem recB_len (s : ATr) : s.recB.length = 32 := recL_length (fieldsL_length _ _ _ _)
/-- The areas' bytes. -/
def takenL (N d : Nat) (l : List Nat) : List Bool := setAll (setAll (List.replicate N false) (List.range d)) l
def areaL (N q : Nat) (t : ATr) : List UInt8 := recsTo (q * 64) (bitsTo (zerosL ((q + 32) * 64)) (takenL N (233 + q) (t.all.flatMap ATr.blks)) N) t.all
end Go.Proofs.YtiedoocgbajjjaaGreatDoor

namespace Go.Proofs.YtiedoocgbajjjaaGreatDoor
open Go.RowKit Go.Maps
set_option maxRecDepth 100000

/-- A slice of one value that is built, its run laid. -/
theorem wpList_build_one {P : Program} {ops : Array Oper} {rest : List Oper} {o : Oper} {a : Act} {w : World} {Q : Exit → Act → World → Prop} (hg : o.guard = none) (t : TypeId) (x : Operand) (ho : o.op = .buildSlice t 1 #[(0, x)])
    (u : Value) (hx : a.eval x = u) (v : Value) (w' : World) (hrun : (Instr.buildSlice t 1 #[(0, u)]).run P w = .ok v w') (h : wpList P ops Q rest (a.put o.dst v) w') : wpList P ops Q (o :: rest) a w :=
  wpList_plain hg fun _ hK => by
    unfold Oper.wp execOp
    have e : (#[(0, x)] : Array (Nat × Operand)).map (fun (i, x) => (i, a.eval x)) = #[(0, u)] := by simp [hx]
    simp only [ho, e, Sem.run_bind, hrun, Result.andThen_ok]
    exact hK _ _ h

set_option maxRecDepth 100000 in
set_option maxHeartbeats 4000000 in
theorem bcut_any (v : Value) (M : List UInt8) (w : World) (h : SlIs w v M) (hc : CapOk v) (hM : M.length ≤ 100000) :
    Calls Tryz.prog 72 #[v] w fun e w' => ∃ v', e = .returned v' ∧ Hid (CutSt w M (blkN M) v' w') := by
  obtain ⟨ao, len, cap, rfl, hlc, hcm⟩ := hc
  have H := Lib.hid h
  have HM := Lib.hid hM
  have HL : Hid (len = M.length) := by
    show _ = _
    rcases h with ⟨b, o, cp, e, _⟩ | ⟨e, h0⟩
    · injection e
    · injection e with _ e2
      rw [h0, e2]
      rfl
  obtain ⟨E, hE⟩ : ∃ E, blkN M = E := ⟨_, rfl⟩
  rw [hE]
  have HE := Lib.hid hE
  have H0 : Hid (SlIs w (.slice ao len cap) (M.drop (64 * 0)) ∧ CutSt w M 0 (.slice none 0 0) w) := ⟨by simpa using h, by simpa [bv] using World.ownsRow_nil w w.heap.size 77 64, Kept.refl _ _⟩
  clear h hM hE
  go_enter Tryz.func72, Tryz.ntmps72
  go_wp2_with fail
  go_loopg [0, 3] E (fun gk s0 s3 wr => ∃ (j n c : Nat) (ad : Option Addr), j ≤ E ∧ gk = E - j ∧ s0 = .slice ad n c ∧ n ≤ c ∧ c ≤ 9223372036854775807 ∧ n ≤ 100000 ∧ Hid (n = M.length - 64 * j ∧ SlIs w (.slice ad n c) (M.drop (64 * j)) ∧ CutSt w M j s3 wr))
  case atStart => exact ⟨0, len, cap, ao, by omega, by omega, rfl, hlc, hcm, by rw [HL.out]; exact HM.out, by rw [HL.out]; omega, H0.out⟩
  case round =>
    clear H0
    obtain ⟨j, n, c, ad, hj, hgk, rfl, hnc, hcc, hnb, HS⟩ := hrel
    by_cases hn : 0 < n
    · have hjE : j < blkN M := by rw [blkN_pos]; have := HS.out.1; omega
      have HJE : Hid (j < E) := by show _ < _; rw [← HE.out]; exact hjE
      obtain ⟨b, o, had, hb0, hr0⟩ : ∃ b o, ad = some ⟨b, o, none⟩ ∧ b < w.heap.size ∧ w.rangeAt b o (bv (M.drop (64 * j))) := by
        rcases HS.out.2.1 with ⟨b, o, cp, e, hb, hr⟩ | ⟨e, _⟩
        · injection e with e1
          exact ⟨b, o, e1, hb, hr⟩
        · injection e with _ e2
          omega
      subst had
      have hb : b < wr.heap.size := Nat.lt_of_lt_of_le hb0 HS.out.2.2.kept.size
      have hr : wr.rangeAt b o (bv (M.drop (64 * j))) := HS.out.2.2.kept.range hb0 (by simp) hr0
      obtain ⟨A, hA⟩ : ∃ A, wr.heap.size = A := ⟨_, rfl⟩
      obtain ⟨k, hk⟩ : ∃ k, min n 64 = k := ⟨_, rfl⟩
      have hkn : k ≤ n := by omega
      have hk64 : k ≤ 64 := by omega
      obtain ⟨L, hL⟩ : ∃ L, (M.drop (64 * j)).take 64 ++ zerosL (64 - min (M.length - 64 * j) 64) = L := ⟨_, rfl⟩
      have hLl : L.length = 64 := by
        rw [← hL]
        simp [zerosL]
        omega
      obtain ⟨w1, hw1⟩ : ∃ w1, wr.alloc (.cells (bvA (zerosL 64)) 77) = w1 := ⟨_, rfl⟩
      have hk1 : Kept [] wr w1 := by rw [← hw1]; exact Kept.alloc _ _ _
      have hr1 : w1.heap[A]? = some (.cells (bvA (zerosL 64)) 77) := by rw [← hw1, ← hA]; exact heap_alloc_last _ _
      have zb := zeroB wr
      have hcs : ((bv (M.drop (64 * j))).take 64).length = k := by
        rw [List.length_take, bv_length, List.length_drop]
        have := HS.out.1
        omega
      have hrun := run_copy_row (P := Tryz.prog) w1 22 22 3 5 A 0 64 64 ⟨b, o, none⟩ n c _ 77 ((bv (M.drop (64 * j))).take 64) Tryz.underlying22 (by kernel_rfl) hr1 (by rw [hcs, ← hk])
        (fun q u hu => by
          rw [Addr.add_mid]
          exact hk1.range hb (by simp) hr q u (by
            rw [List.getElem?_take] at hu
            split at hu
            · exact hu
            · cases hu)) (by rw [hcs, bvA_size]; simp [zerosL]; omega) (fun u hu => bv_one _ u (List.mem_of_mem_take hu))
      have hrow : ((bvA (zerosL 64)).toList.take 0 ++ (bv (M.drop (64 * j))).take 64 ++ (bvA (zerosL 64)).toList.drop (0 + ((bv (M.drop (64 * j))).take 64).length)).toArray = bvA L := by
        rw [hcs, ← hL, bvA_toList]
        apply Array.toList_inj.1
        rw [bvA_toList]
        have e1 : M.length - 64 * j = n := HS.out.1.symm
        rw [e1, hk]
        simp [bv, zerosL, List.map_take]
        show List.drop k (List.replicate 64 (Value.int .u8 0)) = _
        rw [List.drop_replicate]
      rw [hrow, hcs] at hrun
      have hr2 : (w1.setRow A (bvA L)).heap[A]? = some (.cells (bvA L) 77) := setRow_heap _ _ _ _ _ _ hr1
      have hk2 := setRow_kept w1 A (bvA L)
      obtain ⟨w2, hw2⟩ : ∃ w2, w1.setRow A (bvA L) = w2 := ⟨_, rfl⟩
      rw [hw2] at hr2 hk2 hrun
      have hwA : w.heap.size ≤ A := by have := HS.out.2.2.kept.size; omega
      have R2 : CutSt w M j u3 w2 := ⟨owns_kept (owns_kept HS.out.2.2.own hk1 (by simp)) hk2 (fun q hq hh => by
        have := (World.ownsRow.lt HS.out.2.2.own q hq).2
        simp at hh
        omega), (HS.out.2.2.kept.trans hk1).andThen hk2 (fun q hq => by simp at hq; right; omega)⟩
      obtain ⟨v7, w7, hrun7, R7⟩ := R2.next hjE HM.out hL
      have hlt2 : A < w2.heap.size := (Array.getElem?_eq_some_iff.1 hr2).1
      have hrg : w2.rangeAt A 0 (bv L) := range_row hr2
      have hszL : (Tryz.prog.info? 77).map (·.size) = some (bv L).length := by rw [bv_length, hLl]; exact sizeB
      have HR1 := Lib.hid hrun
      have HR7 := Lib.hid hrun7
      have HBD := Lib.hid (run_buildBlk w2 L hLl)
      have HF2 : Hid (c = k → ∃ (j' n' c' : Nat) (ad' : Option Addr), j' ≤ E ∧ E - (j + 1) = E - j' ∧ Value.slice (some ⟨b, o, none⟩) (n - k) 0 = .slice ad' n' c' ∧ n' ≤ c' ∧ c' ≤ 9223372036854775807 ∧ n' ≤ 100000 ∧ Hid (n' = M.length - 64 * j' ∧ SlIs w (.slice ad' n' c') (M.drop (64 * j')) ∧ CutSt w M j' v7 w7))   := fun hck => by
        have e1 := HS.out.1
        have eD : M.drop (64 * (j + 1)) = (M.drop (64 * j)).drop k := by
          rw [List.drop_drop]
          by_cases h64 : 64 ≤ n
          · rw [show 64 * (j + 1) = 64 * j + k by omega]
          · rw [List.drop_of_length_le (by omega), List.drop_of_length_le (by omega)]
        refine ⟨j + 1, n - k, 0, some ⟨b, o, none⟩, by rw [← HE.out]; omega, rfl, rfl, by omega, by omega, by omega, by omega, .inl ⟨b, o, 0, ?_, hb0, fun q u hu => ?_⟩, R7⟩
        · rw [eD, List.length_drop, List.length_drop, ← e1]
        · rw [eD, show bv ((M.drop (64 * j)).drop k) = (bv (M.drop (64 * j))).drop k by simp [bv, List.map_drop], List.getElem?_drop] at hu
          have := (List.getElem?_eq_some_iff.1 hu).1
          rw [bv_length, List.length_drop, ← e1] at this
          omega
      have HF : Hid (∃ (j' n' c' : Nat) (ad' : Option Addr), j' ≤ E ∧ E - (j + 1) = E - j' ∧ Value.slice (some ⟨b, o + k, none⟩) (n - k) (c - k) = .slice ad' n' c' ∧ n' ≤ c' ∧ c' ≤ 9223372036854775807 ∧ n' ≤ 100000 ∧ Hid (n' = M.length - 64 * j' ∧ SlIs w (.slice ad' n' c') (M.drop (64 * j')) ∧ CutSt w M j' v7 w7)) := by
        have e1 := HS.out.1
        have eD : M.drop (64 * (j + 1)) = (M.drop (64 * j)).drop k := by
          rw [List.drop_drop]
          by_cases h64 : 64 ≤ n
          · rw [show 64 * (j + 1) = 64 * j + k by omega]
          · rw [List.drop_of_length_le (by omega), List.drop_of_length_le (by omega)]
        refine ⟨j + 1, n - k, c - k, some ⟨b, o + k, none⟩, by rw [← HE.out]; omega, rfl, rfl, by omega, by omega, by omega, by omega, .inl ⟨b, o + k, c - k, ?_, hb0, fun q u hu => ?_⟩, R7⟩
        · rw [eD, List.length_drop, List.length_drop, ← e1]
        · rw [eD, show bv ((M.drop (64 * j)).drop k) = (bv (M.drop (64 * j))).drop k by simp [bv, List.map_drop], List.getElem?_drop] at hu
          rw [show o + k + q = o + (k + q) by omega]
          exact hr0 (k + q) u hu
      clear hb0 hr0 hjE hr hL hLl hk1 hr1 hcs hrow hr2 hk2 hw2 R2 hrun7 R7 hlt2 hb
      have hnI : (0 : Int) < (n : Int) := by omega
      go_wp2_with first
        | (refine wpList_load_mid rfl 77 _ rfl A 0 rfl (bv L) _ hrg Tryz.underlying77 rfl hszL ?_)
        | (refine wpList_build_one rfl 79 _ rfl (.agg (bvA L)) rfl _ _ HBD.out ?_)
        | (at_builtin; refine wpList_append_run rfl _ _ 79 rfl _ _ _ rfl rfl HR7.out ?_)
      all_goals go_roundg (E - (j + 1))
      all_goals first
        | exact HF.out
        | exact HF2.out (by omega)
        | (have := HJE.out; omega)
    · have hjE : j = E := by
        have h1 := HS.out.1
        have h2 : ¬ j < blkN M := by rw [blkN_pos]; omega
        rw [HE.out] at h2
        omega
      have HF : Hid (CutSt w M E u3 wr) := by rw [← hjE]; exact HS.out.2.2
      clear hjE
      have hnI : ¬ (0 : Int) < (n : Int) := by omega
      go_wp2_with fail
      go_ret
      exact ⟨u3, rfl, HF.out⟩
end Go.Proofs.YtiedoocgbajjjaaGreatDoor

namespace Go.Proofs.YtiedoocgbajjjaaGreatDoor
open Go.RowKit Go.Maps
set_option maxRecDepth 100000

def NodeOutN (k m s more : Nat) (r : List Nat) (w : World) (e : Ending) (w' : World) : Prop :=
  ∃ va vm, e = .returned (.tuple #[va, vm, .int .i64 0]) ∧ SlIs w' va (recL k (fieldsL m s more r)) ∧ (6 < r.length → ∃ g, vm = .slice (some ⟨g, 0, none⟩) 64 64 ∧ w'.heap[g]? = some (.cells (bvA (moreOf r)) 156) ∧ w.heap.size ≤ g) ∧ Kept [] w w'

set_option maxRecDepth 100000 in
set_option maxHeartbeats 2000000 in
theorem putNodeN_yes (k m s more : Nat) (ao : Option Addr) (len cap : Nat) (r : List Nat) (w : World) (hl : IntsIs w ao len (natI r)) (hc : len ≤ cap) (hv : validB k m s more (natI r) = true) :
    Calls Tryz.prog 69 #[nodeV k m s ao len cap more] w (NodeOutN k m s more r w) := by
  obtain ⟨kN, mN, sN, moreN, r', e1, e2, e3, e4, e5, g1, g2, g3, g4, g5, g6, g7, g8, g9, g10, g11⟩ := valid_parts hv
  obtain rfl : k = kN := by omega
  obtain rfl : m = mN := by omega
  obtain rfl : s = sN := by omega
  obtain rfl : more = moreN := by omega
  have er : r = r' := by
    have := congrArg (List.map Int.toNat) e5
    simpa [natI, Function.comp_def] using this
  subst er
  have hall : (natI r).all sndB = true := by
    simp only [validB, Bool.and_eq_true] at hv
    exact hv.2
  have hrl : r.length = len := by have := hl.1; rwa [natI_length] at this
  rw [hrl] at g7 g8 g10 g11
  rw [g7] at g9
  have HN := Lib.hid g7
  have H2 := Lib.hid g9
  have H3 := Lib.hid hall
  have HL := Lib.hid hl
  have HRL := Lib.hid hrl
  clear e1 e2 e3 e4 e5 g6 g7 g9 g10 g11 hall hl hv hrl
  unfold nodeV
  go_enter Tryz.func69, Tryz.ntmps69
  go_wp2_with fail
  refine (content_yes k s len _ HN.out (by omega)).mono ?_
  rintro e w' ⟨rfl, rfl⟩
  go_wp2_with fail
  refine (soundHead_any k m s ao len cap more len _).mono ?_
  rw [H2.out]
  rintro e w1 ⟨rfl, hk1⟩
  have HB1 := Lib.hid (hk1.heap (by simp) (heap_alloc_last w _))
  have HK1 := Lib.hid ((Kept.alloc [] w (.cells #[.int .i64 k, .int .i64 m, .int .i64 s, .slice ao len cap, .int .i64 more] 123)).trans hk1)
  clear hk1
  have c0 : w1.cell? ⟨w.heap.size, 0, none⟩ = some (.int .i64 k) := cell_of_row _ _ 0 _ _ _ HB1.out
  have c1 : w1.cell? ⟨w.heap.size, 1, none⟩ = some (.int .i64 m) := cell_of_row _ _ 1 _ _ _ HB1.out
  have c2 : w1.cell? ⟨w.heap.size, 2, none⟩ = some (.int .i64 s) := cell_of_row _ _ 2 _ _ _ HB1.out
  have c3 : w1.cell? ⟨w.heap.size, 3, none⟩ = some (.slice ao len cap) := cell_of_row _ _ 3 _ _ _ HB1.out
  have c4 : w1.cell? ⟨w.heap.size, 4, none⟩ = some (.int .i64 more) := cell_of_row _ _ 4 _ _ _ HB1.out
  go_wp2_with fail
  refine (soundBlocks_any ao len cap (natI r) _ (HL.out.kept HK1.out)).mono ?_
  rw [H3.out]
  rintro e w2 ⟨rfl, rfl⟩
  go_wp2_with fail
  refine (nodeRecord_any k m s more ao len cap r _ (HL.out.kept HK1.out) (by omega)).mono ?_
  rintro e w2 ⟨rfl, hk2⟩
  obtain ⟨R, hR⟩ : ∃ R, recL k (fieldsL m s more r) = R := ⟨_, rfl⟩
  have hRl : R.length = 32 := by rw [← hR]; exact recL_length (fieldsL_length _ _ _ _)
  rw [hR]
  have HR := Lib.hid hR
  have HRl := Lib.hid hRl
  clear c0 c1 c2 c3 c4 hR
  have HB2 := Lib.hid (hk2.heap (by simp) HB1.out)
  have HK2 := Lib.hid (HK1.out.trans hk2)
  clear hk2 HB1 HK1
  clear w1
  have hw2 : w.heap.size < w2.heap.size := (Array.getElem?_eq_some_iff.1 HB2.out).1
  have z32 := zero32 w2
  have hs0 : (bvA R).size = 32 := by rw [bvA_size]; exact hRl
  have hst := run_storeCells_new (P := Tryz.prog) w2 154 (bvA (zerosL 32)) (bvA R) (by rw [hs0]; exact size64) (by rw [hs0]; rfl) (bvA_one _)
  clear hRl
  by_cases h6 : (6 : Int) < (len : Int)
  · obtain ⟨b, o, rfl, hb, hcc⟩ := HL.out.cell (by omega)
    clear hcc
    have C3 : w2.cell? ⟨w.heap.size, 3, none⟩ = some (.slice (some ⟨b, o, none⟩) len cap) := cell_of_row _ _ 3 _ _ _ HB2.out
    go_wp2_with fail
    generalize hw3 : World.alloc w2 _ = w3
    have HK3 := Lib.hid (show Kept [] w2 w3 by rw [← hw3]; exact Kept.alloc _ _ _)
    have HH3 := Lib.hid (show w3.heap[w2.heap.size]? = some (.cells (bvA R) 154) by rw [← hw3]; exact heap_alloc_last _ _)
    clear hw3 z32 hst hs0 C3
    refine (moreBlock_any _ _ _ (r.drop 6) _ (by rw [natI_drop]; exact (HL.out.kept (HK2.out.trans HK3.out)).drop 6) (by omega)).mono ?_
    rintro e w4 ⟨rfl, hk4⟩
    obtain ⟨M, hM⟩ : ∃ M, moreL (r.drop 6) = M := ⟨_, rfl⟩
    have hMl : M.length = 64 := by rw [← hM]; exact moreL_length (by rw [List.length_drop, HRL.out]; omega)
    rw [hM]
    have HM := Lib.hid hM
    have HMl := Lib.hid hMl
    clear hM
    have HH4 := Lib.hid (hk4.heap (by simp) HH3.out)
    have HK4 := Lib.hid ((HK2.out.trans HK3.out).trans hk4)
    clear hk4 HH3 HK3 HB2 HK2
    clear w3
    have z64 := zero64 w4
    have hs0 : (bvA M).size = 64 := by rw [bvA_size]; exact hMl
    have hst := run_storeCells_new (P := Tryz.prog) w4 156 (bvA (zerosL 64)) (bvA M) (by rw [hs0]; exact size67) (by rw [hs0]; rfl) (bvA_one _)
    clear hMl
    go_wp2_with fail
    go_ret3
    refine ⟨_, _, rfl, ?_, fun _ => ⟨_, rfl, ?_, HK4.out.size⟩, HK4.out.trans (Kept.alloc _ _ _)⟩
    · rw [HR.out]
      exact SlIs.row ((Kept.alloc [] _ _).heap (by simp) HH4.out) 32 32 HRl.out
    · unfold moreOf
      rw [if_pos (by rw [HRL.out]; omega), HM.out]
      exact heap_alloc_last _ _
  · go_wp2_with fail
    go_ret3
    refine ⟨_, _, rfl, ?_, fun h6' => absurd h6' (by rw [HRL.out]; omega), HK2.out.trans (Kept.alloc _ _ _)⟩
    · rw [HR.out]
      exact SlIs.row (heap_alloc_last _ _) 32 32 HRl.out

end Go.Proofs.YtiedoocgbajjjaaGreatDoor

/-
  Layer 4: rest: the numbers that are not taken.
  Conditions: those that each theorem states.
  Layer 4: takenSlots.
  Conditions: those that each theorem states.
  Layer 4: takenBlocks.
  Conditions: those that each theorem states.
-/
import Derived.Test.YtiedoocgbajjjaaGreatDoorFPool
namespace Go.Proofs.YtiedoocgbajjjaaGreatDoor
open Go.RowKit Go.Maps
set_option maxRecDepth 100000

def bvl (F : List Bool) : List Value := F.map .bool
/-- The numbers of those that are not taken, i the first's. -/
def freeL : Nat → List Bool → List Nat
  | _, [] => []
  | i, b :: F => if b then freeL (i + 1) F else i :: freeL (i + 1) F
theorem freeL_append : ∀ (i : Nat) (F G : List Bool), freeL i (F ++ G) = freeL i F ++ freeL (i + F.length) G
  | i, [], G => by simp [freeL]
  | i, b :: F, G => by
    simp only [List.cons_append, freeL, freeL_append (i + 1) F G, List.length_cons]
    rw [show i + 1 + F.length = i + (F.length + 1) by omega]
    split <;> simp
theorem freeL_take {F : List Bool} {j : Nat} (hj : j < F.length) : freeL 0 (F.take (j + 1)) = freeL 0 (F.take j) ++ if F[j] then [] else [j] := by
  rw [List.take_succ_eq_append_getElem hj, freeL_append, List.length_take, Nat.min_eq_left (by omega), Nat.zero_add]
  rfl
theorem freeL_len : ∀ (i : Nat) (F : List Bool), (freeL i F).length ≤ F.length
  | _, [] => by simp [freeL]
  | i, b :: F => by
    have := freeL_len (i + 1) F
    simp only [freeL]
    split <;> simp <;> omega

set_option maxRecDepth 100000 in
set_option maxHeartbeats 2000000 in
theorem srest_any (F : List Bool) (g o cap : Nat) (w : World) (hr : w.rangeAt g o (bvl F)) (hg : g < w.heap.size) (hl : F.length ≤ 100000) :
    Calls Tryz.prog 103 #[.slice (some ⟨g, o, none⟩) F.length cap] w fun e w' => e = .returned (.pointer (some ⟨w.heap.size, 0, none⟩)) ∧ Hid (Kept [] w w' ∧ ∃ v, w'.heap[w.heap.size]? = some (.cells #[v] 187) ∧ w'.ownsRow (w.heap.size + 1) 3 1 v (freeL 0 F).length (iv (natI (freeL 0 F)))) := by
  obtain ⟨n, hn⟩ : ∃ n, F.length = n := ⟨_, rfl⟩
  have HR := Lib.hid (And.intro hr hg)
  have HN := Lib.hid hn
  obtain ⟨P, hP⟩ : ∃ P, w.heap.size = P := ⟨_, rfl⟩
  rw [hn] at hl ⊢
  rw [hP]
  have HP := Lib.hid hP
  clear hr hg hn
  go_enter Tryz.func103, Tryz.ntmps103
  go_wp2_with fail
  generalize hw1 : World.alloc w _ = w1
  have H1 : Hid (Kept [] w w1 ∧ w1.heap[P]? = some (.cells #[.slice none 0 0] 187)) := by
    rw [← hw1, ← hP]
    exact ⟨Kept.alloc _ _ _, heap_alloc_last _ _⟩
  clear hw1 hP
  go_loopw [10] (fun i wr => ∃ j : Nat, j ≤ n ∧ i = .int .i64 j ∧ Hid (Kept [] w wr ∧ ∃ v, wr.heap[P]? = some (.cells #[v] 187) ∧ wr.ownsRow (P + 1) 3 1 v (freeL 0 (F.take j)).length (iv (natI (freeL 0 (F.take j)))))) (fun i _ => n - (intOf i).toNat)
  case atStart => exact ⟨0, by omega, rfl, H1.out.1, _, H1.out.2, by simpa [freeL, iv, natI] using World.ownsRow_nil w1 (P + 1) 3 1⟩
  case round =>
    clear H1
    obtain ⟨j, hj, rfl, HS⟩ := hrel
    by_cases hlt : j < n
    · have hjl : j < F.length := by rw [HN.out]; exact hlt
      obtain ⟨bb, hbb⟩ : ∃ bb, F[j] = bb := ⟨_, rfl⟩
      have cb : wr.cell? ⟨g, o + j, none⟩ = some (.bool bb) := HS.out.1.range HR.out.2 (by simp) HR.out.1 j _ (by simp [bvl, hjl, hbb])
      have HT := Lib.hid (freeL_take hjl)
      rw [hbb] at HT
      cases bb
      · obtain ⟨v, hv, hown⟩ := HS.out.2
        have hfl : (freeL 0 (F.take j)).length ≤ 100000 := by have := freeL_len 0 (F.take j); rw [List.length_take] at this; omega
        obtain ⟨ao, cp, rfl, _⟩ := own_ints hown (by omega)
        have hPl : P < wr.heap.size := (Array.getElem?_eq_some_iff.1 hv).1
        obtain ⟨v', w7, hrun, hown', hk7, _⟩ := own_app elemInt 56 (wr.alloc (.cells #[.int .i64 (j : Int)] 3)) (P + 1) _ _ _ (World.ownsRow.alloc hown _) ⟨wr.heap.size, 0, none⟩ 1 1 (iv (natI [j])) rfl
          (fun q u hu => by
            rw [Addr.add_mid, Nat.zero_add, cell_of_row _ _ q _ _ _ (heap_alloc_last wr _)]
            simpa [iv, natI] using hu) (iv_one _) (by unfold maxLen; omega) (by omega) (by rw [size_alloc]; omega)
        have e : iv (natI (freeL 0 (F.take j))) ++ iv (natI [j]) = iv (natI (freeL 0 (F.take (j + 1)))) := by rw [HT.out]; simp [iv, natI]
        have el : (freeL 0 (F.take j)).length + 1 = (freeL 0 (F.take (j + 1))).length := by rw [HT.out]; simp
        rw [e, el] at hown'
        obtain ⟨ao', cp', rfl, _⟩ := own_ints hown' (by have := freeL_len 0 (F.take (j + 1)); rw [List.length_take] at this; omega)
        have hex : ∀ q ∈ (Value.slice ao (freeL 0 (F.take j)).length cp).ownBlock.toList, P + 1 ≤ q := fun q hq => (World.ownsRow.lt hown q (by simpa using hq)).1
        have hka := Kept.alloc [] wr (.cells #[.int .i64 (j : Int)] 3)
        have hv7 := hk7.heap (b := P) (fun hq => by have := hex _ hq; omega) (hka.heap (by simp) hv)
        have fz : ∀ q, w7.frozen? ⟨P, q, none⟩ = false := fun q => frozen_of_row _ _ q _ _ hv7
        have cv : wr.cell? ⟨P, 0, none⟩ = some (.slice ao (freeL 0 (F.take j)).length cp) := cell_of_row _ _ 0 _ _ _ hv
        have c7 : w7.cell? ⟨P, 0, none⟩ = some (.slice ao (freeL 0 (F.take j)).length cp) := cell_of_row _ _ 0 _ _ _ hv7
        have HRUN := Lib.hid hrun
        obtain ⟨w8, hw8⟩ : ∃ w8, w7.setCell ⟨P, 0, none⟩ (.slice ao' (freeL 0 (F.take (j + 1))).length cp') = w8 := ⟨_, rfl⟩
        have HFIN : Hid (Kept [] w w8 ∧ ∃ v, w8.heap[P]? = some (.cells #[v] 187) ∧ w8.ownsRow (P + 1) 3 1 v (freeL 0 (F.take (j + 1))).length (iv (natI (freeL 0 (F.take (j + 1)))))) := by
          have hks : Kept [P] w7 w8 := by rw [← hw8]; exact Kept.setCell _ _ _ _ (by simp)
          refine ⟨((HS.out.1.trans hka).andThen hk7 (fun q hq => .inr (by have := hex q hq; have := HP.out; omega))).andThen hks (fun q hq => by simp at hq; right; rw [hq, HP.out]; exact Nat.le_refl _), _, ?_, owns_kept hown' hks (fun q hq hh => by
            have := (World.ownsRow.lt hown' q hq).1
            simp at hh
            omega)⟩
          rw [← hw8]
          exact heap_setCell_same w7 P 0 _ _ _ hv7
        generalize (freeL 0 (F.take j)).length = fl at *
        clear hv hown hown' hk7 hrun hka hv7 hex e el
        go_wp2_with (at_builtin; refine wpList_append_run rfl _ _ 56 rfl _ _ _ rfl rfl HRUN.out ?_)
        go_roundw
        case rel => exact ⟨j + 1, by omega, by go_num, HFIN.out⟩
        case measure => simp [intOf]; omega
      · have HF : Hid (freeL 0 (F.take (j + 1)) = freeL 0 (F.take j)) := by show _ = _; rw [HT.out]; simp
        go_wp2_with fail
        go_roundw
        case rel => exact ⟨j + 1, by omega, by go_num, by rw [HF.out]; exact HS.out⟩
        case measure => simp [intOf]; omega
    · obtain rfl : j = n := by omega
      have HF : Hid (F.take j = F) := by show _ = _; rw [← HN.out, List.take_length]
      go_wp2_with fail
      go_ret
      exact ⟨rfl, by rw [HF.out] at HS; exact HS.out⟩
end Go.Proofs.YtiedoocgbajjjaaGreatDoor

namespace Go.Proofs.YtiedoocgbajjjaaGreatDoor
open Go.RowKit Go.Maps
set_option maxRecDepth 100000

def setAll : List Bool → List Nat → List Bool
  | F, [] => F
  | F, i :: l => setAll (F.set i true) l
theorem setAll_append : ∀ (F : List Bool) (l m : List Nat), setAll F (l ++ m) = setAll (setAll F l) m
  | _, [], _ => rfl
  | F, i :: l, m => setAll_append (F.set i true) l m
theorem setAll_length : ∀ (F : List Bool) (l : List Nat), (setAll F l).length = F.length
  | _, [] => rfl
  | F, i :: l => by rw [setAll, setAll_length]; simp
theorem run_makeShelf (n : Nat) (hn : n ≤ 100000) (w : World) :
    (Instr.makeSlice 104 (.int .i64 (n : Int)) (.int .i64 (n : Int))).run Tryz.prog w = .ok (.slice (some ⟨w.heap.size, 0, none⟩) n n) (w.alloc (.cells (bvl (List.replicate n false)).toArray 4)) := by
  obtain ⟨i, hi', hz, hs, hb⟩ := info_parts (show (Tryz.prog.info? 4).map (fun i => (i.zero, i.size, i.bytes)) = some (some (.bool false), 1, 1) by kernel_rfl)
  have hr := run_make (P := Tryz.prog) w 104 4 i _ Tryz.underlying104 hi' hz .i64 .i64 n n (by omega) (Int.le_refl _) (by rw [hb]; omega) (by omega)
  rw [hr, hs]
  have e : (madeCells (Value.bool false).cells (n * 1)) = (bvl (List.replicate n false)).toArray := by
    apply Array.toList_inj.1
    rw [show (Value.bool false).cells = #[Value.bool false] from rfl, toList_madeCells_one]
    simp [bvl]
  simp only [Int.toNat_natCast]
  rw [e]

set_option maxRecDepth 100000 in
set_option maxHeartbeats 2000000 in
theorem takenSlots_any (l : List ATr) (B : Nat) (v : Value) (w : World) (n x1 x2 x3 x4 x5 d : Int) (c : Nat) (ho : OwnN B w v l) (h0 : 0 < l.length) (hl : l.length ≤ 100000) (h : ∀ t ∈ l, TrOk w t ∧ t.rc.slot < c) (hc : c ≤ 100000) :
    Calls Tryz.prog 102 #[.agg (layW n x1 x2 x3 x4 x5 d c), v] w fun e w' => e = .returned (.slice (some ⟨w.heap.size + 1, 0, none⟩) c c) ∧ Hid (Kept [] w w' ∧ w'.heap[w.heap.size + 1]? = some (.cells (bvl (setAll (List.replicate c false) (l.map fun t => t.rc.slot))).toArray 4)) := by
  unfold layW
  rcases owns_range ho with ⟨g, cap, rfl, _, hg, _, _, hr⟩ | ⟨_, hz, _⟩
  case inr => omega
  have HR := Lib.hid (And.intro hr hg)
  have H := Lib.hid h
  obtain ⟨K, hK⟩ : ∃ K, l.length = K := ⟨_, rfl⟩
  have HKK := Lib.hid hK
  obtain ⟨P, hP⟩ : ∃ P, w.heap.size = P := ⟨_, rfl⟩
  have HP := Lib.hid hP
  rw [hK] at hl ⊢
  rw [hP]
  obtain ⟨w1, hw1⟩ : ∃ w1, w.alloc (.cells #[.int .i64 n, .int .i64 x1, .int .i64 x2, .int .i64 x3, .int .i64 x4, .int .i64 x5, .int .i64 d, .int .i64 c] 60) = w1 := ⟨_, rfl⟩
  have hk1 : Kept [] w w1 := by rw [← hw1]; exact Kept.alloc _ _ _
  have hx : w1.heap[P]? = some (.cells #[.int .i64 n, .int .i64 x1, .int .i64 x2, .int .i64 x3, .int .i64 x4, .int .i64 x5, .int .i64 d, .int .i64 c] 60) := by rw [← hw1, ← hP]; exact heap_alloc_last _ _
  have hs1 : w1.heap.size = P + 1 := by rw [← hw1, size_alloc, hP]
  have c7 : w1.cell? ⟨P, 7, none⟩ = some (.int .i64 c) := cell_of_row _ _ 7 _ _ _ hx
  have hmk := run_makeShelf c hc w1
  rw [hs1] at hmk
  obtain ⟨w2, hw2⟩ : ∃ w2, w1.alloc (.cells (bvl (List.replicate c false)).toArray 4) = w2 := ⟨_, rfl⟩
  rw [hw2] at hmk
  have H2 : Hid (Kept [] w w2 ∧ w2.heap[P + 1]? = some (.cells (bvl (List.replicate c false)).toArray 4)) := by
    rw [← hw2, ← hs1]
    exact ⟨hk1.trans (Kept.alloc _ _ _), heap_alloc_last _ _⟩
  clear hk1 hx hw2 hr hg h ho h0 hK
  go_enter Tryz.func102, Tryz.ntmps102
  go_wp2_with fail
  clear hmk hw1 hs1 c7
  go_loopw [13] (fun i wr => ∃ j : Nat, j ≤ K ∧ i = .int .i64 j ∧ Hid (Kept [] w wr ∧ wr.heap[P + 1]? = some (.cells (bvl (setAll (List.replicate c false) ((l.take j).map fun t => t.rc.slot))).toArray 4))) (fun i _ => K - (intOf i).toNat)
  case atStart => exact ⟨0, by omega, rfl, H2.out⟩
  case round =>
    clear H2
    obtain ⟨j, hj, rfl, HS⟩ := hrel
    by_cases hlt : j < K
    · have hjl : j < l.length := by rw [HKK.out]; exact hlt
      obtain ⟨t, ht⟩ : ∃ t, l[j] = t := ⟨_, rfl⟩
      obtain ⟨hT, hsl⟩ := H.out t (by rw [← ht]; exact List.getElem_mem hjl)
      obtain ⟨m, va, vb, hrow, _⟩ := (hT.kept HS.out.1).row
      have cp : wr.cell? ⟨g, j, none⟩ = some (.pointer (some ⟨t.addr, 0, none⟩)) := by
        have := HS.out.1.range HR.out.2 (by simp) HR.out.1 j _ (show (pv l)[j]? = some (.pointer (some ⟨t.addr, 0, none⟩)) by simp [pv, hjl, ht])
        rwa [Nat.zero_add] at this
      have c4 : wr.cell? ⟨t.addr, 4, none⟩ = some (.int .i64 t.rc.slot) := cell_of_row _ _ 4 _ _ _ hrow
      obtain ⟨F, hF⟩ : ∃ F, setAll (List.replicate c false) ((l.take j).map fun t => t.rc.slot) = F := ⟨_, rfl⟩
      have hFl : F.length = c := by rw [← hF, setAll_length]; simp
      have HF2 : Hid (setAll (List.replicate c false) ((l.take (j + 1)).map fun t => t.rc.slot) = F.set t.rc.slot true) := by
        show _ = _
        rw [List.take_succ_eq_append_getElem hjl, List.map_append, setAll_append, hF, ht]
        rfl
      have hcur := HS.out.2
      rw [hF] at hcur
      obtain ⟨bb, hbb⟩ : ∃ bb, F[t.rc.slot]? = some bb := ⟨_, List.getElem?_eq_getElem (by omega)⟩
      have cs : wr.cell? ⟨P + 1, t.rc.slot, none⟩ = some (.bool bb) := by
        rw [cell_of_row _ _ t.rc.slot _ _ _ hcur]
        simp [bvl, hbb]
      have fz : ∀ q, wr.frozen? ⟨P + 1, q, none⟩ = false := fun q => frozen_of_row _ _ q _ _ hcur
      have hslI : (t.rc.slot : Int) < (c : Int) := by omega
      have HFIN : Hid (Kept [] w (wr.setCell ⟨P + 1, t.rc.slot, none⟩ (.bool true)) ∧ (wr.setCell ⟨P + 1, t.rc.slot, none⟩ (.bool true)).heap[P + 1]? = some (.cells (bvl (setAll (List.replicate c false) ((l.take (j + 1)).map fun t => t.rc.slot))).toArray 4)) := by
        refine ⟨HS.out.1.andThen (Kept.setCell [P + 1] _ _ _ (by simp)) (fun q hq => by simp at hq; right; have := HP.out; omega), ?_⟩
        rw [heap_setCell_same wr (P + 1) t.rc.slot _ _ (.bool true) hcur, HF2.out]
        simp [bvl]
      clear hT hrow hcur hF hFl hbb ht
      generalize t.rc.slot = sl at *
      go_wp2_with fail
      go_roundw
      case rel => exact ⟨j + 1, by omega, by go_num, HFIN.out⟩
      case measure => simp [intOf]; omega
    · obtain rfl : j = K := by omega
      have HF : Hid (l.take j = l) := by show _ = _; rw [← HKK.out, List.take_length]
      rw [HF.out] at HS
      go_wp2_with fail
      go_ret
      exact ⟨rfl, HS.out⟩
end Go.Proofs.YtiedoocgbajjjaaGreatDoor

namespace Go.Proofs.YtiedoocgbajjjaaGreatDoor
open Go.RowKit Go.Maps
set_option maxRecDepth 100000

/-- Block Q OF wr IS THE SHELF; all that was ahead of w stands. -/
structure ShelfSt (w : World) (Q : Nat) (F : List Bool) (wr : World) : Prop where
  kept : Kept [] w wr
  row : wr.heap[Q]? = some (.cells (bvl F).toArray 4)
theorem ShelfSt.cell {w wr : World} {Q : Nat} {F : List Bool} (h : ShelfSt w Q F wr) {i : Nat} (hi : i < F.length) : ∃ bb, wr.cell? ⟨Q, i, none⟩ = some (.bool bb) := by
  refine ⟨F[i], ?_⟩
  rw [cell_of_row _ _ i _ _ _ h.row]
  simp [bvl, hi]
theorem ShelfSt.set {w wr : World} {Q : Nat} {F : List Bool} (h : ShelfSt w Q F wr) (hQ : w.heap.size ≤ Q) (i : Nat) : ShelfSt w Q (F.set i true) (wr.setCell ⟨Q, i, none⟩ (.bool true)) := by
  refine ⟨h.kept.andThen (Kept.setCell [Q] _ _ _ (by simp)) (fun q hq => by simp at hq; right; omega), ?_⟩
  rw [heap_setCell_same wr Q i _ _ (.bool true) h.row]
  simp [bvl]
def ATr.blks (t : ATr) : List Nat := t.rc.blocks ++ if 0 < t.rc.more then [t.rc.more] else []

set_option maxRecDepth 100000 in
set_option maxHeartbeats 4000000 in
theorem takenBlocks_any (l : List ATr) (B : Nat) (v : Value) (w : World) (c : Nat) (x1 x2 x3 x4 x5 y : Int) (d : Nat) (ho : OwnN B w v l) (h0 : 0 < l.length) (hl : l.length ≤ 100000) (h : ∀ t ∈ l, TrOk w t ∧ t.rc.blocks.length ≤ 1000 ∧ (∀ b ∈ t.rc.blocks, b < c) ∧ t.rc.more < c) (hc : c ≤ 100000) (hd : d ≤ c) :
    Calls Tryz.prog 59 #[.agg (layW c x1 x2 x3 x4 x5 d y), v] w fun e w' => e = .returned (.slice (some ⟨w.heap.size + 1, 0, none⟩) c c) ∧ Hid (ShelfSt w (w.heap.size + 1) (setAll (setAll (List.replicate c false) (List.range d)) (l.flatMap ATr.blks)) w') := by
  unfold layW
  rcases owns_range ho with ⟨g, cap, rfl, _, hg, _, _, hr⟩ | ⟨_, hz, _⟩
  case inr => omega
  have HR := Lib.hid (And.intro hr hg)
  have H := Lib.hid h
  obtain ⟨K, hK⟩ : ∃ K, l.length = K := ⟨_, rfl⟩
  have HKK := Lib.hid hK
  obtain ⟨P, hP⟩ : ∃ P, w.heap.size = P := ⟨_, rfl⟩
  have HP : Hid (w.heap.size ≤ P + 1) := by show _ ≤ _; omega
  rw [hK] at hl ⊢
  rw [hP]
  obtain ⟨w1, hw1⟩ : ∃ w1, w.alloc (.cells #[.int .i64 c, .int .i64 x1, .int .i64 x2, .int .i64 x3, .int .i64 x4, .int .i64 x5, .int .i64 d, .int .i64 y] 60) = w1 := ⟨_, rfl⟩
  have hk1 : Kept [] w w1 := by rw [← hw1]; exact Kept.alloc _ _ _
  have hx : w1.heap[P]? = some (.cells #[.int .i64 c, .int .i64 x1, .int .i64 x2, .int .i64 x3, .int .i64 x4, .int .i64 x5, .int .i64 d, .int .i64 y] 60) := by rw [← hw1, ← hP]; exact heap_alloc_last _ _
  have hs1 : w1.heap.size = P + 1 := by rw [← hw1, size_alloc, hP]
  have c0 : w1.cell? ⟨P, 0, none⟩ = some (.int .i64 c) := cell_of_row _ _ 0 _ _ _ hx
  have hmk := run_makeShelf c hc w1
  rw [hs1] at hmk
  obtain ⟨w2, hw2⟩ : ∃ w2, w1.alloc (.cells (bvl (List.replicate c false)).toArray 4) = w2 := ⟨_, rfl⟩
  rw [hw2] at hmk
  have H2 : Hid (ShelfSt w (P + 1) (List.replicate c false) w2) := by
    rw [← hw2, ← hs1]
    exact ⟨hk1.trans (Kept.alloc _ _ _), heap_alloc_last _ _⟩
  have c6 : w2.cell? ⟨P, 6, none⟩ = some (.int .i64 d) := by
    rw [← hw2]
    exact cell_of_row _ _ 6 _ _ _ ((Kept.alloc [] _ _).heap (by simp) hx)
  clear hk1 hx hw2 hr hg h ho h0 hK
  obtain ⟨F0, hF0⟩ : ∃ F0, setAll (List.replicate c false) (List.range d) = F0 := ⟨_, rfl⟩
  have HFL : Hid (F0.length = c) := by show _ = _; rw [← hF0, setAll_length]; simp
  rw [hF0]
  have HF0 := Lib.hid hF0
  clear hF0
  go_enter Tryz.func59, Tryz.ntmps59
  go_wp2_with fail
  clear hmk hw1 hs1 c0 c6
  obtain ⟨Q, hQ⟩ : ∃ Q, P + 1 = Q := ⟨_, rfl⟩
  rw [hQ] at HP H2 ⊢
  have HQ := Lib.hid hQ
  clear hQ hP
  go_loopw [16] (fun i wr => ∃ j : Nat, j ≤ d ∧ i = .int .i64 j ∧ Hid (ShelfSt w Q (setAll (List.replicate c false) (List.range j)) wr)) (fun i _ => d - (intOf i).toNat)
  case atStart => exact ⟨0, by omega, rfl, H2.out⟩
  case round =>
    clear H2
    obtain ⟨j, hj, rfl, HS⟩ := hrel
    by_cases hlt : j < d
    · obtain ⟨bb, cb⟩ := HS.out.cell (i := j) (by rw [setAll_length]; simp; omega)
      have fz : ∀ q, wr.frozen? ⟨Q, q, none⟩ = false := fun q => frozen_of_row _ _ q _ _ HS.out.row
      have HFIN : Hid (ShelfSt w Q (setAll (List.replicate c false) (List.range (j + 1))) (wr.setCell ⟨Q, j, none⟩ (.bool true))) := by
        show ShelfSt _ _ _ _
        rw [List.range_succ, setAll_append]
        exact HS.out.set HP.out j
      go_wp2_with fail
      go_roundw
      case rel => exact ⟨j + 1, by omega, by go_num, HFIN.out⟩
      case measure => simp [intOf]; omega
    · obtain rfl : j = d := by omega
      rw [HF0.out] at HS
      clear HF0 hlt
      go_wp2_with fail
      go_loopw [25] (fun i wr => ∃ j : Nat, j ≤ K ∧ i = .int .i64 j ∧ Hid (ShelfSt w Q (setAll F0 ((l.take j).flatMap ATr.blks)) wr)) (fun i _ => K - (intOf i).toNat)
      case atStart => exact ⟨0, by omega, rfl, HS.out⟩
      case round =>
        clear HS
        obtain ⟨j2, hj2, rfl, HS⟩ := hrel
        by_cases hlt : j2 < K
        · have hjl : j2 < l.length := by rw [HKK.out]; exact hlt
          obtain ⟨t, ht⟩ : ∃ t, l[j2] = t := ⟨_, rfl⟩
          obtain ⟨hT, hbl, hbs, hmo⟩ := H.out t (by rw [← ht]; exact List.getElem_mem hjl)
          have HTT := Lib.hid hT
          obtain ⟨m, va, vb, hrow, _, _, _, hnums⟩ := hT.row
          obtain ⟨bo, bc, rfl, _, _, hints⟩ := hnums
          have HROW := Lib.hid hrow
          have HINT := Lib.hid hints
          have HBS := Lib.hid hbs
          have cp : wr.cell? ⟨g, j2, none⟩ = some (.pointer (some ⟨t.addr, 0, none⟩)) := by
            have := HS.out.kept.range HR.out.2 (by simp) HR.out.1 j2 _ (show (pv l)[j2]? = some (.pointer (some ⟨t.addr, 0, none⟩)) by simp [pv, hjl, ht])
            rwa [Nat.zero_add] at this
          have c5 : wr.cell? ⟨t.addr, 5, none⟩ = some (.slice bo t.rc.blocks.length bc) := cell_of_row _ _ 5 _ _ _ (HS.out.kept.heap (by simp) hrow)
          obtain ⟨F1, hF1⟩ : ∃ F1, setAll F0 ((l.take j2).flatMap ATr.blks) = F1 := ⟨_, rfl⟩
          have HF1L : Hid (F1.length = c) := by show _ = _; rw [← hF1, setAll_length]; exact HFL.out
          have HF2 : Hid (setAll F0 ((l.take (j2 + 1)).flatMap ATr.blks) = setAll (setAll F1 t.rc.blocks) (if 0 < t.rc.more then [t.rc.more] else [])) := by
            show _ = _
            rw [List.take_succ_eq_append_getElem hjl, List.flatMap_append, setAll_append, hF1, ht]
            simp [ATr.blks, setAll_append]
          rw [hF1] at HS
          obtain ⟨N, hN⟩ : ∃ N, t.rc.blocks.length = N := ⟨_, rfl⟩
          have HNN := Lib.hid hN
          rw [hN] at hbl c5 HINT
          obtain ⟨mo, hmoe⟩ : ∃ mo, t.rc.more = mo := ⟨_, rfl⟩
          have HMO := Lib.hid hmoe
          rw [hmoe] at hmo HF2
          clear hT hrow hints hbs ht hF1 hN hmoe
          go_wp2_with fail
          go_loopw [34] (fun i wr => ∃ q : Nat, q ≤ N ∧ i = .int .i64 q ∧ Hid (ShelfSt w Q (setAll F1 (t.rc.blocks.take q)) wr)) (fun i _ => N - (intOf i).toNat)
          case atStart => exact ⟨0, by omega, rfl, HS.out⟩
          case round =>
            clear HS cp c5
            obtain ⟨q, hq, rfl, HS⟩ := hrel
            by_cases hlq : q < N
            · have hql : q < t.rc.blocks.length := by rw [HNN.out]; exact hlq
              obtain ⟨x, hx⟩ : ∃ x, t.rc.blocks[q] = x := ⟨_, rfl⟩
              have hxc : x < c := HBS.out x (by rw [← hx]; exact List.getElem_mem hql)
              obtain ⟨b1, o1, rfl, cx⟩ : ∃ b1 o1, bo = some ⟨b1, o1, none⟩ ∧ wr.cell? ⟨b1, o1 + q, none⟩ = some (.int .i64 (x : Int)) := by
                rcases (HINT.out.kept HS.out.kept).2.2 with h0 | ⟨b1, o1, e, _, hr⟩
                · omega
                · exact ⟨b1, o1, e, hr q _ (by simp [iv, natI, hql, hx])⟩
              obtain ⟨bb, cb⟩ := HS.out.cell (i := x) (by rw [setAll_length, HF1L.out]; exact hxc)
              have fz : ∀ q, wr.frozen? ⟨Q, q, none⟩ = false := fun q => frozen_of_row _ _ q _ _ HS.out.row
              have HFIN : Hid (ShelfSt w Q (setAll F1 (t.rc.blocks.take (q + 1))) (wr.setCell ⟨Q, x, none⟩ (.bool true))) := by
                show ShelfSt _ _ _ _
                rw [List.take_succ_eq_append_getElem hql, setAll_append, hx]
                exact HS.out.set HP.out x
              clear hx
              go_wp2_with fail
              go_roundw
              case rel => exact ⟨q + 1, by omega, by go_num, HFIN.out⟩
              case measure => simp [intOf]; omega
            · obtain rfl : q = N := by omega
              have HF : Hid (t.rc.blocks.take q = t.rc.blocks) := by show _ = _; rw [← HNN.out, List.take_length]
              rw [HF.out] at HS
              have c6 : wr.cell? ⟨t.addr, 6, none⟩ = some (.int .i64 mo) := by rw [← HMO.out]; exact cell_of_row _ _ 6 _ _ _ (HS.out.kept.heap (by simp) HROW.out)
              by_cases h6 : 0 < mo
              · obtain ⟨bb, cb⟩ := HS.out.cell (i := mo) (by rw [setAll_length, HF1L.out]; exact hmo)
                have fz : ∀ q, wr.frozen? ⟨Q, q, none⟩ = false := fun q => frozen_of_row _ _ q _ _ HS.out.row
                have HFIN : Hid (ShelfSt w Q (setAll F0 ((l.take (j2 + 1)).flatMap ATr.blks)) (wr.setCell ⟨Q, mo, none⟩ (.bool true))) := by
                  show ShelfSt _ _ _ _
                  rw [HF2.out, if_pos h6]
                  exact HS.out.set HP.out mo
                go_wp2_with fail
                go_roundw
                case rel => exact ⟨j2 + 1, by omega, by go_num, HFIN.out⟩
                case measure => simp [intOf]; omega
              · have HFIN : Hid (ShelfSt w Q (setAll F0 ((l.take (j2 + 1)).flatMap ATr.blks)) wr) := by
                  show ShelfSt _ _ _ _
                  rw [HF2.out, if_neg h6]
                  exact HS.out
                go_wp2_with fail
                go_roundw
                case rel => exact ⟨j2 + 1, by omega, by go_num, HFIN.out⟩
                case measure => simp [intOf]; omega
        · obtain rfl : j2 = K := by omega
          have HF : Hid (l.take j2 = l) := by show _ = _; rw [← HKK.out, List.take_length]
          rw [HF.out] at HS
          go_wp2_with fail
          go_ret
          exact ⟨by rw [HQ.out]; rfl, by rw [HQ.out]; exact HS.out⟩
end Go.Proofs.YtiedoocgbajjjaaGreatDoor

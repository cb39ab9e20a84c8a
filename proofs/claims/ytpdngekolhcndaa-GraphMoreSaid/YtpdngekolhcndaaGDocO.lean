/-
  Layer 8: the document's Order.
  Conditions: those that each theorem states.
-/
import Derived.Test.YtpdngekolhcndaaGDoc
namespace Go.Proofs.Ytpdngekolhcndaa
open Go.RowKit Go.Maps

/-- A made slice of bools. -/
def BlIs (w : World) (g n : Nat) (S : Nat → Bool) : Prop := ∃ Z : List Bool, w.heap[g]? = some (.cells (blA Z) 4) ∧ Z.length = n ∧ ∀ i, i < n → Z.getD i false = S i
theorem BlIs.kept {w w' : World} {g n : Nat} {S : Nat → Bool} (h : BlIs w g n S) {ex : List Nat} (hk : Kept ex w w') (hg : g ∉ ex) : BlIs w' g n S := by
  obtain ⟨Z, h1, h2⟩ := h
  exact ⟨Z, hk.heap hg h1, h2⟩
theorem BlIs.lt {w : World} {g n : Nat} {S : Nat → Bool} (h : BlIs w g n S) : g < w.heap.size := by
  obtain ⟨Z, h1, _⟩ := h
  exact (Array.getElem?_eq_some_iff.1 h1).1
theorem BlIs.cell {w : World} {g n : Nat} {S : Nat → Bool} (h : BlIs w g n S) {i : Nat} (hi : i < n) : w.cell? ⟨g, i, none⟩ = some (.bool (S i)) := by
  obtain ⟨Z, h1, h2, h3⟩ := h
  rw [cell_of_row w g i _ _ _ h1, blA_get Z i (by omega), h3 i hi]
theorem BlIs.ok {w : World} {g n : Nat} {S : Nat → Bool} (h : BlIs w g n S) (i : Nat) : w.frozen? ⟨g, i, none⟩ = false := by
  obtain ⟨Z, h1, _⟩ := h
  exact frozen_of_row _ _ _ _ _ h1
theorem BlIs.set {w : World} {g n : Nat} {S : Nat → Bool} (h : BlIs w g n S) (i : Nat) (b : Bool) : BlIs (w.setCell ⟨g, i, none⟩ (.bool b)) g n (put S i b) := by
  obtain ⟨Z, h1, h2, h3⟩ := h
  refine ⟨Z.set i b, ?_, by simpa using h2, fun k hk => ?_⟩
  · rw [heap_setCell_same w g i _ _ _ h1, blA_set]
  · unfold put
    rw [List.getD_eq_getElem?_getD]
    by_cases e : k = i
    · subst e
      rw [List.getElem?_set_self (by omega), if_pos rfl]
      rfl
    · rw [List.getElem?_set_ne (fun q => e q.symm), if_neg e, ← List.getD_eq_getElem?_getD]
      exact h3 k hk
theorem BlIs.congr {w : World} {g n : Nat} {S S' : Nat → Bool} (h : BlIs w g n S) (e : ∀ i, i < n → S i = S' i) : BlIs w g n S' := by
  obtain ⟨Z, h1, h2, h3⟩ := h
  exact ⟨Z, h1, h2, fun i hi => by rw [h3 i hi, e i hi]⟩
theorem BlIs.made (w : World) (n : Nat) : BlIs (w.alloc (.cells (blA (List.replicate n false)) 4)) w.heap.size n (fun _ => false) :=
  ⟨_, heap_alloc_last _ _, List.length_replicate, fun i hi => by rw [List.getD_eq_getElem?_getD, List.getElem?_replicate, if_pos hi]; rfl⟩
theorem run_make_bools (w : World) (n : Nat) (h1 : n ≤ 1000000) :
    (Instr.makeSlice 49 (.int .i64 n) (.int .i64 n)).run Try.prog w = .ok (.slice (some ⟨w.heap.size, 0, none⟩) n n) (w.alloc (.cells (blA (List.replicate n false)) 4)) := by
  obtain ⟨i, hi', hz, hs, hb⟩ := info_parts (show (Try.prog.info? 4).map (fun i => (i.zero, i.size, i.bytes)) = some (some (.bool false), 1, 1) by kernel_rfl)
  have hr := run_make (P := Try.prog) w 49 4 i _ Try.underlying49 hi' hz .i64 .i64 n n (by omega) (Int.le_refl _) (by rw [hb]; omega) (by omega)
  rw [hr, hs]
  have hb2 : blA (List.replicate n false) = madeCells (Value.bool false).cells (n * 1) := by
    apply Array.toList_inj.1
    rw [show (Value.bool false).cells = #[Value.bool false] from rfl, toList_madeCells_one, blA_toList]
    simp [blv]
  rw [hb2]
  simp

/-- i is free, by the edges. -/
def freeL (L : List Edg) (S : Nat → Bool) (i : Nat) : Bool := S i && L.all fun x => !(decide (x.tw = (i : Int)) && S x.fr.toNat)
theorem freeL_is {n : Nat} {L : List Edg} (h : GOk n L) (S : Nat → Bool) (i : Nat) : freeL L S i = freeP n (adjL L) S i := by
  unfold freeL freeP
  congr 1
  rw [Bool.eq_iff_iff, decide_eq_true_eq, List.all_eq_true]
  constructor
  · intro ha
    refine lst_nil fun j hj => ?_
    rw [Bool.and_eq_false_iff]
    cases hs : S j
    · exact .inl rfl
    · right
      rw [← Bool.not_eq_true]
      intro hc
      obtain ⟨x, hx, e1, e2⟩ := adjL_iff.1 hc
      have := ha x hx
      rw [e1, e2] at this
      simp [hs] at this
  · intro hn x hx
    have hok := h.2 x hx
    unfold EdOk at hok
    rw [Bool.not_eq_true', ← Bool.not_eq_true, Bool.and_eq_true, decide_eq_true_eq]
    rintro ⟨e1, e2⟩
    have := lst_none hn x.fr.toNat (by omega)
    rw [e2, Bool.true_and] at this
    have ha : adjL L x.fr.toNat i = true := adjL_iff.2 ⟨x, hx, by omega, e1⟩
    rw [ha] at this
    cases this
/-- The least one so far, from above. -/
def NxSt (n : Nat) (f : Nat → Bool) (t : Nat) (x : Int) : Prop := (x = -1 ∧ ∀ j, t ≤ j → j < n → f j = false) ∨ ∃ q : Nat, x = q ∧ t ≤ q ∧ q < n ∧ f q = true ∧ ∀ j, t ≤ j → j < q → f j = false
theorem NxSt.init (n : Nat) (f : Nat → Bool) : NxSt n f n (-1) := .inl ⟨rfl, fun j h1 h2 => by omega⟩
theorem NxSt.yes {n : Nat} {f : Nat → Bool} {t : Nat} {x : Int} (_ : NxSt n f (t + 1) x) (ht : t < n) (hf : f t = true) : NxSt n f t t := .inr ⟨t, rfl, Nat.le_refl _, ht, hf, fun j h1 h2 => by omega⟩
theorem NxSt.no {n : Nat} {f : Nat → Bool} {t : Nat} {x : Int} (h : NxSt n f (t + 1) x) (hf : f t = false) : NxSt n f t x := by
  have key : ∀ (P : Nat → Prop) j, t ≤ j → P j → (∀ j, t + 1 ≤ j → P j → f j = false) → f j = false := fun P j h1 hp hh => by
    by_cases e : j = t
    · rw [e]; exact hf
    · exact hh j (by omega) hp
  rcases h with ⟨h1, h2⟩ | ⟨q, h1, h2, h3, h4, h5⟩
  · exact .inl ⟨h1, fun j ha hb => key (fun j => j < n) j ha hb h2⟩
  · exact .inr ⟨q, h1, by omega, h3, h4, fun j ha hb => key (fun j => j < q) j ha hb h5⟩
theorem NxSt.out {n : Nat} {f : Nat → Bool} {x : Int} (h : NxSt n f 0 x) : x = lstI (lst n f) := by
  rcases h with ⟨h1, h2⟩ | ⟨q, h1, h2, h3, h4, h5⟩
  · rw [lst_nil (fun j hj => h2 j (by omega) hj), h1]; rfl
  · rw [lst_is h3 h4 (fun j hj => h5 j (by omega) hj), h1]; rfl

/-- The state of the document's second loop. -/
structure RoD (w : World) (n g : Nat) (L : List Edg) (k : Nat) (S : Nat → Bool) (out : List Nat) (v : Value) (wr : World) : Prop where
  bl : BlIs wr g n S
  ans : ordO n (adjL L) = ordG n (adjL L) (n - k) S out
  st : OrdSt n (adjL L) S out
  len : out.length = k
  own : OwnN (g + 1) wr v out
  kept : Kept [] w wr
  size : g + 1 ≤ wr.heap.size

def ROut (n : Int) (L : List Edg) (w : World) (e : Ending) (w' : World) : Prop := ∃ vo, e = .returned (.tuple #[vo, .int .i64 (ordE n L)]) ∧ Hid (NsIs w' vo (ordL n L) ∧ Kept [] w w')
theorem ROut.of {n : Int} {L : List Edg} {w w' : World} {vo vc : Value} {x : Int} (h : OrderOut n L w (.returned (.tuple #[vo, vc, .int .i64 x])) w') : ROut n L w (.returned (.tuple #[vo, .int .i64 x])) w' := by
  obtain ⟨a, b, c, he, hh⟩ := h
  simp at he
  obtain ⟨rfl, rfl, rfl⟩ := he
  exact ⟨_, rfl, hh.out.1, hh.out.2.2.2.2⟩

set_option maxRecDepth 100000 in
set_option maxHeartbeats 4000000 in
theorem rorder_any (n : Int) (L : List Edg) (v : Value) (w : World) (h : EsIs w v L) :
    Calls Try.prog 10 #[.int .i64 n, v] w (ROut n L w) := by
  have HB := Lib.hid (rgbad_any n L v w h)
  have HE := Lib.hid h
  by_cases hok : GOk n L
  case neg =>
    rw [decide_eq_false hok] at HB
    have HOK := Lib.hid hok
    clear hok h
    go_enter Try.func10, Try.ntmps10
    go_wp2_with fail
    refine HB.out.mono ?_
    rintro e w2 ⟨rfl, rfl⟩
    go_wp2_with fail
    go_ret2
    exact ROut.of (OrderOut.bad HOK.out (Kept.refl _ _))
  rw [decide_eq_true hok] at HB
  have HOK := Lib.hid hok
  obtain ⟨q, rfl⟩ : ∃ q : Nat, n = q := ⟨n.toNat, by have := hok.1; omega⟩
  have hq : q ≤ 32 := by have := hok.1; omega
  obtain ⟨ao, cap, rfl, hcap, hc63, _, hcell⟩ := h.open
  have HC := Lib.hid hcell
  have hlen := h.len
  obtain ⟨m, hm⟩ : ∃ m, L.length = m := ⟨_, rfl⟩
  have HM := Lib.hid hm
  rw [hm] at hlen HB HE
  rw [hm]
  have hmk := run_make_bools w q (by omega)
  obtain ⟨w1, hw1⟩ : ∃ w1, w.alloc (.cells (blA (List.replicate q false)) 4) = w1 := ⟨_, rfl⟩
  have HS1 : Hid (BlIs w1 w.heap.size q (fun _ => false)) := by rw [← hw1]; exact BlIs.made w q
  have HK1 : Hid (Kept [] w w1 ∧ w1.heap.size = w.heap.size + 1) := by rw [← hw1]; exact ⟨Kept.alloc _ _ _, size_alloc _ _⟩
  rw [hw1] at hmk
  clear hok h hcell hm hcap hw1
  go_enter Try.func10, Try.ntmps10
  go_wp2_with fail
  refine HB.out.mono ?_
  rintro e w2 ⟨rfl, rfl⟩
  go_wp2_with fail
  clear hmk
  go_loopw [7] (fun i wr => ∃ k : Nat, k ≤ q ∧ i = .int .i64 k ∧ Hid (BlIs wr w.heap.size q (fun j => decide (j < k)) ∧ Kept [] w wr ∧ wr.heap.size = w.heap.size + 1)) (fun i _ => q - (intOf i).toNat)
  case atStart => exact ⟨0, by omega, rfl, HS1.out.congr fun i hi => by simp, HK1.out⟩
  case round =>
    clear HS1 HK1
    obtain ⟨k, hk, rfl, HS⟩ := hrel
    by_cases hlt : k < q
    · have cs := HS.out.1.cell hlt
      have fz := HS.out.1.ok k
      have HN : Hid (BlIs (wr.setCell ⟨w.heap.size, k, none⟩ (.bool true)) w.heap.size q (fun j => decide (j < k + 1)) ∧ Kept [] w (wr.setCell ⟨w.heap.size, k, none⟩ (.bool true)) ∧ (wr.setCell ⟨w.heap.size, k, none⟩ (.bool true)).heap.size = w.heap.size + 1) := by
        refine ⟨(HS.out.1.set k true).congr fun j hj => ?_, HS.out.2.1.into (Kept.setCell [w.heap.size] _ _ _ (by simp)) (by simp), by rw [← HS.out.2.2]; simp [World.setCell]⟩
        unfold put
        by_cases e : j = k
        · rw [if_pos e, e]; simp
        · rw [if_neg e]
          show decide (j < k) = _
          by_cases e2 : j < k
          · rw [decide_eq_true e2, decide_eq_true (by omega)]
          · rw [decide_eq_false e2, decide_eq_false (by omega)]
      go_wp2_with fail
      go_roundw
      case rel => exact ⟨k + 1, by omega, by go_num, HN⟩
      case measure => simp [intOf]; omega
    have hkq : k = q := by omega
    subst hkq
    clear hlt hk
    have HD0 : Hid (RoD w k w.heap.size L 0 (allP k) [] (.slice none 0 0) wr) := ⟨HS.out.1, rfl, OrdSt.init _ _, rfl, OwnN.nil _ _, HS.out.2.1, by have := HS.out.2.2; omega⟩
    go_wp2_with fail
    clear HS
    go_loopw [8] (fun v wr => ∃ (j : Nat) (S : Nat → Bool) (out : List Nat), j ≤ k ∧ (∃ ao c, v = .slice ao j c) ∧ Hid (RoD w k w.heap.size L j S out v wr)) (fun v _ => match v with | .slice _ m _ => k - m | _ => 0)
    case atStart => exact ⟨0, allP k, [], by omega, ⟨_, _, rfl⟩, HD0⟩
    case round =>
      clear HD0
      obtain ⟨j, S, out, hj, ⟨va, vc, rfl⟩, HS⟩ := hrel
      by_cases hlt : j < k
      · have HG := Lib.hid HOK.out
        obtain ⟨f, hf⟩ : ∃ f, freeP k (adjL L) S = f := ⟨_, rfl⟩
        have HF := Lib.hid hf
        go_wp2_with fail
        go_loop [9, 10] (fun x i => ∃ (t : Nat) (nx : Int), t ≤ k ∧ i = .int .i64 ((t : Int) - 1) ∧ x = .int .i64 nx ∧ Hid (NxSt k f t nx)) (fun _ i => (intOf i + 1).toNat)
        case atStart => exact ⟨k, -1, Nat.le_refl _, by go_num, rfl, NxSt.init _ _⟩
        case round =>
          obtain ⟨t, nx, ht, rfl, rfl, HX⟩ := hrel
          by_cases ht0 : 0 < t
          · obtain ⟨i, rfl⟩ : ∃ i, t = i + 1 := ⟨t - 1, by omega⟩
            have hti : ((i + 1 : Nat) : Int) - 1 = (i : Int) := by omega
            rw [hti]
            have hik : i < k := by omega
            have ci := HS.out.bl.cell hik
            clear hti
            go_wp2_with fail
            go_loop [11, 12] (fun x y => ∃ (c : Nat), c ≤ m ∧ y = .int .i64 c ∧ (∃ b, x = .bool b ∧ Hid (b = (S i && (L.take c).all fun x => !(decide (x.tw = (i : Int)) && S x.fr.toNat))))) (fun _ y => m - (intOf y).toNat)
            case atStart => exact ⟨0, by omega, rfl, S i, rfl, by show _ = _; simp⟩
            case round =>
              obtain ⟨c, hc, rfl, b, rfl, HBB⟩ := hrel
              by_cases hcl : c < m
              · have hkl : c < L.length := by rw [HM.out]; exact hcl
                obtain ⟨eb, eo, rfl, heb, hcc⟩ := HC.out (by omega)
                obtain ⟨a0, a1, _⟩ := hcc c hkl
                have hok := HG.out.2 _ (List.getElem_mem hkl)
                unfold EdOk at hok
                obtain ⟨x, hx⟩ : ∃ x : Nat, L[c].fr = x := ⟨L[c].fr.toNat, by omega⟩
                obtain ⟨y, hy⟩ : ∃ y : Nat, L[c].tw = y := ⟨L[c].tw.toNat, by omega⟩
                rw [hx] at a0
                rw [hy] at a1
                have hxk : x < k := by omega
                have c0 := (HS.out.kept.cell (p := ⟨eb, eo + c * 3, none⟩) heb (by simp)).trans a0
                have c1 := (HS.out.kept.cell (p := ⟨eb, eo + c * 3 + 1, none⟩) heb (by simp)).trans a1
                have cx := HS.out.bl.cell hxk
                have HE2 : Hid (∀ b', b' = (b && !(decide (y = i) && S x)) → b' = (S i && (L.take (c + 1)).all fun x => !(decide (x.tw = (i : Int)) && S x.fr.toNat))) := fun b' e => by
                  rw [e, HBB.out, List.take_succ_eq_append_getElem hkl, List.all_append, Bool.and_assoc]
                  simp only [List.all_cons, List.all_nil, Bool.and_true, hx, hy, Int.toNat_natCast]
                  congr 3
                  congr 1
                  rw [Bool.eq_iff_iff, decide_eq_true_eq, decide_eq_true_eq]
                  omega
                clear a0 a1 hcc hok hx hy heb
                cases b
                · go_wp2_with fail
                  go_round
                  case rel => exact ⟨c + 1, by omega, by go_num, false, rfl, HE2.out _ rfl⟩
                  case measure => simp [intOf]; omega
                · by_cases e : y = i
                  · have q1 : ((y : Int) == (i : Int)) = true := by rw [e]; simp
                    cases hs : S x
                    · rw [hs] at cx
                      have HF2 := Lib.hid (HE2.out true (by rw [hs]; simp))
                      clear hs e
                      go_wp2_with fail
                      go_round
                      case rel => exact ⟨c + 1, by omega, by go_num, true, rfl, HF2.out⟩
                      case measure => simp [intOf]; omega
                    · rw [hs] at cx
                      have HF2 := Lib.hid (HE2.out false (by rw [hs, decide_eq_true e]; simp))
                      clear hs e
                      go_wp2_with fail
                      go_round
                      case rel => exact ⟨c + 1, by omega, by go_num, false, rfl, HF2.out⟩
                      case measure => simp [intOf]; omega
                  · have q1 : ((y : Int) == (i : Int)) = false := by simp; omega
                    have HF2 := Lib.hid (HE2.out true (by rw [decide_eq_false e]; simp))
                    clear e
                    go_wp2_with fail
                    go_round
                    case rel => exact ⟨c + 1, by omega, by go_num, true, rfl, HF2.out⟩
                    case measure => simp [intOf]; omega
              · have HFI : Hid (b = f i) := by
                  show _ = _
                  rw [HBB.out, List.take_of_length_le (by rw [HM.out]; omega), ← HF.out, ← freeL_is HG.out]
                  rfl
                clear HBB
                cases b
                · have HN := Lib.hid (HX.out.no HFI.out.symm)
                  go_wp2_with fail
                  go_round
                  case rel => exact ⟨i, nx, by omega, by go_num, rfl, HN⟩
                  case measure => simp [intOf]; try omega
                · have HN := Lib.hid (HX.out.yes hik HFI.out.symm)
                  go_wp2_with fail
                  go_round
                  case rel => exact ⟨i, i, by omega, by go_num, rfl, HN⟩
                  case measure => simp [intOf]; try omega
          · have ht1 : t = 0 := by omega
            subst ht1
            have HNX : Hid (nx = lstI (lst k (freeP k (adjL L) S))) := by show _ = _; rw [HF.out]; exact HX.out.out
            have HAN := Lib.hid HS.out.ans
            have HKJ : Hid (k - j = (k - (j + 1)) + 1) := by show _ = _; omega
            clear HX ht0 ht
            cases hls : lst k (freeP k (adjL L) S) with
            | none =>
              have HNO : Hid (ordO k (adjL L) = none) := by
                show _ = _
                rw [HAN.out, HKJ.out]
                unfold ordG
                rw [hls]
              have hnx : nx = -1 := by rw [HNX.out, hls]; rfl
              subst hnx
              clear hls
              go_wp2_with fail
              go_ret2
              have e1 : ordE k L = 80 := by unfold ordE; rw [if_pos HOK.out, Int.toNat_natCast, HNO.out]; rfl
              have e2 : ordL k L = [] := by unfold ordL; rw [if_pos HOK.out, Int.toNat_natCast, HNO.out]; rfl
              exact ⟨_, by rw [e1]; rfl, by rw [e2]; exact NsIs.nil _, HS.out.kept⟩
            | some i =>
              obtain ⟨hik, _, _⟩ := lst_some hls
              have hnx : nx = (i : Int) := by rw [HNX.out, hls]; rfl
              subst hnx
              have cs := HS.out.bl.cell hik
              have fz := HS.out.bl.ok i
              have hn0 : ¬ (i : Int) < 0 := by omega
              obtain ⟨w7, hw7⟩ : ∃ w7, wr.setCell ⟨w.heap.size, i, none⟩ (.bool false) = w7 := ⟨_, rfl⟩
              have hk7 : Kept [w.heap.size] wr w7 := by rw [← hw7]; exact Kept.setCell _ _ _ _ (by simp)
              have HB7 : BlIs w7 w.heap.size k (less S i) := by rw [← hw7, ← less_put]; exact HS.out.bl.set i false
              have HO7 : OwnN (w.heap.size + 1) w7 (.slice va j vc) out := HS.out.own.keptX hk7 (fun b hb => by have := (HS.out.own.blk b hb).1; simp; omega)
              obtain ⟨v4, w8, hrun, hown, hap⟩ := HO7.app (by have := hk7.size; have := HS.out.size; omega) i (by have := HS.out.len; omega)
              have HRUN := Lib.hid hrun
              have HN : Hid (RoD w k w.heap.size L (j + 1) (less S i) (out ++ [i]) v4 w8) := by
                have hne : ∀ q ∈ (Value.slice va j vc).ownBlock.toList, w.heap.size + 1 ≤ q := fun q hq => (HO7.blk q (by simpa using hq)).1
                refine ⟨HB7.kept hap.kept (fun hm => by have := hne _ hm; omega), ?_, HS.out.st.next hls, by simp [HS.out.len], hown, (HS.out.kept.into hk7 (by simp)).into hap.kept (fun q hq => by have := hne q hq; omega), by have := hk7.size; have := hap.kept.size; have := HS.out.size; omega⟩
                rw [HAN.out, HKJ.out]
                conv => lhs; unfold ordG
                rw [hls]
              have hv4 : ∃ ao c, v4 = .slice ao (j + 1) c := by
                obtain ⟨x, y, e⟩ := hown.slice
                exact ⟨x, y, by rw [e]; simp [HS.out.len]⟩
              obtain ⟨x4, y4, rfl⟩ := hv4
              clear hls hk7 HO7 HB7 hrun hown hap
              go_wp2_with (at_builtin; refine wpList_append_run rfl _ _ 24 rfl _ _ _ rfl rfl HRUN.out ?_)
              go_roundw
              case rel => exact ⟨j + 1, _, _, by omega, ⟨_, _, rfl⟩, HN⟩
              case measure => simp; try omega
      · have hjk : j = k := by omega
        have HNO : Hid (ordO k (adjL L) = some out) := by
          show _ = _
          rw [HS.out.ans, hjk, Nat.sub_self]
          rfl
        go_wp2_with fail
        go_ret2
        exact ROut.of (OrderOut.yes HOK.out HNO.out HS.out.own.ns HS.out.kept)
end Go.Proofs.Ytpdngekolhcndaa

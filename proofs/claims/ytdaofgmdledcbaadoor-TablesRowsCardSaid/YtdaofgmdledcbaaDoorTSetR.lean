/-
  Layer 5: the document's Drop and Set.
  Conditions: those that each theorem states.
-/
import Derived.Test.YtdaofgmdledcbaaDoorTSetW
import Derived.BigQuiet
namespace Go.Proofs.YtdaofgmdledcbaaDoor
open Go.RowKit Go.Maps

theorem CellsIs.offOld {w : World} {v : Value} {l : List (List UInt8)} (h : CellsIs w v l) (ex : List Nat) (hx : ∀ q ∈ ex, w.heap.size ≤ q) : OffV none ex v := fun b o n c e hn hm => by
  have := h.D.lt b o n c e hn
  have := hx b hm
  omega

set_option maxRecDepth 100000 in
set_option maxHeartbeats 4000000 in
theorem rdrop_any (ao : Option Addr) (len cap : Nat) (l : List TRow) (key : List UInt8) (w : World) (hl : RowsIs w ao len l) :
    Calls Tryd.prog 24 #[.slice ao len cap, .string (strL key)] w fun e w' => ∃ v, e = .returned v ∧ Hid (DrSt none w (dropR l key) v w') := by
  have HL := Lib.hid hl
  have hlen : len * 40 ≤ 140737488355328 := hl.bytes
  have HLL := Lib.hid hl.hlen
  clear hl
  go_enter Tryd.func24, Tryd.ntmps24
  go_wp2_with fail
  go_loopw [5, 6] (fun v i wr => ∃ k : Nat, k ≤ len ∧ i = .int .i64 k ∧ Hid (DrSt none w (dropR (l.take k) key) v wr)) (fun _ i _ => len - (intOf i).toNat)
  case atStart => exact ⟨0, by omega, rfl, ⟨OwnRows.nil _ _ _, Kept.refl _ _⟩⟩
  case round =>
    obtain ⟨k, hk, rfl, HS⟩ := hrel
    by_cases hlt : k < len
    · obtain ⟨b, o, rfl, hb, hc⟩ := HL.out.cell (by omega)
      have hll : k < l.length := by rw [HLL.out]; exact hlt
      obtain ⟨cv, c0, c1, hcv⟩ := hc k hll
      obtain ⟨p, hp⟩ : ∃ p, l[k].1 = p := ⟨_, rfl⟩
      obtain ⟨cs, hcs⟩ : ∃ cs, l[k].2 = cs := ⟨_, rfl⟩
      have HE : Hid (dropR (l.take (k + 1)) key = dropR (l.take k) key ++ (if p = key then [] else [(p, cs)])) := by show _ = _; rw [dropR_snoc l key k hll, ← hp, ← hcs]
      have HPL : Hid (p.length ≤ 140737488355328) := by show _ ≤ _; rw [← hp]; exact HL.out.keys _ (List.getElem_mem hll)
      rw [hp, ← HS.out.kept.cell (p := ⟨b, o + k * 2, none⟩) hb (by simp)] at c0
      rw [← HS.out.kept.cell (p := ⟨b, o + k * 2 + 1, none⟩) hb (by simp)] at c1
      rw [hcs] at hcv
      have HCV := Lib.hid hcv
      have hvs : ∃ u m c, cv = .slice u m c := by obtain ⟨u, c, rfl, _⟩ := hcv.val; exact ⟨u, _, c, rfl⟩
      obtain ⟨vu, vm, vc, rfl⟩ := hvs
      clear hp hc hcs hcv
      have HLEN : Hid ((dropR (l.take k) key).length ≤ k) := by show _ ≤ _; have := dropR_len (l.take k) key; rw [List.length_take] at this; omega
      by_cases hpk : p = key
      · have q1 : ((strL p).toList != (strL key).toList) = false := by rw [bne, str_beq2, decide_eq_true hpk]; rfl
        have q1' : ((strL p).toList == (strL key).toList) = true := by rw [str_beq2, decide_eq_true hpk]
        have HS2 : Hid (DrSt none w (dropR (l.take (k + 1)) key) u5 wr) := by
          have := HS.out
          show DrSt _ _ _ _ _
          rw [HE.out, if_pos hpk, List.append_nil]
          exact this
        clear hpk
        go_wp2_with fail
        go_roundw
        case rel => exact ⟨k + 1, by omega, by go_num, HS2⟩
        case measure => simp [intOf]; omega
      · have q1 : ((strL p).toList != (strL key).toList) = true := by rw [bne, str_beq2, decide_eq_false hpk]; rfl
        have q1' : ((strL p).toList == (strL key).toList) = false := by rw [str_beq2, decide_eq_false hpk]
        have HE2 : Hid (dropR (l.take (k + 1)) key = dropR (l.take k) key ++ [(p, cs)]) := by show _ = _; rw [HE.out, if_neg hpk]
        clear hpk
        obtain ⟨v4, w4, hrun, ho4, hap, _⟩ := HS.out.own.app (by exact HS.out.kept.size) (p, cs) _ (HCV.out.kept HS.out.kept).D (HCV.out.offOld _ (fun q hq => (HS.out.own.blk q (by simpa using hq)).1)) (by have := HLEN.out; omega) HPL.out
        have HR := Lib.hid hrun
        have HS4 : Hid (DrSt none w (dropR (l.take (k + 1)) key) v4 w4) := ⟨by rw [HE2.out]; exact ho4, AppB.intoR HS.out.kept hap HS.out.own (Nat.le_refl _)⟩
        clear hrun ho4 hap
        go_wp2_with (at_builtin; refine wpList_append_run rfl _ _ 22 rfl _ _ _ rfl rfl HR.out ?_)
        go_roundw
        case rel => exact ⟨k + 1, by omega, by go_num, HS4⟩
        case measure => simp [intOf]; omega
    · have HF : Hid (DrSt none w (dropR l key) u5 wr) := by
        have := HS.out
        rw [List.take_of_length_le (by rw [HLL.out]; omega)] at this
        exact this
      go_wp2_with fail
      go_ret
      exact ⟨_, rfl, HF⟩

/-- The rows that the loop has put behind k of them. -/
def outR (O : List TRow) (r : TRow) (a k : Nat) : List TRow := if a < k then O.take a ++ r :: (O.take k).drop a else O.take k
theorem outR_zero (O : List TRow) (r : TRow) (a : Nat) : outR O r a 0 = [] := by simp [outR]
theorem outR_step {O : List TRow} {r : TRow} {a k : Nat} (hk : k < O.length) (hne : k ≠ a) : outR O r a (k + 1) = outR O r a k ++ [O[k]] := by
  unfold outR
  have h1 : O.take (k + 1) = O.take k ++ [O[k]] := List.take_succ_eq_append_getElem hk
  by_cases h : a < k
  · rw [if_pos h, if_pos (by omega), h1, List.drop_append_of_le_length (by rw [List.length_take]; omega)]
    simp
  · rw [if_neg h, if_neg (by omega), h1]
theorem outR_at {O : List TRow} {r : TRow} {a : Nat} (hk : a < O.length) : outR O r a (a + 1) = (outR O r a a ++ [r]) ++ [O[a]] := by
  unfold outR
  rw [if_pos (by omega), if_neg (by omega), List.take_succ_eq_append_getElem hk, List.drop_append_of_le_length (by rw [List.length_take]; omega)]
  simp
theorem outR_end {O : List TRow} {r : TRow} {a : Nat} (ha : a = placeN O r.1) : insR O r = if a < O.length then outR O r a O.length else outR O r a O.length ++ [r] := by
  have := placeN_le O r.1
  unfold insR outR
  rw [← ha]
  by_cases h : a < O.length
  · rw [if_pos h, if_pos h, List.take_length]
  · rw [if_neg h, if_neg h, List.take_length, List.take_of_length_le (by omega), List.drop_of_length_le (by omega)]
theorem outR_len (O : List TRow) (r : TRow) (a k : Nat) : (outR O r a k).length ≤ k + 1 := by
  unfold outR
  split
  · simp; omega
  · simp; omega
theorem place_less {O : List TRow} {k : List UInt8} (i : Nat) (hi : i < O.length) (h : i < placeN O k) : lessB k O[i].1 = false := by
  have := List.not_of_lt_findIdx h
  simpa using this
theorem place_hit {O : List TRow} {k : List UInt8} {a : Nat} (ha : placeN O k = a) (h : a < O.length) : lessB k O[a].1 = true := by
  subst ha
  exact List.findIdx_getElem (w := h)
theorem outR_short {O : List TRow} {r : TRow} {a k : Nat} (h : ¬ a < k) : (outR O r a k).length ≤ k := by
  unfold outR
  rw [if_neg h, List.length_take]
  omega

def RowsOut (L : List TRow) (w : World) (v : Value) (w' : World) : Prop := ∃ ao' cap', v = .slice ao' L.length cap' ∧ RowsIs w' ao' L.length L ∧ Kept [] w w'
theorem two_app {w2 wr : World} {u : Value} {L : List TRow} (h : DrSt none w2 L u wr) (rk xk : List UInt8) (rc xc : List (List UInt8)) (cv xv : Value) (hc : CellsIs w2 cv rc) (hx : CellsIs w2 xv xc) (hl : (L.length + 2) * 40 ≤ 140737488355328) (hr : rk.length ≤ 140737488355328) (hxl : xk.length ≤ 140737488355328) :
    ∃ v3 w3 v4 w4, (Builtin.append_ #[22, 22] 22 #[u, .slice (some ⟨wr.heap.size, 0, none⟩) 1 1]).run Tryd.prog (wr.alloc (.cells #[.string (strL rk), cv] 34)) = .ok v3 w3 ∧ (Builtin.append_ #[22, 22] 22 #[v3, .slice (some ⟨w3.heap.size, 0, none⟩) 1 1]).run Tryd.prog (w3.alloc (.cells #[.string (strL xk), xv] 34)) = .ok v4 w4 ∧ Kept [] w2 w3 ∧ DrSt none w2 (L ++ [(rk, rc)] ++ [(xk, xc)]) v4 w4 := by
  have hb1 : w2.heap.size ≤ wr.heap.size := h.kept.size
  obtain ⟨v3, w3, hrun3, ho3, hap3, -⟩ := h.own.app hb1 (rk, rc) cv (hc.kept h.kept).D (hc.offOld _ (fun q hq => (h.own.blk q (by simpa using hq)).1)) (by omega) hr
  have hk3 : Kept [] w2 w3 := AppB.intoR h.kept hap3 h.own (Nat.le_refl _)
  have hb2 : w2.heap.size ≤ w3.heap.size := hk3.size
  have hl3 : ((L ++ [(rk, rc)]).length + 1) * 40 ≤ 140737488355328 := by rw [List.length_append, List.length_singleton]; omega
  obtain ⟨v4, w4, hrun4, ho4, hap4, -⟩ := ho3.app hb2 (xk, xc) xv (hx.kept hk3).D (hx.offOld _ (fun q hq => (ho3.blk q (by simpa using hq)).1)) hl3 hxl
  exact ⟨v3, w3, v4, w4, hrun3, hrun4, hk3, ho4, AppB.intoR hk3 hap4 ho3 (Nat.le_refl _)⟩

set_option maxRecDepth 100000 in
set_option maxHeartbeats 8000000 in
theorem rset_any (ao : Option Addr) (len cap : Nat) (l : List TRow) (r : TRow) (v : Value) (w : World) (hl : RowsIs w ao len l) (hlen : (len + 1) * 40 ≤ 140737488355328) (hc : CellsIs w v r.2) (hr : r.1.length ≤ 140737488355328) :
    Calls Tryd.prog 22 #[.slice ao len cap, rowV r.1 v] w fun e w' => ∃ v', e = .returned v' ∧ Hid (RowsOut (setR l r) w v' w') := by
  have HL := Lib.hid hl
  have HC := Lib.hid hc
  have HLL := Lib.hid hl.hlen
  have hvs : ∃ u m c, v = .slice u m c := by obtain ⟨u, c, rfl, _⟩ := hc.val; exact ⟨u, _, c, rfl⟩
  obtain ⟨vu, vm, vc, rfl⟩ := hvs
  clear hl hc
  obtain ⟨rk, rc⟩ := r
  simp only at *
  unfold rowV
  have HB : Hid ((w.alloc (.cells #[.string (strL rk), .slice vu vm vc] 34)).heap[w.heap.size]? = some (.cells #[.string (strL rk), .slice vu vm vc] 34)) := heap_alloc_last _ _
  have HK0 := Lib.hid (Kept.alloc [] w (.cells #[.string (strL rk), .slice vu vm vc] 34))
  go_enter Tryd.func22, Tryd.ntmps22
  go_wp2_with fail
  refine (rdrop_any ao len cap l rk _ (HL.out.kept HK0.out)).mono ?_
  rintro e w2 ⟨v2, rfl, HD⟩
  obtain ⟨O, hO⟩ : ∃ O, dropR l rk = O := ⟨_, rfl⟩
  have HOL : Hid (O.length ≤ len) := by show _ ≤ _; rw [← hO, ← HLL.out]; exact dropR_len l rk
  have HOE : Hid (setR l (rk, rc) = insR O (rk, rc)) := by show _ = _; rw [← hO]; rfl
  rw [hO] at HD
  clear hO
  have HK2 := Lib.hid (HK0.out.trans HD.out.kept)
  have HBX : Hid (w2.heap[w.heap.size]? = some (.cells #[.string (strL rk), .slice vu vm vc] 34)) := HD.out.kept.heap (by simp) HB.out
  obtain ⟨ao2, cap2, hv2, -, -, -, hrows2⟩ := HD.out.own.rows
  have HR2 := Lib.hid hrows2
  subst hv2
  clear hrows2 HD HB
  obtain ⟨a, ha⟩ : ∃ a, placeN O rk = a := ⟨_, rfl⟩
  have hal : a ≤ O.length := by rw [← ha]; exact placeN_le _ _
  have HA := Lib.hid ha
  clear ha
  have hol := HOL.out
  have HWB : Hid (w.heap.size < w2.heap.size) := (Array.getElem?_eq_some_iff.1 HBX.out).1
  have HC2 := Lib.hid (HC.out.kept HK2.out)
  go_wp2_with fail
  go_loopw [5, 6, 8] (fun v d i wr => ∃ k : Nat, k ≤ O.length ∧ i = .int .i64 k ∧ d = .bool (decide (a < k)) ∧ Hid (DrSt none w2 (outR O (rk, rc) a k) v wr)) (fun _ _ i _ => O.length - (intOf i).toNat)
  case atStart => exact ⟨0, by omega, rfl, by simp, ⟨by rw [outR_zero]; exact OwnRows.nil _ _ _, Kept.refl _ _⟩⟩
  case round =>
    obtain ⟨k, hk, rfl, rfl, HS⟩ := hrel
    have b0 : wr.cell? ⟨w.heap.size, 0, none⟩ = some (.string (strL rk)) := cell_of_row _ _ 0 _ _ _ (HS.out.kept.heap (by simp) HBX.out)
    have b1 : wr.cell? ⟨w.heap.size, 1, none⟩ = some (.slice vu vm vc) := cell_of_row _ _ 1 _ _ _ (HS.out.kept.heap (by simp) HBX.out)
    have HOLN := Lib.hid (outR_len O (rk, rc) a k)
    by_cases hlt : k < O.length
    · obtain ⟨b, o, rfl, hb, hcell⟩ := HR2.out.cell (by omega)
      obtain ⟨cv, c0, c1, hcv⟩ := hcell k hlt
      rw [← HS.out.kept.cell (p := ⟨b, o + k * 2, none⟩) hb (by simp)] at c0
      rw [← HS.out.kept.cell (p := ⟨b, o + k * 2 + 1, none⟩) hb (by simp)] at c1
      obtain ⟨x, hx⟩ : ∃ x, O[k] = x := ⟨_, rfl⟩
      obtain ⟨xk, xc⟩ := x
      rw [hx] at c0 hcv
      have HX := Lib.hid hx
      have HXL : Hid (xk.length ≤ 140737488355328) := by have := HR2.out.keys _ (List.getElem_mem hlt); rw [hx] at this; exact this
      have HCV := Lib.hid hcv
      have hvs : ∃ u m c, cv = .slice u m c := by obtain ⟨u, c, rfl, _⟩ := hcv.val; exact ⟨u, _, c, rfl⟩
      obtain ⟨xu, xm, xv, rfl⟩ := hvs
      have C0 := Lib.hid (show w2.cell? ⟨b, o + k * 2, none⟩ = some (.string (strL xk)) by rw [← HS.out.kept.cell (p := ⟨b, o + k * 2, none⟩) hb (by simp)]; exact c0)
      have C1 := Lib.hid (show w2.cell? ⟨b, o + k * 2 + 1, none⟩ = some (.slice xu xm xv) by rw [← HS.out.kept.cell (p := ⟨b, o + k * 2 + 1, none⟩) hb (by simp)]; exact c1)
      clear hx hcv hcell
      have hkI : (k : Int) < (O.length : Int) := by omega
      rcases Nat.lt_trichotomy k a with hka | hka | hka
      · have hd : decide (a < k) = false := decide_eq_false (by omega)
        rw [hd]
        have HOS : Hid (outR O (rk, rc) a (k + 1) = outR O (rk, rc) a k ++ [(xk, xc)]) := by show _ = _; rw [outR_step hlt (by omega), HX.out]
        have hs : lessB rk xk = false := by
          have := place_less (k := rk) k hlt (by rw [HA.out]; exact hka)
          rw [HX.out] at this
          exact this
        have ht := less_tri rk xk
        rw [hs] at ht
        by_cases he : xk = rk
        · have s1 : ((strL xk).toList == (strL rk).toList) = true := by rw [strL_bytes, strL_bytes]; simpa using he
          clear ht hs he hd
          have HW : ∀ nq, DrSt none w2 (outR O (rk, rc) a k) u5 (wr.drewN nq) := fun nq => ⟨HS.out.own.kept (Kept.drewN _ _ _), HS.out.kept.trans (Kept.drewN _ _ _)⟩
          have HQ : Hid (∀ nq, ∃ v4 w4, (Builtin.append_ #[22, 22] 22 #[u5, .slice (some ⟨(wr.drewN nq).heap.size, 0, none⟩) 1 1]).run Tryd.prog ((wr.drewN nq).alloc (.cells #[.string (strL xk), .slice xu xm xv] 34)) = .ok v4 w4 ∧ DrSt none w2 (outR O (rk, rc) a (k + 1)) v4 w4) := fun nq => by
            obtain ⟨v4, w4, hrun, ho4, hap, _⟩ := (HW nq).own.app (by exact (HW nq).kept.size) (xk, xc) _ (HCV.out.kept (HW nq).kept).D (HCV.out.offOld _ (fun q hq => ((HW nq).own.blk q (by simpa using hq)).1)) (by have := HOLN.out; omega) HXL.out
            exact ⟨v4, w4, hrun, by rw [HOS.out]; exact ho4, AppB.intoR (HW nq).kept hap (HW nq).own (Nat.le_refl _)⟩
          clear HW
          go_wp2_with fail
          go_quiet (fail)
          obtain ⟨v4, w4, hrun, hs4⟩ := HQ.out nq
          have HR := Lib.hid hrun
          have HS4 := Lib.hid hs4
          clear hrun hs4 HQ
          go_wp2_with (at_builtin; refine wpList_append_run rfl _ _ 22 rfl _ _ _ rfl rfl HR.out ?_)
          go_roundw
          case rel => exact ⟨k + 1, by omega, by go_num, by rw [show decide (a < k + 1) = false from decide_eq_false (by omega)], HS4⟩
          case measure => simp [intOf]; omega
        · have s1 : Op.bytesLess (strL xk).toList (strL rk).toList = true := by
            rw [strL_bytes, strL_bytes]
            simpa [he, lessB] using ht
          have s2 : ((strL xk).toList == (strL rk).toList) = false := by rw [strL_bytes, strL_bytes]; simpa using he
          clear ht hs he hd
          have HW : ∀ nq, DrSt none w2 (outR O (rk, rc) a k) u5 (wr.drewN nq) := fun nq => ⟨HS.out.own.kept (Kept.drewN _ _ _), HS.out.kept.trans (Kept.drewN _ _ _)⟩
          have HQ : Hid (∀ nq, ∃ v4 w4, (Builtin.append_ #[22, 22] 22 #[u5, .slice (some ⟨(wr.drewN nq).heap.size, 0, none⟩) 1 1]).run Tryd.prog ((wr.drewN nq).alloc (.cells #[.string (strL xk), .slice xu xm xv] 34)) = .ok v4 w4 ∧ DrSt none w2 (outR O (rk, rc) a (k + 1)) v4 w4) := fun nq => by
            obtain ⟨v4, w4, hrun, ho4, hap, _⟩ := (HW nq).own.app (by exact (HW nq).kept.size) (xk, xc) _ (HCV.out.kept (HW nq).kept).D (HCV.out.offOld _ (fun q hq => ((HW nq).own.blk q (by simpa using hq)).1)) (by have := HOLN.out; omega) HXL.out
            exact ⟨v4, w4, hrun, by rw [HOS.out]; exact ho4, AppB.intoR (HW nq).kept hap (HW nq).own (Nat.le_refl _)⟩
          clear HW
          go_wp2_with fail
          go_quiet (fail)
          obtain ⟨v4, w4, hrun, hs4⟩ := HQ.out nq
          have HR := Lib.hid hrun
          have HS4 := Lib.hid hs4
          clear hrun hs4 HQ
          go_wp2_with (at_builtin; refine wpList_append_run rfl _ _ 22 rfl _ _ _ rfl rfl HR.out ?_)
          go_roundw
          case rel => exact ⟨k + 1, by omega, by go_num, by rw [show decide (a < k + 1) = false from decide_eq_false (by omega)], HS4⟩
          case measure => simp [intOf]; omega
      · have hd : decide (a < k) = false := decide_eq_false (by omega)
        rw [hd]
        subst hka
        have HOS : Hid (outR O (rk, rc) k (k + 1) = (outR O (rk, rc) k k ++ [(rk, rc)]) ++ [(xk, xc)]) := by show _ = _; rw [outR_at hlt, HX.out]
        have hs : lessB rk xk = true := by
          have := place_hit HA.out hlt
          rw [HX.out] at this
          exact this
        have ht := less_tri rk xk
        rw [hs] at ht
        have s1 : ((strL xk).toList == (strL rk).toList) = false := by
          rw [strL_bytes, strL_bytes]
          by_cases he : xk = rk
          · simp [he] at ht
          · simpa using he
        have s2 : Op.bytesLess (strL xk).toList (strL rk).toList = false := by
          rw [strL_bytes, strL_bytes]
          cases hx : Op.bytesLess xk rk
          · rfl
          · simp [lessB, hx] at ht
        clear hs ht hd
        have HLK : Hid (((outR O (rk, rc) k k).length + 2) * 40 ≤ 140737488355328) := by
          have h1 := outR_short (O := O) (r := (rk, rc)) (a := k) (k := k) (Nat.lt_irrefl k)
          show _ ≤ _
          omega
        have HWQ : Hid (∀ nq, DrSt none w2 (outR O (rk, rc) k k) u5 (wr.drewN nq)) := fun nq => ⟨HS.out.own.kept (Kept.drewN _ _ _), HS.out.kept.trans (Kept.drewN _ _ _)⟩
        have HCW : Hid (∀ w', Kept [] w2 w' → w'.cell? ⟨b, o + k * 2, none⟩ = some (.string (strL xk)) ∧ w'.cell? ⟨b, o + k * 2 + 1, none⟩ = some (.slice xu xm xv)) := fun w' h => by
          rw [h.cell (p := ⟨b, o + k * 2, none⟩) hb (by simp), h.cell (p := ⟨b, o + k * 2 + 1, none⟩) hb (by simp)]
          exact ⟨C0.out, C1.out⟩
        go_wp2_with fail
        go_quiet (fail)
        obtain ⟨v3, w3, v4, w4, hrun3, hrun4, hk3, hs4⟩ := two_app (HWQ.out nq) rk xk rc xc (.slice vu vm vc) (.slice xu xm xv) HC2.out HCV.out HLK.out hr HXL.out
        rw [← HOS.out] at hs4
        have HR3 := Lib.hid hrun3
        have HR4 := Lib.hid hrun4
        have HS4 := Lib.hid hs4
        obtain ⟨d0, d1⟩ := HCW.out w3 hk3
        clear hrun3 hrun4 hs4 HWQ hk3 HCW
        go_wp2_with (at_builtin; first | refine wpList_append_run rfl _ _ 22 rfl _ _ _ rfl rfl HR3.out ?_ | refine wpList_append_run rfl _ _ 22 rfl _ _ _ rfl rfl HR4.out ?_)
        go_roundw
        case rel => exact ⟨k + 1, by omega, by go_num, by rw [show decide (k < k + 1) = true from decide_eq_true (by omega)], HS4⟩
        case measure => simp [intOf]; omega
      · have hd : decide (a < k) = true := decide_eq_true (by omega)
        rw [hd]
        have HOS : Hid (outR O (rk, rc) a (k + 1) = outR O (rk, rc) a k ++ [(xk, xc)]) := by show _ = _; rw [outR_step hlt (by omega), HX.out]
        clear hd
        have HW : ∀ nq, DrSt none w2 (outR O (rk, rc) a k) u5 (wr.drewN nq) := fun nq => ⟨HS.out.own.kept (Kept.drewN _ _ _), HS.out.kept.trans (Kept.drewN _ _ _)⟩
        have HQ : Hid (∀ nq, ∃ v4 w4, (Builtin.append_ #[22, 22] 22 #[u5, .slice (some ⟨(wr.drewN nq).heap.size, 0, none⟩) 1 1]).run Tryd.prog ((wr.drewN nq).alloc (.cells #[.string (strL xk), .slice xu xm xv] 34)) = .ok v4 w4 ∧ DrSt none w2 (outR O (rk, rc) a (k + 1)) v4 w4) := fun nq => by
          obtain ⟨v4, w4, hrun, ho4, hap, _⟩ := (HW nq).own.app (by exact (HW nq).kept.size) (xk, xc) _ (HCV.out.kept (HW nq).kept).D (HCV.out.offOld _ (fun q hq => ((HW nq).own.blk q (by simpa using hq)).1)) (by have := HOLN.out; omega) HXL.out
          exact ⟨v4, w4, hrun, by rw [HOS.out]; exact ho4, AppB.intoR (HW nq).kept hap (HW nq).own (Nat.le_refl _)⟩
        clear HW
        go_wp2_with fail
        go_quiet (fail)
        obtain ⟨v4, w4, hrun, hs4⟩ := HQ.out nq
        have HR := Lib.hid hrun
        have HS4 := Lib.hid hs4
        clear hrun hs4 HQ
        go_wp2_with (at_builtin; refine wpList_append_run rfl _ _ 22 rfl _ _ _ rfl rfl HR.out ?_)
        go_roundw
        case rel => exact ⟨k + 1, by omega, by go_num, by rw [show decide (a < k + 1) = true from decide_eq_true (by omega)], HS4⟩
        case measure => simp [intOf]; omega
    · have hke : k = O.length := by omega
      have hend := outR_end (O := O) (r := (rk, rc)) HA.out.symm
      by_cases hao : a < O.length
      · have hd : decide (a < k) = true := decide_eq_true (by omega)
        rw [hd]
        have HF : Hid (RowsOut (setR l (rk, rc)) w u5 wr) := by
          show RowsOut _ _ _ _
          have e : setR l (rk, rc) = outR O (rk, rc) a k := by rw [HOE.out, hend, if_pos hao, hke]
          rw [e]
          obtain ⟨ao', cap', h1, _, _, _, h2⟩ := HS.out.own.rows
          exact ⟨ao', cap', h1, h2, HK2.out.trans HS.out.kept⟩
        clear hd hend hke
        go_wp2_with fail
        go_ret
        exact ⟨_, rfl, HF⟩
      · have hd : decide (a < k) = false := decide_eq_false (by omega)
        rw [hd]
        obtain ⟨v3, w3, hrun3, ho3, hap3, _⟩ := HS.out.own.app (by exact HS.out.kept.size) (rk, rc) _ (HC2.out.kept HS.out.kept).D (HC2.out.offOld _ (fun q hq => (HS.out.own.blk q (by simpa using hq)).1)) (by have := outR_short (O := O) (r := (rk, rc)) (a := a) (k := k) (by omega); omega) hr
        have HR3 := Lib.hid hrun3
        have HF : Hid (RowsOut (setR l (rk, rc)) w v3 w3) := by
          show RowsOut _ _ _ _
          have e : setR l (rk, rc) = outR O (rk, rc) a k ++ [(rk, rc)] := by rw [HOE.out, hend, if_neg hao, hke]
          rw [e]
          obtain ⟨ao', cap', h1, _, _, _, h2⟩ := ho3.rows
          exact ⟨ao', cap', h1, h2, HK2.out.trans (AppB.intoR HS.out.kept hap3 HS.out.own (Nat.le_refl _))⟩
        clear hd hend hke hrun3 ho3 hap3
        go_wp2_with (at_builtin; refine wpList_append_run rfl _ _ 22 rfl _ _ _ rfl rfl HR3.out ?_)
        go_ret
        exact ⟨v3, rfl, HF⟩
end Go.Proofs.YtdaofgmdledcbaaDoor

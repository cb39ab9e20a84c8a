/-
  Layer 5: the walk of TablesOrder.
  Conditions: those that each theorem states.
-/
import Derived.Test.YtdaofgmdledcbaaDoorTSort
import Derived.Test.YtdaofgmdledcbaaDoorTPrint
namespace Go.Proofs.YtdaofgmdledcbaaDoor
open Go.RowKit Go.Maps

structure OrSt (w : World) (l : List TRow) (L : List TRow) (ao : Option Addr) (len m : Nat) (wr : World) : Prop where
  rows : RowsIs wr ao len L
  part : PartOf l L
  few : L.length ≤ m
  kept : Kept [] w wr
theorem OrSt.step {w : World} {l L : List TRow} {ao : Option Addr} {len m : Nat} {wr w' : World} {v : Value} {r : TRow} (h : OrSt w l L ao len m wr) (hl : Sorted l) (hr : r ∈ l) (h2 : DrSt (some wr.heap.size) wr (setR L r) v w') :
    ∃ ao' len' cap', v = .slice ao' len' cap' ∧ OrSt w l (setR L r) ao' len' (m + 1) w' := by
  obtain ⟨ao', cap', hv, _, _, _, hrw⟩ := h2.own.rows
  exact ⟨ao', _, cap', hv, hrw, (h.part.set hl hr).1, by have := setR_len L r; have := h.few; omega, h.kept.trans h2.kept⟩

set_option maxRecDepth 100000 in
set_option maxHeartbeats 4000000 in
theorem torder_walk (t : List UInt8) (ao : Option Addr) (len cap : Nat) (l : List TRow) (oo : Option Addr) (olen ocap : Nat) (ol : List Int) (w : World) (ht : t.length ≤ 9223372036854775807) (hl : RowsIs w ao len l) (ho : IntsIs w oo olen ol)
    (hob : ∀ x ∈ ol, -9223372036854775808 ≤ x ∧ x ≤ 9223372036854775807) :
    Calls Tryd.prog 6 #[.string (strL t), .slice ao len cap, .slice oo olen ocap] w fun e w' => e = .returned (.bool true) ∧ Kept [] w w' := by
  have HL := Lib.hid hl
  have HO := Lib.hid ho
  have HOB := Lib.hid hob
  have hlen : len ≤ 140737488355328 := by have := hl.bytes; omega
  have holen : olen ≤ 4611686018427387904 := ho.2.1
  have HLL := Lib.hid hl.hlen
  have HOL := Lib.hid ho.1
  clear hl ho hob
  go_enter Tryd.func6, Tryd.ntmps6
  go_wp2_with fail
  refine (shown5_any _).mono ?_
  rintro e w1 ⟨rfl, hk1⟩
  have HK1 := Lib.hid hk1
  clear hk1
  go_wp2_with fail
  refine (print_any t ao len cap l _ ht (HL.out.kept HK1.out)).mono ?_
  rintro e w2 ⟨v2, n, c, rfl, HP2⟩
  have HK2 := Lib.hid (HK1.out.trans HP2.out.2.2.2)
  by_cases hn : n = 0
  · have q2 : (n != 0) = false := by simpa using hn
    have q2' : (n == 0) = true := by simpa using hn
    have HPK : Hid (Sorted l ∧ l.length ≤ 32) := by
      have := print_ok (c := c) (by rw [HP2.out.1, hn])
      exact ⟨sorted_good l this.2.2.1, this.2.1⟩
    have hl32 : len ≤ 32 := by rw [← HLL.out]; exact HPK.out.2
    clear hn HP2 HK1
    go_wp2_with fail
    go_loopw [10, 11] (fun v i wr => ∃ (k : Nat) (xo : Option Addr) (xlen xcap : Nat), k ≤ olen ∧ k ≤ 100 ∧ xlen ≤ 132 ∧ i = .int .i64 k ∧ v = .slice xo xlen xcap ∧ Hid (∃ L, OrSt w l L xo xlen k wr)) (fun _ i _ => 100 - (intOf i).toNat)
    case atStart =>
      refine ⟨0, _, 0, 0, by omega, by omega, by omega, rfl, rfl, [], RowsIs.nil _ _, PartOf.nil l, by simp, ?_⟩
      exact HK2.out.trans (Kept.alloc _ _ _)
    case round =>
      obtain ⟨k, xo, xlen, xcap, hk, hk1, hx32, rfl, rfl, HS⟩ := hrel
      by_cases hgo : k < olen ∧ k < 100 ∧ 0 < len
      · obtain ⟨g1, g2, g3⟩ := hgo
        obtain ⟨b, o, rfl, hb, hcell⟩ := HO.out.cell (by omega)
        obtain ⟨L, hS⟩ := HS.out
        have c0 : wr.cell? ⟨b, o + k, none⟩ = some (.int .i64 (ol[k]'(by rw [HOL.out]; exact g1))) := by rw [hS.kept.cell hb (by simp)]; exact hcell k g1
        obtain ⟨x, hx⟩ : ∃ x, ol[k]'(by rw [HOL.out]; exact g1) = x := ⟨_, rfl⟩
        have hxb := HOB.out x (by rw [← hx]; exact List.getElem_mem _)
        rw [hx] at c0
        clear hx hcell
        have HSL := Lib.hid hS
        clear hS
        obtain ⟨y, hy0, hy1, hneg, hpos⟩ : ∃ y : Int, 0 ≤ y ∧ y ≤ 9223372036854775807 ∧ (x < 0 → y = -(x + 1)) ∧ (0 ≤ x → y = x) := by
          by_cases hx0 : x < 0
          · exact ⟨-(x + 1), by omega, by omega, fun _ => rfl, fun h => by omega⟩
          · exact ⟨x, by omega, by omega, fun h => by omega, fun _ => rfl⟩
        obtain ⟨m, hm⟩ : ∃ m : Nat, y.tmod (len : Int) = (m : Int) := ⟨(y.tmod (len : Int)).toNat, by
          rw [Int.toNat_of_nonneg]
          exact Int.tmod_nonneg _ hy0⟩
        have hml : m < len := by
          have := Int.tmod_lt_of_pos y (show (0 : Int) < (len : Int) by omega)
          omega
        have hll : m < l.length := by rw [HLL.out]; exact hml
        obtain ⟨b2, o2, rfl, hb2, hc2⟩ := HL.out.cell (by omega)
        obtain ⟨cv, e0, e1, hcv⟩ := hc2 m hll
        rw [← HSL.out.kept.cell (p := ⟨b2, o2 + m * 2, none⟩) hb2 (by simp)] at e0
        rw [← HSL.out.kept.cell (p := ⟨b2, o2 + m * 2 + 1, none⟩) hb2 (by simp)] at e1
        obtain ⟨r, hr⟩ : ∃ r, l[m] = r := ⟨_, rfl⟩
        have HRM : Hid (r ∈ l) := by rw [← hr]; exact List.getElem_mem hll
        rw [hr] at e0 hcv
        have HCV := Lib.hid hcv
        have HRL : Hid (r.1.length ≤ 140737488355328) := HL.out.keys r HRM.out
        clear hr hc2 hcv
        obtain ⟨rk, rc⟩ := r
        have hlz : ((len : Int) == 0) = false := by simp; omega
        have hlm : ((len : Int) == -1) = false := by simp
        have g1I : (k : Int) < (olen : Int) := by omega
        have g2I : (k : Int) < 100 := by omega
        have g3I : (0 : Int) < (len : Int) := by omega
        have hmI : (m : Int) < (len : Int) := by omega
        by_cases hx0 : x < 0
        all_goals
          first
            | (have hye := hneg hx0)
            | (have hye := hpos (by omega))
          subst hye
          clear hneg hpos
          go_wp2_with fail
          refine (set_any xo xlen xcap L (rk, rc) cv _ HSL.out.rows (by omega) (HCV.out.kept HSL.out.kept) HRL.out).mono ?_
          rintro e w5 ⟨v5, rfl, H5⟩
          obtain ⟨xo', xlen', xcap', hv5, hS5⟩ := HSL.out.step HPK.out.1 HRM.out H5.out
          subst hv5
          have hx5 : xlen' ≤ 132 := by rw [← hS5.rows.hlen]; have := hS5.few; omega
          have HS5 : Hid (∃ L, OrSt w l L xo' xlen' (k + 1) w5) := ⟨_, hS5⟩
          clear hS5 H5
          go_wp2_with fail
          go_roundw
          case rel => exact ⟨k + 1, xo', xlen', xcap', by omega, by omega, hx5, by go_num, rfl, HS5⟩
          case measure => simp [intOf]; omega
      · have HS2 : Hid (∃ L, OrSt w l L xo xlen 100 wr) := by
          obtain ⟨L, h⟩ := HS.out
          exact ⟨L, h.rows, h.part, by have := h.few; omega, h.kept⟩
        clear HS
        have hl1 : IntKind.i64.wrap ((len : Int) - 1) = (len : Int) - 1 := by rw [IntKind.wrap_i64]; omega
        rcases (by omega : ¬ (k : Int) < (olen : Int) ∨ ((k : Int) < (olen : Int) ∧ ¬ (k : Int) < 100) ∨ ((k : Int) < (olen : Int) ∧ (k : Int) < 100 ∧ ¬ (0 : Int) < (len : Int))) with g1 | ⟨g1, g2⟩ | ⟨g1, g2, g3⟩
        all_goals
          clear hgo
          go_wp2_with fail
          go_loopw [10, 13] (fun v i wr => ∃ (j : Nat) (xo : Option Addr) (xlen xcap : Nat), j ≤ len ∧ xlen ≤ 132 ∧ i = .int .i64 ((j : Int) - 1) ∧ v = .slice xo xlen xcap ∧ Hid (∃ L, OrSt w l L xo xlen (100 + (len - j)) wr ∧ ∀ q (hq : q < l.length), j ≤ q → l[q] ∈ L)) (fun _ i _ => (intOf i + 1).toNat)
          case atStart =>
            refine ⟨len, xo, xlen, xcap, Nat.le_refl _, hx32, rfl, rfl, ?_⟩
            obtain ⟨L, h⟩ := HS2.out
            exact ⟨L, ⟨h.rows, h.part, by have := h.few; omega, h.kept⟩, fun q hq hj => by rw [HLL.out] at hq; omega⟩
          case round =>
            clear HS2
            obtain ⟨j, xo, xlen, xcap, hj, hx32, rfl, rfl, HS⟩ := hrel
            by_cases hj0 : 0 < j
            · obtain ⟨m, rfl⟩ : ∃ m, j = m + 1 := ⟨j - 1, by omega⟩
              have hm1 : (((m + 1 : Nat) : Int) - 1) = (m : Int) := by omega
              rw [hm1]
              have hml : m < len := by omega
              have hll : m < l.length := by rw [HLL.out]; exact hml
              obtain ⟨L, hS, hin⟩ := HS.out
              obtain ⟨b2, o2, rfl, hb2, hc2⟩ := HL.out.cell (by omega)
              obtain ⟨cv, e0, e1, hcv⟩ := hc2 m hll
              rw [← hS.kept.cell (p := ⟨b2, o2 + m * 2, none⟩) hb2 (by simp)] at e0
              rw [← hS.kept.cell (p := ⟨b2, o2 + m * 2 + 1, none⟩) hb2 (by simp)] at e1
              obtain ⟨r, hr⟩ : ∃ r, l[m] = r := ⟨_, rfl⟩
              have HRM : Hid (r ∈ l) := by rw [← hr]; exact List.getElem_mem hll
              have HRE := Lib.hid hr
              rw [hr] at e0 hcv
              have HCV := Lib.hid hcv
              have HRL : Hid (r.1.length ≤ 140737488355328) := HL.out.keys r HRM.out
              have HSL := Lib.hid hS
              have HIN := Lib.hid hin
              clear hr hc2 hcv hS hin
              obtain ⟨rk, rc⟩ := r
              have hm0 : (0 : Int) ≤ (m : Int) := by omega
              have hmI : (m : Int) < (len : Int) := by omega
              have hwm : IntKind.i64.wrap ((m : Int) - 1) = (m : Int) - 1 := by rw [IntKind.wrap_i64]; omega
              go_wp2_with fail
              refine (set_any xo xlen xcap L (rk, rc) cv _ HSL.out.rows (by omega) (HCV.out.kept HSL.out.kept) HRL.out).mono ?_
              rintro e w5 ⟨v5, rfl, H5⟩
              obtain ⟨xo', xlen', xcap', hv5, hS5⟩ := HSL.out.step HPK.out.1 HRM.out H5.out
              subst hv5
              have hx5 : xlen' ≤ 132 := by rw [← hS5.rows.hlen]; have := hS5.few; omega
              have HS5 : Hid (∃ L, OrSt w l L xo' xlen' (100 + (len - m)) w5 ∧ ∀ q (hq : q < l.length), m ≤ q → l[q] ∈ L) := by
                have hst := HSL.out.part.set HPK.out.1 HRM.out
                refine ⟨_, ⟨hS5.rows, hS5.part, by have := hS5.few; omega, hS5.kept⟩, fun q hq hmq => ?_⟩
                by_cases e : q = m
                · subst e
                  rw [HRE.out]
                  exact hst.2.1
                · exact hst.2.2 _ (HIN.out q hq (by omega))
              clear hS5 H5
              go_wp2_with fail
              go_roundw
              case rel => exact ⟨m, xo', xlen', xcap', by omega, hx5, rfl, rfl, HS5⟩
              case measure => simp [intOf]
            · obtain ⟨L, hS, hin⟩ := HS.out
              have hj00 : j = 0 := by omega
              have HLE : Hid (L = l) := hS.part.all HPK.out.1 fun x hx => by
                obtain ⟨q, hq, rfl⟩ := List.getElem_of_mem hx
                exact hin q hq (by omega)
              have HRW : Hid (RowsIs wr xo xlen l ∧ Kept [] w wr) := by
                have h := hS.rows
                rw [HLE.out] at h
                exact ⟨h, hS.kept⟩
              clear hS hin HS HLE
              subst hj00
              clear hj0
              go_wp2_with fail
              refine (rsame_self xo xlen xcap l ao len cap _ HRW.out.1 (HL.out.kept HRW.out.2)).mono ?_
              rintro e w5 ⟨rfl, hk5⟩
              have HK5 := Lib.hid hk5
              clear hk5
              go_wp2_with fail
              go_ret
              exact ⟨rfl, HRW.out.2.trans HK5.out⟩
  · have q2 : (n != 0) = true := by simpa using hn
    have q2' : (n == 0) = false := by simpa using hn
    clear hn HP2 HK1
    go_wp2_with fail
    go_ret
    exact ⟨rfl, HK2.out⟩
end Go.Proofs.YtdaofgmdledcbaaDoor

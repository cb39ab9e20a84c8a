/-
  DiskApart's walk, on the contracts.
  Conditions: none.
-/
import Derived.Test.YthhcopipamjelaaApart
namespace Go.Proofs.Ythhcopipamjelaa
open Go.RowKit Go.Maps

/-- What a walk is told of a slice of bytes whose address may be unknown where it is empty. -/
structure ByteRow (w : World) (ao : Option Addr) (b o : Nat) (l : List UInt8) : Prop where
  at' : 0 < l.length → ao = some ⟨b, o, none⟩
  lt : 0 < l.length → b < w.heap.size
  range : 0 < l.length → w.rangeAt b o (bv l)
  short : l.length ≤ 9223372036854775807

theorem ByteRow.cell {w wr : World} {ao : Option Addr} {b o : Nat} {l : List UInt8} (h : ByteRow w ao b o l) (hk : Kept [] w wr) (k : Nat) (hl : k < l.length) : wr.cell? ⟨b, o + k, none⟩ = some (.int .u8 ((l.getD k 0).toNat : Int)) := by
  rw [hk.cell (p := ⟨b, o + k, none⟩) (h.lt (by omega)) (by simp)]
  exact h.range (by omega) k _ (by simp [bv, hl])

theorem lt_of_cell' {w : World} {p : Addr} {v : Value} (h : w.cell? p = some v) : p.block < w.heap.size := World.block_lt_of_cell? w p h

set_option maxHeartbeats 8000000 in
set_option maxRecDepth 100000 in
theorem apart_walk (a0 a1 a2 : Option Addr) (b0 o0 c0 b1 o1 c1 b2 o2 c2 : Nat) (l0 l1 l2 : List UInt8) (w : World) (H0 : ByteRow w a0 b0 o0 l0) (H1 : ByteRow w a1 b1 o1 l1) (H2 : ByteRow w a2 b2 o2 l2) :
    Calls Try.prog 6 #[.slice a0 l0.length c0, .slice a1 l1.length c1, .slice a2 l2.length c2] w fun e w' => e = .returned (.bool true) ∧ Kept [] w w' := by
  have hs0 := H0.short
  have hs1 := H1.short
  have hs2 := H2.short
  obtain ⟨N, hN1, hN2, hN⟩ : ∃ N, N ≤ l0.length ∧ N ≤ 40 ∧ (N = l0.length ∨ (N = 40 ∧ 40 < l0.length)) := by
    rcases Nat.lt_or_ge 40 l0.length with h | h
    · exact ⟨40, by omega, by omega, .inr ⟨rfl, h⟩⟩
    · exact ⟨l0.length, by omega, by omega, .inl rfl⟩
  rcases hN with hN | hN
  all_goals
    have HN := Lib.hid hN
    clear hN
    go_enter Try.func6, Try.ntmps6
    go_wp2_with fail
    refine (shown_true w).mono ?_
    rintro e w1 ⟨rfl, hk1⟩
    have HK1 := Lib.hid hk1
    clear hk1
    go_wp2_with fail
    refine (new_ok 8 _ (by omega) (by omega)).mono ?_
    rintro e w2 ⟨rfl, hd2, hk2⟩
    obtain ⟨a, ha⟩ : ∃ a, a = w1.heap.size + 1 := ⟨_, rfl⟩
    obtain ⟨m, hm⟩ : ∃ m, m = w1.heap.size := ⟨_, rfl⟩
    rw [← ha, ← hm] at hd2
    rw [← ha]
    have R0 : Hid (OneD w2 a m 0 (aheadL l0 0) (DiskS.new 8 m)) := OneD.new hd2 l0
    have ga : w.heap.size ≤ a := by have := HK1.out.size; omega
    have gm : w.heap.size ≤ m := by have := HK1.out.size; omega
    have HK2 := Lib.hid (HK1.out.trans hk2)
    clear hd2 hk2 ha hm HK1
    go_wp2_with fail
    go_loopw [10] (fun i wr => ∃ (k : Nat) (S : DiskS), k ≤ N ∧ i = .int .i64 k ∧ OneD wr a m k (aheadL l0 k) S ∧ Kept [] w wr) (fun i _ => 40 - (intOf i).toNat)
    case atStart => exact ⟨0, _, by omega, rfl, R0.out, HK2.out⟩
    case round =>
      obtain ⟨k, S, hkN, rfl, HR, HKw⟩ := hrel
      have hNN := HN.out
      by_cases hin : k < N
      · obtain rfl : a0 = some ⟨b0, o0, none⟩ := H0.at' (by omega)
        have hcell := H0.cell HKw k (by omega)
        obtain ⟨c, hc⟩ : ∃ c, c = l0.getD k 0 := ⟨_, rfl⟩
        rw [← hc] at hcell
        obtain ⟨p, hpm⟩ : ∃ p : Nat, (k : Int) % 8 = p := ⟨k % 8, by omega⟩
        have hp8 : p < 8 := by omega
        have hpk : p = k % 8 := by omega
        have HPM := Lib.hid hpm
        have HPK := Lib.hid hpk
        have HCX := Lib.hid hc
        clear hpm hc hpk
        have hk40 : k < 40 := by omega
        have hkl : k < l0.length := by omega
        clear hNN
        go_wp2_with fail
        refine (full_any c _).mono ?_
        rintro e w4 ⟨rfl, rfl⟩
        go_wp2_with fail
        rw [HPM.out]
        refine (write_new a S p (fullL c) 64 _ _ HR.disk (by have := HR.writes; omega) (fullL_length _)).mono ?_
        rintro e w4 ⟨rfl, hd4, hk4⟩
        have HNX := Lib.hid (HR.next p hp8 c hd4)
        have HK4 := Lib.hid (HKw.into hk4 (by rw [HR.map]; simp; exact ⟨ga, gm⟩))
        rw [HPK.out, HCX.out] at HNX
        clear hd4 hk4
        go_wp2_with fail
        go_roundw
        case rel => exact ⟨k + 1, _, by omega, by go_num, HNX.out, HK4.out⟩
        case measure => simp [intOf]; omega
      · obtain rfl : k = N := by omega
        first
          | (have hge : l0.length ≤ k := by omega)
          | (have hge : 40 ≤ k := by omega
             have hlt : k < l0.length := by omega)
        clear hNN
        go_wp2_with fail
        refine (clone_any a S _ HR.disk).mono ?_
        obtain ⟨d, hd⟩ : ∃ d, d = wr.heap.size := ⟨_, rfl⟩
        rw [← hd]
        rintro e w3 ⟨rfl, hd3, hk3⟩
        have HR3 := Lib.hid (HR.kept hk3 (by simp) (by simp))
        have HC3 : Hid (OneD w3 d (d + 1) k (aheadL l0 k) (S.at (d + 1))) := ⟨hd3, HR.off, HR.fused, HR.size, rfl, HR.writes, HR.len, HR.holds⟩
        have HK3 := Lib.hid (HKw.trans hk3)
        have had : a < d := by rw [hd]; exact HR.disk.lt
        have hmd : m < d := by rw [hd, ← HR.map]; exact HR.disk.map.lt
        have hgd : w.heap.size ≤ d := by rw [hd]; exact HKw.size
        clear hd hd3 hk3 HR HKw
        go_wp2_with fail
        refine (writes_any d _ _ HC3.out.disk).mono ?_
        rw [show (S.at (d + 1)).writes = S.writes from rfl]
        rintro e w4 ⟨rfl, rfl⟩
        go_wp2_with fail
        refine (writes_any a _ _ HR3.out.disk).mono ?_
        rintro e w4 ⟨rfl, rfl⟩
        go_wp2_with fail
        obtain ⟨bw, hbw⟩ : ∃ bw, bw = w3.heap.size := ⟨_, rfl⟩
        rw [← hbw]
        have hbd : d + 1 < bw := by rw [hbw, show d + 1 = (S.at (d + 1)).m from rfl]; exact HC3.out.disk.map.lt
        have hgb : w.heap.size ≤ bw := by omega
        have hkA : Kept [] w3 (w3.alloc (.cells (bvA (aheadL l0 0 ++ aheadL l0 0)) 48)) := Kept.alloc _ _ _
        have R2 : Hid (MidRel w a m d k 0 bw l0 S (w3.alloc (.cells (bvA (aheadL l0 0 ++ aheadL l0 0)) 48))) :=
          ⟨HR3.out.kept hkA (by simp) (by simp), HC3.out.kept hkA (by simp) (by simp), by rw [hbw]; exact heap_alloc_last _ _, HK3.out.trans hkA⟩
        clear hbw hkA HR3 HC3 HK3
        go_loopw [13] (fun i wr => ∃ q : Nat, q ≤ k ∧ i = .int .i64 q ∧ MidRel w a m d k q bw l0 S wr) (fun i _ => 40 - (intOf i).toNat)
        case atStart => exact ⟨0, by omega, rfl, R2.out⟩
        case round =>
          obtain ⟨q, hqN, rfl, HQ⟩ := hrel
          have hNN := HN.out
          by_cases hin : q < k
          · obtain rfl : a0 = some ⟨b0, o0, none⟩ := H0.at' (by omega)
            have hcell := H0.cell HQ.kept q (by omega)
            obtain ⟨c, hc⟩ : ∃ c, c = l0.getD q 0 := ⟨_, rfl⟩
            rw [← hc] at hcell
            obtain ⟨p, hpm⟩ : ∃ p : Nat, (q : Int) % 8 = p := ⟨q % 8, by omega⟩
            have hp8 : p < 8 := by omega
            have hpk : p = q % 8 := by omega
            have hb0 : b0 ≠ bw := by have := H0.lt (by omega); omega
            obtain ⟨hh1, HNX⟩ := HQ.next p hpk c hc (by omega) (by omega) (by omega) (by omega) hgb
            have hcell2 : (wr.setCell ⟨bw, p, none⟩ (.int .u8 (c.toNat : Int))).cell? ⟨b0, o0 + q, none⟩ = some (.int .u8 (c.toNat : Int)) := by
              rw [(Kept.setCell [bw] wr ⟨bw, p, none⟩ (.int .u8 (c.toNat : Int)) (by simp)).cell (p := ⟨b0, o0 + q, none⟩) (lt_of_cell' hcell) (by simpa using hb0)]
              exact hcell
            have w1c := cell_bvA' HQ.here p (by rw [List.length_append, aheadL_length]; omega)
            have w1f : wr.frozen? ⟨bw, p, none⟩ = false := frozen_of_row wr bw p _ _ HQ.here
            have w2c := cell_bvA' hh1 (8 + p) (by rw [List.length_append, List.length_set, aheadL_length]; omega)
            have w2f : (wr.setCell ⟨bw, p, none⟩ (.int .u8 (c.toNat : Int))).frozen? ⟨bw, 8 + p, none⟩ = false := frozen_of_row _ bw (8 + p) _ _ hh1
            have HX := Lib.hid HNX
            clear hc hpk hh1 HNX
            have hk40 : q < 40 := by omega
            have hkl : q < l0.length := by omega
            clear hNN
            go_wp2_with fail
            go_roundw
            case rel => exact ⟨q + 1, by omega, by go_num, HX.out⟩
            case measure => simp [intOf]; omega
          · obtain rfl : q = k := by omega
            clear hNN
            have HAP := Lib.hid ((HQ.ap ga gm hgd hgb had hmd (by omega)).le (K' := 40) (by omega))
            clear HQ
            go_wp2_with fail
            go_loopw [14] (fun i wr => ∃ (j : Nat) (wa wb : List UInt8) (S1 S2 : DiskS), j ≤ 40 ∧ i = .int .i64 j ∧ ApRel w a m d (d + 1) bw (40 + 2 * j) wa wb S1 S2 wr) (fun i _ => 40 - (intOf i).toNat)
            case atStart => exact ⟨0, _, _, _, _, by omega, rfl, HAP.out⟩
            case round =>
              obtain ⟨j, wa, wb, S1, S2, hj40, rfl, HJ⟩ := hrel
              by_cases hj : j < 40
              · obtain ⟨p, hpm⟩ : ∃ p : Nat, (3 * (j : Int)) % 8 = p := ⟨3 * j % 8, by omega⟩
                have hp8 : p < 8 := by omega
                have HPM := Lib.hid hpm
                obtain ⟨r, hrm⟩ : ∃ r : Nat, (5 * (j : Int)) % 8 = r := ⟨5 * j % 8, by omega⟩
                have hr8 : r < 8 := by omega
                have HRM := Lib.hid hrm
                clear hpm hrm
                by_cases hj1 : j < l1.length
                · obtain rfl : a1 = some ⟨b1, o1, none⟩ := H1.at' (by omega)
                  have hcell := H1.cell HJ.kept j hj1
                  obtain ⟨c, hc⟩ : ∃ c, c = l1.getD j 0 := ⟨_, rfl⟩
                  rw [← hc] at hcell
                  clear hc
                  go_wp2_with fail
                  refine (full_any c _).mono ?_
                  rintro e w4 ⟨rfl, rfl⟩
                  go_wp2_with fail
                  rw [HPM.out]
                  refine (write_new a S1 p (fullL c) 64 _ _ HJ.d1.disk (by have := HJ.d1.writes; omega) (fullL_length _)).mono ?_
                  rw [(HJ.d1.wr p hp8 c).1]
                  rintro e w4 ⟨rfl, hd4, hk4⟩
                  obtain ⟨hh4, HX⟩ := HJ.write1 p hp8 c hd4 hk4
                  have w1c := cell_bvA' hh4 p (by rw [List.length_append, HJ.d1.len]; omega)
                  have w1f : w4.frozen? ⟨bw, p, none⟩ = false := frozen_of_row w4 bw p _ _ hh4
                  have hb1 := H1.lt (by omega)
                  have hcell2 : w4.cell? ⟨b1, o1 + j, none⟩ = some (.int .u8 (c.toNat : Int)) := by
                    rw [hk4.cell (p := ⟨b1, o1 + j, none⟩) (lt_of_cell' hcell) (by rw [HJ.d1.map]; simp; omega)]
                    exact hcell
                  have HXX := Lib.hid HX
                  clear hcell hd4 hk4 hh4 hb1
                  by_cases hj2 : j < l2.length
                  · clear HXX
                    have hcellB := H2.cell HX.kept j hj2
                    obtain rfl : a2 = some ⟨b2, o2, none⟩ := H2.at' (by omega)
                    obtain ⟨c', hc'⟩ : ∃ c', c' = l2.getD j 0 := ⟨_, rfl⟩
                    rw [← hc'] at hcellB
                    clear hc'
                    obtain ⟨wB, hwB⟩ : ∃ W, W = w4.setCell ⟨bw, p, none⟩ (.int .u8 (c.toNat : Int)) := ⟨_, rfl⟩
                    have HJB := HX
                    rw [← hwB] at HJB
                    have HWB := Lib.hid hwB
                    clear hwB
                    have hpm := HPM.out
                    go_wp2_with fail
                    try rw [← HWB.out]
                    rw [← HWB.out] at hcellB
                    refine (full_any c' _).mono ?_
                    rintro e w5 ⟨rfl, rfl⟩
                    go_wp2_with fail
                    rw [HRM.out]
                    refine (write_new d S2 r (fullL c') 64 _ _ HJB.d2.disk (by have := HJB.d2.writes; omega) (fullL_length _)).mono ?_
                    rw [(HJB.d2.wr r hr8 c').1]
                    rintro e w5 ⟨rfl, hd5, hk5⟩
                    obtain ⟨hh5, HY⟩ := HJB.write2 r hr8 c' hd5 hk5
                    have w2c := cell_bvA' hh5 (8 + r) (by rw [List.length_append, HJB.d1.len, HJB.d2.len]; omega)
                    have w2f : w5.frozen? ⟨bw, 8 + r, none⟩ = false := frozen_of_row w5 bw (8 + r) _ _ hh5
                    have hb2 := H2.lt (by omega)
                    have hcell3 : w5.cell? ⟨b2, o2 + j, none⟩ = some (.int .u8 (c'.toNat : Int)) := by
                      rw [hk5.cell (p := ⟨b2, o2 + j, none⟩) (lt_of_cell' hcellB) (by rw [HJB.d2.map]; simp; omega)]
                      exact hcellB
                    have HYY := Lib.hid HY
                    clear hcellB hd5 hk5 hh5 HY hb2
                    have hrm := HRM.out
                    go_wp2_with fail
                    go_roundw
                    case rel => exact ⟨j + 1, _, _, _, _, by omega, by go_num, HYY.out.le (by omega)⟩
                    case measure => simp [intOf]; omega
                  · clear HX
                    have hpm := HPM.out
                    go_wp2_with fail
                    go_roundw
                    case rel => exact ⟨j + 1, _, _, _, _, by omega, by go_num, HXX.out.le (by omega)⟩
                    case measure => simp [intOf]; omega
                · by_cases hj2 : j < l2.length
                  · have hcellB := H2.cell HJ.kept j hj2
                    obtain rfl : a2 = some ⟨b2, o2, none⟩ := H2.at' (by omega)
                    obtain ⟨c', hc'⟩ : ∃ c', c' = l2.getD j 0 := ⟨_, rfl⟩
                    rw [← hc'] at hcellB
                    clear hc'
                    obtain ⟨wB, hwB⟩ : ∃ W, W = wr := ⟨_, rfl⟩
                    have HJB := HJ
                    rw [← hwB] at HJB
                    have HWB := Lib.hid hwB
                    clear hwB
                    go_wp2_with fail
                    try rw [← HWB.out]
                    rw [← HWB.out] at hcellB
                    refine (full_any c' _).mono ?_
                    rintro e w5 ⟨rfl, rfl⟩
                    go_wp2_with fail
                    rw [HRM.out]
                    refine (write_new d S2 r (fullL c') 64 _ _ HJB.d2.disk (by have := HJB.d2.writes; omega) (fullL_length _)).mono ?_
                    rw [(HJB.d2.wr r hr8 c').1]
                    rintro e w5 ⟨rfl, hd5, hk5⟩
                    obtain ⟨hh5, HY⟩ := HJB.write2 r hr8 c' hd5 hk5
                    have w2c := cell_bvA' hh5 (8 + r) (by rw [List.length_append, HJB.d1.len, HJB.d2.len]; omega)
                    have w2f : w5.frozen? ⟨bw, 8 + r, none⟩ = false := frozen_of_row w5 bw (8 + r) _ _ hh5
                    have hb2 := H2.lt (by omega)
                    have hcell3 : w5.cell? ⟨b2, o2 + j, none⟩ = some (.int .u8 (c'.toNat : Int)) := by
                      rw [hk5.cell (p := ⟨b2, o2 + j, none⟩) (lt_of_cell' hcellB) (by rw [HJB.d2.map]; simp; omega)]
                      exact hcellB
                    have HYY := Lib.hid HY
                    clear hcellB hd5 hk5 hh5 HY hb2
                    have hrm := HRM.out
                    go_wp2_with fail
                    go_roundw
                    case rel => exact ⟨j + 1, _, _, _, _, by omega, by go_num, HYY.out.le (by omega)⟩
                    case measure => simp [intOf]; omega

                  · go_wp2_with fail
                    go_roundw
                    case rel => exact ⟨j + 1, _, _, _, _, by omega, by go_num, HJ.le (by omega)⟩
                    case measure => simp [intOf]; omega
              · obtain rfl : j = 40 := by omega
                go_wp2_with fail
                refine (fuse_any a S1 0 _ HJ.d1.disk (by omega)).mono ?_
                rintro e w4 ⟨rfl, hd4, hk4⟩
                have hw4 : (S1.fuse 0).writes < 4611686018427387904 := by
                  have h1 := HJ.d1.writes
                  have h2 : (S1.fuse 0).writes = S1.writes := by unfold DiskS.fuse; split <;> (try split) <;> rfl
                  omega
                have HD4 := Lib.hid hd4
                have HK4 := Lib.hid hk4
                clear hd4 hk4
                go_wp2_with fail
                refine (full_at 1 _ (by omega) (by omega)).mono ?_
                rintro e w5 ⟨rfl, rfl⟩
                obtain ⟨lf, hlf, hlf64⟩ : ∃ lf, fullL (UInt8.ofNat (1 : Int).toNat) = lf ∧ lf.length = 64 := ⟨_, rfl, fullL_length _⟩
                rw [hlf]
                clear hlf
                go_wp2_with fail
                refine (write_new a (S1.fuse 0) 0 lf 64 _ _ HD4.out hw4 hlf64).mono ?_
                rintro e w5 ⟨rfl, hd5, hk5⟩
                have HE5 := Lib.hid (HJ.ends (by omega) lf hlf64 HK4.out hd5 hk5)
                clear hd5 hk5 hw4
                generalize ((S1.fuse 0).wr 0 lf).2 = S1e at *
                go_wp2_with fail
                go_loopw [15] (fun i wr => ∃ t : Nat, t ≤ 8 ∧ i = .int .i64 t ∧ EndRel w a m d (d + 1) bw wa wb S1e S2 wr) (fun i _ => 8 - (intOf i).toNat)
                case atStart => exact ⟨0, by omega, rfl, HE5.out⟩
                case round =>
                  obtain ⟨t, ht8, rfl, HE⟩ := hrel
                  by_cases ht : t < 8
                  · have htl : t < wb.length := by rw [HE.d2.len]; exact ht
                    go_wp2_with fail
                    refine (read_ok d S2 t _ HE.d2.disk (HE.d2.reach t ht)).mono ?_
                    rw [HE.d2.holds t htl]
                    obtain ⟨c, hc⟩ : ∃ c, wb[t] = c := ⟨_, rfl⟩
                    rw [hc]
                    rintro e w7 ⟨rfl, hw7⟩
                    have hk7 : Kept [] wr w7 := by rw [hw7]; exact Kept.alloc _ _ _
                    have HE7 := Lib.hid (HE.grow hk7)
                    have cvR : ∀ w', Kept [] w7.drew w' → (convert 36 9 (.slice (some ⟨wr.heap.size, 0, none⟩) 64 64)).run Try.prog w' = .ok (.string (strL (fullL c))) w' := fun w' hk =>
                      conv_range w' wr.heap.size 0 64 (fullL c) 64 (fullL_length _) (((Kept.drew [] w7).trans hk).range (by rw [hw7]; simp) (by simp) (by rw [hw7]; exact range_new _ _ _))
                    have cvC : ∀ w', Kept [] w7.drew w' → w'.cell? ⟨bw, 8 + t, none⟩ = some (.int .u8 (c.toNat : Int)) := fun w' hk => by
                      rw [← hc]; exact (HE7.out.grow ((Kept.drew [] w7).trans hk)).cell2 t htl
                    have Hc := Lib.hid hc
                    clear hc hw7 hk7
                    go_wp2_with fail
                    refine wp_region_grow (List.replicate 9 true ++ [false] ++ List.replicate 3 true) [] (by kernel_rfl) (fun _ _ d _ _ h => by cases d <;> exact h) (by kernel_rfl) rfl (by kernel_rfl) ?_
                    simp only [List.replicate_succ, List.replicate_zero, List.cons_append, List.nil_append, List.zip_cons_cons, List.zip_nil_left]
                    repeat (apply wpGrow_take; (case hw => rfl); (case hv => intro w' hk; go_simp; with_reducible rfl); simp only [Act.put, List.setIfInBounds_toArray, List.set_cons_zero, List.set_cons_succ])
                    refine wpGrow_force (by rfl) (fun K hK => ?_)
                    go_simp
                    refine (full_any c _).mono ?_
                    rintro e w8 ⟨rfl, hw8⟩
                    have hk8 : Kept [] w7.drew w8 := by rw [hw8]; exact Kept.alloc _ _ _
                    refine hK _ _ hk8 ?_
                    clear hK K cvR cvC
                    have cvF : ∀ w', Kept [] w8 w' → (convert 36 9 (.slice (some ⟨w7.heap.size, 0, none⟩) 64 64)).run Try.prog w' = .ok (.string (strL (fullL c))) w' := fun w' hk =>
                      conv_range w' w7.heap.size 0 64 (fullL c) 64 (fullL_length _) (hk.range (by rw [hw8]; simp) (by simp) (by rw [hw8]; exact range_new w7.drew _ _))
                    have HE8 := Lib.hid (HE7.out.grow ((Kept.drew [] w7).trans hk8))
                    clear hw8 hk8
                    repeat (apply wpGrow_take; (case hw => rfl); (case hv => intro w' hk; go_simp; with_reducible rfl); simp only [Act.put, List.setIfInBounds_toArray, List.set_cons_zero, List.set_cons_succ])
                    refine wpGrow_nil ?_
                    clear cvF
                    go_wp2_with fail
                    go_roundw
                    case rel => exact ⟨t + 1, by omega, by go_num, HE8.out⟩
                    case measure => simp [intOf]; omega
                  · obtain rfl : t = 8 := by omega
                    go_wp2_with fail
                    refine (boot_any a S1e _ HE.d1).mono ?_
                    rintro e w6 ⟨rfl, hd6, hk6⟩
                    obtain ⟨HB, hoff⟩ := HE.boot hd6 hk6
                    have HB6 := Lib.hid HB
                    have HOF := Lib.hid hoff
                    clear HB hoff hd6 hk6
                    generalize S1e.boot = S1b at *
                    go_wp2_with fail
                    go_loopw [18] (fun i wr => ∃ t : Nat, t ≤ 8 ∧ i = .int .i64 t ∧ EndRel w a m d (d + 1) bw wa wb S1b S2 wr) (fun i _ => 8 - (intOf i).toNat)
                    case atStart => exact ⟨0, by omega, rfl, HB6.out⟩
                    case round =>
                      obtain ⟨t, ht8, rfl, HE⟩ := hrel
                      by_cases ht : t < 8
                      · have htl : t < wa.length := by rw [HE.len]; exact ht
                        go_wp2_with fail
                        refine (read_ok a S1b t _ HE.d1 (HE.reach1 HOF.out t ht)).mono ?_
                        rw [HE.holds t htl]
                        obtain ⟨c, hc⟩ : ∃ c, wa[t] = c := ⟨_, rfl⟩
                        rw [hc]
                        rintro e w7 ⟨rfl, hw7⟩
                        have hk7 : Kept [] wr w7 := by rw [hw7]; exact Kept.alloc _ _ _
                        have HE7 := Lib.hid (HE.grow hk7)
                        have cvR : ∀ w', Kept [] w7.drew w' → (convert 36 9 (.slice (some ⟨wr.heap.size, 0, none⟩) 64 64)).run Try.prog w' = .ok (.string (strL (fullL c))) w' := fun w' hk =>
                          conv_range w' wr.heap.size 0 64 (fullL c) 64 (fullL_length _) (((Kept.drew [] w7).trans hk).range (by rw [hw7]; simp) (by simp) (by rw [hw7]; exact range_new _ _ _))
                        have cvC : ∀ w', Kept [] w7.drew w' → w'.cell? ⟨bw, t, none⟩ = some (.int .u8 (c.toNat : Int)) := fun w' hk => by
                          rw [← hc]; exact (HE7.out.grow ((Kept.drew [] w7).trans hk)).cell1 t htl
                        have Hc := Lib.hid hc
                        clear hc hw7 hk7
                        go_wp2_with fail
                        refine wp_region_grow (List.replicate 9 true ++ [false] ++ List.replicate 3 true) [] (by kernel_rfl) (fun _ _ d _ _ h => by cases d <;> exact h) (by kernel_rfl) rfl (by kernel_rfl) ?_
                        simp only [List.replicate_succ, List.replicate_zero, List.cons_append, List.nil_append, List.zip_cons_cons, List.zip_nil_left]
                        repeat (apply wpGrow_take; (case hw => rfl); (case hv => intro w' hk; go_simp; with_reducible rfl); simp only [Act.put, List.setIfInBounds_toArray, List.set_cons_zero, List.set_cons_succ])
                        refine wpGrow_force (by rfl) (fun K hK => ?_)
                        go_simp
                        refine (full_any c _).mono ?_
                        rintro e w8 ⟨rfl, hw8⟩
                        have hk8 : Kept [] w7.drew w8 := by rw [hw8]; exact Kept.alloc _ _ _
                        refine hK _ _ hk8 ?_
                        clear hK K cvR cvC
                        have cvF : ∀ w', Kept [] w8 w' → (convert 36 9 (.slice (some ⟨w7.heap.size, 0, none⟩) 64 64)).run Try.prog w' = .ok (.string (strL (fullL c))) w' := fun w' hk =>
                          conv_range w' w7.heap.size 0 64 (fullL c) 64 (fullL_length _) (hk.range (by rw [hw8]; simp) (by simp) (by rw [hw8]; exact range_new w7.drew _ _))
                        have HE8 := Lib.hid (HE7.out.grow ((Kept.drew [] w7).trans hk8))
                        clear hw8 hk8
                        repeat (apply wpGrow_take; (case hw => rfl); (case hv => intro w' hk; go_simp; with_reducible rfl); simp only [Act.put, List.setIfInBounds_toArray, List.set_cons_zero, List.set_cons_succ])
                        refine wpGrow_nil ?_
                        clear cvF
                        go_wp2_with fail
                        go_roundw
                        case rel => exact ⟨t + 1, by omega, by go_num, HE8.out⟩
                        case measure => simp [intOf]; omega
                      · obtain rfl : t = 8 := by omega
                        go_wp2_with fail
                        go_ret
                        exact ⟨rfl, HE.kept⟩

theorem rowOf {w : World} {ao : Option Addr} {len : Nat} {l : List UInt8} (h : BytesArg w ao len l) : ∃ b o, ByteRow w ao b o l := by
  obtain ⟨rfl, hl, h0 | ⟨b, o, rfl, hb, hc⟩⟩ := h
  · exact ⟨0, 0, fun h => absurd h (by omega), fun h => absurd h (by omega), fun h => absurd h (by omega), hl⟩
  · exact ⟨b, o, fun _ => rfl, fun _ => hb, fun _ => hc, hl⟩

theorem apart_any (a0 a1 a2 : Option Addr) (n0 c0 n1 c1 n2 c2 : Nat) (l0 l1 l2 : List UInt8) (w : World) (h0 : BytesArg w a0 n0 l0) (h1 : BytesArg w a1 n1 l1) (h2 : BytesArg w a2 n2 l2) :
    Calls Try.prog 6 #[.slice a0 n0 c0, .slice a1 n1 c1, .slice a2 n2 c2] w fun e w' => e = .returned (.bool true) ∧ Kept [] w w' := by
  obtain ⟨b0, o0, r0⟩ := rowOf h0
  obtain ⟨b1, o1, r1⟩ := rowOf h1
  obtain ⟨b2, o2, r2⟩ := rowOf h2
  rw [← h0.1, ← h1.1, ← h2.1]
  exact apart_walk a0 a1 a2 b0 o0 c0 b1 o1 c1 b2 o2 c2 l0 l1 l2 w r0 r1 r2

end Go.Proofs.Ythhcopipamjelaa

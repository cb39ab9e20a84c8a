/-
  Layer 4: the walk of BlockfsApart.
  Conditions: those that each theorem states.
-/
import Derived.Test.YtiedoocgbajjjaaGreatDoorFRows
namespace Go.Proofs.YtiedoocgbajjjaaGreatDoor
open Go.RowKit Go.Maps
set_option maxRecDepth 100000

/-- The two rows under way: what Stat and Read answered at the places l. -/
structure ApSt (wB : World) (base : Nat) (T : PTr) (l : List (List UInt8)) (wr : World) (va vb : Value) : Prop where
  kept : Kept [] wB wr
  size : wB.heap.size = base
  a : OwnN3 base wr va (l.map fun p => statN (atP T ([47, 111, 110, 101] ++ p)).2)
  b : OwnTx base wr vb (l.map fun p => (readP T ([47, 111, 110, 101] ++ p)).2)

/-- Behind them: another tree, of which the same is told at those places. -/
structure Ap2 (w : World) (f d j m base : Nat) (T : PTr) (l : List (List UInt8)) (n : Nat) (wr : World) (va vb : Value) : Prop where
  u : ∃ U, Grd w f d j m 900 2 n U wr ∧ U.rc.kind = 2 ∧ ∀ p, readP U ([47, 111, 110, 101] ++ p) = readP T ([47, 111, 110, 101] ++ p) ∧ statN (atP U ([47, 111, 110, 101] ++ p)).2 = statN (atP T ([47, 111, 110, 101] ++ p)).2
  a : OwnN3 base wr va (l.map fun p => statN (atP T ([47, 111, 110, 101] ++ p)).2)
  b : OwnTx base wr vb (l.map fun p => (readP T ([47, 111, 110, 101] ++ p)).2)

theorem Ap2.step {w wr wd : World} {f d j m base n n' : Nat} {T U : PTr} {l : List (List UInt8)} {va vb : Value} {x : EdP} {p : List UInt8} (h : Ap2 w f d j m base T l n wr va vb)
    (hU1 : U.rc.kind = 2) (hU2 : ∀ p, readP U ([47, 111, 110, 101] ++ p) = readP T ([47, 111, 110, 101] ++ p) ∧ statN (atP U ([47, 111, 110, 101] ++ p)).2 = statN (atP T ([47, 111, 110, 101] ++ p)).2)
    (hx : x.path = [47, 116, 119, 111] ++ p) (hG : Grd w f d j m 900 2 n' (doP 900 2 U [x]).2 wd) (hk : Kept [f, d, m, j] wr wd) (hlt : ∀ b ∈ [f, d, m, j], b < base) : Ap2 w f d j m base T l n' wd va vb := by
  refine ⟨⟨_, hG, (apart_step (x := x) (p := p) hU1 hx rfl []).1, fun q => ?_⟩, h.a.kept hk (fun g hg hh => ?_), h.b.kept hk (fun g hg hh => ?_)⟩
  · obtain ⟨_, h2, h3⟩ := apart_step (x := x) (p := p) hU1 hx rfl q (N := 900) (q := 2)
    exact ⟨h2.trans (hU2 q).1, (statN_eq h3).trans (hU2 q).2⟩
  · have := (h.a.lt hg).1
    have := hlt g hh
    omega
  · have := (h.b.lt hg).1
    have := hlt g hh
    omega

set_option maxRecDepth 100000 in
set_option maxHeartbeats 16000000 in
theorem apart_walk (ao : Option Addr) (len cap : Nat) (H : List EdH) (P : List EdP) (ao2 : Option Addr) (len2 cap2 : Nat) (H2 : List EdH) (P2 : List EdP) (lo : Option Addr) (ll lc : Nat) (L : List (List UInt8)) (w : World)
    (hA : EdsIn w ao len cap H P) (hA2 : EdsIn w ao2 len2 cap2 H2 P2) (hL : TextsIn w lo ll L) :
    Calls Tryz.prog 5 #[.slice ao len cap, .slice ao2 len2 cap2, .slice lo ll lc] w fun e w' => e = .returned (.bool true) ∧ Kept [] w w' := by
  have HA := Lib.hid hA
  have HB := Lib.hid hA2
  have HL := Lib.hid hL
  clear hA hA2 hL
  go_enter Tryz.func5, Tryz.ntmps5
  go_wp2_with fail
  refine (shown4_any w).mono ?_
  rintro e w1 ⟨rfl, hk1⟩
  have HG := Lib.hid (ground_grd w w1 hk1 900 2 ⟨by omega, by omega, by omega⟩ rfl)
  clear hk1
  go_wp2_with fail
  refine HG.out.mono ?_
  rintro e w2 ⟨f, d, j, m, rfl, HW2⟩
  clear HG
  go_wp2_with fail
  have HD0 : Hid (Calls Tryz.prog 14 #[.pointer (some ⟨f, 0, none⟩), .slice (some ⟨w2.heap.size, 0, none⟩) 2 2] (w2.alloc (.cells #[.int .i64 2, .string (strL [47, 111, 110, 101]), .int .i64 493, .slice none 0 0, .int .i64 2, .string (strL [47, 116, 119, 111]), .int .i64 493, .slice none 0 0] 35)) fun e w' => ∃ c, e = .returned (.int .i64 c) ∧ Hid (∃ T, Grd w f d j m 900 2 1 T w')) := by
    have hk : Kept [] w2 (w2.alloc (.cells #[.int .i64 2, .string (strL [47, 111, 110, 101]), .int .i64 493, .slice none 0 0, .int .i64 2, .string (strL [47, 116, 119, 111]), .int .i64 493, .slice none 0 0] 35)) := Kept.alloc _ _ _
    refine ((HW2.out.1.go hk).doo (by omega) (edarg2 (B := []) (B2 := []) (heap_alloc_last _ _) (argB_nil _) (by decide) (argB_nil _) (by decide))).mono ?_
    rintro e w' ⟨rfl, h1, h2⟩
    exact ⟨_, rfl, _, h1⟩
  refine HD0.out.mono ?_
  rintro e w3 ⟨c0, rfl, HW3⟩
  clear HD0
  obtain ⟨N, hN⟩ : ∃ N, min len 20 = N := ⟨_, rfl⟩
  have hN1 : N ≤ len := by omega
  have hN2 : N ≤ 20 := by omega
  have HN := Lib.hid hN
  clear hN
  go_wp2_with fail
  go_loopw [10] (fun i wr => ∃ k : Nat, k ≤ N ∧ i = .int .i64 k ∧ Hid (∃ T, Grd w f d j m 900 2 (k + 1) T wr)) (fun i _ => N - (intOf i).toNat)
  case atStart => exact ⟨0, by omega, rfl, HW3.out⟩
  case round =>
    obtain ⟨k, hk, rfl, HR⟩ := hrel
    go_upto_region 7 with (fail)
    go_cut [49] (fun sv wx => sv = .bool (decide (k < N)) ∧ Hid (wr = wx))
    case first =>
      have hNo := HN.out
      by_cases h1 : (k : Int) < (len : Int)
      · by_cases h2 : (k : Int) < 20
        · have h3 : decide (k < N) = true := by simp; omega
          clear hNo
          go_wp2_with fail
          go_meet
          exact ⟨by rw [h3], rfl⟩
        · have h3 : decide (k < N) = false := by simp; omega
          clear hNo
          go_wp2_with fail
          go_meet
          exact ⟨by rw [h3], rfl⟩
      · have h3 : decide (k < N) = false := by simp; omega
        clear hNo
        go_wp2_with fail
        go_meet
        exact ⟨by rw [h3], rfl⟩
    obtain ⟨rfl, hwr⟩ := hcut
    have hwr' := hwr.out
    subst hwr'
    by_cases hlt : k < N
    · obtain ⟨T, hT⟩ := HR.out
      have HT := Lib.hid hT
      have q1 : (k : Int) < (len : Int) := by omega
      have q2 : (k : Int) < 20 := by omega
      have hkl : k < len := by omega
      obtain ⟨b, o, x, rfl, hb, hx, c0', c1', c2', c3'⟩ := HA.out.cells hkl (by rw [HA.out.len.2]; exact hkl)
      have hsh := HA.out.short _ (List.getElem_mem (show k < P.length by rw [HA.out.len.2]; exact hkl))
      obtain ⟨y, hy⟩ : ∃ y, P[k]'(by rw [HA.out.len.2]; exact hkl) = y := ⟨_, rfl⟩
      rw [hy] at hx c0' c1' c2' hsh
      have hk0 := hT.kept
      have c0 := (hk0.cell (p := ⟨b, o + k * 4, none⟩) hb (by simp)).trans c0'
      have c1 := (hk0.cell (p := ⟨b, o + k * 4 + 1, none⟩) hb (by simp)).trans c1'
      have c2 := (hk0.cell (p := ⟨b, o + k * 4 + 2, none⟩) hb (by simp)).trans c2'
      have c3 := (hk0.cell (p := ⟨b, o + k * 4 + 3, none⟩) hb (by simp)).trans c3'
      have HX : Hid (ArgB wr x.ao x.len x.cap y.bytes ∧ y.path.length ≤ 140737488355328) := ⟨hx.bytes.kept hk0, hsh⟩
      have hps : ¬ 9223372036854775807 < 4 + (strL y.path).size := by rw [strL_size]; omega
      obtain ⟨yk, hyk⟩ : ∃ a, y.kind = a := ⟨_, rfl⟩
      obtain ⟨ym, hym⟩ : ∃ a, y.mode = a := ⟨_, rfl⟩
      obtain ⟨yp, hyp⟩ : ∃ a, y.path = a := ⟨_, rfl⟩
      obtain ⟨yb, hyb⟩ : ∃ a, y.bytes = a := ⟨_, rfl⟩
      rw [hyk] at c0
      rw [hyp] at c1 hps HX
      rw [hym] at c2
      rw [hyb] at HX
      obtain ⟨g, hg⟩ : ∃ g, wr.heap.size = g := ⟨_, rfl⟩
      obtain ⟨wa, hwa⟩ : ∃ wa, wr.alloc (.cells #[.int .i64 yk, .string (strL yp), .int .i64 ym, .slice x.ao x.len x.cap] 35) = wa := ⟨_, rfl⟩
      have hra : wa.heap[g]? = some (.cells #[.int .i64 yk, .string (strL yp), .int .i64 ym, .slice x.ao x.len x.cap] 35) := by rw [← hwa, ← hg]; exact heap_alloc_last _ _
      have hka : Kept [] wr wa := by rw [← hwa]; exact Kept.alloc _ _ _
      obtain ⟨wb, hwb⟩ : ∃ wb, wa.setCell ⟨g, 1, none⟩ (.string (strL ([47, 111, 110, 101] ++ yp))) = wb := ⟨_, rfl⟩
      have hkb : Kept [g] wa wb := by rw [← hwb]; exact Kept.setCell _ _ _ _ (by simp)
      have hrb : wb.heap[g]? = some (.cells #[.int .i64 yk, .string (strL ([47, 111, 110, 101] ++ yp)), .int .i64 ym, .slice x.ao x.len x.cap] 35) := by rw [← hwb]; exact rowSet hra 1 _
      have e1 : wa.cell? ⟨g, 1, none⟩ = some (.string (strL yp)) := cell_of_row _ _ 1 _ _ _ hra
      have fe : ∀ q, wa.frozen? ⟨g, q, none⟩ = false := fun q => frozen_of_row _ _ q _ _ hra
      have b0 : wb.cell? ⟨g, 0, none⟩ = some (.int .i64 yk) := cell_of_row _ _ 0 _ _ _ hrb
      have b1 : wb.cell? ⟨g, 1, none⟩ = some (.string (strL ([47, 111, 110, 101] ++ yp))) := cell_of_row _ _ 1 _ _ _ hrb
      have b2 : wb.cell? ⟨g, 2, none⟩ = some (.int .i64 ym) := cell_of_row _ _ 2 _ _ _ hrb
      have b3 : wb.cell? ⟨g, 3, none⟩ = some (.slice x.ao x.len x.cap) := cell_of_row _ _ 3 _ _ _ hrb
      have hwb2 : wa.setCell ⟨g, 1, none⟩ (.string ({ data := #[47, 111, 110, 101] } ++ strL yp)) = wb := by rw [← hwb, show ({ data := #[47, 111, 110, 101] } : ByteArray) ++ strL yp = strL ([47, 111, 110, 101] ++ yp) from strL_cat _ _]
      have hkk : Kept [] wr wb := hka.into hkb (by simp; omega)
      have HDO := Lib.hid ((HT.out.go hkk).lit (by omega) yk ym ([47, 111, 110, 101] ++ yp) yb x.ao x.len x.cap (HX.out.1.kept hkk) (by have := HX.out.2; simp; omega))
      clear hT hsh hx c0' c1' c2' c3' hk0 hy hyk hym hyp hyb hra hka hkb hrb hwb hkk HT HX
      go_wp2_with fail
      refine HDO.out.mono ?_
      rintro e wd ⟨rfl, HD⟩
      have HK : Hid (∃ T, Grd w f d j m 900 2 (k + 1 + 1) T wd) := ⟨_, HD.out.1⟩
      clear HDO HD hwb2 b0 b1 b2 b3 e1 fe hwa
      go_wp2_with fail
      go_roundw
      case rel => exact ⟨k + 1, by omega, by go_num, HK⟩
      case measure => simp [intOf]; omega
    · obtain ⟨T, hT⟩ := HR.out
      have HT := Lib.hid (hT.up (n' := 21) (by omega))
      have hTk : T.rc.kind = 2 := hT.fits.kind
      have HTK := Lib.hid hTk
      obtain ⟨wB, hwB⟩ : ∃ wB, wB = wr := ⟨_, rfl⟩
      have HTB : Hid (Grd w f d j m 900 2 21 T wB) := by rw [hwB]; exact HT
      obtain ⟨base, hbase⟩ : ∃ base, wr.heap.size = base := ⟨_, rfl⟩
      obtain ⟨wp, hwp⟩ : ∃ wp, wr.alloc (.cells #[] 48) = wp := ⟨_, rfl⟩
      obtain ⟨wq, hwq⟩ : ∃ wq, wp.alloc (.cells #[] 9) = wq := ⟨_, rfl⟩
      have HST0 : Hid (ApSt wB base T (L.take 0) wq (.slice (some ⟨base, 0, none⟩) 0 0) (.slice (some ⟨wp.heap.size, 0, none⟩) 0 0)) := by
        have h1 := OwnN3.empty wr base (by omega)
        rw [hwp, hbase] at h1
        have h2 := OwnTx.empty wp base (by rw [← hwp, size_alloc]; omega)
        rw [hwq] at h2
        have hk1 : Kept [] wr wp := by rw [← hwp]; exact Kept.alloc _ _ _
        have hk2 : Kept [] wp wq := by rw [← hwq]; exact Kept.alloc _ _ _
        exact ⟨by rw [hwB]; exact hk1.trans hk2, by rw [hwB, hbase], h1.kept hk2 (by simp), h2⟩
      obtain ⟨K, hK⟩ : ∃ K, min ll 20 = K := ⟨_, rfl⟩
      have hK1 : K ≤ ll := by omega
      have hK2 : K ≤ 20 := by omega
      have HK := Lib.hid hK
      clear HR hN1 hN2 HN hk hT hTk hK HT hwB
      go_wp2_with fail
      clear hwp hwq hbase hlt
      go_loopw [12, 13, 14] (fun va vb i wz => ∃ z : Nat, z ≤ K ∧ i = .int .i64 z ∧ (∃ a c, va = .slice a z c) ∧ Hid (ApSt wB base T (L.take z) wz va vb)) (fun _ _ i _ => K - (intOf i).toNat)
      case atStart => exact ⟨0, by omega, rfl, ⟨_, _, rfl⟩, HST0.out⟩
      case round =>
        obtain ⟨z, hz, rfl, ⟨va1, va2, rfl⟩, HZ⟩ := hrel
        go_upto_region 15 with (fail)
        go_cut [73] (fun sv wx => sv = .bool (decide (z < K)) ∧ Hid (wr = wx))
        case first =>
          have hNo := HK.out
          by_cases h1 : (z : Int) < (ll : Int)
          · by_cases h2 : (z : Int) < 20
            · have h3 : decide (z < K) = true := by simp; omega
              clear hNo
              go_wp2_with fail
              go_meet
              exact ⟨by rw [h3], rfl⟩
            · have h3 : decide (z < K) = false := by simp; omega
              clear hNo
              go_wp2_with fail
              go_meet
              exact ⟨by rw [h3], rfl⟩
          · have h3 : decide (z < K) = false := by simp; omega
            clear hNo
            go_wp2_with fail
            go_meet
            exact ⟨by rw [h3], rfl⟩
        obtain ⟨rfl, hwr⟩ := hcut
        have hwr' := hwr.out
        subst hwr'
        by_cases hlt : z < K
        · have hzL : z < L.length := by rw [HL.out.len.1]; omega
          obtain ⟨lb, lof, rfl, hlc⟩ := HL.out.at' z hzL
          have hsh := HL.out.short _ (List.getElem_mem hzL)
          obtain ⟨x, hx⟩ : ∃ x, L[z] = x := ⟨_, rfl⟩
          have hLx : L.take (z + 1) = L.take z ++ [x] := by rw [← hx]; exact (List.take_append_getElem hzL).symm
          rw [hx] at hlc hsh
          have hlb : lb < w.heap.size := World.block_lt_of_cell? w _ hlc
          have HLC : Hid (∀ w', Kept [] wB w' → w'.cell? ⟨lb, lof + z, none⟩ = some (.string (strL x))) := fun w' hk => ((HTB.out.kept.trans hk).cell (p := ⟨lb, lof + z, none⟩) hlb (by simp)).trans hlc
          have hps : ¬ 9223372036854775807 < 4 + (strL x).size := by rw [strL_size]; omega
          have HPL : Hid (([47, 111, 110, 101] ++ x).length ≤ 9223372036854775807) := by show _ ≤ _; simp; omega
          have hl1 := HLC.out wr HZ.out.kept
          have HS := Lib.hid ((HTB.out.go HZ.out.kept).stat ([47, 111, 110, 101] ++ x) HPL.out)
          rw [statN_v] at HS
          obtain ⟨y, hy⟩ : ∃ y, statN (atP T ([47, 111, 110, 101] ++ x)).2 = y := ⟨_, rfl⟩
          obtain ⟨ya, hya⟩ : ∃ a, y.a = a := ⟨_, rfl⟩
          obtain ⟨yb, hyb⟩ : ∃ a, y.b = a := ⟨_, rfl⟩
          obtain ⟨yc, hyc⟩ : ∃ a, y.c = a := ⟨_, rfl⟩
          rw [hy, hya, hyb, hyc] at HS
          obtain ⟨cs, hcs⟩ : ∃ cs, (atP T ([47, 111, 110, 101] ++ x)).1 = cs := ⟨_, rfl⟩
          rw [hcs] at HS
          have HY : Hid (statN (atP T ([47, 111, 110, 101] ++ x)).2 = ⟨ya, yb, yc⟩) := by show _ = _; rw [hy]; cases y; simp_all
          have HLX := Lib.hid hLx
          clear hlc hsh hx hlb hLx hy hya hyb hyc hcs
          go_wp2_with fail
          rw [show ({ data := #[47, 111, 110, 101] } : ByteArray) ++ strL x = strL ([47, 111, 110, 101] ++ x) from strL_cat _ _]
          refine HS.out.mono ?_
          rintro e w4 ⟨rfl, H4⟩
          clear HS
          obtain ⟨g5, hg5⟩ : ∃ g, w4.heap.size = g := ⟨_, rfl⟩
          obtain ⟨w5, hw5⟩ : ∃ w5, w4.alloc (.cells #[.int .i64 ya, .int .i64 yb, .int .i64 yc] 48) = w5 := ⟨_, rfl⟩
          have H5 : Hid (Kept [] wr w5 ∧ w5.heap[g5]? = some (.cells #[.int .i64 ya, .int .i64 yb, .int .i64 yc] 48)) := by
            show _ ∧ _
            rw [← hw5, ← hg5]
            exact ⟨H4.out.2.trans (Kept.alloc _ _ _), heap_alloc_last _ _⟩
          have hl5 := HLC.out w5 (HZ.out.kept.trans H5.out.1)
          have HR5 := Lib.hid ((HTB.out.go (HZ.out.kept.trans H5.out.1)).read ([47, 111, 110, 101] ++ x) HPL.out)
          obtain ⟨cr, hcr⟩ : ∃ c, (readP T ([47, 111, 110, 101] ++ x)).1 = c := ⟨_, rfl⟩
          obtain ⟨B, hB⟩ : ∃ B, (readP T ([47, 111, 110, 101] ++ x)).2 = B := ⟨_, rfl⟩
          rw [hcr, hB] at HR5
          have HBB := Lib.hid hB
          clear hcr hB H4
          go_wp2_with fail
          clear hw5 hg5 hl1 hl5
          rw [show ({ data := #[47, 111, 110, 101] } : ByteArray) ++ strL x = strL ([47, 111, 110, 101] ++ x) from strL_cat _ _]
          refine HR5.out.mono ?_
          rintro e w6 ⟨v, rfl, H6⟩
          clear HR5
          have hr6 := H6.out.2.1.heap (by simp) H5.out.2
          have y0 : w6.cell? ⟨g5, 0, none⟩ = some (.int .i64 ya) := cell_of_row _ _ 0 _ _ _ hr6
          have y1 : w6.cell? ⟨g5, 1, none⟩ = some (.int .i64 yb) := cell_of_row _ _ 1 _ _ _ hr6
          have y2 : w6.cell? ⟨g5, 2, none⟩ = some (.int .i64 yc) := cell_of_row _ _ 2 _ _ _ hr6
          have hk6 : Kept [] wr w6 := H5.out.1.trans H6.out.2.1
          have hlen : ((L.take z).map fun p => statN (atP T ([47, 111, 110, 101] ++ p)).2).length = z := by simp; omega
          have hlen2 : ((L.take z).map fun p => (readP T ([47, 111, 110, 101] ++ p)).2).length = z := by simp; omega
          have hA6 := HZ.out.a.kept hk6 (by simp)
          have hB6 := HZ.out.b.kept hk6 (by simp)
          have hb6 : base ≤ w6.heap.size := by rw [← HZ.out.size]; exact (HZ.out.kept.trans hk6).size
          obtain ⟨v7, w7, hrun7, hA7, hk7⟩ := hA6.app hb6 ⟨ya, yb, yc⟩ (by rw [hlen]; omega)
          have hB7 : OwnTx base w7 u13 _ := hB6.kept hk7 (fun q h1 h2 => sep_rows hA6 hB6 q (by simpa using h2) h1)
          have hOB : OwnB w5.heap.size w6 v B := H6.out.2.2
          obtain ⟨ga, gk, rfl, _⟩ := hOB.val
          have hOB7 : OwnB w5.heap.size w7 _ B := hOB.kept hk7 (fun q h1 h2 => by
            have e1 := (World.ownsRow.lt hOB q h1).1
            have e2 := (HZ.out.a.lt (by simpa using h2)).2
            have := H5.out.1.size
            omega)
          have hKB7 : Kept [] wB w7 := (HZ.out.kept.trans hk6).into hk7 (fun q h1 => by
            have := (hA6.lt (by simpa using h1)).1
            have := HZ.out.size
            omega)
          have cv : (convert 22 9 (.slice ga B.length gk)).run Tryz.prog w7 = .ok (.string (strL B)) w7 := hOB7.slIs.conv
          have hb7 : base ≤ w7.heap.size := by have := hk7.size; omega
          obtain ⟨v8, w8, hrun8, hB8, hk8⟩ := hB7.app hb7 B (by rw [hlen2]; omega)
          have hA8 : OwnN3 base w8 v7 _ := hA7.kept hk8 (fun q h1 h2 => sep_rows hA7 hB7 q h1 (by simpa using h2))
          have hKB8 : Kept [] wB w8 := hKB7.into hk8 (fun q h1 => by
            have := (hB7.lt (by simpa using h1)).1
            have := HZ.out.size
            omega)
          have HS8 : Hid (ApSt wB base T (L.take (z + 1)) w8 v7 v8) := by
            refine ⟨hKB8, HZ.out.size, ?_, ?_⟩
            · rw [HLX.out, List.map_append]
              rw [← HY.out] at hA8
              exact hA8
            · rw [HLX.out, List.map_append]
              rw [← HBB.out] at hB8
              exact hB8
          obtain ⟨a7, c7, e7, _⟩ := hA8.at'
          rw [List.length_append, hlen] at e7
          subst e7
          clear hA6 hB6 hb6 hA7 hk7 hB7 hOB hOB7 hKB7 hb7 hB8 hk8 hA8 hKB8 hlen hlen2 hr6 hk6 hps HB
          go_wp2_with (at_builtin; first | refine wpList_append_run rfl _ _ _ rfl _ _ _ rfl rfl hrun7 ?_ | refine wpList_append_run rfl _ _ _ rfl _ _ _ rfl rfl hrun8 ?_)
          go_roundw
          case rel => exact ⟨z + 1, by omega, by go_num, ⟨_, _, rfl⟩, HS8.out⟩
          case measure => simp [intOf]; omega
        · obtain ⟨N2, hN2⟩ : ∃ N2, min len2 20 = N2 := ⟨_, rfl⟩
          have hN21 : N2 ≤ len2 := by omega
          have hN22 : N2 ≤ 20 := by omega
          have HN2 := Lib.hid hN2
          obtain rfl : z = K := by omega
          have HZ2 : Hid (Ap2 w f d j m base T (L.take z) 21 wr (.slice va1 z va2) u13) := ⟨⟨T, HTB.out.go HZ.out.kept, HTK.out, fun p => ⟨rfl, rfl⟩⟩, HZ.out.a, HZ.out.b⟩
          have HLT : Hid (∀ b ∈ [f, d, m, j], b < base) := fun b hb => by rw [← HZ.out.size]; exact (HTB.out.lt b hb).2
          clear hN2 hz
          go_wp2_with fail
          clear hlt hwr
          go_loopw [19] (fun i wy => ∃ k : Nat, k ≤ N2 ∧ i = .int .i64 k ∧ Hid (Ap2 w f d j m base T (L.take z) (21 + k) wy (.slice va1 z va2) u13)) (fun i _ => N2 - (intOf i).toNat)
          case atStart => exact ⟨0, by omega, rfl, HZ2.out⟩
          case round =>
            obtain ⟨k, hk, rfl, HR⟩ := hrel
            go_upto_region 22 with (fail)
            go_cut [112] (fun sv wx => sv = .bool (decide (k < N2)) ∧ Hid (wr = wx))
            case first =>
              have hNo := HN2.out
              by_cases h1 : (k : Int) < (len2 : Int)
              · by_cases h2 : (k : Int) < 20
                · have h3 : decide (k < N2) = true := by simp; omega
                  clear hNo
                  go_wp2_with fail
                  go_meet
                  exact ⟨by rw [h3], rfl⟩
                · have h3 : decide (k < N2) = false := by simp; omega
                  clear hNo
                  go_wp2_with fail
                  go_meet
                  exact ⟨by rw [h3], rfl⟩
              · have h3 : decide (k < N2) = false := by simp; omega
                clear hNo
                go_wp2_with fail
                go_meet
                exact ⟨by rw [h3], rfl⟩
            obtain ⟨rfl, hwr⟩ := hcut
            have hwr' := hwr.out
            subst hwr'
            by_cases hlt : k < N2
            · obtain ⟨U, hU0, hU1, hU2⟩ := HR.out.u
              have HU := Lib.hid hU0
              have HU3 := Lib.hid (And.intro hU1 hU2)
              clear hU0 hU1 hU2
              have q1 : (k : Int) < (len2 : Int) := by omega
              have q2 : (k : Int) < 20 := by omega
              have hkl : k < len2 := by omega
              obtain ⟨b, o, x, rfl, hb, hx, c0', c1', c2', c3'⟩ := HB.out.cells hkl (by rw [HB.out.len.2]; exact hkl)
              have hsh := HB.out.short _ (List.getElem_mem (show k < P2.length by rw [HB.out.len.2]; exact hkl))
              obtain ⟨y, hy⟩ : ∃ y, P2[k]'(by rw [HB.out.len.2]; exact hkl) = y := ⟨_, rfl⟩
              rw [hy] at hx c0' c1' c2' hsh
              have hk0 := HU.out.kept
              have c0 := (hk0.cell (p := ⟨b, o + k * 4, none⟩) hb (by simp)).trans c0'
              have c1 := (hk0.cell (p := ⟨b, o + k * 4 + 1, none⟩) hb (by simp)).trans c1'
              have c2 := (hk0.cell (p := ⟨b, o + k * 4 + 2, none⟩) hb (by simp)).trans c2'
              have c3 := (hk0.cell (p := ⟨b, o + k * 4 + 3, none⟩) hb (by simp)).trans c3'
              have HX : Hid (ArgB wr x.ao x.len x.cap y.bytes ∧ y.path.length ≤ 140737488355328) := ⟨hx.bytes.kept hk0, hsh⟩
              have hps : ¬ 9223372036854775807 < 4 + (strL y.path).size := by rw [strL_size]; omega
              obtain ⟨yk, hyk⟩ : ∃ a, y.kind = a := ⟨_, rfl⟩
              obtain ⟨ym, hym⟩ : ∃ a, y.mode = a := ⟨_, rfl⟩
              obtain ⟨yp, hyp⟩ : ∃ a, y.path = a := ⟨_, rfl⟩
              obtain ⟨yb, hyb⟩ : ∃ a, y.bytes = a := ⟨_, rfl⟩
              rw [hyk] at c0
              rw [hyp] at c1 hps HX
              rw [hym] at c2
              rw [hyb] at HX
              obtain ⟨g, hg⟩ : ∃ g, wr.heap.size = g := ⟨_, rfl⟩
              obtain ⟨wa, hwa⟩ : ∃ wa, wr.alloc (.cells #[.int .i64 yk, .string (strL yp), .int .i64 ym, .slice x.ao x.len x.cap] 35) = wa := ⟨_, rfl⟩
              have hra : wa.heap[g]? = some (.cells #[.int .i64 yk, .string (strL yp), .int .i64 ym, .slice x.ao x.len x.cap] 35) := by rw [← hwa, ← hg]; exact heap_alloc_last _ _
              have hka : Kept [] wr wa := by rw [← hwa]; exact Kept.alloc _ _ _
              obtain ⟨wb, hwb⟩ : ∃ wb, wa.setCell ⟨g, 1, none⟩ (.string (strL ([47, 116, 119, 111] ++ yp))) = wb := ⟨_, rfl⟩
              have hkb : Kept [g] wa wb := by rw [← hwb]; exact Kept.setCell _ _ _ _ (by simp)
              have hrb : wb.heap[g]? = some (.cells #[.int .i64 yk, .string (strL ([47, 116, 119, 111] ++ yp)), .int .i64 ym, .slice x.ao x.len x.cap] 35) := by rw [← hwb]; exact rowSet hra 1 _
              have e1 : wa.cell? ⟨g, 1, none⟩ = some (.string (strL yp)) := cell_of_row _ _ 1 _ _ _ hra
              have fe : ∀ q, wa.frozen? ⟨g, q, none⟩ = false := fun q => frozen_of_row _ _ q _ _ hra
              have b0 : wb.cell? ⟨g, 0, none⟩ = some (.int .i64 yk) := cell_of_row _ _ 0 _ _ _ hrb
              have b1 : wb.cell? ⟨g, 1, none⟩ = some (.string (strL ([47, 116, 119, 111] ++ yp))) := cell_of_row _ _ 1 _ _ _ hrb
              have b2 : wb.cell? ⟨g, 2, none⟩ = some (.int .i64 ym) := cell_of_row _ _ 2 _ _ _ hrb
              have b3 : wb.cell? ⟨g, 3, none⟩ = some (.slice x.ao x.len x.cap) := cell_of_row _ _ 3 _ _ _ hrb
              have hwb2 : wa.setCell ⟨g, 1, none⟩ (.string ({ data := #[47, 116, 119, 111] } ++ strL yp)) = wb := by rw [← hwb, show ({ data := #[47, 116, 119, 111] } : ByteArray) ++ strL yp = strL ([47, 116, 119, 111] ++ yp) from strL_cat _ _]
              have hkk : Kept [] wr wb := hka.into hkb (by simp; omega)
              have HKK := Lib.hid hkk
              have HDO := Lib.hid ((HU.out.go hkk).lit (by omega) yk ym ([47, 116, 119, 111] ++ yp) yb x.ao x.len x.cap (HX.out.1.kept hkk) (by have := HX.out.2; simp; omega))
              clear hkk hsh hx c0' c1' c2' c3' hk0 hy hyk hym hyp hyb hra hka hkb hrb hwb HX
              go_wp2_with fail

              refine HDO.out.mono ?_
              rintro e wd ⟨rfl, HD⟩
              have HKN : Hid (Ap2 w f d j m base T (L.take z) (21 + (k + 1)) wd (.slice va1 z va2) u13) := HR.out.step HU3.out.1 HU3.out.2 rfl HD.out.1 ((HKK.out.mono (by simp)).trans HD.out.2.1) HLT.out
              clear HDO HD hwb2 b0 b1 b2 b3 e1 fe hwa
              go_wp2_with fail
              go_roundw
              case rel => exact ⟨k + 1, by omega, by go_num, HKN⟩
              case measure => simp [intOf]; omega
            · obtain ⟨U, hU0, hU1, hU2⟩ := HR.out.u
              have HU := Lib.hid hU0
              have HU2 := Lib.hid hU2
              obtain ⟨_, _, e1, hat⟩ := HR.out.a.at'
              obtain ⟨bt, ct, rfl, hbt⟩ := HR.out.b.at'
              have hlen : ((L.take z).map fun p => statN (atP T ([47, 111, 110, 101] ++ p)).2).length = z := by rw [List.length_map, List.length_take, HL.out.len.1]; omega
              have hlen2 : ((L.take z).map fun p => (readP T ([47, 111, 110, 101] ++ p)).2).length = z := by rw [List.length_map, List.length_take, HL.out.len.1]; omega
              rw [hlen] at e1
              injection e1 with e1 _ e2
              subst e1 e2
              rw [hlen2]
              have HLE := Lib.hid (And.intro hlen hlen2)
              obtain ⟨wy, hwy⟩ : ∃ wy, wr = wy := ⟨_, rfl⟩
              rw [hwy] at hat hbt hU0
              have HAT := Lib.hid hat
              have HBT := Lib.hid hbt
              have HUY := Lib.hid hU0
              have HWY := Lib.hid hwy
              clear hU0 hU1 hU2 hat hbt hwy hwr hlen hlen2 HR HZ HZ2 HU
              go_wp2_with fail
              clear hlt
              go_loopw [21] (fun i wx => ∃ y : Nat, y ≤ z ∧ i = .int .i64 y ∧ Hid (Kept [] wy wx)) (fun i _ => z - (intOf i).toNat)
              case atStart => exact ⟨0, by omega, rfl, by rw [← HWY.out]; exact Kept.refl _ _⟩
              case round =>
                obtain ⟨y, hy, rfl, HX⟩ := hrel
                by_cases hlt : y < z
                · have hyI : (y : Int) < (z : Int) := by omega
                  have hyL : y < L.length := by rw [HL.out.len.1]; omega
                  obtain ⟨lb, lof, rfl, hlc⟩ := HL.out.at' y hyL
                  obtain ⟨ab, rfl, hab, _, a0', a1', a2'⟩ := HAT.out y (by rw [HLE.out.1]; exact hlt)
                  obtain ⟨tb, rfl, htb, _, t0'⟩ := HBT.out y (by rw [HLE.out.2]; exact hlt)
                  have hsh := HL.out.short _ (List.getElem_mem hyL)
                  obtain ⟨x, hx⟩ : ∃ x, L[y] = x := ⟨_, rfl⟩
                  simp only [List.getElem_map, List.getElem_take, hx] at a0' a1' a2' t0'
                  rw [hx] at hlc hsh
                  obtain ⟨hu1, hu2⟩ := HU2.out x
                  have hlb : lb < w.heap.size := World.block_lt_of_cell? w _ hlc
                  have HLC : Hid (∀ w', Kept [] wy w' → w'.cell? ⟨lb, lof + y, none⟩ = some (.string (strL x))) := fun w' hk => ((HUY.out.kept.trans hk).cell (p := ⟨lb, lof + y, none⟩) hlb (by simp)).trans hlc
                  have hps : ¬ 9223372036854775807 < 4 + (strL x).size := by rw [strL_size]; omega
                  have HPL : Hid (([47, 111, 110, 101] ++ x).length ≤ 9223372036854775807) := by show _ ≤ _; simp; omega
                  have hl1 := HLC.out wr HX.out
                  have HS := Lib.hid ((HUY.out.go HX.out).stat ([47, 111, 110, 101] ++ x) HPL.out)
                  rw [statN_v, hu2] at HS
                  obtain ⟨s3, hs3⟩ : ∃ s3, statN (atP T ([47, 111, 110, 101] ++ x)).2 = s3 := ⟨_, rfl⟩
                  obtain ⟨ya, hya⟩ : ∃ a, s3.a = a := ⟨_, rfl⟩
                  obtain ⟨yb, hyb⟩ : ∃ a, s3.b = a := ⟨_, rfl⟩
                  obtain ⟨yc, hyc⟩ : ∃ a, s3.c = a := ⟨_, rfl⟩
                  rw [hs3, hya, hyb, hyc] at HS
                  rw [hs3, hya] at a0'
                  rw [hs3, hyb] at a1'
                  rw [hs3, hyc] at a2'
                  obtain ⟨cs, hcs⟩ : ∃ cs, (atP U ([47, 111, 110, 101] ++ x)).1 = cs := ⟨_, rfl⟩
                  rw [hcs] at HS
                  obtain ⟨cr, hcr⟩ : ∃ c, (readP T ([47, 111, 110, 101] ++ x)).1 = c := ⟨_, rfl⟩
                  obtain ⟨B, hB⟩ : ∃ B, (readP T ([47, 111, 110, 101] ++ x)).2 = B := ⟨_, rfl⟩
                  rw [hB] at t0'
                  have HRD : Hid (∀ w', Kept [] wy w' → Calls Tryz.prog 22 #[.pointer (some ⟨f, 0, none⟩), .string (strL ([47, 111, 110, 101] ++ x))] w' fun e w2 => ∃ v, e = .returned (.tuple #[v, .int .i64 cr]) ∧ Hid (Kept [] w' w2 ∧ OwnB w'.heap.size w2 v B)) := fun w' hk => by
                    have h := (HUY.out.go hk).read ([47, 111, 110, 101] ++ x) HPL.out
                    rw [hu1, hcr, hB] at h
                    refine h.mono ?_
                    rintro e w2 ⟨v, rfl, h⟩
                    exact ⟨v, rfl, h.out.2.1, h.out.2.2⟩
                  have HCL : Hid (∀ w', Kept [] wy w' → w'.cell? ⟨ab, y * 3, none⟩ = some (.int .i64 ya) ∧ w'.cell? ⟨ab, y * 3 + 1, none⟩ = some (.int .i64 yb) ∧ w'.cell? ⟨ab, y * 3 + 2, none⟩ = some (.int .i64 yc) ∧ w'.cell? ⟨tb, y, none⟩ = some (.string (strL B))) := fun w' hk =>
                    ⟨(hk.cell (p := ⟨ab, y * 3, none⟩) hab (by simp)).trans a0', (hk.cell (p := ⟨ab, y * 3 + 1, none⟩) hab (by simp)).trans a1', (hk.cell (p := ⟨ab, y * 3 + 2, none⟩) hab (by simp)).trans a2', (hk.cell (p := ⟨tb, y, none⟩) htb (by simp)).trans t0'⟩
                  clear hlc hsh hx hlb hs3 hya hyb hyc hcs hcr hB hu1 hu2 a0' a1' a2' t0' hab htb hyL
                  go_wp2_with fail
                  rw [show ({ data := #[47, 111, 110, 101] } : ByteArray) ++ strL x = strL ([47, 111, 110, 101] ++ x) from strL_cat _ _]
                  refine HS.out.mono ?_
                  rintro e w4 ⟨rfl, H4⟩
                  clear HS
                  obtain ⟨g5, hg5⟩ : ∃ g, w4.heap.size = g := ⟨_, rfl⟩
                  obtain ⟨w5, hw5⟩ : ∃ w5, w4.alloc (.cells #[.int .i64 ya, .int .i64 yb, .int .i64 yc] 48) = w5 := ⟨_, rfl⟩
                  have H5 : Hid (Kept [] wy w5 ∧ w5.heap[g5]? = some (.cells #[.int .i64 ya, .int .i64 yb, .int .i64 yc] 48)) := by
                    show _ ∧ _
                    rw [← hw5, ← hg5]
                    exact ⟨(HX.out.trans H4.out.2).trans (Kept.alloc _ _ _), heap_alloc_last _ _⟩
                  have hl5 := HLC.out w5 H5.out.1
                  have HR5 := Lib.hid (HRD.out w5 H5.out.1)
                  clear H4
                  go_wp2_with fail
                  clear hw5 hg5 hl1 hl5
                  rw [show ({ data := #[47, 111, 110, 101] } : ByteArray) ++ strL x = strL ([47, 111, 110, 101] ++ x) from strL_cat _ _]
                  refine HR5.out.mono ?_
                  rintro e w6 ⟨v, rfl, H6⟩
                  clear HR5
                  have hr6 := H6.out.1.heap (by simp) H5.out.2
                  have hk6 : Kept [] wy w6 := H5.out.1.trans H6.out.1
                  obtain ⟨ga, gk, rfl, _⟩ := H6.out.2.val
                  have HALL : Hid (∀ w', Kept [] w6.drew w' → (w'.cell? ⟨g5, 0, none⟩ = some (.int .i64 ya) ∧ w'.cell? ⟨g5, 1, none⟩ = some (.int .i64 yb) ∧ w'.cell? ⟨g5, 2, none⟩ = some (.int .i64 yc)) ∧ (w'.cell? ⟨ab, y * 3, none⟩ = some (.int .i64 ya) ∧ w'.cell? ⟨ab, y * 3 + 1, none⟩ = some (.int .i64 yb) ∧ w'.cell? ⟨ab, y * 3 + 2, none⟩ = some (.int .i64 yc)) ∧ w'.cell? ⟨tb, y, none⟩ = some (.string (strL B)) ∧
                    (convert 22 9 (.slice ga B.length gk)).run Tryz.prog w' = .ok (.string (strL B)) w') := fun w' hk => by
                    have hk' : Kept [] w6 w' := (Kept.drew _ _).trans hk
                    have hr := hk'.heap (by simp) hr6
                    obtain ⟨a0, a1, a2, t0⟩ := HCL.out w' (hk6.trans hk')
                    exact ⟨⟨cell_of_row _ _ 0 _ _ _ hr, cell_of_row _ _ 1 _ _ _ hr, cell_of_row _ _ 2 _ _ _ hr⟩, ⟨a0, a1, a2⟩, t0, (H6.out.2.kept hk' (by simp)).slIs.conv⟩
                  have z0 := fun w' hk => (HALL.out w' hk).1
                  have z1 := fun w' hk => (HALL.out w' hk).2.1
                  have z2 := fun w' hk => (HALL.out w' hk).2.2.1
                  have z3 := fun w' hk => (HALL.out w' hk).2.2.2
                  have HK6 := Lib.hid hk6
                  clear hr6 hps hk6
                  go_wp2_with fail
                  refine wp_region_ord [(true, 0), (true, 1), (true, 2), (true, 3), (true, 4), (true, 5), (true, 6), (true, 7), (true, 8), (true, 9), (true, 10), (true, 11), (true, 12), (true, 13), (true, 14)] [] (by kernel_rfl) (fun _ _ d _ _ h => by cases d <;> exact h) (by kernel_rfl) rfl (by kernel_rfl) (by kernel_rfl) ?_
                  simp only [named, List.getD_cons_zero, List.getD_cons_succ]
                  repeat (first | (apply wpGrow_take; (case hw => rfl); (case hv => intro w' hk; go_simp; with_reducible rfl); simp only [Act.put, List.setIfInBounds_toArray, List.set_cons_zero, List.set_cons_succ]) | (refine wpGrow_pass (by rfl) ?_; simp only [Act.put, List.setIfInBounds_toArray, List.set_cons_zero, List.set_cons_succ]) | (refine wpGrow_skip (by rfl) ?_; simp only [Act.put, List.setIfInBounds_toArray, List.set_cons_zero, List.set_cons_succ]))
                  refine wpGrow_nil ?_
                  clear z0 z1 z2 z3
                  go_wp2_with fail
                  go_roundw
                  case rel => exact ⟨y + 1, by omega, by go_num, HK6.out.trans (Kept.drew _ _)⟩
                  case measure => simp [intOf]; omega
                · have hyI : ¬ (y : Int) < (z : Int) := by omega
                  go_wp2_with fail
                  go_ret
                  exact ⟨rfl, HUY.out.kept.trans HX.out⟩
end Go.Proofs.YtiedoocgbajjjaaGreatDoor

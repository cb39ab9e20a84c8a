/-
  Layer 7: the document's Decode.
  Conditions: those that each theorem states.
-/
import Derived.Test.YtfofhnbijjocfaaGreatDoorKSeq
import Derived.Deep.DeepCutAuto
import Derived.Deep.CutBlock
import Derived.Laws.ResultCell
namespace Go.Proofs.YtfofhnbijjocfaaGreatDoor
open Go.RowKit Go.Maps
set_option maxRecDepth 100000

theorem results_catT {P : Program} {fn : Func} {p u : Tmp} {ty : TypeId} (h : fn.results = #[.cell p ty, .tmp u]) (tmps : Array Value) (w : World) (g : Nat) (t : TypeId) (cs : Array Value) (d : TypeDesc)
    (hp : tmps.getD p undef = .pointer (some ⟨g, 0, none⟩)) (hg : w.heap[g]? = some (.cells cs t)) (hu : P.underlying ty = some d) (hd : d.isRow = true) (hi : (P.info? ty).map (·.size) = some cs.size) :
    (results fn tmps).run P w = .ok (.tuple #[.agg cs, tmps.getD u undef]) w := by
  have hl := run_loadVar_mid (P := P) w g 0 ty cs.toList d (fun j v hv => by rw [Nat.zero_add, cell_of_row w g j _ _ _ hg]; simpa using hv) hu hd (by simpa using hi)
  rw [results_cell_tmp h, hp]
  simp only [asAddr, Sem.run_pure, Result.andThen_ok, hl, Array.toArray_toList]
def RDecOut (B : List UInt8) (w : World) (e : Ending) (w' : World) : Prop := ∃ v, e = .returned (.tuple #[v, .int .i64 (decE B)]) ∧ Hid (CatIs w' v (decC B) ∧ Kept [] w w')
theorem RDecOut.no {B : List UInt8} {w w' : World} (h : decO B = none) (hk : Kept [] w w') : RDecOut B w (.returned (.tuple #[.agg #[.int .i64 0, .string ⟨#[]⟩, .slice none 0 0, .slice none 0 0], .int .i64 70])) w' := by
  refine ⟨.agg #[.int .i64 0, .string ⟨#[]⟩, .slice none 0 0, .slice none 0 0], ?_, ?_, hk⟩
  · unfold decE; rw [h]
  · unfold decC; rw [h]; exact (zero_cat 0 w').is
theorem RDecOut.yes {B : List UInt8} {c : Cat} {v : Value} {w w' : World} (h : decO B = some c) (hc : CatIs w' v c) (hk : Kept [] w w') : RDecOut B w (.returned (.tuple #[v, .int .i64 0])) w' := by
  refine ⟨v, ?_, ?_, hk⟩
  · unfold decE; rw [h]
  · unfold decC; rw [h]; exact hc
/-- A catalog's variable is set. -/
def setC (z : Nat) (a b c d : Value) (w : World) : World := (((w.setCell ⟨z, 0, none⟩ a).setCell ⟨z, 1, none⟩ b).setCell ⟨z, 2, none⟩ c).setCell ⟨z, 3, none⟩ d
theorem setC_row {z : Nat} {a b c d : Value} {w : World} (h : w.heap[z]? = some (.cells #[a, b, c, d] 25)) (a' b' c' d' : Value) : (setC z a' b' c' d' w).heap[z]? = some (.cells #[a', b', c', d'] 25) ∧ Kept [z] w (setC z a' b' c' d' w) := by
  have hk1 : ∀ (w : World) (q : Nat) (v : Value), Kept [z] w (w.setCell ⟨z, q, none⟩ v) := fun w q v => Kept.setCell _ _ _ _ (by simp)
  exact ⟨row_setCell (row_setCell (row_setCell (row_setCell h 0 a') 1 b') 2 c') 3 d', (((hk1 w 0 a').trans (hk1 _ 1 b')).trans (hk1 _ 2 c')).trans (hk1 _ 3 d')⟩
theorem tyOf_len (k : Nat) : (tyOf k).length ≤ 100 := by
  unfold tyOf
  repeat' split
  all_goals decide
/-- While the document reads resources. -/
structure DcSt (w : World) (z g gx : Nat) (ver : Int) (nd : List UInt8) (R : List Res) (ob : Option (List UInt8)) (vr : Value) (wr : World) : Prop where
  zc : wr.heap[z]? = some (.cells #[.int .i64 0, .string ⟨#[]⟩, .slice none 0 0, .slice none 0 0] 25)
  x : wr.heap[gx]? = some (.cells #[.int .i64 ver, .string (strL nd), vr, .slice none 0 0] 25)
  own : OwnR (gx + 1) wr vr R
  rd : RbSt w g ob wr
theorem DcSt.go {w : World} {z g gx : Nat} {ver : Int} {nd : List UInt8} {R : List Res} {ob ob' : Option (List UInt8)} {vr : Value} {wr w' : World} (h : DcSt w z g gx ver nd R ob vr wr) (hk : Kept [g] wr w') (hg : z < g) (hx : g < gx) (hr : RbSt w g ob' w') : DcSt w z g gx ver nd R ob' vr w' :=
  ⟨hk.heap (by simp; omega) h.zc, hk.heap (by simp; omega) h.x, h.own.keptX hk (by simp; omega), hr⟩
/-- While the document reads a resource's parameters. -/
structure DpSt (w wr : World) (g gy : Nat) (t ti : List UInt8) (P : List Prm) (ob : Option (List UInt8)) (vp : Value) (wi : World) : Prop where
  y : wi.heap[gy]? = some (.cells #[.string (strL t), .string (strL ti), vp] 40)
  own : OwnP (gy + 1) wi vp P
  rd : RbSt w g ob wi
  kept : Kept [g] wr wi
/-- While the document reads edges. -/
structure DeSt (w wE : World) (g gx : Nat) (ver : Int) (nd : List UInt8) (vr : Value) (E : List Edg) (ob : Option (List UInt8)) (ve : Value) (wr : World) : Prop where
  x : wr.heap[gx]? = some (.cells #[.int .i64 ver, .string (strL nd), vr, ve] 25)
  own : OwnE wE.heap.size wr ve E
  rd : RbSt w g ob wr
  kept : Kept [g, gx] wE wr

set_option maxRecDepth 100000 in
set_option maxHeartbeats 16000000 in
theorem rcDecode_any (B : List UInt8) (ao : Option Addr) (len cap : Nat) (w : World) (h : ArgB w ao len cap B) : Calls Tryz.prog 13 #[.slice ao len cap] w (RDecOut B w) := by
  have HARG := Lib.hid h
  have hle := h.hle
  obtain ⟨z, hz⟩ : ∃ z, w.heap.size = z := ⟨_, rfl⟩
  obtain ⟨w1, hw1⟩ : ∃ w1, (w.alloc (.cells #[.int .i64 0, .string ⟨#[]⟩, .slice none 0 0, .slice none 0 0] 25)).alloc (.cells #[.slice ao len cap, .bool false] 55) = w1 := ⟨_, rfl⟩
  have HK1 : Hid (Kept [] w w1) := by show Kept _ _ _; rw [← hw1]; exact (Kept.alloc [] _ _).trans (Kept.alloc [] _ _)
  have HZ1 : Hid (w1.heap[z]? = some (.cells #[.int .i64 0, .string ⟨#[]⟩, .slice none 0 0, .slice none 0 0] 25)) := by show _ = _; rw [← hw1, ← hz]; exact (Kept.alloc [] _ _).heap (by simp) (heap_alloc_last _ _)
  have HR1 : Hid (RbSt w (z + 1) (some B) w1) := by
    refine ⟨by omega, ⟨ao, len, cap, B, false, ?_, h, fun r e => ⟨rfl, by injection e⟩, fun e => (by cases e)⟩, HK1.out⟩
    rw [← hw1, ← hz, ← size_alloc w]
    exact heap_alloc_last _ _
  obtain ⟨g, hg⟩ : ∃ g, z + 1 = g := ⟨_, rfl⟩
  rw [hg] at HR1
  have HZG : Hid (w.heap.size = z ∧ z + 1 = g) := ⟨hz, hg⟩
  clear h
  go_enter Tryz.func13, Tryz.ntmps13
  go_wp2_with fail
  try rw [hg]
  clear hw1
  obtain ⟨v, o1, h1⟩ : ∃ v o1, num2D (some B) = (v, o1) := ⟨_, _, rfl⟩
  have HN1 := Lib.hid (rnum2_any w g (some B) w1 HR1.out)
  rw [h1] at HN1
  have H1 := Lib.hid h1
  clear h1 hg hz
  refine HN1.out.mono ?_
  rintro e w2 ⟨rfl, H2⟩
  simp only at H2
  obtain ⟨gx, hgx⟩ : ∃ gx, w2.heap.size = gx := ⟨_, rfl⟩
  have hggx : g < gx := by rw [← hgx]; exact H2.out.1.lt
  obtain ⟨w3, hw3⟩ : ∃ w3, w2.alloc (.cells #[.int .i64 (v : Int), .string ⟨#[]⟩, .slice none 0 0, .slice none 0 0] 25) = w3 := ⟨_, rfl⟩
  have HX3 : Hid (w3.heap[gx]? = some (.cells #[.int .i64 (v : Int), .string ⟨#[]⟩, .slice none 0 0, .slice none 0 0] 25) ∧ Kept [] w2 w3) := by rw [← hw3, ← hgx]; exact ⟨heap_alloc_last _ _, Kept.alloc _ _ _⟩
  have HGG : Hid (z < g ∧ g < gx ∧ w.heap.size = z) := ⟨by have := HZG.out; omega, hggx, HZG.out.1⟩
  have HZ3 : Hid (w3.heap[z]? = some (.cells #[.int .i64 0, .string ⟨#[]⟩, .slice none 0 0, .slice none 0 0] 25)) := HX3.out.2.heap (by simp) (H2.out.2.heap (by simp; have := HGG.out; omega) HZ1.out)
  have HR3 : Hid (RbSt w g o1 w3) := H2.out.1.go HX3.out.2
  obtain ⟨nd, o2, h2⟩ : ∃ nd o2, txtD o1 = (nd, o2) := ⟨_, _, rfl⟩
  have HN2 := Lib.hid (rtext_any w g o1 w3 HR3.out)
  rw [h2] at HN2
  simp only at HN2
  have HH2 := Lib.hid h2
  have HW3 := Lib.hid hw3
  have HGX := Lib.hid hgx
  clear h2 hggx hw3 hgx
  go_wp2_with fail
  rw [HW3.out, HGX.out]
  clear HW3
  refine HN2.out.mono ?_
  rintro e w4 ⟨rfl, H4⟩
  have hr4 := H4.out.2.heap (by simp; have := HGG.out; omega) HX3.out.1
  have c1 : w4.cell? ⟨gx, 1, none⟩ = some (.string ⟨#[]⟩) := cell_of_row _ _ 1 _ _ _ hr4
  have fz : w4.frozen? ⟨gx, 1, none⟩ = false := frozen_of_row _ _ 1 _ _ hr4
  obtain ⟨w5, hw5⟩ : ∃ w5, w4.setCell ⟨gx, 1, none⟩ (.string (strL nd)) = w5 := ⟨_, rfl⟩
  have HS5 : Hid (DcSt w z g gx v nd [] o2 (.slice none 0 0) w5) := by
    have hks : Kept [gx] w4 w5 := by rw [← hw5]; exact Kept.setCell _ _ _ _ (by simp)
    have hgg := HGG.out
    refine ⟨hks.heap (by simp; omega) (H4.out.2.heap (by simp; omega) HZ3.out), ?_, OwnR.nil _ _, H4.out.1.goX hks (by simp; omega) (by simp; omega)⟩
    rw [← hw5]
    exact row_setCell hr4 1 _
  obtain ⟨n, o3, h3⟩ : ∃ n o3, num1D o2 = (n, o3) := ⟨_, _, rfl⟩
  have hn : n < 256 := by have := num1D_lt o2; rw [h3] at this; exact this
  have HN3 := Lib.hid (rnum1_any w g o2 w5 HS5.out.rd)
  rw [h3] at HN3
  simp only at HN3
  have H3 := Lib.hid h3
  clear h3 hr4
  go_wp2_with fail
  clear hw5 c1 fz
  refine HN3.out.mono ?_
  rintro e w6 ⟨rfl, H6⟩
  have HS6 : Hid (DcSt w z g gx v nd [] o3 (.slice none 0 0) w6) := HS5.out.go H6.out.2 HGG.out.1 HGG.out.2.1 H6.out.1
  clear H6 HS5 HX3 HZ3 HR3 H4 HGX
  go_upto_block 0 with fail
  go_cut [7] (fun s7 wx => Hid (∃ R ob vr i, SeqSt resP o3 n i R ob ∧ (ob = none ∨ i = n) ∧ R.length = i ∧ i ≤ n ∧ DcSt w z g gx v nd R ob vr wx))
  case first =>
    go_wp2_with fail
    go_loopw [7] (fun s7 wr => ∃ (i : Nat), i ≤ n ∧ s7 = .int .i64 i ∧ Hid (∃ R ob vr, SeqSt resP o3 n i R ob ∧ R.length = i ∧ DcSt w z g gx v nd R ob vr wr)) (fun s7 _ => n - (intOf s7).toNat)
    case atStart => exact ⟨0, by omega, rfl, [], o3, _, SeqSt.init _ _ _, rfl, HS6.out⟩
    case round =>
      clear HS6
      obtain ⟨i, hi, rfl, HS⟩ := hrel
      obtain ⟨R, ob, vr, hs, hl, hd⟩ := HS.out
      have HSQ := Lib.hid hs
      have HL := Lib.hid hl
      have HD := Lib.hid hd
      have cb := hd.rd.bad
      clear HS hs hl hd
      obtain ⟨wR, rfl⟩ : ∃ x, x = wr := ⟨_, rfl⟩
      by_cases hlt : i < n
      case neg =>
        have hin : i = n := by omega
        go_wp2_with fail
        go_meet
        exact ⟨R, ob, vr, i, HSQ.out, .inr hin, HL.out, hi, HD.out⟩
      cases ob with
      | none =>
        simp only [Option.isNone_none] at cb
        go_wp2_with fail
        go_meet
        exact ⟨R, none, vr, i, HSQ.out, .inl rfl, HL.out, hi, HD.out⟩
      | some r =>
      simp only [Option.isNone_some] at cb
      obtain ⟨k, p1, hk1⟩ : ∃ k p1, num1D (some r) = (k, p1) := ⟨_, _, rfl⟩
      have hk256 : k < 256 := by have := num1D_lt (some r); rw [hk1] at this; exact this
      have HA1 := Lib.hid (rnum1_any w g (some r) wR HD.out.rd)
      rw [hk1] at HA1
      simp only at HA1
      have HKK := Lib.hid hk1
      clear hk1
      go_wp2_with fail
      clear cb
      refine HA1.out.mono ?_
      rintro e wa ⟨rfl, Ha⟩
      obtain ⟨gy, hgy⟩ : ∃ gy, wa.heap.size = gy := ⟨_, rfl⟩
      obtain ⟨wb, hwb⟩ : ∃ wb, wa.alloc (.cells #[.string ⟨#[]⟩, .string ⟨#[]⟩, .slice none 0 0] 40) = wb := ⟨_, rfl⟩
      have HYB : Hid (wb.heap[gy]? = some (.cells #[.string ⟨#[]⟩, .string ⟨#[]⟩, .slice none 0 0] 40) ∧ Kept [] wa wb ∧ wR.heap.size ≤ gy ∧ gy < wb.heap.size) := by
        rw [← hwb, ← hgy]
        exact ⟨heap_alloc_last _ _, Kept.alloc _ _ _, Ha.out.2.size, by rw [size_alloc]; omega⟩
      have HYR : Hid (wR.heap.size ≤ gy) := HYB.out.2.2.1
      have HGY : Hid (g < gy ∧ gx < gy) := by
        have h1 := HD.out.rd.lt
        have h2 := (Array.getElem?_eq_some_iff.1 HD.out.x).1
        have h3 := HYB.out.2.2.1
        exact ⟨by omega, by omega⟩
      have HKB : Hid (Kept [g] wR wb ∧ RbSt w g p1 wb) := ⟨Ha.out.2.trans (HYB.out.2.1.mono (by simp)), Ha.out.1.go HYB.out.2.1⟩
      have HWB := Lib.hid hwb
      have HGYE := Lib.hid hgy
      clear hwb hgy
      go_upto_if 44 with (fail)
      rw [HWB.out, HGYE.out]
      clear HWB HGYE Ha
      go_cut [44] (fun s44 wx => Hid (wx.heap[gy]? = some (.cells #[.string (strL (tyOf k)), .string ⟨#[]⟩, .slice none 0 0] 40) ∧ Kept [g] wR wx ∧ RbSt w g p1 wx))
      case first =>
        by_cases h6 : k < 6
        · have h6i : (k : Int) < 6 := by omega
          go_wp2_with fail
          refine (rckinds_any wb).mono ?_
          rintro e wk ⟨gk, rfl, Hk⟩
          have ck := Hk.out.2 wk (Kept.refl _ _) k h6
          have ry := Hk.out.1.heap (by simp) HYB.out.1
          have c0 : wk.cell? ⟨gy, 0, none⟩ = some (.string ⟨#[]⟩) := cell_of_row _ _ 0 _ _ _ ry
          have fz : wk.frozen? ⟨gy, 0, none⟩ = false := frozen_of_row _ _ 0 _ _ ry
          have HRY := Lib.hid ry
          clear ry
          go_wp2_with fail
          go_meet
          have hks : Kept [gy] wk (wk.setCell ⟨gy, 0, none⟩ (.string (strL (tyOf k)))) := Kept.setCell _ _ _ _ (by simp)
          have hgy := HGY.out
          have hgg := HGG.out
          have hwr := HD.out.rd.kept.size
          have hyb := HYB.out.2.2.1
          refine ⟨row_setCell HRY.out 0 _, ?_, (HKB.out.2.go Hk.out.1).goX hks (by simp; omega) (by simp; omega)⟩
          exact Kept.step (o := some gy) (HKB.out.1.trans (Hk.out.1.mono (by simp))) hks (fun q hq => .inr (by injection hq with hq; omega))
        · have h6i : ¬ (k : Int) < 6 := by omega
          have ht : tyOf k = [] := by
            unfold tyOf
            rw [if_neg (by omega), if_neg (by omega), if_neg (by omega), if_neg (by omega), if_neg (by omega)]
          go_wp2_with fail
          go_meet
          exact ⟨by rw [ht]; exact HYB.out.1, HKB.out⟩
      case rest =>
      obtain ⟨wd, rfl⟩ : ∃ wd, wd = wc := ⟨_, rfl⟩
      have HYD := Lib.hid hcut.out.1
      have HKD := Lib.hid hcut.out.2
      obtain ⟨ti, p2, hti⟩ : ∃ ti p2, txtD p1 = (ti, p2) := ⟨_, _, rfl⟩
      have HA2 := Lib.hid (rtext_any w g p1 wd HKD.out.2)
      rw [hti] at HA2
      simp only at HA2
      have HTI := Lib.hid hti
      clear hti hcut HYB HKB
      go_wp2_with fail
      refine HA2.out.mono ?_
      rintro e we ⟨rfl, He⟩
      have hgy := HGY.out
      have rye := He.out.2.heap (by simp; omega) HYD.out
      have c1 : we.cell? ⟨gy, 1, none⟩ = some (.string ⟨#[]⟩) := cell_of_row _ _ 1 _ _ _ rye
      have fz : we.frozen? ⟨gy, 1, none⟩ = false := frozen_of_row _ _ 1 _ _ rye
      obtain ⟨wf, hwf⟩ : ∃ wf, we.setCell ⟨gy, 1, none⟩ (.string (strL ti)) = wf := ⟨_, rfl⟩
      have HF : Hid (wf.heap[gy]? = some (.cells #[.string (strL (tyOf k)), .string (strL ti), .slice none 0 0] 40) ∧ Kept [g] wR wf ∧ RbSt w g p2 wf) := by
        have hks : Kept [gy] we wf := by rw [← hwf]; exact Kept.setCell _ _ _ _ (by simp)
        have hgg := HGG.out
        have hwr := HD.out.rd.kept.size
        have hyb := HYR.out
        refine ⟨by rw [← hwf]; exact row_setCell rye 1 _, ?_, He.out.1.goX hks (by simp; omega) (by simp; omega)⟩
        exact Kept.step (o := some gy) (HKD.out.1.trans He.out.2) hks (fun q hq => .inr (by injection hq with hq; omega))
      obtain ⟨m, p3, hm⟩ : ∃ m p3, num1D p2 = (m, p3) := ⟨_, _, rfl⟩
      have hm256 : m < 256 := by have := num1D_lt p2; rw [hm] at this; exact this
      have HA3 := Lib.hid (rnum1_any w g p2 wf HF.out.2.2)
      rw [hm] at HA3
      simp only at HA3
      have HM := Lib.hid hm
      clear hm rye
      go_wp2_with fail
      clear hwf c1 fz
      refine HA3.out.mono ?_
      rintro e wg ⟨rfl, Hg⟩
      have HP0 : Hid (DpSt w wR g gy (tyOf k) ti [] p3 (.slice none 0 0) wg) := ⟨Hg.out.2.heap (by simp; omega) HF.out.1, OwnP.nil _ _, Hg.out.1, HF.out.2.1.trans Hg.out.2⟩
      clear Hg HF He hgy
      go_upto_block 2 with fail
      go_cut [11] (fun s11 wx => Hid (∃ P ob vp q, SeqSt prmP p3 m q P ob ∧ (ob = none ∨ q = m) ∧ P.length = q ∧ q ≤ m ∧ DpSt w wR g gy (tyOf k) ti P ob vp wx))
      case first =>
        go_wp2_with fail
        go_loopw [11] (fun s11 wr => ∃ (q : Nat), q ≤ m ∧ s11 = .int .i64 q ∧ Hid (∃ P ob vp, SeqSt prmP p3 m q P ob ∧ P.length = q ∧ DpSt w wR g gy (tyOf k) ti P ob vp wr)) (fun s11 _ => m - (intOf s11).toNat)
        case atStart => exact ⟨0, by omega, rfl, [], p3, _, SeqSt.init _ _ _, rfl, HP0.out⟩
        case round =>
          clear HP0
          obtain ⟨q, hq, rfl, HS⟩ := hrel
          obtain ⟨P, ob, vp, hs, hl, hd⟩ := HS.out
          have HSQ2 := Lib.hid hs
          have HL2 := Lib.hid hl
          have HD2 := Lib.hid hd
          have cb := hd.rd.bad
          clear HS hs hl hd
          by_cases hlt2 : q < m
          case neg =>
            have hqm : q = m := by omega
            go_wp2_with fail
            go_meet
            exact ⟨P, ob, vp, q, HSQ2.out, .inr hqm, HL2.out, hq, HD2.out⟩
          cases ob with
          | none =>
            simp only [Option.isNone_none] at cb
            go_wp2_with fail
            go_meet
            exact ⟨P, none, vp, q, HSQ2.out, .inl rfl, HL2.out, hq, HD2.out⟩
          | some r2 =>
          simp only [Option.isNone_some] at cb
          obtain ⟨s1, q1, hs1⟩ : ∃ s1 q1, txtD (some r2) = (s1, q1) := ⟨_, _, rfl⟩
          obtain ⟨s2, q2, hs2⟩ : ∃ s2 q2, txtD q1 = (s2, q2) := ⟨_, _, rfl⟩
          have HB1 := Lib.hid (rtext_any w g (some r2) wr HD2.out.rd)
          rw [hs1] at HB1
          simp only at HB1
          have HPR := Lib.hid (prmD_is hs1 hs2)
          have HLS1 := Lib.hid (txtD_len hs1)
          have HLS2 := Lib.hid (txtD_len hs2)
          have HS2 := Lib.hid hs2
          clear hs1 hs2
          go_wp2_with fail
          clear cb
          refine HB1.out.mono ?_
          rintro e xa ⟨rfl, Xa⟩
          obtain ⟨gp, hgp⟩ : ∃ gp, xa.heap.size = gp := ⟨_, rfl⟩
          obtain ⟨xb, hxb⟩ : ∃ xb, xa.alloc (.cells #[.string (strL s1), .string ⟨#[]⟩] 61) = xb := ⟨_, rfl⟩
          have HPB : Hid (xb.heap[gp]? = some (.cells #[.string (strL s1), .string ⟨#[]⟩] 61) ∧ Kept [] xa xb ∧ gy < gp ∧ wr.heap.size ≤ gp) := by
            rw [← hxb, ← hgp]
            refine ⟨heap_alloc_last _ _, Kept.alloc _ _ _, ?_, Xa.out.2.size⟩
            have h1 := (Array.getElem?_eq_some_iff.1 HD2.out.y).1
            have h2 := Xa.out.2.size
            omega
          have HRB : Hid (RbSt w g q1 xb ∧ Kept [g] wr xb) := ⟨Xa.out.1.go HPB.out.2.1, Xa.out.2.trans (HPB.out.2.1.mono (by simp))⟩
          have HB2 := Lib.hid (rtext_any w g q1 xb HRB.out.1)
          rw [HS2.out] at HB2
          simp only at HB2
          have HXB := Lib.hid hxb
          have HGP := Lib.hid hgp
          clear hxb hgp
          go_wp2_with fail
          rw [HXB.out, HGP.out]
          clear HXB HGP Xa
          refine HB2.out.mono ?_
          rintro e xc ⟨rfl, Xc⟩
          have hgy := HGY.out
          have hgg := HGG.out
          have hgp := HPB.out.2.2.1
          have hrp := Xc.out.2.heap (by simp; omega) HPB.out.1
          have c1 : xc.cell? ⟨gp, 1, none⟩ = some (.string ⟨#[]⟩) := cell_of_row _ _ 1 _ _ _ hrp
          have fz : xc.frozen? ⟨gp, 1, none⟩ = false := frozen_of_row _ _ 1 _ _ hrp
          obtain ⟨xd, hxd⟩ : ∃ xd, xc.setCell ⟨gp, 1, none⟩ (.string (strL s2)) = xd := ⟨_, rfl⟩
          have hks : Kept [gp] xc xd := by rw [← hxd]; exact Kept.setCell _ _ _ _ (by simp)
          have hrd : xd.heap[gp]? = some (.cells #[.string (strL s1), .string (strL s2)] 61) := by rw [← hxd]; exact row_setCell hrp 1 _
          have hKg : Kept [g] wr xc := HRB.out.2.trans Xc.out.2
          have hyd : xd.heap[gy]? = some (.cells #[.string (strL (tyOf k)), .string (strL ti), vp] 40) := hks.heap (by simp; omega) (hKg.heap (by simp; omega) HD2.out.y)
          obtain ⟨u1, u2, u3, rfl⟩ := prm_val _ _ _ _ HD2.out.own
          have hwg : w.heap.size ≤ gp := by have := HD.out.rd.kept.size; have := HYR.out; omega
          have hod : OwnP (gy + 1) xd (.slice u1 u2 u3) P := (HD2.out.own.keptX hKg (fun b hb hh => by have := (HD2.out.own.blk b hb).1; simp at hh; omega)).keptX hks (fun b hb hh => by
            have h1 := (HD2.out.own.blk b hb).2
            simp at hh
            have h2 := HPB.out.2.1.size
            have h3 : wr.heap.size ≤ gp := HPB.out.2.2.2
            omega)
          have HRD : Hid (RbSt w g q2 xd) := Xc.out.1.goX hks (by simp; omega) (by simp; omega)
          have hsz : gy + 1 ≤ xd.heap.size := by
            have h1 := (Array.getElem?_eq_some_iff.1 hyd).1
            omega
          have hPl := HL2.out
          obtain ⟨v8, x8, hrun, hown8, hap8, hk8⟩ := hod.app hsz (s1, s2) (by rw [hPl]; omega) ⟨by have := HLS1.out; show s1.length ≤ _; omega, by have := HLS2.out; show s2.length ≤ _; omega⟩
          obtain ⟨y1, y2, y3, rfl⟩ := prm_val _ _ _ _ hown8
          have HRUN := Lib.hid hrun
          have hkd8 : Kept (Value.slice u1 u2 u3).ownBlock.toList xd x8 := (Kept.alloc _ _ _).trans hk8
          have hZ : ∀ b ∈ (Value.slice u1 u2 u3).ownBlock.toList, gy + 1 ≤ b := fun b hb => (hod.blk b (by simpa using hb)).1
          have hy8 := hkd8.heap (fun hm => by have := hZ _ hm; omega) hyd
          have hN8 : DpSt w wR g gy (tyOf k) ti (P ++ [(s1, s2)]) q2 (.slice y1 y2 y3) (x8.setCell ⟨gy, 2, none⟩ (.slice y1 y2 y3)) := by
            have hk2 : Kept [gy] x8 (x8.setCell ⟨gy, 2, none⟩ (.slice y1 y2 y3)) := Kept.setCell _ _ _ _ (by simp)
            have hyr := HYR.out
            refine ⟨row_setCell hy8 2 _, hown8.keptX hk2 (fun b hb hh => by have := (hown8.blk b hb).1; simp at hh; omega), (HRD.out.goX hkd8 (fun hm => by have := hZ _ hm; omega) (fun b hb => by have := hZ b hb; omega)).goX hk2 (by simp; omega) (by simp; omega), ?_⟩
            refine Kept.step (o := some gy) ?_ hk2 (fun b hb => .inr (by injection hb with hb; omega))
            refine Kept.step (o := (Value.slice u1 u2 u3).ownBlock) ?_ hkd8 (fun b hb => .inr (by have := hZ b (by simp [hb]); omega))
            exact Kept.step (o := some gp) (HD2.out.kept.trans hKg) hks (fun b hb => .inr (by injection hb with hb; omega))
          have HN8 := Lib.hid hN8
          have HSN : Hid (SeqSt prmP p3 m (q + 1) (P ++ [(s1, s2)]) q2) := HSQ2.out.next hlt2 (fun r' e => by rw [HPR.out, e]; rfl) (fun e => by rw [HPR.out, e]; rfl)
          have HLN : Hid ((P ++ [(s1, s2)]).length = q + 1) := by show _ = _; rw [List.length_append, hPl]; rfl
          have d0 : xd.cell? ⟨gp, 0, none⟩ = some (.string (strL s1)) := cell_of_row _ _ 0 _ _ _ hrd
          have d1 : xd.cell? ⟨gp, 1, none⟩ = some (.string (strL s2)) := cell_of_row _ _ 1 _ _ _ hrd
          have d2 : xd.cell? ⟨gy, 2, none⟩ = some (.slice u1 u2 u3) := cell_of_row _ _ 2 _ _ _ hyd
          have e2 : x8.cell? ⟨gy, 2, none⟩ = some (.slice u1 u2 u3) := cell_of_row _ _ 2 _ _ _ hy8
          have f2 : x8.frozen? ⟨gy, 2, none⟩ = false := frozen_of_row _ _ 2 _ _ hy8
          clear hrp hks hrd hKg hyd hod hsz hPl hrun hown8 hap8 hk8 hkd8 hZ hy8 hN8 hgy hgg hgp hwg
          go_wp2_with (at_builtin; refine wpList_append_run rfl _ _ 38 rfl _ _ _ rfl rfl HRUN.out ?_)
          go_roundw
          case rel => exact ⟨q + 1, by omega, by go_num, _, _, _, HSN.out, HLN.out, HN8.out⟩
          case measure => simp [intOf]; omega
      case rest =>
      obtain ⟨P, oP, vp, q, hsq, hoq, hPl, hqm, hd2⟩ := hcut.out
      obtain ⟨wi, rfl⟩ : ∃ x, x = wc := ⟨_, rfl⟩
      have HRES := Lib.hid (resD_is HKK.out HTI.out HM.out hsq hoq)
      have HSN : Hid (SeqSt resP o3 n (i + 1) (R ++ [⟨tyOf k, ti, P⟩]) oP) := HSQ.out.next hlt (fun r' e => by rw [HRES.out, e]; rfl) (fun e => by rw [HRES.out, e]; rfl)
      have HLN : Hid ((R ++ [(⟨tyOf k, ti, P⟩ : Res)]).length = i + 1) := by show _ = _; rw [List.length_append, HL.out]; rfl
      have hti := txtD_len HTI.out
      have hgy := HGY.out
      have hgg := HGG.out
      have hyr := HYR.out
      obtain ⟨u1, u2, u3, rfl⟩ := prm_val _ _ _ _ hd2.own
      obtain ⟨r1, r2', r3, hvr⟩ := res_val HD.out.own
      have hxi : wi.heap[gx]? = some (.cells #[.int .i64 v, .string (strL nd), vr, .slice none 0 0] 25) := hd2.kept.heap (by simp; omega) HD.out.x
      have hzi : wi.heap[z]? = some (.cells #[.int .i64 0, .string ⟨#[]⟩, .slice none 0 0, .slice none 0 0] 25) := hd2.kept.heap (by simp; omega) HD.out.zc
      have hoi : OwnR (gx + 1) wi vr R := HD.out.own.keptX hd2.kept (by simp; omega)
      have hblk := HD.out.own.blk
      have hszi : gx + 1 ≤ wi.heap.size := (Array.getElem?_eq_some_iff.1 hxi).1
      have hRl := HL.out
      obtain ⟨v8, w8, hrun, hown8, hap8, hk8⟩ := hoi.app hszi ⟨tyOf k, ti, P⟩ (.slice u1 u2 u3) hd2.own.ps (fun b o n' c he hn' hm' => by
          have h1 := (hd2.own.blk b (by rw [he]; rfl)).1
          have h2 := (hblk b (by simpa using hm')).2
          omega) (fun b o n' c he hn' => by
          have h1 := (hd2.own.blk b (by rw [he]; rfl)).1
          omega) (by rw [hRl]; omega) ⟨by have := tyOf_len k; show (tyOf k).length ≤ _; omega, by show ti.length ≤ _; omega⟩
      have HRUN := Lib.hid hrun
      have hkd8 : Kept vr.ownBlock.toList wi w8 := (Kept.alloc _ _ _).trans hk8
      have hZ : ∀ b ∈ vr.ownBlock.toList, gx + 1 ≤ b := fun b hb => (hblk b (by simpa using hb)).1
      have hx8 := hkd8.heap (fun hm' => by have := hZ _ hm'; omega) hxi
      obtain ⟨v81, v82, v83, hv8⟩ := res_val hown8
      have HN8 : Hid (DcSt w z g gx v nd (R ++ [⟨tyOf k, ti, P⟩]) oP v8 (w8.setCell ⟨gx, 2, none⟩ v8)) := by
        have hk2 : Kept [gx] w8 (w8.setCell ⟨gx, 2, none⟩ v8) := Kept.setCell _ _ _ _ (by simp)
        refine ⟨hk2.heap (by simp; omega) (hkd8.heap (fun hm' => by have := hZ _ hm'; omega) hzi), row_setCell hx8 2 _, hown8.keptX hk2 (by simp), ?_⟩
        exact (hd2.rd.goX hkd8 (fun hm' => by have := hZ _ hm'; omega) (fun b hb => by have := hZ b hb; omega)).goX hk2 (by simp; omega) (by simp; omega)
      have d0 : wi.cell? ⟨gy, 0, none⟩ = some (.string (strL (tyOf k))) := cell_of_row _ _ 0 _ _ _ hd2.y
      have d1 : wi.cell? ⟨gy, 1, none⟩ = some (.string (strL ti)) := cell_of_row _ _ 1 _ _ _ hd2.y
      have d2 : wi.cell? ⟨gy, 2, none⟩ = some (.slice u1 u2 u3) := cell_of_row _ _ 2 _ _ _ hd2.y
      have d3 : wi.cell? ⟨gx, 2, none⟩ = some vr := cell_of_row _ _ 2 _ _ _ hxi
      have e2 : w8.cell? ⟨gx, 2, none⟩ = some vr := cell_of_row _ _ 2 _ _ _ hx8
      have f2 : w8.frozen? ⟨gx, 2, none⟩ = false := frozen_of_row _ _ 2 _ _ hx8
      clear hcut hsq hoq hPl hqm hd2 hti hgy hgg hyr hxi hzi hoi hblk hszi hRl hrun hown8 hap8 hk8 hkd8 hZ hx8 HL HD HSQ
      subst hvr
      subst hv8
      go_wp2_with (at_builtin; refine wpList_append_run rfl _ _ 22 rfl _ _ _ rfl rfl HRUN.out ?_)
      go_roundw
      case rel => exact ⟨i + 1, by omega, by go_num, _, _, _, HSN.out, HLN.out, HN8.out⟩
      case measure => simp [intOf]; omega
  case rest =>
  obtain ⟨R, oR, vr, i, hsR, hoR, hRl, hin, hd⟩ := hcut.out
  obtain ⟨w7, rfl⟩ : ∃ x, x = wc := ⟨_, rfl⟩
  have HSR := Lib.hid hsR
  have HOR := Lib.hid hoR
  have HRL : Hid (R.length ≤ 255) := by show _ ≤ _; omega
  have HD := Lib.hid hd
  obtain ⟨m, o4, hm⟩ : ∃ m o4, num1D oR = (m, o4) := ⟨_, _, rfl⟩
  have hm256 : m < 256 := by have := num1D_lt oR; rw [hm] at this; exact this
  have HA4 := Lib.hid (rnum1_any w g oR w7 HD.out.rd)
  rw [hm] at HA4
  simp only at HA4
  have HM4 := Lib.hid hm
  clear hcut hsR hoR hRl hin hd hm HS6
  go_wp2_with fail
  refine HA4.out.mono ?_
  rintro e w8 ⟨rfl, H8⟩
  have HD8 := Lib.hid (HD.out.go H8.out.2 HGG.out.1 HGG.out.2.1 H8.out.1)
  have HE0 : Hid (DeSt w w8 g gx v nd vr [] o4 (.slice none 0 0) w8) := ⟨HD8.out.x, OwnE.nil _ _, HD8.out.rd, Kept.refl _ _⟩
  have HG8 : Hid (gx < w8.heap.size) := (Array.getElem?_eq_some_iff.1 HD8.out.x).1
  clear H8 HD
  go_upto_block 4 with fail
  go_cut [13] (fun s13 wx => Hid (∃ E oE ve j, SeqSt edgP o4 m j E oE ∧ (oE = none ∨ j = m) ∧ E.length = j ∧ j ≤ m ∧ DeSt w w8 g gx v nd vr E oE ve wx))
  case first =>
    go_wp2_with fail
    go_loopw [13] (fun s13 wr => ∃ (j : Nat), j ≤ m ∧ s13 = .int .i64 j ∧ Hid (∃ E oE ve, SeqSt edgP o4 m j E oE ∧ E.length = j ∧ DeSt w w8 g gx v nd vr E oE ve wr)) (fun s13 _ => m - (intOf s13).toNat)
    case atStart => exact ⟨0, by omega, rfl, [], o4, _, SeqSt.init _ _ _, rfl, HE0.out⟩
    case round =>
      clear HE0
      obtain ⟨j, hj, rfl, HS⟩ := hrel
      obtain ⟨E, ob, ve, hs, hl, hd⟩ := HS.out
      have HSQ := Lib.hid hs
      have HL := Lib.hid hl
      have HDE := Lib.hid hd
      have cb := hd.rd.bad
      clear HS hs hl hd
      by_cases hlt : j < m
      case neg =>
        have hjm : j = m := by omega
        go_wp2_with fail
        go_meet
        exact ⟨E, ob, ve, j, HSQ.out, .inr hjm, HL.out, hj, HDE.out⟩
      cases ob with
      | none =>
        simp only [Option.isNone_none] at cb
        go_wp2_with fail
        go_meet
        exact ⟨E, none, ve, j, HSQ.out, .inl rfl, HL.out, hj, HDE.out⟩
      | some r =>
      simp only [Option.isNone_some] at cb
      obtain ⟨f, p1, hf⟩ : ∃ f p1, num1D (some r) = (f, p1) := ⟨_, _, rfl⟩
      obtain ⟨t, p2, ht⟩ : ∃ t p2, num1D p1 = (t, p2) := ⟨_, _, rfl⟩
      obtain ⟨nn, p3, hnn⟩ : ∃ nn p3, num1D p2 = (nn, p3) := ⟨_, _, rfl⟩
      have HF1 := Lib.hid (rnum1_any w g (some r) wr HDE.out.rd)
      rw [hf] at HF1
      simp only at HF1
      have HRES := Lib.hid (edgD_is hf ht hnn)
      have HT := Lib.hid ht
      have HNN := Lib.hid hnn
      obtain ⟨nb, hnb⟩ : ∃ nb, decide (nn = 1) = nb := ⟨_, rfl⟩
      have q3 : ((nn : Int) == 1) = nb := by rw [← hnb]; by_cases e : nn = 1 <;> simp [e]; omega
      have HNB := Lib.hid hnb
      clear hf ht hnn hnb
      go_wp2_with fail
      clear cb
      refine HF1.out.mono ?_
      rintro e xa ⟨rfl, Xa⟩
      obtain ⟨ge, hge⟩ : ∃ ge, xa.heap.size = ge := ⟨_, rfl⟩
      obtain ⟨xb, hxb⟩ : ∃ xb, xa.alloc (.cells #[.int .i64 (f : Int), .int .i64 0, .bool false] 44) = xb := ⟨_, rfl⟩
      have HPB : Hid (xb.heap[ge]? = some (.cells #[.int .i64 (f : Int), .int .i64 0, .bool false] 44) ∧ Kept [] xa xb ∧ w8.heap.size ≤ ge ∧ wr.heap.size ≤ ge) := by
        rw [← hxb, ← hge]
        refine ⟨heap_alloc_last _ _, Kept.alloc _ _ _, ?_, Xa.out.2.size⟩
        have h1 := HDE.out.kept.size
        have h2 := Xa.out.2.size
        omega
      have HRB : Hid (RbSt w g p1 xb ∧ Kept [g] wr xb) := ⟨Xa.out.1.go HPB.out.2.1, Xa.out.2.trans (HPB.out.2.1.mono (by simp))⟩
      have HF2 := Lib.hid (rnum1_any w g p1 xb HRB.out.1)
      rw [HT.out] at HF2
      simp only at HF2
      have HXB := Lib.hid hxb
      have HGE := Lib.hid hge
      clear hxb hge
      go_wp2_with fail
      rw [HXB.out, HGE.out]
      clear HXB HGE Xa
      refine HF2.out.mono ?_
      rintro e xc ⟨rfl, Xc⟩
      have hgg := HGG.out
      have hg8 := HG8.out
      have hge := HPB.out.2.2.1
      have hrp := Xc.out.2.heap (by simp; omega) HPB.out.1
      have c1 : xc.cell? ⟨ge, 1, none⟩ = some (.int .i64 0) := cell_of_row _ _ 1 _ _ _ hrp
      have fz : xc.frozen? ⟨ge, 1, none⟩ = false := frozen_of_row _ _ 1 _ _ hrp
      obtain ⟨xd, hxd⟩ : ∃ xd, xc.setCell ⟨ge, 1, none⟩ (.int .i64 (t : Int)) = xd := ⟨_, rfl⟩
      have hks : Kept [ge] xc xd := by rw [← hxd]; exact Kept.setCell _ _ _ _ (by simp)
      have HPD : Hid (xd.heap[ge]? = some (.cells #[.int .i64 (f : Int), .int .i64 (t : Int), .bool false] 44)) := by show _ = _; rw [← hxd]; exact row_setCell hrp 1 _
      have hwg : w.heap.size ≤ ge := by have := HD8.out.rd.kept.size; omega
      have HRD : Hid (RbSt w g p2 xd) := Xc.out.1.goX hks (by simp; omega) (by simp; omega)
      have HKD : Hid (Kept [g, ge] wr xd) := (HRB.out.2.mono (by simp)).trans ((Xc.out.2.mono (by simp)).trans (hks.mono (by simp)))
      have HF3 := Lib.hid (rnum1_any w g p2 xd HRD.out)
      rw [HNN.out] at HF3
      simp only at HF3
      clear hrp hks
      go_wp2_with fail
      clear c1 fz hxd
      refine HF3.out.mono ?_
      rintro e xe ⟨rfl, Xe⟩
      have hre := Xe.out.2.heap (by simp; omega) HPD.out
      have c2 : xe.cell? ⟨ge, 2, none⟩ = some (.bool false) := cell_of_row _ _ 2 _ _ _ hre
      have fz : xe.frozen? ⟨ge, 2, none⟩ = false := frozen_of_row _ _ 2 _ _ hre
      obtain ⟨xf, hxf⟩ : ∃ xf, xe.setCell ⟨ge, 2, none⟩ (.bool nb) = xf := ⟨_, rfl⟩
      have hks : Kept [ge] xe xf := by rw [← hxf]; exact Kept.setCell _ _ _ _ (by simp)
      have hrf : xf.heap[ge]? = some (.cells #[.int .i64 (f : Int), .int .i64 (t : Int), .bool nb] 44) := by rw [← hxf]; exact row_setCell hre 2 _
      have hkf : Kept [g, ge] wr xf := HKD.out.trans ((Xe.out.2.mono (by simp)).trans (hks.mono (by simp)))
      have hgef : wr.heap.size ≤ ge := HPB.out.2.2.2
      have hkfw : Kept [g] wr xf := hkf.mono (fun b hb hlt2 => by simp at hb; rcases hb with e | e; simp [e]; omega)
      have hxf2 : xf.heap[gx]? = some (.cells #[.int .i64 v, .string (strL nd), vr, ve] 25) := hkf.heap (by simp; omega) HDE.out.x
      have hRD : RbSt w g p3 xf := Xe.out.1.goX hks (by simp; omega) (by simp; omega)
      obtain ⟨u1, u2, u3, hve⟩ := edg_val HDE.out.own
      have hof : OwnE w8.heap.size xf ve E := HDE.out.own.keptX hkf (fun b hb hh => by
        have h1 := HDE.out.own.blk b hb
        simp at hh
        omega)
      have hszf : w8.heap.size ≤ xf.heap.size := by have h1 := HDE.out.kept.size; have h2 := hkf.size; omega
      have hEl := HL.out
      obtain ⟨v9, x9, hrun, hown9, hap9, hk9⟩ := hof.app hszf ⟨(f : Int), (t : Int), nb⟩ (by rw [hEl]; omega)
      have HRUN := Lib.hid hrun
      obtain ⟨y1, y2, y3, hv9⟩ := edg_val hown9
      have hkd9 : Kept ve.ownBlock.toList xf x9 := (Kept.alloc _ _ _).trans hk9
      have hZ : ∀ b ∈ ve.ownBlock.toList, w8.heap.size ≤ b := fun b hb => (hof.blk b (by simpa using hb)).1
      have hx9 := hkd9.heap (fun hm => by have := hZ _ hm; omega) hxf2
      have HN9 : Hid (DeSt w w8 g gx v nd vr (E ++ [⟨(f : Int), (t : Int), nb⟩]) p3 v9 (x9.setCell ⟨gx, 3, none⟩ v9)) := by
        have hk2 : Kept [gx] x9 (x9.setCell ⟨gx, 3, none⟩ v9) := Kept.setCell _ _ _ _ (by simp)
        have hw8 := HD8.out.rd.kept.size
        refine ⟨row_setCell hx9 3 _, hown9.keptX hk2 (fun b hb hh => by have := (hown9.blk b hb).1; simp at hh; omega), (hRD.goX hkd9 (fun hm => by have := hZ _ hm; omega) (fun b hb => by have := hZ b hb; omega)).goX hk2 (by simp; omega) (by simp; omega), ?_⟩
        refine Kept.trans ?_ (hk2.mono (by simp))
        refine Kept.step (o := ve.ownBlock) (HDE.out.kept.trans (hkfw.mono (by simp))) hkd9 (fun b hb => .inr (hZ b (by simp [hb])))
      have HSN : Hid (SeqSt edgP o4 m (j + 1) (E ++ [⟨(f : Int), (t : Int), nb⟩]) p3) := HSQ.out.next hlt (fun r' e => by rw [HRES.out, e, HNB.out]; rfl) (fun e => by rw [HRES.out, e]; rfl)
      have HLN : Hid ((E ++ [(⟨(f : Int), (t : Int), nb⟩ : Edg)]).length = j + 1) := by show _ = _; rw [List.length_append, hEl]; rfl
      have d0 : xf.cell? ⟨ge, 0, none⟩ = some (.int .i64 (f : Int)) := cell_of_row _ _ 0 _ _ _ hrf
      have d1 : xf.cell? ⟨ge, 1, none⟩ = some (.int .i64 (t : Int)) := cell_of_row _ _ 1 _ _ _ hrf
      have d2 : xf.cell? ⟨ge, 2, none⟩ = some (.bool nb) := cell_of_row _ _ 2 _ _ _ hrf
      have d3 : xf.cell? ⟨gx, 3, none⟩ = some ve := cell_of_row _ _ 3 _ _ _ hxf2
      have e2 : x9.cell? ⟨gx, 3, none⟩ = some ve := cell_of_row _ _ 3 _ _ _ hx9
      have f2 : x9.frozen? ⟨gx, 3, none⟩ = false := frozen_of_row _ _ 3 _ _ hx9
      clear hre hks hrf hkf hgef hkfw hxf2 hRD hof hszf hEl hrun hown9 hap9 hk9 hkd9 hZ hx9 HDE HSQ HL hgg hg8 hge hwg
      subst hve
      subst hv9
      go_wp2_with (at_builtin; refine wpList_append_run rfl _ _ 23 rfl _ _ _ rfl rfl HRUN.out ?_)
      go_roundw
      case rel => exact ⟨j + 1, by omega, by go_num, _, _, _, HSN.out, HLN.out, HN9.out⟩
      case measure => simp [intOf]; omega
  case rest =>
  obtain ⟨E, oE, ve, j, hsE, hoE, hEl, hjm, hde⟩ := hcut.out
  obtain ⟨w9, rfl⟩ : ∃ x, x = wc := ⟨_, rfl⟩
  have HCP := Lib.hid (catD_is H1.out HH2.out H3.out HSR.out HOR.out HM4.out hsE hoE)
  obtain ⟨c, hc⟩ : ∃ c : Cat, (⟨(v : Int), nd, R, E⟩ : Cat) = c := ⟨_, rfl⟩
  rw [hc] at HCP
  have hoR : OwnR (gx + 1) w9 vr R := HD8.out.own.keptX hde.kept (by have := HGG.out; simp; omega)
  obtain ⟨r1, r2, r3, hvr⟩ := res_val hoR
  obtain ⟨e1, e2, e3, hve⟩ := edg_val hde.own
  subst hvr
  subst hve
  have hCI : CatIs w9 (.agg #[.int .i64 v, .string (strL nd), .slice r1 r2 r3, .slice e1 e2 e3]) c := by
    rw [← hc]
    exact ⟨⟨_, _, rfl, hoR.rs, hde.own.es⟩, by have := txtD_len HH2.out; show nd.length ≤ _; omega⟩
  have HCI : Hid (∀ w', Kept [z] w9 w' → CatIs w' (.agg #[.int .i64 v, .string (strL nd), .slice r1 r2 r3, .slice e1 e2 e3]) c) := fun w' hk => by
    rw [← hc]
    refine ⟨⟨_, _, rfl, (hoR.keptX hk (by have := HGG.out; simp; omega)).rs, (hde.own.keptX hk (fun b hb hh => by have := (hde.own.blk b hb).1; have := HG8.out; have := HGG.out; simp at hh; omega)).es⟩, by have := txtD_len HH2.out; show nd.length ≤ _; omega⟩
  obtain ⟨p, hp⟩ : ∃ p, checkO c = p := ⟨_, rfl⟩
  have HEN := Lib.hid (rcEncode_any c _ w9 hCI)
  unfold EncOut at HEN
  rw [hp] at HEN
  have HP := Lib.hid hp
  have HK9 : Hid (Kept [] w w9) := hde.rd.kept
  have HZ9 : Hid (w9.heap[z]? = some (.cells #[.int .i64 0, .string ⟨#[]⟩, .slice none 0 0, .slice none 0 0] 25)) := hde.kept.heap (by have := HGG.out; simp; omega) HD8.out.zc
  have HX9 : Hid (w9.heap[gx]? = some (.cells #[.int .i64 v, .string (strL nd), .slice r1 r2 r3, .slice e1 e2 e3] 25)) := hde.x
  have HR9 : Hid (RbSt w g oE w9) := hde.rd
  have x0 : w9.cell? ⟨gx, 0, none⟩ = some (.int .i64 v) := cell_of_row _ _ 0 _ _ _ HX9.out
  have x1 : w9.cell? ⟨gx, 1, none⟩ = some (.string (strL nd)) := cell_of_row _ _ 1 _ _ _ HX9.out
  have x2 : w9.cell? ⟨gx, 2, none⟩ = some (.slice r1 r2 r3) := cell_of_row _ _ 2 _ _ _ HX9.out
  have x3 : w9.cell? ⟨gx, 3, none⟩ = some (.slice e1 e2 e3) := cell_of_row _ _ 3 _ _ _ HX9.out
  clear hcut hsE hoE hEl hjm hde hoR hCI hp hc
  go_wp2_with fail
  refine HEN.out.mono ?_
  rintro e w10 ⟨v10, rfl, H10⟩
  obtain ⟨ga, gn, gk, rfl⟩ : ∃ ga gn gk, v10 = .slice ga gn gk := by obtain ⟨x, y, e, _⟩ := H10.out.1.val; exact ⟨x, _, y, e⟩
  clear x0 x1 x2 x3
  have HX10 : Hid (w10.heap[gx]? = some (.cells #[.int .i64 v, .string (strL nd), .slice r1 r2 r3, .slice e1 e2 e3] 25)) := H10.out.2.heap (by simp) HX9.out
  have HZ10 : Hid (w10.heap[z]? = some (.cells #[.int .i64 0, .string ⟨#[]⟩, .slice none 0 0, .slice none 0 0] 25)) := H10.out.2.heap (by simp) HZ9.out
  have cb := (HR9.out.go H10.out.2).bad
  have HK10 : Hid (Kept [] w w10) := HK9.out.trans H10.out.2
  have x0 : w10.cell? ⟨gx, 0, none⟩ = some (.int .i64 v) := cell_of_row _ _ 0 _ _ _ HX10.out
  have x1 : w10.cell? ⟨gx, 1, none⟩ = some (.string (strL nd)) := cell_of_row _ _ 1 _ _ _ HX10.out
  have x2 : w10.cell? ⟨gx, 2, none⟩ = some (.slice r1 r2 r3) := cell_of_row _ _ 2 _ _ _ HX10.out
  have x3 : w10.cell? ⟨gx, 3, none⟩ = some (.slice e1 e2 e3) := cell_of_row _ _ 3 _ _ _ HX10.out
  have z0 : w10.cell? ⟨z, 0, none⟩ = some (.int .i64 0) := cell_of_row _ _ 0 _ _ _ HZ10.out
  have z1 : w10.cell? ⟨z, 1, none⟩ = some (.string ⟨#[]⟩) := cell_of_row _ _ 1 _ _ _ HZ10.out
  have z2 : w10.cell? ⟨z, 2, none⟩ = some (.slice none 0 0) := cell_of_row _ _ 2 _ _ _ HZ10.out
  have z3 : w10.cell? ⟨z, 3, none⟩ = some (.slice none 0 0) := cell_of_row _ _ 3 _ _ _ HZ10.out
  have fz : ∀ q, w10.frozen? ⟨z, q, none⟩ = false := fun q => frozen_of_row _ _ q _ _ HZ10.out
  have cv1 : (convert 28 9 (.slice ga gn gk)).run Tryz.prog w10 = .ok (.string (strL (encL c))) w10 := H10.out.1.slIs.conv
  have cv2 : (convert 28 9 (.slice ao len cap)).run Tryz.prog w10 = .ok (.string (strL B)) w10 := (HARG.out.kept HK10.out).conv
  have HNO : Hid (decO B = none → ∀ T : Array Value, T.getD 2 undef = .pointer (some ⟨z, 0, none⟩) → T.getD 3 undef = .int .i64 70 → bodyPost Tryz.prog Tryz.f13 (RDecOut B w) Exit.ret { tmps := T, defers := [] } (setC z (.int .i64 0) (.string ⟨#[]⟩) (.slice none 0 0) (.slice none 0 0) w10)) := fun hz T h2 h3 => by
    have hset := setC_row HZ10.out (.int .i64 0) (.string ⟨#[]⟩) (.slice none 0 0) (.slice none 0 0)
    refine ⟨rfl, _, results_catT (fn := Tryz.f13) rfl T _ z 25 _ _ h2 hset.1 Tryz.underlying25 rfl (by kernel_rfl), ?_⟩
    rw [h3]
    exact RDecOut.no hz (HK10.out.into hset.2 (by have := HGG.out; simp; omega))
  cases oE with
  | none =>
    simp only [Option.isNone_none] at cb
    have HZ : Hid (decO B = none) := by show _ = _; unfold decO; rw [HCP.out]; rfl
    go_wp2_with fail
    exact HNO.out HZ.out _ rfl rfl
  | some r6 =>
  simp only [Option.isNone_some] at cb
  by_cases h0 : p = 0
  case neg =>
    have q0 : (p != 0) = true := by simpa using h0
    have HZ : Hid (decO B = none) := by
      show _ = _
      unfold decO
      rw [HCP.out]
      simp only [Option.map_some]
      rw [if_neg (fun hh => h0 (by rw [← HP.out]; exact hh.1))]
    clear h0
    go_wp2_with fail
    exact HNO.out HZ.out _ rfl rfl
  subst h0
  by_cases hE : encL c = B
  case neg =>
    have HZ : Hid (decO B = none) := by
      show _ = _
      unfold decO
      rw [HCP.out]
      simp only [Option.map_some]
      rw [if_neg (fun hh => hE (by unfold encL; rw [if_pos hh.1]; exact hh.2))]
    have q1 : ((strL (encL c)).toList == (strL B).toList) = false := by rw [str_beqP, decide_eq_false hE]
    clear hE
    go_wp2_with fail
    exact HNO.out HZ.out _ rfl rfl
  have HZ : Hid (decO B = some c) := by
    show _ = _
    unfold decO
    rw [HCP.out]
    simp only [Option.map_some]
    rw [if_pos ⟨HP.out, by rw [← hE]; unfold encL; rw [if_pos HP.out]⟩]
  have q1 : ((strL (encL c)).toList == (strL B).toList) = true := by rw [str_beqP, decide_eq_true hE]
  clear hE
  go_wp2_with fail
  have hset := setC_row HZ10.out (.int .i64 v) (.string (strL nd)) (.slice r1 r2 r3) (.slice e1 e2 e3)
  refine ⟨rfl, _, results_catT (fn := Tryz.f13) rfl _ _ z 25 _ _ rfl hset.1 Tryz.underlying25 rfl (by kernel_rfl), ?_⟩
  have hkz := HK10.out.into hset.2 (by have := HGG.out; simp; omega)
  exact RDecOut.yes HZ.out (HCI.out _ ((H10.out.2.mono (by simp)).trans hset.2)) hkz
end Go.Proofs.YtfofhnbijjocfaaGreatDoor

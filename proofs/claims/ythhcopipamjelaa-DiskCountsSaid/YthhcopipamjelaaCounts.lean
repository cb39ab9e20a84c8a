/-
  The walk of the statement that just the writes that were answered with OK are counted, and change something.
  Conditions: none.
-/
import Derived.Test.YthhcopipamjelaaShown
import Derived.Test.YthhcopipamjelaaOps
import Derived.Deep.LoopGhost
namespace Go.Proofs.Ythhcopipamjelaa
open Go.RowKit Go.Maps

/-- 'string(b)' of whatever slice of bytes. -/
theorem conv_sl {w : World} {v : Value} {l : List UInt8} (h : SlIs w v l) : (convert 36 9 v).run Try.prog w = .ok (.string (strL l)) w := by
  rcases h with ⟨b, o, cap, rfl, _, hc⟩ | ⟨rfl, rfl⟩
  · exact conv_range w b o cap l _ rfl hc
  · rw [run_convert_bytes_string w _ _ _ none 0 0 Try.underlying36 Try.underlying5 Try.underlying9]
    rfl

theorem SlIs.kept {w w' : World} {v : Value} {l : List UInt8} (h : SlIs w v l) {ex : List Nat} (hk : Kept ex w w') (hx : ∀ b o n c, v = .slice (some ⟨b, o, none⟩) n c → b ∉ ex) : SlIs w' v l := by
  rcases h with ⟨b, o, cap, rfl, hb, hc⟩ | h
  · exact .inl ⟨b, o, cap, rfl, Nat.lt_of_lt_of_le hb hk.size, hk.range hb (hx _ _ _ _ rfl) hc⟩
  · exact .inr h

theorem DiskS.wr_cases (S : DiskS) (i : Int) (l : List UInt8) :
    ((S.wr i l).1 = 0 ∧ (S.wr i l).2.reach i = 0 ∧ (S.wr i l).2.blk i = l ∧ l.length = 64 ∧ (S.wr i l).2.writes = S.writes + 1 ∨
      (S.wr i l).1 ≠ 0 ∧ (S.wr i l).2.blk = S.blk ∧ (S.wr i l).2.writes = S.writes) ∧ (S.wr i l).2.m = S.m ∧ (S.wr i l).2.size = S.size := by
  have hb := S.burn_m
  unfold DiskS.wr
  by_cases hr : S.reach i = 0
  · rw [if_pos hr]
    by_cases hl : l.length = 64
    · rw [if_pos hl]
      by_cases hx : S.burn.1 = true
      · rw [if_pos hx]
        refine ⟨.inl ⟨rfl, ?_, by simp [updL], hl, rfl⟩, hb.1, hb.2.2.2⟩
        obtain ⟨h0, h1, hoff⟩ := reach_zero hr
        have ho : S.burn.2.off = false := by
          unfold DiskS.burn at hx ⊢
          split <;> (try split) <;> simp_all
        unfold DiskS.reach
        simp only [ho, hb.2.2.2]
        simp; omega
      · rw [if_neg hx]
        exact ⟨.inr ⟨by simp, hb.2.1, hb.2.2.1⟩, hb.1, hb.2.2.2⟩
    · rw [if_neg hl]
      exact ⟨.inr ⟨by simp, rfl, rfl⟩, rfl, rfl⟩
  · rw [if_neg hr]
    exact ⟨.inr ⟨hr, rfl, rfl⟩, rfl, rfl⟩

/-- What holds at every round's head. -/
structure CntRel (w : World) (a m k : Nat) (S : DiskS) (wr : World) : Prop where
  disk : IsDisk wr a S
  map : S.m = m
  writes : S.writes ≤ k
  kept : Kept [] w wr
  wa : w.heap.size ≤ a
  wm : w.heap.size ≤ m

theorem CntRel.grow {w : World} {a m k : Nat} {S : DiskS} {wr wq : World} (R : CntRel w a m k S wr) (hk : Kept [] wr wq) : CntRel w a m k S wq :=
  ⟨R.disk.kept hk (by simp) (by simp), R.map, R.writes, R.kept.trans hk, R.wa, R.wm⟩
theorem CntRel.le {w : World} {a m k k' : Nat} {S : DiskS} {wr : World} (R : CntRel w a m k S wr) (h : k ≤ k') : CntRel w a m k' S wr :=
  ⟨R.disk, R.map, by have := R.writes; omega, R.kept, R.wa, R.wm⟩
theorem CntRel.turn {w : World} {a m k : Nat} {S S' : DiskS} {wr wq : World} (R : CntRel w a m k S wr) (hd : IsDisk wq a S') (hm : S'.m = S.m) (hw : S'.writes = S.writes) (hk : Kept [a] wr wq) : CntRel w a m k S' wq :=
  ⟨hd, hm.trans R.map, by rw [hw]; exact R.writes, R.kept.into hk (by simpa using R.wa), R.wa, R.wm⟩
theorem CntRel.write {w : World} {a m k : Nat} {S : DiskS} {wr wq : World} (R : CntRel w a m k S wr) (i : Int) (l : List UInt8) (hd : IsDisk wq a (S.wr i l).2) (hk : Kept [a, S.m] wr wq) : CntRel w a m (k + 1) (S.wr i l).2 wq := by
  obtain ⟨h, hm, hs⟩ := S.wr_cases i l
  refine ⟨hd, hm.trans R.map, ?_, R.kept.into hk (by rw [R.map]; simp; exact ⟨R.wa, R.wm⟩), R.wa, R.wm⟩
  have := R.writes
  rcases h with ⟨_, _, _, _, h⟩ | ⟨_, _, h⟩ <;> omega

/-- The round's own copy of the operation. -/
def OpBlock (x : OpV) : Obj := .cells #[.int .i64 x.kind, .int .i64 x.pos, .int .i64 x.n, .int .u8 (x.byte.toNat : Int)] 34

theorem op_cells {W : World} {ob : Nat} {x : OpV} (h : W.heap[ob]? = some (OpBlock x)) :
    W.cell? ⟨ob, 0, none⟩ = some (.int .i64 x.kind) ∧ W.cell? ⟨ob, 1, none⟩ = some (.int .i64 x.pos) ∧ W.cell? ⟨ob, 2, none⟩ = some (.int .i64 x.n) ∧ W.cell? ⟨ob, 3, none⟩ = some (.int .u8 (x.byte.toNat : Int)) :=
  ⟨cell_of_row W ob 0 _ _ _ h, cell_of_row W ob 1 _ _ _ h, cell_of_row W ob 2 _ _ _ h, cell_of_row W ob 3 _ _ _ h⟩

set_option maxHeartbeats 4000000 in
set_option maxRecDepth 100000 in
theorem counts_walk (b o cap : Nat) (l : List OpV) (w : World) (hb : b < w.heap.size) (hc : OpsAt w b o l) (hf : ∀ x ∈ l, x.fits) (hl : l.length ≤ 9223372036854775807) :
    Calls Try.prog 7 #[.slice (some ⟨b, o, none⟩) l.length cap] w fun e w' => e = .returned (.bool true) ∧ Kept [] w w' := by
  have HC := Lib.hid hc
  have HFT := Lib.hid hf
  clear hc hf
  go_enter Try.func7, Try.ntmps7
  go_wp2_with fail
  refine (shown_true w).mono ?_
  rintro e w1 ⟨rfl, hk1⟩
  have HK1 := Lib.hid hk1
  clear hk1
  go_wp2_with fail
  refine (new_ok 6 _ (by omega) (by omega)).mono ?_
  rintro e w2 ⟨rfl, hd2, hk2⟩
  obtain ⟨a, ha⟩ : ∃ a, a = w1.heap.size + 1 := ⟨_, rfl⟩
  obtain ⟨m, hm⟩ : ∃ m, m = w1.heap.size := ⟨_, rfl⟩
  rw [← ha, ← hm] at hd2
  rw [← ha]
  have R0 : Hid (CntRel w a m 0 (DiskS.new 6 m) w2) := ⟨hd2, rfl, by simp [DiskS.new], HK1.out.trans hk2, by have := HK1.out.size; omega, by have := HK1.out.size; omega⟩
  clear hd2 hk2 ha hm HK1
  go_wp2_with fail
  go_loopw [6, 7] (fun n i wr => ∃ (k : Nat) (S : DiskS), k ≤ l.length ∧ k ≤ 100 ∧ i = .int .i64 k ∧ n = .int .i64 S.writes ∧ CntRel w a m k S wr) (fun _ i _ => 100 - (intOf i).toNat)
  case atStart => exact ⟨0, DiskS.new 6 m, by omega, by omega, rfl, rfl, R0.out⟩
  case round =>
    obtain ⟨k, S, hkl, hk100, rfl, rfl, HR⟩ := hrel
    by_cases h1 : k < l.length
    · by_cases h2 : k < 100
      · obtain ⟨x, hx⟩ : ∃ x, x = l[k] := ⟨_, rfl⟩
        have hfit : x.fits := by rw [hx]; exact HFT.out _ (List.getElem_mem _)
        have hcl := HC.out k h1
        rw [← hx] at hcl
        have hp0 : wr.cell? ⟨b, o + k * 4, none⟩ = some (.int .i64 x.kind) := by
          rw [HR.kept.cell (p := ⟨b, o + k * 4, none⟩) hb (by simp)]; exact hcl 0 _ rfl
        have hp1 : wr.cell? ⟨b, o + k * 4 + 1, none⟩ = some (.int .i64 x.pos) := by
          rw [HR.kept.cell (p := ⟨b, o + k * 4 + 1, none⟩) hb (by simp)]; exact hcl 1 _ rfl
        have hp2 : wr.cell? ⟨b, o + k * 4 + 2, none⟩ = some (.int .i64 x.n) := by
          rw [HR.kept.cell (p := ⟨b, o + k * 4 + 2, none⟩) hb (by simp)]; exact hcl 2 _ rfl
        have hp3 : wr.cell? ⟨b, o + k * 4 + 3, none⟩ = some (.int .u8 (x.byte.toNat : Int)) := by
          rw [HR.kept.cell (p := ⟨b, o + k * 4 + 3, none⟩) hb (by simp)]; exact hcl 3 _ rfl
        obtain ⟨⟨p1, p2⟩, ⟨q1, q2⟩, ⟨r1, r2⟩⟩ := hfit
        clear hcl hx
        obtain ⟨kd, hkd⟩ : ∃ kd : Int, kindF x.kind 8 = kd := ⟨_, rfl⟩
        have hkr := kindF_range x.kind 8 (by omega)
        rw [hkd] at hkr
        obtain ⟨hkr0, hkr1⟩ := hkr
        have HKD := Lib.hid hkd
        clear hkd
        obtain ⟨wA, hwA⟩ : ∃ wA, wA = wr.alloc (OpBlock x) := ⟨_, rfl⟩
        obtain ⟨ob, hob⟩ : ∃ ob, ob = wr.heap.size := ⟨_, rfl⟩
        have hkA : Kept [] wr wA := by rw [hwA]; exact Kept.alloc _ _ _
        have HOA : wA.heap[ob]? = some (OpBlock x) := by rw [hwA, hob]; exact heap_alloc_last _ _
        obtain ⟨c0, c1, c2, c3⟩ := op_cells HOA
        have HRA := Lib.hid (HR.grow hkA)
        have hobg : w.heap.size ≤ ob := by rw [hob]; exact HR.kept.size
        have hoba : ob ≠ a ∧ ob ≠ m := by
          have h1 := HR.disk.lt
          have h2 := HR.disk.map.lt
          rw [HR.map] at h2
          omega
        have HO := Lib.hid HOA
        have HWA := Lib.hid hwA
        have HOB := Lib.hid hob
        clear HOA hwA hob hkA HR
        go_wp2_with fail
        show Calls _ _ _ (wr.alloc (OpBlock x)) _
        rw [← HWA.out, ← HOB.out]
        refine (kind_any x.kind 8 _ (by omega) (by omega) (by omega) (by omega)).mono ?_
        rw [HKD.out]
        rintro e w3 ⟨rfl, rfl⟩
        clear hp0 hp1 hp2 hp3
        have hcase : (kd = 0 ∨ kd = 1 ∨ kd = 2 ∨ kd = 7) ∨ kd = 4 ∨ kd = 5 ∨ (kd = 3 ∨ kd = 6) := by omega
        rcases hcase with hcase | hcase | hcase | hcase
        · have hw0 := HRA.out.disk.w0
          have hw1 := HRA.out.writes
          rcases hcase with rfl | rfl | rfl | rfl
          all_goals
            go_wp2_with fail
            refine (full_any x.byte _).mono ?_
            rintro e wB ⟨rfl, hwB⟩
            have hkB : Kept [] wA wB := by rw [hwB]; exact Kept.alloc _ _ _
            have HOB2 := hkB.heap (by simp) HO.out
            clear c0 c1 c2 c3
            obtain ⟨c0, c1, c2, c3⟩ := op_cells HOB2
            have HRB := Lib.hid (HRA.out.grow hkB)
            have hslB : SlIs wB (.slice (some ⟨wA.heap.size, 0, none⟩) 64 64) (fullL x.byte) := by rw [hwB]; exact slIs_new _ _ _ _ (fullL_length _)
            have hneB : ∀ b o n c, Value.slice (some ⟨wA.heap.size, 0, none⟩) 64 64 = .slice (some ⟨b, o, none⟩) n c → b ≠ a ∧ b ≠ m := fun b o n c he => by
              simp at he
              have h1 := HRA.out.disk.lt
              have h2 := HRA.out.disk.map.lt
              rw [HRA.out.map] at h2
              omega
            have HSB := Lib.hid hslB
            have HNB := Lib.hid hneB
            have HO2 := Lib.hid HOB2
            clear hwB hkB hslB hneB HOB2
            go_wp2_with fail
            refine (kind_any x.kind 8 _ (by omega) (by omega) (by omega) (by omega)).mono ?_
            rw [HKD.out]
            rintro e w3 ⟨rfl, rfl⟩
            go_wp2_with fail
            first
              | (go_at_call 13
                 obtain ⟨j, hj⟩ : ∃ j, kindF x.n 71 = j := ⟨_, rfl⟩
                 have hjr := kindF_range x.n 71 (by omega)
                 rw [hj] at hjr
                 refine (kind_any x.n 71 _ (by omega) (by omega) (by omega) (by omega)).mono ?_
                 rw [hj]
                 rintro e w3 ⟨rfl, rfl⟩
                 obtain ⟨hj0, hj1⟩ := hjr
                 have hmk := run_make_bytes (P := Try.prog) wB 36 5 Try.underlying36 infoByte j hj0 (by omega)
                 have c1F := (op_cells ((Kept.alloc [] wB (.cells (bvA (zerosL j.toNat)) 5)).heap (by simp) HO2.out)).2.1
                 clear hj
                 go_wp2_with fail
                 clear hmk c1F
                 obtain ⟨bval, hbv⟩ : ∃ v, Value.slice (some ⟨wB.heap.size, 0, none⟩) j.toNat j.toNat = v := ⟨_, rfl⟩
                 obtain ⟨lb, hlb⟩ : ∃ l, zerosL j.toNat = l := ⟨_, rfl⟩
                 obtain ⟨wF, hwF⟩ : ∃ W, W = wB.alloc (.cells (bvA (zerosL j.toNat)) 5) := ⟨_, rfl⟩
                 rw [hbv, ← hwF]
                 have hkF : Kept [] wB wF := by rw [hwF]; exact Kept.alloc _ _ _
                 have HSF : Hid (SlIs wF bval lb) := by rw [← hbv, ← hlb, hwF]; exact slIs_new _ _ _ _ (zerosL_length _)
                 have HNF : Hid (∀ b o n c, bval = .slice (some ⟨b, o, none⟩) n c → b ≠ a ∧ b ≠ m) := fun b o n c he => by
                   rw [← hbv] at he
                   simp at he
                   have h1 := HRB.out.disk.lt
                   have h2 := HRB.out.disk.map.lt
                   rw [HRB.out.map] at h2
                   omega
                 have HRF := Lib.hid (HRB.out.grow hkF)
                 have HOF := Lib.hid (hkF.heap (by simp) HO2.out)
                 clear c0 c1 c2 c3 hbv hlb hwF hkF hj0 hj1 HSB HNB HRB HO2
                 obtain ⟨c0, c1, c2, c3⟩ := op_cells HOF.out)
              | (obtain ⟨bval, hbv⟩ : ∃ v, Value.slice (some ⟨wA.heap.size, 0, none⟩) 64 64 = v := ⟨_, rfl⟩
                 obtain ⟨lb, hlb⟩ : ∃ l, fullL x.byte = l := ⟨_, rfl⟩
                 obtain ⟨wF, rfl⟩ : ∃ W, W = wB := ⟨_, rfl⟩
                 rw [hbv]
                 have HSF : Hid (SlIs wF bval lb) := by rw [← hbv, ← hlb]; exact HSB.out
                 have HNF : Hid (∀ b o n c, bval = .slice (some ⟨b, o, none⟩) n c → b ≠ a ∧ b ≠ m) := by rw [← hbv]; exact HNB.out
                 have HRF := HRB
                 have HOF := HO2
                 clear hbv hlb HSB HNB HRB HO2)
            obtain ⟨vo, hvo⟩ : ∃ v, S.rdV x.pos wF.heap.size = v := ⟨_, rfl⟩
            obtain ⟨f, hf⟩ : ∃ f, S.reach x.pos = f := ⟨_, rfl⟩
            refine (read_any a S x.pos _ HRF.out.disk).mono ?_
            rw [hvo, hf]
            rintro e wC ⟨rfl, hwC⟩
            have hkC : Kept [] wF wC := by rw [hwC]; exact S.rdW_kept _ _ _
            have hslO : SlIs wC vo (S.rdL x.pos) := by rw [hwC, ← hvo]; exact S.rd_slIs HRF.out.disk x.pos
            have HSC := Lib.hid (HSF.out.kept hkC (by simp))
            have HOC := hkC.heap (by simp) HOF.out
            clear c0 c1 c2 c3
            obtain ⟨c0, c1, c2, c3⟩ := op_cells HOC
            have HRC := Lib.hid (HRF.out.grow hkC)
            have HSO := Lib.hid hslO
            have HNO : Hid (∀ b o n c, vo = .slice (some ⟨b, o, none⟩) n c → b ≠ a ∧ b ≠ m) := fun b o n c he => by
              rw [← hvo] at he
              unfold DiskS.rdV at he
              split at he
              · simp at he
                have h1 := HRF.out.disk.lt
                have h2 := HRF.out.disk.map.lt
                rw [HRF.out.map] at h2
                omega
              · simp at he
            have HF := Lib.hid hf
            have HO3 := Lib.hid HOC
            clear hvo hf hwC hkC hslO HOC
            go_wp2_with fail
            refine (write_any a S x.pos bval lb _ HRC.out.disk (by omega) HSC.out (fun b o n c he => (HNF.out b o n c he).1)).mono ?_
            obtain ⟨g, hg⟩ : ∃ g, (S.wr x.pos lb).1 = g := ⟨_, rfl⟩
            rw [hg]
            rintro e wD ⟨rfl, hdD, hkD⟩
            have hwc := S.wr_cases x.pos lb
            rw [hg] at hwc
            rw [HRC.out.map] at hkD
            have HSD := Lib.hid (HSC.out.kept hkD (fun b o n c he => by simpa using HNF.out b o n c he))
            have HSOD := Lib.hid (HSO.out.kept hkD (fun b o n c he => by simpa using HNO.out b o n c he))
            have HOD := hkD.heap (by simpa using hoba) HO3.out
            clear c0 c1 c2 c3
            obtain ⟨c0, c1, c2, c3⟩ := op_cells HOD
            have HRD := Lib.hid (HRC.out.write x.pos lb hdD (by rw [HRC.out.map]; exact hkD))
            generalize (S.wr x.pos lb).2 = S2 at *
            obtain ⟨hwc, hm2, hs2⟩ := hwc
            obtain ⟨h, hh⟩ : ∃ h, S2.reach x.pos = h := ⟨_, rfl⟩
            obtain ⟨vn, hvn⟩ : ∃ v, S2.rdV x.pos wD.heap.size = v := ⟨_, rfl⟩
            have hslN : ∀ wE, wE = S2.rdW x.pos wD → SlIs wE vn (S2.rdL x.pos) := fun wE he => by rw [he, ← hvn]; exact S2.rd_slIs hdD x.pos
            have HSN := Lib.hid hslN
            have HVN := Lib.hid hvn
            have HH := Lib.hid hh
            clear hg hm2 hs2 hdD hkD hvn hh hslN HOD
            rcases hwc with ⟨rfl, e1, e2, e3, e4⟩ | ⟨e1, e2, e4⟩
            · have E1 := Lib.hid e1
              have E2 := Lib.hid e2
              have E4 := Lib.hid e4
              clear e1 e2 e3 e4
              go_wp2_with fail
              refine (read_any a S2 x.pos _ HRD.out.disk).mono ?_
              rw [HVN.out, E1.out]
              rintro e wE ⟨rfl, hwE⟩
              have hkE : Kept [] wD wE := by rw [hwE]; exact S2.rdW_kept _ _ _
              have hrl : S2.rdL x.pos = lb := by unfold DiskS.rdL; rw [if_pos E1.out]; exact E2.out
              have cvN := conv_sl (HSN.out wE hwE)
              rw [hrl] at cvN
              have cvB := conv_sl (HSD.out.kept hkE (by simp))
              have HRE := Lib.hid (HRD.out.grow hkE)
              clear hwE hkE hrl
              go_wp2_with fail
              refine (writes_any a _ _ HRE.out.disk).mono ?_
              rw [E4.out]
              rintro e w3 ⟨rfl, rfl⟩
              go_wp2_with fail
              go_roundw
              case rel => exact ⟨k + 1, S2, by omega, by omega, by go_num, by rw [E4.out], HRE.out⟩
              case measure => simp [intOf]; omega
            · have g1 : (g == 0) = false := by simpa using e1
              have g2 : (g != 0) = true := by simpa using e1
              have E2 := Lib.hid e2
              have E4 := Lib.hid e4
              clear e1 e2 e4
              go_wp2_with fail
              refine (read_any a S2 x.pos _ HRD.out.disk).mono ?_
              rw [HVN.out, HH.out]
              rintro e wE ⟨rfl, hwE⟩
              have hkE : Kept [] wD wE := by rw [hwE]; exact S2.rdW_kept _ _ _
              have HRE := Lib.hid (HRD.out.grow hkE)
              by_cases hf0 : f = 0
              · by_cases hh0 : h = 0
                · have hrl : S2.rdL x.pos = S.rdL x.pos := by
                    unfold DiskS.rdL
                    rw [if_pos (HH.out.trans hh0), if_pos (HF.out.trans hf0), E2.out]
                  have cvN := conv_sl (HSN.out wE hwE)
                  rw [hrl] at cvN
                  have cvO := conv_sl (HSOD.out.kept hkE (by simp))
                  subst hf0 hh0
                  clear hwE hkE hrl
                  go_wp2_with fail
                  refine (writes_any a _ _ HRE.out.disk).mono ?_
                  rw [E4.out]
                  rintro e w3 ⟨rfl, rfl⟩
                  go_wp2_with fail
                  go_roundw
                  case rel => exact ⟨k + 1, S2, by omega, by omega, by go_num, by rw [E4.out], HRE.out⟩
                  case measure => simp [intOf]; omega
                · have h1' : (h == 0) = false := by simpa using hh0
                  subst hf0
                  clear hwE hkE hh0
                  go_wp2_with fail
                  refine (writes_any a _ _ HRE.out.disk).mono ?_
                  rw [E4.out]
                  rintro e w3 ⟨rfl, rfl⟩
                  go_wp2_with fail
                  go_roundw
                  case rel => exact ⟨k + 1, S2, by omega, by omega, by go_num, by rw [E4.out], HRE.out⟩
                  case measure => simp [intOf]; omega
              · have f1 : (f == 0) = false := by simpa using hf0
                clear hwE hkE hf0
                go_wp2_with fail
                refine (writes_any a _ _ HRE.out.disk).mono ?_
                rw [E4.out]
                rintro e w3 ⟨rfl, rfl⟩
                go_wp2_with fail
                go_roundw
                case rel => exact ⟨k + 1, S2, by omega, by omega, by go_num, by rw [E4.out], HRE.out⟩
                case measure => simp [intOf]; omega
        · subst hcase
          go_wp2_with fail
          refine (fuse_any a S x.n _ HRA.out.disk r2).mono ?_
          rintro e wB ⟨rfl, hdB, hkB⟩
          have hmS : (S.fuse x.n).m = S.m ∧ (S.fuse x.n).writes = S.writes := by unfold DiskS.fuse; split <;> (try split) <;> simp
          have HRB := Lib.hid (HRA.out.turn hdB hmS.1 hmS.2 hkB)
          have HMS := Lib.hid hmS
          clear hdB hkB hmS
          go_wp2_with fail
          refine (writes_any a _ _ HRB.out.disk).mono ?_
          rw [HMS.out.2]
          rintro e w3 ⟨rfl, rfl⟩
          go_wp2_with fail
          go_roundw
          case rel => exact ⟨k + 1, S.fuse x.n, by omega, by omega, by go_num, by rw [HMS.out.2], HRB.out.le (by omega)⟩
          case measure => simp [intOf]; omega
        · subst hcase
          go_wp2_with fail
          refine (boot_any a S _ HRA.out.disk).mono ?_
          rintro e wB ⟨rfl, hdB, hkB⟩
          have HRB := Lib.hid (HRA.out.turn hdB rfl rfl hkB)
          clear hdB hkB
          go_wp2_with fail
          refine (writes_any a _ _ HRB.out.disk).mono ?_
          rw [show S.boot.writes = S.writes from rfl]
          rintro e w3 ⟨rfl, rfl⟩
          go_wp2_with fail
          go_roundw
          case rel => exact ⟨k + 1, S.boot, by omega, by omega, by go_num, rfl, HRB.out.le (by omega)⟩
          case measure => simp [intOf]; omega
        · rcases hcase with rfl | rfl
          all_goals
            go_wp2_with fail
            refine (writes_any a _ _ HRA.out.disk).mono ?_
            rintro e w3 ⟨rfl, rfl⟩
            go_wp2_with fail
            go_roundw
            case rel => exact ⟨k + 1, S, by omega, by omega, by go_num, rfl, HRA.out.le (by omega)⟩
            case measure => simp [intOf]; omega
      · obtain rfl : k = 100 := by omega
        go_wp2_with fail
        go_ret
        exact ⟨rfl, HR.kept⟩
    · go_wp2_with fail
      go_ret
      exact ⟨rfl, HR.kept⟩

set_option maxHeartbeats 4000000 in
set_option maxRecDepth 100000 in
theorem counts_empty (ao : Option Addr) (cap : Nat) (w : World) :
    Calls Try.prog 7 #[.slice ao 0 cap] w fun e w' => e = .returned (.bool true) ∧ Kept [] w w' := by
  go_enter Try.func7, Try.ntmps7
  go_wp2_with fail
  refine (shown_true w).mono ?_
  rintro e w1 ⟨rfl, hk1⟩
  have HK1 := Lib.hid hk1
  clear hk1
  go_wp2_with fail
  refine (new_ok 6 _ (by omega) (by omega)).mono ?_
  rintro e w2 ⟨rfl, hd2, hk2⟩
  have HK2 := Lib.hid hk2
  clear hd2 hk2
  go_wp2_with fail
  refine wp_loop_rounds 1 ?_
  rw [rounds_succ]
  go_wp2_with fail
  go_ret
  exact ⟨rfl, HK1.out.trans HK2.out⟩

theorem counts_any (ao : Option Addr) (len cap : Nat) (l : List OpV) (w : World) (h : OpsArg w ao len l) :
    Calls Try.prog 7 #[.slice ao len cap] w fun e w' => e = .returned (.bool true) ∧ Kept [] w w' := by
  obtain ⟨rfl, hl, hf, h0 | ⟨b, o, rfl, hb, hc⟩⟩ := h
  · rw [h0]; exact counts_empty ao cap w
  · exact counts_walk b o cap l w hb hc hf hl

end Go.Proofs.Ythhcopipamjelaa

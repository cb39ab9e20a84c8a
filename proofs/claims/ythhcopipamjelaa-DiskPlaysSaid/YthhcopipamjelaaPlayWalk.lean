/-
  The walk of the statement that a disk does any calls as the document says.
  Conditions: fewer than 2^62 calls.
-/
import Derived.Test.YthhcopipamjelaaPlay
import Derived.Test.YthhcopipamjelaaOps
import Derived.Deep.LoopGhost
namespace Go.Proofs.Ythhcopipamjelaa
open Go.RowKit Go.Maps

/-- The round's own copy of the operation. -/
def PlBlock (x : OpV) : Obj := .cells #[.int .i64 x.kind, .int .i64 x.pos, .int .i64 x.n, .int .u8 (x.byte.toNat : Int)] 34
theorem pl_cells {W : World} {ob : Nat} {x : OpV} (h : W.heap[ob]? = some (PlBlock x)) :
    W.cell? ⟨ob, 0, none⟩ = some (.int .i64 x.kind) ∧ W.cell? ⟨ob, 1, none⟩ = some (.int .i64 x.pos) ∧ W.cell? ⟨ob, 2, none⟩ = some (.int .i64 x.n) ∧ W.cell? ⟨ob, 3, none⟩ = some (.int .u8 (x.byte.toNat : Int)) :=
  ⟨cell_of_row W ob 0 _ _ _ h, cell_of_row W ob 1 _ _ _ h, cell_of_row W ob 2 _ _ _ h, cell_of_row W ob 3 _ _ _ h⟩

theorem slIs_block {w : World} {b n : Nat} {l : List UInt8} {t : TypeId} (h : w.heap[b]? = some (.cells (bvA l) t)) (hn : l.length = n) : SlIs w (.slice (some ⟨b, 0, none⟩) n n) l := by
  subst hn
  refine .inl ⟨b, 0, _, rfl, (Array.getElem?_eq_some_iff.1 h).1, fun j v hv => ?_⟩
  rw [Nat.zero_add, cell_of_row w b j _ _ _ h]
  simpa [bvA] using hv

set_option maxHeartbeats 1000000 in
set_option maxRecDepth 100000 in
theorem plays_bad (bl : Int) (v : Value) (w : World) (h : bl < 1 ∨ 4096 < bl) :
    Calls Try.prog 3 #[.int .i64 bl, v] w fun e w' => e = .returned (.bool true) ∧ Kept [] w w' := by
  have HB := Lib.hid h
  clear h
  go_enter Try.func3, Try.ntmps3
  go_wp2_with fail
  refine (shown_true w).mono ?_
  rintro e w1 ⟨rfl, hk1⟩
  have HK1 := Lib.hid hk1
  clear hk1
  go_wp2_with fail
  refine (new_bad bl _ HB.out).mono ?_
  rintro e w2 ⟨rfl, rfl⟩
  go_wp2_with fail
  refine (rnew_bad bl _ HB.out).mono ?_
  rintro e w2 ⟨rfl, rfl⟩
  go_wp2_with fail
  go_ret
  exact ⟨rfl, HK1.out⟩

set_option maxHeartbeats 8000000 in
set_option maxRecDepth 100000 in
theorem plays_walk (bl : Nat) (hbl1 : 1 ≤ bl) (hbl2 : bl ≤ 4096) (ao : Option Addr) (b o cap : Nat) (l : List OpV) (w : World) (hao : 0 < l.length → ao = some ⟨b, o, none⟩) (hb : 0 < l.length → b < w.heap.size) (hc : 0 < l.length → OpsAt w b o l) (hf : ∀ x ∈ l, x.fits) (hl : l.length < 4611686018427387904) :
    Calls Try.prog 3 #[.int .i64 (bl : Int), .slice ao l.length cap] w fun e w' => e = .returned (.bool true) ∧ Kept [] w w' := by
  have HC := Lib.hid hc
  have HAO := Lib.hid hao
  have HBB := Lib.hid hb
  have HFT := Lib.hid hf
  clear hc hf hao hb
  go_enter Try.func3, Try.ntmps3
  go_wp2_with fail
  refine (shown_true w).mono ?_
  rintro e w1 ⟨rfl, hk1⟩
  have HK1 := Lib.hid hk1
  clear hk1
  go_wp2_with fail
  refine (new_ok bl _ (by omega) (by omega)).mono ?_
  rintro e w2 ⟨rfl, hd2, hk2⟩
  obtain ⟨ax, hax⟩ : ∃ a, a = w1.heap.size + 1 := ⟨_, rfl⟩
  obtain ⟨m, hm⟩ : ∃ m, m = w1.heap.size := ⟨_, rfl⟩
  rw [← hax, ← hm] at hd2
  rw [← hax]
  have HD2 := Lib.hid hd2
  have HK2 := Lib.hid hk2
  have hgx : w.heap.size ≤ ax := by have := HK1.out.size; omega
  have hgm : w.heap.size ≤ m := by have := HK1.out.size; omega
  clear hd2 hk2 hax hm
  go_wp2_with fail
  refine (rnew_ok bl _ hbl1 hbl2).mono ?_
  rintro e w3 ⟨rfl, hr3, hk3⟩
  obtain ⟨ay, hay⟩ : ∃ a, a = w2.heap.size + 1 := ⟨_, rfl⟩
  obtain ⟨rb, hrb⟩ : ∃ m, m = w2.heap.size := ⟨_, rfl⟩
  rw [← hay, ← hrb] at hr3
  rw [← hay]
  have HR3 := Lib.hid hr3
  have HK3 := Lib.hid hk3
  have hgy : w.heap.size ≤ ay := by have := HK1.out.size; have := HK2.out.size; omega
  have hgr : w.heap.size ≤ rb := by have := HK1.out.size; have := HK2.out.size; omega
  have HD3 := Lib.hid (HD2.out.kept hk3 (by simp) (by simp))
  clear hr3 hk3 hay hrb
  go_wp2_with fail
  refine (clone_any ax _ _ HD3.out).mono ?_
  rintro e w4 ⟨rfl, hd4, hk4⟩
  obtain ⟨az, haz⟩ : ∃ a, a = w3.heap.size := ⟨_, rfl⟩
  rw [← haz] at hd4
  rw [← haz]
  have hxz : ax < az := by rw [haz]; exact HD3.out.lt
  have hmz : m < az := by rw [haz]; exact HD3.out.map.lt
  have HD4 := Lib.hid hd4
  have HK4 := Lib.hid hk4
  have HR4 := Lib.hid (HR3.out.kept hk4 (by simp) (by simp) (by simp))
  have HX4 := Lib.hid (HD3.out.kept hk4 (by simp) (by simp))
  clear hd4 hk4 haz
  go_wp2_with fail
  refine (rclone_any ay _ _ HR4.out).mono ?_
  rintro e w5 ⟨rfl, ⟨rb2, rc2, hrb2, hr5⟩, hk5⟩
  obtain ⟨aw, haw⟩ : ∃ a, a = w4.heap.size := ⟨_, rfl⟩
  rw [← haw] at hr5 hrb2
  rw [← haw]
  have hyw : ay < aw := by rw [haw]; exact HR4.out.lt
  have hrw : rb < aw := by rw [haw]; exact HR4.out.rlt
  have hkw : Kept [] w w5 := (((HK1.out.trans HK2.out).trans HK3.out).trans HK4.out).trans hk5
  have R0 : Hid (PlayRel w 0 ax ay az aw (DiskS.new bl m) ((DiskS.new bl m).at (az + 1)) (RefS.new bl rb) { RefS.new bl rb with rb := rb2, rcap := rc2 } w5) := by
    have hsim : Sim (DiskS.new bl m) (RefS.new bl rb) := ⟨rfl, rfl, rfl, by simp [DiskS.new], rfl, fun _ _ => rfl⟩
    refine ⟨HX4.out.kept hk5 (by simp) (by simp), HD4.out.kept hk5 (by simp) (by simp), HR4.out.kept hk5 (by simp) (by simp) (by simp), hr5, hsim, hsim.clone _ _ _, hkw, hgx, by omega, hgy, by omega, hgm, ?_, hgr, ?_, by omega, ?_, by omega, ?_, by simp [DiskS.new], by simp [DiskS.new, DiskS.at]⟩
    · show w.heap.size ≤ az + 1
      omega
    · show w.heap.size ≤ rb2
      omega
    · show m ≠ az + 1
      omega
    · show rb ≠ rb2
      omega
  clear hr5 hk5 haw hkw HD2 HK2 HR3 HK3 HD3 HD4 HK4 HR4 HX4 HK1 hgx hgm hgy hgr hxz hmz hyw hrw hrb2
  go_wp2_with fail
  go_loopw [6, 8, 10, 11, 12] (fun vx vy vz vw i wr => ∃ (k ax ay az aw : Nat) (S T : DiskS) (R U : RefS), k ≤ l.length ∧ vx = .pointer (some ⟨ax, 0, none⟩) ∧ vy = .pointer (some ⟨ay, 0, none⟩) ∧ vz = .pointer (some ⟨az, 0, none⟩) ∧ vw = .pointer (some ⟨aw, 0, none⟩) ∧ i = .int .i64 k ∧ PlayRel w k ax ay az aw S T R U wr) (fun _ _ _ _ i _ => l.length - (intOf i).toNat)
  case atStart => exact ⟨0, ax, ay, az, aw, _, _, _, _, by omega, rfl, rfl, rfl, rfl, rfl, R0.out⟩
  case round =>
    clear R0
    obtain ⟨k, ax, ay, az, aw, S, T, R, U, hkl, rfl, rfl, rfl, rfl, rfl, HP⟩ := hrel
    by_cases hin : k < l.length
    · obtain rfl : ao = some ⟨b, o, none⟩ := HAO.out (by omega)
      have hb : b < w.heap.size := HBB.out (by omega)
      obtain ⟨x, hx⟩ : ∃ x, x = l[k] := ⟨_, rfl⟩
      have hfit : x.fits := by rw [hx]; exact HFT.out _ (List.getElem_mem _)
      have hcl := HC.out (by omega) k hin
      rw [← hx] at hcl
      have hp0 : wr.cell? ⟨b, o + k * 4, none⟩ = some (.int .i64 x.kind) := by
        rw [HP.kept.cell (p := ⟨b, o + k * 4, none⟩) hb (by simp)]; exact hcl 0 _ rfl
      have hp1 : wr.cell? ⟨b, o + k * 4 + 1, none⟩ = some (.int .i64 x.pos) := by
        rw [HP.kept.cell (p := ⟨b, o + k * 4 + 1, none⟩) hb (by simp)]; exact hcl 1 _ rfl
      have hp2 : wr.cell? ⟨b, o + k * 4 + 2, none⟩ = some (.int .i64 x.n) := by
        rw [HP.kept.cell (p := ⟨b, o + k * 4 + 2, none⟩) hb (by simp)]; exact hcl 2 _ rfl
      have hp3 : wr.cell? ⟨b, o + k * 4 + 3, none⟩ = some (.int .u8 (x.byte.toNat : Int)) := by
        rw [HP.kept.cell (p := ⟨b, o + k * 4 + 3, none⟩) hb (by simp)]; exact hcl 3 _ rfl
      obtain ⟨⟨p1, p2⟩, ⟨q1, q2⟩, ⟨r1, r2⟩⟩ := hfit
      clear hcl hx
      obtain ⟨kd, hkd⟩ : ∃ kd : Int, kindF x.kind 8 = kd := ⟨_, rfl⟩
      have hkr := kindF_range x.kind 8 (by omega)
      rw [hkd] at hkr
      obtain ⟨hkr0, hkr1⟩ := hkr
      have HKD := Lib.hid hkd
      clear hkd
      obtain ⟨wA, hwA⟩ : ∃ wA, wA = wr.alloc (PlBlock x) := ⟨_, rfl⟩
      obtain ⟨ob, hob⟩ : ∃ ob, ob = wr.heap.size := ⟨_, rfl⟩
      have hkA : Kept [] wr wA := by rw [hwA]; exact Kept.alloc _ _ _
      have HOA : wA.heap[ob]? = some (PlBlock x) := by rw [hwA, hob]; exact heap_alloc_last _ _
      obtain ⟨c0, c1, c2, c3⟩ := pl_cells HOA
      have HPA := Lib.hid (HP.grow hkA)
      have hoff := HP.off_new (b := ob) (by rw [hob]; exact Nat.le_refl _)
      have HOFF := Lib.hid hoff
      have HO := Lib.hid HOA
      have HWA := Lib.hid hwA
      have HOB := Lib.hid hob
      clear HOA hwA hob hkA HP hoff
      go_wp2_with fail
      show Calls _ _ _ (wr.alloc (PlBlock x)) _
      rw [← HWA.out, ← HOB.out]
      refine (kind_any x.kind 8 _ (by omega) (by omega) (by omega) (by omega)).mono ?_
      rw [HKD.out]
      rintro e w3 ⟨rfl, rfl⟩
      clear hp0 hp1 hp2 hp3
      have hcase : (kd = 0 ∨ kd = 1 ∨ kd = 2 ∨ kd = 7) ∨ kd = 3 ∨ kd = 4 ∨ kd = 5 ∨ kd = 6 := by omega
      rcases hcase with hcase | hcase | hcase | hcase | hcase
      · rcases hcase with rfl | rfl | rfl | rfl
        all_goals
          go_wp2_with fail
          refine (full_any x.byte _).mono ?_
          rintro e wB ⟨rfl, hwB⟩
          have hkB : Kept [] wA wB := by rw [hwB]; exact Kept.alloc _ _ _
          have HOB2 := hkB.heap (by simp) HO.out
          clear c0 c1 c2 c3
          obtain ⟨c0, c1, c2, c3⟩ := pl_cells HOB2
          have HPB := Lib.hid (HPA.out.grow hkB)
          have HWB := Lib.hid hwB
          have HKB := Lib.hid hkB
          have HO2B := Lib.hid HOB2
          clear hwB hkB HOB2
          go_wp2_with fail
          refine (kind_any x.kind 8 _ (by omega) (by omega) (by omega) (by omega)).mono ?_
          rw [HKD.out]
          rintro e w3 ⟨rfl, rfl⟩
          go_wp2_with fail
          first
            | (go_at_call 13
               obtain ⟨j, hj⟩ : ∃ j : Nat, kindF x.n 71 = j := ⟨(kindF x.n 71).toNat, by have := kindF_range x.n 71 (by omega); omega⟩
               have hj1 : j < 71 := by have := kindF_range x.n 71 (by omega); omega
               refine (kind_any x.n 71 _ (by omega) (by omega) (by omega) (by omega)).mono ?_
               rw [hj]
               rintro e w3 ⟨rfl, rfl⟩
               have hmk := run_make_bytes (P := Try.prog) wB 36 5 Try.underlying36 infoByte (j : Int) (by omega) (by omega)
               simp only [Int.toNat_natCast] at hmk
               have c1F := (pl_cells ((Kept.alloc [] wB (.cells (bvA (zerosL j)) 5)).heap (by simp) HO2B.out)).2.1
               clear hj
               go_wp2_with fail
               clear hmk c1F
               obtain ⟨bb, hbb⟩ : ∃ a, a = wB.heap.size := ⟨_, rfl⟩
               obtain ⟨lb, hlb⟩ : ∃ l, l = zerosL j := ⟨_, rfl⟩
               obtain ⟨wF, hwF⟩ : ∃ W, W = wB.alloc (.cells (bvA (zerosL j)) 5) := ⟨_, rfl⟩
               obtain ⟨nn, hnn⟩ : ∃ n, n = j := ⟨_, rfl⟩
               rw [← hbb, ← hwF, ← hnn]
               have hkF : Kept [] wB wF := by rw [hwF]; exact Kept.alloc _ _ _
               have HBK : Hid (wF.heap[bb]? = some (.cells (bvA lb) 5)) := by rw [hwF, hbb, hlb]; exact heap_alloc_last _ _
               have hlen : lb.length = nn := by rw [hlb, hnn]; exact zerosL_length _
               have HPF := Lib.hid (HPB.out.grow hkF)
               have HOFB := Lib.hid (HPB.out.off_new (b := bb) (by rw [hbb]; exact Nat.le_refl _))
               have hobb : ob ≠ bb := by have := (Array.getElem?_eq_some_iff.1 HO2B.out).1; omega
               have hgb : w.heap.size ≤ bb := by rw [hbb]; exact HPB.out.kept.size
               have HOF := Lib.hid (hkF.heap (by simp) HO2B.out)
               have hn70 : nn ≤ 70 := by omega
               clear hbb hlb hwF hnn hkF hj1 c0 c1 c2 c3)
            | (obtain ⟨bb, hbb⟩ : ∃ a, a = wA.heap.size := ⟨_, rfl⟩
               obtain ⟨lb, hlb⟩ : ∃ l, l = fullL x.byte := ⟨_, rfl⟩
               obtain ⟨wF, rfl⟩ : ∃ W, W = wB := ⟨_, rfl⟩
               obtain ⟨nn, hnn⟩ : ∃ n : Nat, n = 64 := ⟨_, rfl⟩
               have hval : Value.slice (some ⟨wA.heap.size, 0, none⟩) 64 64 = .slice (some ⟨bb, 0, none⟩) nn nn := by rw [hbb, hnn]
               rw [hval]
               have HBK : Hid (wF.heap[bb]? = some (.cells (bvA lb) 5)) := by rw [HWB.out, hbb, hlb]; exact heap_alloc_last _ _
               have hlen : lb.length = nn := by rw [hlb, hnn]; exact fullL_length _
               have HPF := HPB
               have HOFB := Lib.hid (HPA.out.off_new (b := bb) (by rw [hbb]; exact Nat.le_refl _))
               have hobb : ob ≠ bb := by have := (Array.getElem?_eq_some_iff.1 HO.out).1; omega
               have hgb : w.heap.size ≤ bb := by rw [hbb]; exact HPA.out.kept.size
               have HOF := HO2B
               have hn70 : nn ≤ 70 := by omega
               clear hbb hlb hnn hval c0 c1 c2 c3)
          have hsl := slIs_block HBK.out hlen
          have hwl : S.writes < 4611686018427387904 := by have := HPF.out.wx; omega
          refine (write_any ax S x.pos _ lb _ HPF.out.dx hwl hsl (fun b' o' n' c' he => by simp at he; have := HOFB.out.x; omega)).mono ?_
          obtain ⟨g, hg⟩ : ∃ g, (S.wr x.pos lb).1 = g := ⟨_, rfl⟩
          rw [hg]
          rintro e wG ⟨rfl, hdG, hkG⟩
          have hnG : bb ∉ [ax, S.m] := by simp; exact ⟨HOFB.out.x, HOFB.out.m⟩
          have HBG := Lib.hid (hkG.heap hnG HBK.out)
          have HOG := Lib.hid (hkG.heap (b := ob) (by simp; exact ⟨HOFF.out.x, HOFF.out.m⟩) HOF.out)
          have HRG := Lib.hid (HPF.out.refX hkG)
          have HDG := Lib.hid hdG
          have HKG := Lib.hid hkG
          have HLEN := Lib.hid hlen
          have HG := Lib.hid hg
          clear hsl hnG hdG hkG hlen hg
          obtain ⟨c0, c1, c2, c3⟩ := pl_cells HOG.out
          go_wp2_with fail
          refine (rwrite_any ay S R x.pos _ lb _ HRG.out HPF.out.sx HPF.out.dx.l0 HPF.out.dx.l1 hwl (slIs_block HBG.out HLEN.out) (fun b' o' n' c' he => by simp at he; have := HOFB.out.y; omega)).mono ?_
          rw [HG.out]
          rintro e wH ⟨rfl, ⟨R', hrH, hsH, hrbH, havH⟩, hkH⟩
          have hmore := S.wr_more x.pos lb
          have HPH := Lib.hid (HPF.out.step (k' := k + 1) HDG.out hmore.1 HKG.out hrH hrbH hkH hsH (by have := HPF.out.wx; omega) (by omega))
          have HOFH := Lib.hid (HOFB.out.turn hmore.1 hrbH (havH bb (Array.getElem?_eq_some_iff.1 HBG.out).1 HOFB.out.ar))
          have hnH : bb ∉ [ay, R.rb] := by simp; exact ⟨HOFB.out.y, HOFB.out.r⟩
          have HBK2 := Lib.hid (hkH.heap hnH HBG.out)
          have HO2 := Lib.hid (hkH.heap (b := ob) (by simp; exact ⟨HOFF.out.y, HOFF.out.r⟩) HOG.out)
          have HBS : Hid ((bvA lb).size = nn) := by show _ = _; rw [bvA_size]; exact HLEN.out
          clear HBK
          have HBK := HBK2
          clear hrH hsH hrbH havH hkH hmore hnH c0 c1 c2 c3 HBK2
          generalize (S.wr x.pos lb).2 = S' at *
          go_wp2_with fail
          go_loopw [17] (fun i wq => ∃ (q : Nat) (cs : Array Value), q ≤ nn ∧ i = .int .i64 q ∧ wq.heap[bb]? = some (.cells cs 5) ∧ cs.size = nn ∧ Kept [bb] wH wq) (fun i _ => nn - (intOf i).toNat)
          case atStart => exact ⟨0, _, by omega, rfl, HBK.out, HBS.out, Kept.refl _ _⟩
          case round =>
            obtain ⟨q, cs, hqn, rfl, hbq, hcs, hkq⟩ := hrel
            by_cases hq : q < nn
            · have d1 : wr.cell? ⟨bb, q, none⟩ = some (cs[q]'(by omega)) := by
                rw [cell_of_row wr bb q _ _ _ hbq]
                exact Array.getElem?_eq_getElem (by omega)
              have d2 : wr.frozen? ⟨bb, q, none⟩ = false := frozen_of_row wr bb q _ _ hbq
              have HX : Hid ((wr.setCell ⟨bb, q, none⟩ (.int .u8 98)).heap[bb]? = some (.cells (cs.setIfInBounds q (.int .u8 98)) 5) ∧ (cs.setIfInBounds q (Value.int .u8 98)).size = nn ∧ Kept [bb] wH (wr.setCell ⟨bb, q, none⟩ (.int .u8 98))) :=
                ⟨heap_setCell_same wr bb q _ _ _ hbq, by simpa using hcs, hkq.trans (Kept.setCell _ _ _ _ (by simp))⟩
              clear hbq hkq
              go_wp2_with fail
              go_roundw
              case rel => exact ⟨q + 1, _, by omega, by go_num, HX.out.1, HX.out.2.1, HX.out.2.2⟩
              case measure => simp [intOf]; omega
            · obtain rfl : q = nn := by omega
              have HPD := HPH.out.over HOFH.out hgb hkq
              have HO3 := Lib.hid (hkq.heap (b := ob) (by simpa using hobb) HO2.out)
              clear hbq hkq hcs
              obtain ⟨c0, c1, c2, c3⟩ := pl_cells (HO3.out)
              go_wp2_with fail
              refine (alike_true ax ay _ _ x.pos _ HPD.dx HPD.ry HPD.sx).mono ?_
              rintro e wK ⟨rfl, hkK⟩
              have PK := Lib.hid (HPD.grow hkK)
              have HOK := Lib.hid (hkK.heap (by simp) (HO3.out))
              clear hkK c0 c1 c2 c3
              obtain ⟨c0, c1, c2, c3⟩ := pl_cells HOK.out
              go_wp2_with fail
              refine (alike_true az aw _ _ x.pos _ PK.out.dz PK.out.ru PK.out.sz).mono ?_
              rintro e wL ⟨rfl, hkL⟩
              have PL := Lib.hid (PK.out.grow hkL)
              clear hkL c0 c1 c2 c3
              go_wp2_with fail
              go_roundw
              case rel => exact ⟨k + 1, ax, ay, az, aw, _, _, _, _, by omega, rfl, rfl, rfl, rfl, by go_num, PL.out⟩
              case measure => simp [intOf]; omega
      · subst hcase
        by_cases hrz : S.reach x.pos = 0
        · go_wp2_with fail
          refine (read_ok ax S x.pos _ HPA.out.dx hrz).mono ?_
          rintro e wB ⟨rfl, hwB⟩
          obtain ⟨bb, hbb⟩ : ∃ a, a = wA.heap.size := ⟨_, rfl⟩
          rw [← hbb]
          have hkB : Kept [] wA wB := by rw [hwB]; exact Kept.alloc _ _ _
          have HBK : Hid (wB.heap[bb]? = some (.cells (bvA (S.blk x.pos)) 58)) := by rw [hwB, hbb]; exact heap_alloc_last _ _
          have HBS : Hid ((bvA (S.blk x.pos)).size = 64) := by show _ = _; rw [bvA_size]; exact HPA.out.dx.blk64 _
          have HPB := Lib.hid ((HPA.out.grow hkB).le (k' := k + 1) (by omega))
          have HOFB := Lib.hid (HPA.out.off_new (b := bb) (by rw [hbb]; exact Nat.le_refl _))
          have hobb : ob ≠ bb := by have := (Array.getElem?_eq_some_iff.1 HO.out).1; omega
          have hgb : w.heap.size ≤ bb := by rw [hbb]; exact HPA.out.kept.size
          have HO2 := Lib.hid (hkB.heap (by simp) HO.out)
          clear hwB hkB hbb c0 c1 c2 c3 hrz
          go_wp2_with fail
          go_loopw [20] (fun i wq => ∃ (q : Nat) (cs : Array Value), q ≤ 64 ∧ i = .int .i64 q ∧ wq.heap[bb]? = some (.cells cs 58) ∧ cs.size = 64 ∧ Kept [bb] wB wq) (fun i _ => 64 - (intOf i).toNat)
          case atStart => exact ⟨0, _, by omega, rfl, HBK.out, HBS.out, Kept.refl _ _⟩
          case round =>
            obtain ⟨q, cs, hqn, rfl, hbq, hcs, hkq⟩ := hrel
            by_cases hq : q < 64
            · have d1 : wr.cell? ⟨bb, q, none⟩ = some (cs[q]'(by omega)) := by
                rw [cell_of_row wr bb q _ _ _ hbq]
                exact Array.getElem?_eq_getElem (by omega)
              have d2 : wr.frozen? ⟨bb, q, none⟩ = false := frozen_of_row wr bb q _ _ hbq
              have HX : Hid ((wr.setCell ⟨bb, q, none⟩ (.int .u8 99)).heap[bb]? = some (.cells (cs.setIfInBounds q (.int .u8 99)) 58) ∧ (cs.setIfInBounds q (Value.int .u8 99)).size = 64 ∧ Kept [bb] wB (wr.setCell ⟨bb, q, none⟩ (.int .u8 99))) :=
                ⟨heap_setCell_same wr bb q _ _ _ hbq, by simpa using hcs, hkq.trans (Kept.setCell _ _ _ _ (by simp))⟩
              clear hbq hkq
              go_wp2_with fail
              go_roundw
              case rel => exact ⟨q + 1, _, by omega, by go_num, HX.out.1, HX.out.2.1, HX.out.2.2⟩
              case measure => simp [intOf]; omega
            · obtain rfl : q = 64 := by omega
              have HPD := HPB.out.over HOFB.out hgb hkq
              have HO3 := Lib.hid (hkq.heap (b := ob) (by simpa using hobb) HO2.out)
              clear hbq hkq hcs
              obtain ⟨c0, c1, c2, c3⟩ := pl_cells (HO3.out)
              go_wp2_with fail
              refine (alike_true ax ay _ _ x.pos _ HPD.dx HPD.ry HPD.sx).mono ?_
              rintro e wK ⟨rfl, hkK⟩
              have PK := Lib.hid (HPD.grow hkK)
              have HOK := Lib.hid (hkK.heap (by simp) (HO3.out))
              clear hkK c0 c1 c2 c3
              obtain ⟨c0, c1, c2, c3⟩ := pl_cells HOK.out
              go_wp2_with fail
              refine (alike_true az aw _ _ x.pos _ PK.out.dz PK.out.ru PK.out.sz).mono ?_
              rintro e wL ⟨rfl, hkL⟩
              have PL := Lib.hid (PK.out.grow hkL)
              clear hkL c0 c1 c2 c3
              go_wp2_with fail
              go_roundw
              case rel => exact ⟨k + 1, ax, ay, az, aw, _, _, _, _, by omega, rfl, rfl, rfl, rfl, by go_num, PL.out⟩
              case measure => simp [intOf]; omega
        · go_wp2_with fail
          refine (read_away ax S x.pos _ HPA.out.dx (by rw [bne_iff_ne]; exact hrz)).mono ?_
          obtain ⟨er, her⟩ : ∃ er, S.reach x.pos = er := ⟨_, rfl⟩
          rw [her]
          rintro e wB ⟨rfl, rfl⟩
          clear her hrz
          go_wp2_with fail
          refine wp_loop_rounds 1 ?_
          rw [rounds_succ]
          have HPD := HPA.out.le (k' := k + 1) (by omega)
          clear c0 c1 c2 c3
          obtain ⟨c0, c1, c2, c3⟩ := pl_cells (HO.out)
          go_wp2_with fail
          refine (alike_true ax ay _ _ x.pos _ HPD.dx HPD.ry HPD.sx).mono ?_
          rintro e wK ⟨rfl, hkK⟩
          have PK := Lib.hid (HPD.grow hkK)
          have HOK := Lib.hid (hkK.heap (by simp) (HO.out))
          clear hkK c0 c1 c2 c3
          obtain ⟨c0, c1, c2, c3⟩ := pl_cells HOK.out
          go_wp2_with fail
          refine (alike_true az aw _ _ x.pos _ PK.out.dz PK.out.ru PK.out.sz).mono ?_
          rintro e wL ⟨rfl, hkL⟩
          have PL := Lib.hid (PK.out.grow hkL)
          clear hkL c0 c1 c2 c3
          go_wp2_with fail
          go_roundw
          case rel => exact ⟨k + 1, ax, ay, az, aw, _, _, _, _, by omega, rfl, rfl, rfl, rfl, by go_num, PL.out⟩
          case measure => simp [intOf]; omega
      · subst hcase
        go_wp2_with fail
        refine (fuse_any ax S x.n _ HPA.out.dx r2).mono ?_
        rintro e wB ⟨rfl, hdB, hkB⟩
        have hmS : (S.fuse x.n).m = S.m ∧ (S.fuse x.n).writes = S.writes := by unfold DiskS.fuse; split <;> (try split) <;> simp
        have HRB := Lib.hid (HPA.out.refX (hkB.mono (by simp)))
        have HOB2 := hkB.heap (b := ob) (by simpa using HOFF.out.x) HO.out
        have HDB := Lib.hid hdB
        have HKB := Lib.hid hkB
        have HMS := Lib.hid hmS
        have HO2 := Lib.hid HOB2
        clear hdB hkB hmS HOB2 c0 c1 c2 c3
        obtain ⟨c0, c1, c2, c3⟩ := pl_cells HO2.out
        go_wp2_with fail
        refine (rfuse_any ay R x.n _ HRB.out).mono ?_
        rintro e wC ⟨rfl, hdC, hkC⟩
        have hrbn : (R.fuse x.n).rb = R.rb := by unfold RefS.fuse; split <;> rfl
        have HPC := HPA.out.step (k' := k) HDB.out HMS.out.1 (HKB.out.mono (by simp)) hdC hrbn (hkC.mono (by simp)) (HPA.out.sx.fuse x.n) (by rw [HMS.out.2]; exact HPA.out.wx) (by omega)
        have HO3 := Lib.hid (hkC.heap (b := ob) (by simpa using HOFF.out.y) HO2.out)
        clear hdC hkC c0 c1 c2 c3
        have HPD := HPC.le (k' := k + 1) (by omega)
        clear HPC
        obtain ⟨c0, c1, c2, c3⟩ := pl_cells (HO3.out)
        go_wp2_with fail
        refine (alike_true ax ay _ _ x.pos _ HPD.dx HPD.ry HPD.sx).mono ?_
        rintro e wK ⟨rfl, hkK⟩
        have PK := Lib.hid (HPD.grow hkK)
        have HOK := Lib.hid (hkK.heap (by simp) (HO3.out))
        clear hkK c0 c1 c2 c3
        obtain ⟨c0, c1, c2, c3⟩ := pl_cells HOK.out
        go_wp2_with fail
        refine (alike_true az aw _ _ x.pos _ PK.out.dz PK.out.ru PK.out.sz).mono ?_
        rintro e wL ⟨rfl, hkL⟩
        have PL := Lib.hid (PK.out.grow hkL)
        clear hkL c0 c1 c2 c3
        go_wp2_with fail
        go_roundw
        case rel => exact ⟨k + 1, ax, ay, az, aw, _, _, _, _, by omega, rfl, rfl, rfl, rfl, by go_num, PL.out⟩
        case measure => simp [intOf]; omega
      · subst hcase
        go_wp2_with fail
        refine (boot_any ax S _ HPA.out.dx).mono ?_
        rintro e wB ⟨rfl, hdB, hkB⟩
        have HRB := Lib.hid (HPA.out.refX (hkB.mono (by simp)))
        have HOB2 := hkB.heap (b := ob) (by simpa using HOFF.out.x) HO.out
        have HDB := Lib.hid hdB
        have HKB := Lib.hid hkB
        have HO2 := Lib.hid HOB2
        clear hdB hkB HOB2 c0 c1 c2 c3
        go_wp2_with fail
        refine (rboot_any ay R _ HRB.out).mono ?_
        rintro e wC ⟨rfl, hdC, hkC⟩
        have HPC := HPA.out.step (k' := k) HDB.out rfl (HKB.out.mono (by simp)) hdC rfl (hkC.mono (by simp)) HPA.out.sx.boot HPA.out.wx (by omega)
        have HO3 := Lib.hid (hkC.heap (b := ob) (by simpa using HOFF.out.y) HO2.out)
        clear hdC hkC
        have HPD := HPC.le (k' := k + 1) (by omega)
        clear HPC
        obtain ⟨c0, c1, c2, c3⟩ := pl_cells (HO3.out)
        go_wp2_with fail
        refine (alike_true ax ay _ _ x.pos _ HPD.dx HPD.ry HPD.sx).mono ?_
        rintro e wK ⟨rfl, hkK⟩
        have PK := Lib.hid (HPD.grow hkK)
        have HOK := Lib.hid (hkK.heap (by simp) (HO3.out))
        clear hkK c0 c1 c2 c3
        obtain ⟨c0, c1, c2, c3⟩ := pl_cells HOK.out
        go_wp2_with fail
        refine (alike_true az aw _ _ x.pos _ PK.out.dz PK.out.ru PK.out.sz).mono ?_
        rintro e wL ⟨rfl, hkL⟩
        have PL := Lib.hid (PK.out.grow hkL)
        clear hkL c0 c1 c2 c3
        go_wp2_with fail
        go_roundw
        case rel => exact ⟨k + 1, ax, ay, az, aw, _, _, _, _, by omega, rfl, rfl, rfl, rfl, by go_num, PL.out⟩
        case measure => simp [intOf]; omega
      · subst hcase
        go_wp2_with fail
        refine (clone_any ax S _ HPA.out.dx).mono ?_
        rintro e wB ⟨rfl, hdB, hkB⟩
        obtain ⟨cx, hcx⟩ : ∃ a, a = wA.heap.size := ⟨_, rfl⟩
        rw [← hcx] at hdB
        rw [← hcx]
        have HDB := Lib.hid hdB
        have HKB := Lib.hid hkB
        have HCX := Lib.hid hcx
        have HRB := Lib.hid (HPA.out.grow hkB).ry
        clear hdB hkB hcx c0 c1 c2 c3
        go_wp2_with fail
        refine (rclone_any ay R _ HRB.out).mono ?_
        rintro e wC ⟨rfl, ⟨rb2, rc2, hrb2, hrC⟩, hkC⟩
        obtain ⟨cy, hcy⟩ : ∃ a, a = wB.heap.size := ⟨_, rfl⟩
        rw [← hcy] at hrC hrb2
        rw [← hcy]
        have HPD := (HPA.out.clone HCX.out HDB.out HKB.out hcy hrb2 hrC hkC).le (k' := k + 1) (by omega)
        have HO3 := Lib.hid ((HKB.out.trans hkC).heap (by simp) HO.out)
        clear hrC hkC hcy hrb2
        obtain ⟨c0, c1, c2, c3⟩ := pl_cells (HO3.out)
        go_wp2_with fail
        refine (alike_true cx cy _ _ x.pos _ HPD.dx HPD.ry HPD.sx).mono ?_
        rintro e wK ⟨rfl, hkK⟩
        have PK := Lib.hid (HPD.grow hkK)
        have HOK := Lib.hid (hkK.heap (by simp) (HO3.out))
        clear hkK c0 c1 c2 c3
        obtain ⟨c0, c1, c2, c3⟩ := pl_cells HOK.out
        go_wp2_with fail
        refine (alike_true ax ay _ _ x.pos _ PK.out.dz PK.out.ru PK.out.sz).mono ?_
        rintro e wL ⟨rfl, hkL⟩
        have PL := Lib.hid (PK.out.grow hkL)
        clear hkL c0 c1 c2 c3
        go_wp2_with fail
        go_roundw
        case rel => exact ⟨k + 1, cx, cy, ax, ay, _, _, _, _, by omega, rfl, rfl, rfl, rfl, by go_num, PL.out⟩
        case measure => simp [intOf]; omega
    · go_wp2_with fail
      go_ret
      exact ⟨rfl, HP.kept⟩

theorem plays_any (bl : Int) (ao : Option Addr) (len cap : Nat) (l : List OpV) (w : World) (h : OpsArg w ao len l) (hl : len < 4611686018427387904) :
    Calls Try.prog 3 #[.int .i64 bl, .slice ao len cap] w fun e w' => e = .returned (.bool true) ∧ Kept [] w w' := by
  by_cases hb : bl < 1 ∨ 4096 < bl
  · exact plays_bad bl _ w hb
  · obtain ⟨n, rfl⟩ := Int.eq_ofNat_of_zero_le (a := bl) (by omega)
    obtain ⟨rfl, _, hf, h0 | ⟨b, o, rfl, hbl, hc⟩⟩ := h
    · exact plays_walk n (by omega) (by omega) ao 0 0 cap l w (fun h => absurd h (by omega)) (fun h => absurd h (by omega)) (fun h => absurd h (by omega)) hf hl
    · exact plays_walk n (by omega) (by omega) _ b o cap l w (fun _ => rfl) (fun _ => hbl) (fun _ => hc) hf hl

end Go.Proofs.Ythhcopipamjelaa

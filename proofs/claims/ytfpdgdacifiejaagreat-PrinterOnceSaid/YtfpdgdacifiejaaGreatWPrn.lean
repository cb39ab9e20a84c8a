/-
  Layer 13: what is laid of nodes; the closures of Print and Value.
  Conditions: those that each theorem states.
-/
import Derived.Test.YtfpdgdacifiejaaGreatWTree
import Derived.Test.YtfpdgdacifiejaaGreatWBlock
namespace Go.Proofs.YtfpdgdacifiejaaGreat
open Go.RowKit Go.Maps

theorem page_put {w wz : World} {x0 x1 x2 x3 : Value} (hz : w.alloc (.cells #[x0, x1, x2, x3] 74) = wz) (v0 v1 v2 v3 : Value) :
    ((((wz.setCell ⟨w.heap.size, 0, none⟩ v0).setCell ⟨w.heap.size, 1, none⟩ v1).setCell ⟨w.heap.size, 2, none⟩ v2).setCell ⟨w.heap.size, 3, none⟩ v3).heap[w.heap.size]? = some (.cells #[v0, v1, v2, v3] 74) ∧
      Kept [] w ((((wz.setCell ⟨w.heap.size, 0, none⟩ v0).setCell ⟨w.heap.size, 1, none⟩ v1).setCell ⟨w.heap.size, 2, none⟩ v2).setCell ⟨w.heap.size, 3, none⟩ v3) := by
  have e : wz.heap[w.heap.size]? = some (.cells #[x0, x1, x2, x3] 74) := by rw [← hz]; exact heap_alloc_last _ _
  have hk : Kept [] w wz := by rw [← hz]; exact Kept.alloc _ _ _
  have st : ∀ (q : Nat) (x : Value) (wx : World), Kept [w.heap.size] wx (wx.setCell ⟨w.heap.size, q, none⟩ x) := fun q x wx => Kept.setCell _ _ _ _ (by simp)
  refine ⟨row_setJ (row_setJ (row_setJ (row_setJ e 0 v0) 1 v1) 2 v2) 3 v3, (((hk.into (st 0 v0 _) (by simp)).into (st 1 v1 _) (by simp)).into (st 2 v2 _) (by simp)).into (st 3 v3 _) (by simp)⟩
set_option maxRecDepth 100000 in
set_option maxHeartbeats 4000000 in
theorem plaid_any (v : Value) (ns : List Nod) (T : List UInt8) (w : World) (fid : FuncId) (cap : Array Value) (hent : Enters Tryz.prog fid) (h : NdIs w v ns) (hT : T.length ≤ 70368744177664)
    (hf : ∀ (p : Nat) (w1 : World), w.heap.size ≤ p → Kept [] w w1 → PgSt p v 0 [] w1 → Calls Tryz.prog fid (#[.pointer (some ⟨p, 0, none⟩)] ++ cap) w1 (PgOut p v 0 ([] ++ T) w1)) :
    Calls Tryz.prog 21 #[v, .func (.func fid) #[] cap] w fun e w' => e = .returned (.string (strL T)) ∧ Kept [] w w' := by
  have hE : ∀ (args : Array Value) (w : World), (callFunc fid args).run Tryz.prog w = .ok (.enter fid args) w := hent
  obtain ⟨na, nc, hv⟩ : ∃ a c, v = .slice a ns.length c := by obtain ⟨a, c, e, _⟩ := h; exact ⟨a, c, e⟩
  obtain ⟨N, hN⟩ : ∃ N, ns.length = N := ⟨_, rfl⟩
  rw [hN] at hv
  obtain ⟨wz, hwz⟩ : ∃ wz, w.alloc (.cells #[.slice none 0 0, .pointer none, .slice none 0 0, .int .i64 0] 74) = wz := ⟨_, rfl⟩
  have hrow : wz.heap[w.heap.size]? = some (.cells #[.slice none 0 0, .pointer none, .slice none 0 0, .int .i64 0] 74) := by rw [← hwz]; exact heap_alloc_last _ _
  have c0 : wz.cell? ⟨w.heap.size, 0, none⟩ = some (.slice none 0 0) := cell_of_row _ _ 0 _ _ _ hrow
  have c1 : wz.cell? ⟨w.heap.size, 1, none⟩ = some (.pointer none) := cell_of_row _ _ 1 _ _ _ hrow
  have c2 : wz.cell? ⟨w.heap.size, 2, none⟩ = some (.slice none 0 0) := cell_of_row _ _ 2 _ _ _ hrow
  have c3 : wz.cell? ⟨w.heap.size, 3, none⟩ = some (.int .i64 0) := cell_of_row _ _ 3 _ _ _ hrow
  have ff : ∀ q, wz.frozen? ⟨w.heap.size, q, none⟩ = false := fun q => frozen_of_row _ _ q _ _ hrow
  have hpp := page_put hwz v (.pointer none) (.slice none 0 0) (.int .i64 0)
  obtain ⟨w1, hw1⟩ : ∃ w1, (((wz.setCell ⟨w.heap.size, 0, none⟩ v).setCell ⟨w.heap.size, 1, none⟩ (.pointer none)).setCell ⟨w.heap.size, 2, none⟩ (.slice none 0 0)).setCell ⟨w.heap.size, 3, none⟩ (.int .i64 0) = w1 := ⟨_, rfl⟩
  rw [hw1] at hpp
  have H1 : Hid (PgSt w.heap.size v 0 [] w1 ∧ Kept [] w w1) := ⟨⟨_, _, hpp.1, .inl rfl, World.ownsRow_nil _ _ _ _, fun _ => rfl⟩, hpp.2⟩
  have HP := Lib.hid (hf w.heap.size w1 (Nat.le_refl _) H1.out.2 H1.out.1)
  have HT := Lib.hid hT
  clear h hf hN hT hent hrow hpp
  subst hv
  go_enter Tryz.func21, Tryz.ntmps21
  go_wp2_with fail
  refine HP.out.mono ?_
  rintro e w2 ⟨rfl, h2, hk2⟩
  have H2 : Hid (PgSt w.heap.size (.slice na N nc) 0 T w2 ∧ PF w.heap.size w1 w2) := ⟨by simpa using h2, hk2⟩
  have HS := Lib.hid (sbs_any w.heap.size _ 0 T w2 H2.out.1 HT.out)
  clear h2 hk2 hw1 c0 c1 c2 c3 ff hwz
  go_wp2_with fail
  refine HS.out.mono ?_
  rintro e w3 ⟨rfl, hk3⟩
  have H3 : Hid (Kept [] w w3) := PF.kept H1.out.2 (H2.out.2.trans hk3) (Nat.le_refl _)
  clear hk3
  go_wp2_with fail
  go_ret
  exact ⟨rfl, H3.out⟩
/-- Statements, a line ended behind each. -/
def endsT : List (List UInt8) → List UInt8
  | [] => []
  | a :: r => a ++ (10 :: endsT r)
theorem endsT_snoc (x : List UInt8) : ∀ l : List (List UInt8), endsT (l ++ [x]) = endsT l ++ (x ++ [10])
  | [] => by simp [endsT]
  | a :: r => by simp [endsT, endsT_snoc x r]
theorem endsT_le : ∀ l m : List (List UInt8), (endsT l).length ≤ (endsT (l ++ m)).length
  | [], m => by simp [endsT]
  | a :: r, m => by
    have := endsT_le r m
    simp only [List.cons_append, endsT, List.length_cons, List.length_append] at this ⊢
    omega
theorem ends_txt : ∀ b : SlT, endsT (b.ls.map fun s => s.txt []) = b.txt []
  | .nil => rfl
  | .cons s l => by
    have := ends_txt l
    simp only [SlT.ls, List.map_cons, endsT, SlT.txt, List.nil_append, this]
theorem enters_pPrint1 : Enters Tryz.prog 22 := enters_of Tryz.func22 (by kernel_rfl) rfl
theorem enters_pValue1 : Enters Tryz.prog 25 := enters_of Tryz.func25 (by kernel_rfl) rfl
set_option maxRecDepth 100000 in
set_option maxHeartbeats 4000000 in
theorem pPrint1_any (W : World) (nv : Value) (d : Nat) (ks : List Nat) (fs : List (Nat → List UInt8)) (lv : Value) (hks : KsIs W lv ks) (hfs : PCs W nv d ks fs) (kd : Nat) (tx : List UInt8) (q : Nat) (hd : d ≤ 5000)
    (hq : W.heap[q]? = some (.cells #[.int .i64 (kd : Int), .string (strL tx), lv] 41)) (hl : (endsT (fs.map fun f : Nat → List UInt8 => f 0)).length ≤ 70368744177664)
    (p : Nat) (w : World) (hp : W.heap.size ≤ p) (hw : Kept [] W w) (hs : PgSt p nv 0 [] w) :
    Calls Tryz.prog 22 #[.pointer (some ⟨p, 0, none⟩), .pointer (some ⟨q, 0, none⟩)] w (PgOut p nv 0 ([] ++ endsT (fs.map fun f : Nat → List UInt8 => f 0)) w) := by
  obtain ⟨ao, cap, rfl, hcap, hc63, hcell⟩ := hks
  obtain ⟨n, hn⟩ : ∃ n, ks.length = n := ⟨_, rfl⟩
  have HN : Hid (ks.length = n ∧ fs.length = n) := ⟨hn, by rw [← hfs.len, hn]⟩
  have HCELL := Lib.hid hcell
  rw [hn] at hcap hq
  have HFS := Lib.hid hfs
  have HL := Lib.hid hl
  have HX := Lib.hid (And.intro hp (And.intro hw hd))
  have H0 := Lib.hid hs
  obtain ⟨L, hL⟩ : ∃ L, L = (fs.map fun f : Nat → List UInt8 => f 0) := ⟨_, rfl⟩
  have HLL : Hid (L.length = n ∧ ∀ k (h1 : k < L.length) (h2 : k < fs.length), L[k] = fs[k] 0) := ⟨by rw [hL, List.length_map]; exact HN.out.2, fun k h1 h2 => by simp [hL]⟩
  rw [← hL] at HL ⊢
  have a2 : w.cell? ⟨q, 2, none⟩ = some (.slice ao n cap) := cell_of_row _ _ 2 _ _ _ (hw.heap (by simp) hq)
  clear hcell hn hfs hl hp hw hd hs hL hq
  go_enter Tryz.func22, Tryz.ntmps22
  go_wp2_with fail
  clear a2
  go_loopw [8] (fun si wr => ∃ k : Nat, si = .int .i64 k ∧ k ≤ n ∧ Hid (PgSt p nv 0 (endsT (L.take k)) wr ∧ PF p w wr)) (fun si _ => n - (intOf si).toNat)
  case atStart => exact ⟨0, rfl, by omega, Lib.hid ⟨by simpa [endsT] using H0.out, PF.refl _ _⟩⟩
  case round =>
    obtain ⟨k, rfl, hk, HS⟩ := hrel
    clear H0
    by_cases hlt : k < n
    · have hkk : k < ks.length := by rw [HN.out.1]; exact hlt
      have hkf : k < fs.length := by rw [HN.out.2]; exact hlt
      have hkL : k < L.length := by rw [HLL.out.1]; exact hlt
      obtain ⟨b2, o2, rfl, hb2, hc2⟩ := HCELL.out (by omega)
      have y0 := hc2 k hkk
      have HKW : Hid (Kept [] W wr) := PF.kept HX.out.2.1 HS.out.2 HX.out.1
      have y1 := (HKW.out.cell (p := ⟨b2, o2 + k, none⟩) hb2 (by simp)).trans y0
      have HCH := Lib.hid (HFS.out.get k hkk hkf)
      have HLk := Lib.hid (HLL.out.2 k hkL hkf)
      have HTK : Hid ((endsT (L.take (k + 1))).length ≤ (endsT L).length) := by
        have := endsT_le (L.take (k + 1)) (L.drop (k + 1))
        rwa [List.take_append_drop] at this
      obtain ⟨x, hx⟩ : ∃ x, ks[k] = x := ⟨_, rfl⟩
      obtain ⟨f, hf⟩ : ∃ f, fs[k] = f := ⟨_, rfl⟩
      rw [hx] at y1 HCH
      rw [hf] at HCH HLk
      clear y0 hx hf hc2 hb2
      have HEQ : Hid (endsT (L.take (k + 1)) = endsT (L.take k) ++ (f 0 ++ [10])) := by
        show _ = _
        rw [List.take_succ_eq_append_getElem hkL, endsT_snoc, HLk.out]
      have HLQ : Hid ((endsT (L.take k)).length + (1 + (f 0).length) ≤ 70368744177664) := by
        have h1 := HTK.out; have h2 := HL.out
        rw [HEQ.out] at h1
        simp only [List.length_append, List.length_cons, List.length_nil] at h1
        show _ ≤ _
        omega
      have HQ := Lib.hid (HCH.out p 0 _ wr HX.out.1 HKW.out HS.out.1 (by have := HX.out.2.2; omega) (by have := HLQ.out; omega))
      go_wp2_with fail
      refine HQ.out.mono ?_
      rintro e w2 ⟨rfl, h1, h2⟩
      have H2 : Hid (PgSt p nv 0 (endsT (L.take k) ++ f 0) w2 ∧ PF p w w2) := ⟨h1, HS.out.2.trans h2⟩
      have HP := Lib.hid (pline_any p nv 0 _ w2 H2.out.1 (by omega) (by have := HLQ.out; simp only [List.length_append, show (ahS 0).length = 0 from rfl] at this ⊢; omega))
      clear h1 h2 y1 HQ
      go_wp2_with fail
      refine HP.out.mono ?_
      rintro e w3 ⟨rfl, h1, h2⟩
      have H3 : Hid (PgSt p nv 0 (endsT (L.take (k + 1))) w3 ∧ PF p w w3) := ⟨by rw [HEQ.out, ← List.append_assoc]; exact h1, H2.out.2.trans h2⟩
      clear h1 h2 HP H2
      go_wp2_with fail
      go_roundw
      case rel => exact ⟨k + 1, by go_num, by omega, H3⟩
      case measure => simp [intOf]; omega
    · have hkn : k = n := by omega
      have HE : Hid (PgSt p nv 0 ([] ++ endsT L) wr ∧ PF p w wr) := by
        have := HS.out
        rw [hkn, List.take_of_length_le (by rw [HLL.out.1]; omega)] at this
        exact this
      have hii : ¬ (k : Int) < (n : Int) := by omega
      clear hkn
      go_wp2_with fail
      go_end0
      exact ⟨rfl, HE.out.1, HE.out.2⟩
set_option maxRecDepth 100000 in
set_option maxHeartbeats 4000000 in
theorem pValue1_any (W : World) (nv : Value) (d i : Nat) (f : Nat → List UInt8) (hf : PCt W nv d i f) (q : Nat) (hd : d ≤ 5000) (hq : W.heap[q]? = some (.cells #[.int .i64 (i : Int)] 3)) (hl : (f 0).length ≤ 70368744177664)
    (p : Nat) (w : World) (hp : W.heap.size ≤ p) (hw : Kept [] W w) (hs : PgSt p nv 0 [] w) :
    Calls Tryz.prog 25 #[.pointer (some ⟨p, 0, none⟩), .pointer (some ⟨q, 0, none⟩)] w (PgOut p nv 0 ([] ++ f 0) w) := by
  have a0 : w.cell? ⟨q, 0, none⟩ = some (.int .i64 (i : Int)) := cell_of_row _ _ 0 _ _ _ (hw.heap (by simp) hq)
  have HP := Lib.hid (hf p 0 [] w hp hw hs (by omega) (by simpa using hl))
  clear hf hq hl hp hw hs hd
  go_enter Tryz.func25, Tryz.ntmps25
  go_wp2_with fail
  refine HP.out.mono ?_
  rintro e w2 ⟨rfl, h1, h2⟩
  have H2 := Lib.hid (And.intro h1 h2)
  clear h1 h2 a0
  go_wp2_with fail
  go_end0
  exact ⟨rfl, H2.out.1, H2.out.2⟩
end Go.Proofs.YtfpdgdacifiejaaGreat

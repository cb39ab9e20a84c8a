/-
  Layer 13: the program's Check, of a manifest's tree and of no nodes.
  Conditions: those that each theorem states.
  Layer 13: how long a tree's text may be. No program text.
  Conditions: those that each theorem states.
  Layer 13: what it is that a node is laid on a page; rows of nodes.
  Conditions: those that each theorem states.
  Layer 13: a block is laid.
  Conditions: those that each theorem states.
-/
import Derived.Test.YtfpdgdacifiejaaGreatWOrd
import Derived.Test.YtfpdgdacifiejaaGreatVDepP
import Derived.Test.YtfpdgdacifiejaaGreatWLab
namespace Go.Proofs.YtfpdgdacifiejaaGreat
open Go.RowKit Go.Maps

theorem top_ar {b : SlT} (h : b.Ok TkC) (h1 : (topL b).length ≤ 1024) (h2 : depN (topL b) ≤ 32) : ArOk (topL b) := by
  have e := par_back h h1 h2
  have := par_ok (l := b.ws) (by rw [e])
  rwa [e] at this
theorem top_nsok {b : SlT} (ha : ArOk (topL b)) : NsOk (topL b) := by
  have hk := fun (k : Nat) (nd : Nod) (h : (topL b)[k]? = some nd) => show kidsN (topL b) k = nd.ks by unfold kidsN; rw [h]
  have hl := fun (k : Nat) (nd : Nod) (h : (topL b)[k]? = some nd) => (List.getElem?_eq_some_iff.1 h).1
  refine ⟨fun k nd h => ?_, fun k nd h x hx => ?_⟩
  · obtain ⟨pre, e⟩ := ha.seg.ord.2 k (Nat.zero_le _) (hl k nd h)
    have := ordE_le (topL b) k
    rw [e, hk k nd h, List.length_append] at this
    have := hl k nd h
    have := ha.few
    omega
  · have := ha.seg.kids k (Nat.zero_le _) (hl k nd h) x (by rw [hk k nd h]; exact hx)
    have := hl k nd h
    omega
set_option maxRecDepth 100000 in
set_option maxHeartbeats 8000000 in
theorem pCheck_good (v : Value) (b : SlT) (w : World) (ho : b.Ok TkC) (h1 : (topL b).length ≤ 1024) (h2 : depN (topL b) ≤ 32) (h : NdIs w v (topL b)) :
    Calls Tryz.prog 14 #[.agg #[v]] w fun e w' => e = .returned (.int .i64 0) ∧ Kept [] w w' := by
  have ha := top_ar ho h1 h2
  have hao := top_aok (top_nsok ha) ho
  have htk := ha.top
  obtain ⟨ns, hns⟩ : ∃ ns, topL b = ns := ⟨_, rfl⟩
  rw [hns] at h h1 h2 ha hao htk
  clear hns ho
  obtain ⟨n, hn⟩ : ∃ n, ns.length = n + 1 := ⟨ns.length - 1, by have := ha.pos; omega⟩
  have hseg := ha.seg
  rw [hn, Nat.add_sub_cancel] at hseg
  have hord := fun wx hx => pinOrder_any v ns wx hx (fun i hi => ha.seg.ord.2 i (Nat.zero_le _) hi) (by omega)
  have hlast : (ordE ns ns.length).length = 1 := by rw [ha.seg.ord.1]; simp [ordE]
  have hdep := fun wx hx => pdepth_any v ns n wx hn (by omega) hseg hx
  have HORD : Hid (∀ wx, NdIs wx v ns → Calls Tryz.prog 28 #[v] wx fun e w' => e = .returned (.bool true) ∧ Kept [] wx w') := fun wx hx => (hord wx hx).mono fun e w' ⟨he, hk⟩ => ⟨by rw [he, hlast]; rfl, hk⟩
  obtain ⟨D, hD⟩ : ∃ D, depN ns = D := ⟨_, rfl⟩
  rw [hD] at h2 hdep
  have HDEP := Lib.hid hdep
  have HAO := Lib.hid hao
  have HNS := Lib.hid h
  obtain ⟨na, nc, rfl, hnc, hn63, hnat⟩ := h
  obtain ⟨nb, no, rfl, hnb, hc⟩ := hnat (by omega)
  have HNB := Lib.hid hnb
  have HC := Lib.hid hc
  have HN := Lib.hid hn
  have e0 := (hc n (by omega)).1
  have htk2 := htk (by omega)
  have htk3 : ns[n].kd = 1 := by
    have : ns.length - 1 = n := by omega
    simp only [this] at htk2
    exact htk2
  rw [htk3] at e0
  have HE0 : Hid (w.cell? ⟨nb, no + n * 3, none⟩ = some (.int .i64 1)) := e0
  rw [hn] at hnc h1 HNS HORD HDEP ⊢
  obtain ⟨w1, hw1⟩ : ∃ w1, w.alloc (.cells #[.slice (some ⟨nb, no, none⟩) (n + 1) nc] 29) = w1 := ⟨_, rfl⟩
  have H1 : Hid (Kept [] w w1 ∧ w1.heap[w.heap.size]? = some (.cells #[.slice (some ⟨nb, no, none⟩) (n + 1) nc] 29)) := by
    rw [← hw1]
    exact ⟨Kept.alloc _ _ _, heap_alloc_last _ _⟩
  have HQ : Hid (∀ wx, Kept [] w1 wx → wx.cell? ⟨w.heap.size, 0, none⟩ = some (.slice (some ⟨nb, no, none⟩) (n + 1) nc)) := fun wx hk => cell_of_row _ _ 0 _ _ _ (hk.heap (by simp) H1.out.2)
  have a0 := HQ.out w1 (Kept.refl _ _)
  have hgt : ¬ (1024 : Int) < ((n + 1 : Nat) : Int) := by omega
  have hdd : ¬ (32 : Int) < (D : Int) := by omega
  have hw : IntKind.i64.wrap (((n + 1 : Nat) : Int) - 1) = (n : Int) := by rw [IntKind.wrap_i64]; omega
  have hnn : n < n + 1 := by omega
  clear hnat hc hn hord hlast hdep hao htk htk2 htk3 e0 hD h1 h2 ha hseg hnb
  go_enter Tryz.func14, Tryz.ntmps14
  go_wp2_with fail
  refine (HORD.out w1 (HNS.out.kept H1.out.1)).mono ?_
  rintro e w2 ⟨rfl, hk2⟩
  have H2 : Hid (Kept [] w1 w2) := hk2
  have a2 := HQ.out w2 H2.out
  clear hk2 a0
  go_wp2_with fail
  refine (HDEP.out w2 (HNS.out.kept (H1.out.1.trans H2.out))).mono ?_
  rintro e w3 ⟨rfl, hk3⟩
  have H3 : Hid (Kept [] w1 w3) := H2.out.trans hk3
  have a3 := HQ.out w3 H3.out
  have b3 : w3.cell? ⟨nb, no + n * 3, none⟩ = some (.int .i64 1) := ((H1.out.1.trans H3.out).cell (p := ⟨nb, no + n * 3, none⟩) HNB.out (by simp)).trans HE0.out
  clear hk3 a2 H2
  go_wp2_with fail
  refine (show Calls Tryz.prog 30 #[.int .i64 1] w3 _ from pisBlock_any w3).mono ?_
  rintro e w4 ⟨rfl, rfl⟩
  clear b3
  go_wp2_with fail
  clear a3
  go_loopw [35] (fun si wr => ∃ i : Nat, si = .int .i64 i ∧ i ≤ n + 1 ∧ Hid (Kept [] w1 wr)) (fun si _ => n + 1 - (intOf si).toNat)
  case atStart => exact ⟨0, rfl, by omega, H3⟩
  case round =>
    obtain ⟨i, rfl, hi, HS⟩ := hrel
    clear H3
    by_cases hlt : i < n + 1
    · have hil : i < ns.length := by have := HN.out; omega
      obtain ⟨e0, e1, lv, e2, hks⟩ := HC.out i hil
      have hnd : ns[i]? = some ns[i] := by simp [hil]
      obtain ⟨lab, bel, hok⟩ := HAO.out i _ (Nat.zero_le _) hil hnd
      obtain ⟨nd, hnde⟩ : ∃ nd, ns[i] = nd := ⟨_, rfl⟩
      rw [hnde] at e0 e1 hks hok
      have hkw := H1.out.1.trans HS.out
      have f0 := (hkw.cell (p := ⟨nb, no + i * 3, none⟩) HNB.out (by simp)).trans e0
      have f1 := (hkw.cell (p := ⟨nb, no + i * 3 + 1, none⟩) HNB.out (by simp)).trans e1
      have f2 := (hkw.cell (p := ⟨nb, no + i * 3 + 2, none⟩) HNB.out (by simp)).trans e2
      obtain ⟨la, lc, hlv⟩ : ∃ a c, lv = .slice a nd.ks.length c := by obtain ⟨a, c, e, _⟩ := hks; exact ⟨a, c, e⟩
      obtain ⟨m, hm⟩ : ∃ m, nd.ks.length = m := ⟨_, rfl⟩
      rw [hm] at hlv
      subst hlv
      obtain ⟨w5, hw5⟩ : ∃ w5, wr.alloc (.cells #[.int .i64 (nd.kd : Int), .string (strL nd.tx), .slice la m lc] 41) = w5 := ⟨_, rfl⟩
      have H5 : Hid (Kept [] w1 w5) := by rw [← hw5]; exact HS.out.trans (Kept.alloc _ _ _)
      have r5 : w5.heap[wr.heap.size]? = some (.cells #[.int .i64 (nd.kd : Int), .string (strL nd.tx), .slice la m lc] 41) := by rw [← hw5]; exact heap_alloc_last _ _
      have g0 : w5.cell? ⟨wr.heap.size, 0, none⟩ = some (.int .i64 (nd.kd : Int)) := cell_of_row _ _ 0 _ _ _ r5
      have g1 : w5.cell? ⟨wr.heap.size, 1, none⟩ = some (.string (strL nd.tx)) := cell_of_row _ _ 1 _ _ _ r5
      have g2 : w5.cell? ⟨wr.heap.size, 2, none⟩ = some (.slice la m lc) := cell_of_row _ _ 2 _ _ _ r5
      have a5 := HQ.out w5 H5.out
      have HP := Lib.hid (psound_any (.slice (some ⟨nb, no, none⟩) (n + 1) nc) (.slice la m lc) ns nd lab bel w5 (HNS.out.kept (H1.out.1.trans H5.out)) (hks.kept (H1.out.1.trans H5.out)) hok)
      clear e0 e1 e2 hks hnd hok hnde hkw hm r5
      go_wp2_with fail
      refine HP.out.mono ?_
      rintro e w6 ⟨rfl, hk6⟩
      have H6 : Hid (Kept [] w1 w6) := H5.out.trans hk6
      clear hk6 f0 f1 f2 g0 g1 g2 a5 hw5 HP
      go_wp2_with fail
      go_roundw
      case rel => exact ⟨i + 1, by go_num, by omega, H6⟩
      case measure => simp [intOf]; omega
    · have hii : ¬ (i : Int) < ((n + 1 : Nat) : Int) := by omega
      go_wp2_with fail
      go_ret
      exact ⟨rfl, H1.out.1.trans HS.out⟩
end Go.Proofs.YtfpdgdacifiejaaGreat

namespace Go.Proofs.YtfpdgdacifiejaaGreat

theorem VT.pos2 (t : VT) : 1 ≤ t.size := t.pos
theorem VT.long {C : Nat} (hC : 70000 ≤ C) : ∀ t : VT, t.Ok TkC → t.txt.length + 10 ≤ t.size * C
  | .leaf k tx, h => by
    have := h.2.len
    simp only at this
    simp only [VT.txt, VT.size, Nat.one_mul]
    split
    · simp; omega
    · split
      · simp; omega
      · split
        · omega
        · simp; omega
  | .tf b, _ => by cases b <;> simp [VT.txt, VT.size] <;> omega
  | .neg v, h => by
    have := VT.long hC v h
    simp only [VT.txt, VT.size, List.length_cons, Nat.add_mul]
    omega
  | .op tx a b, h => by
    have := VT.long hC a h.2.1
    have := VT.long hC b h.2.2
    have hl : tx.length ≤ 3 := by
      have := h.1
      unfold opsT at this
      simp at this
      rcases this with rfl | rfl | rfl | rfl <;> simp
    simp only [VT.txt, VT.size, List.length_cons, List.length_append, List.length_nil, Nat.add_mul]
    omega
theorem PmT.long {C : Nat} (hC : 70000 ≤ C) (p : PmT) (h : PmT.Ok TkC p) : p.txt.length + 10 ≤ p.size * C := by
  obtain ⟨tx, o⟩ := p
  have h1 := h.1.len
  simp only at h1
  cases o with
  | none => simp [PmT.txt, PmT.size]; omega
  | some v =>
    have := VT.long hC v (h.2 v rfl)
    simp only [PmT.txt, PmT.size, List.length_cons, List.length_append, Nat.add_mul]
    omega
theorem AtT.long {C : Nat} (hC : 70000 ≤ C) (p : AtT) (h : AtT.Ok TkC p) : p.txt.length + 10 ≤ p.size * C := by
  have h1 := h.2.1.len
  simp only at h1
  have := VT.long hC p.2 h.2.2
  simp only [AtT.txt, AtT.size, List.length_cons, List.length_append, Nat.add_mul]
  omega
theorem rf_long {C : Nat} (hC : 70000 ≤ C) (p : AtT) (h : rfOk TkC p) : (rfTxt p).length + 10 ≤ p.size * C := by
  have h1 := h.1.len
  simp only at h1
  have := VT.long hC p.2 h.2
  simp only [rfTxt, AtT.size, List.length_cons, List.length_append, List.length_nil, Nat.add_mul]
  omega
theorem sepX_long {α : Type} {tx : α → List UInt8} {sz : α → Nat} {C : Nat} : ∀ l : List α, (∀ a ∈ l, (tx a).length + 10 ≤ sz a * C) → (sepX (l.map tx)).length ≤ szL sz l * C
  | [], _ => by simp [sepX]
  | [a], h => by have := h a (by simp); simp only [List.map_cons, List.map_nil, sepX, szL, Nat.add_zero]; omega
  | a :: b :: r, h => by
    have h1 := h a (by simp)
    have h2 := sepX_long (b :: r) fun x hx => h x (by simp [hx])
    simp only [List.map_cons, sepX, szL, List.length_append, List.length_cons, Nat.add_mul] at h2 ⊢
    omega
theorem atsX_long {α : Type} {tx : α → List UInt8} {sz : α → Nat} {C : Nat} : ∀ l : List α, (∀ a ∈ l, (tx a).length + 10 ≤ sz a * C) → (atsX (l.map tx)).length ≤ szL sz l * C
  | [], _ => by simp [atsX]
  | [a], h => by have := h a (by simp); simp only [List.map_cons, List.map_nil, atsX, szL, Nat.add_zero, List.length_cons]; omega
  | a :: b :: r, h => by
    have h1 := h a (by simp)
    have h2 := atsX_long (b :: r) fun x hx => h x (by simp [hx])
    simp only [List.map_cons, atsX, szL, List.length_append, List.length_cons, Nat.add_mul] at h2 ⊢
    omega
theorem ars_long {C : Nat} (hC : 70000 ≤ C) : ∀ l : List ArT, (∀ a ∈ l, arOk TkC a) → ((l.map arTxt).flatten).length ≤ szL arSz l * C
  | [], _ => by simp
  | a :: r, h => by
    have h1 := h a (by simp)
    have h2 := ars_long hC r fun x hx => h x (by simp [hx])
    have h3 := rf_long hC a.2 h1.2
    have h4 : a.1.length = 2 := by rcases h1.1 with e | e <;> rw [e] <;> rfl
    simp only [List.map_cons, List.flatten_cons, List.length_append, arTxt, List.length_cons, szL, arSz, Nat.add_mul] at h2 ⊢
    omega
theorem psTxt_long {C : Nat} (hC : 70000 ≤ C) (ps : List PmT) (h : ∀ p ∈ ps, PmT.Ok TkC p) : (psTxt ps).length ≤ szL PmT.size ps * C + 2 := by
  unfold psTxt
  split
  · simp
  · have := sepX_long (tx := PmT.txt) (sz := PmT.size) (C := C) ps fun a ha => PmT.long hC a (h a ha)
    simp only [List.length_cons, List.length_append, List.length_nil]
    omega
mutual
theorem StT.long {M C : Nat} (hC : C = 70000 + 2 * M) : ∀ (t : StT) (ah : List UInt8), t.Ok TkC → ah.length + 2 * t.size ≤ M → (t.txt ah).length + M + 100 ≤ t.size * C
  | .decl k tx ps b, ah, h, hm => by
    simp only [StT.size] at hm
    have h1 := h.2.2.1.len
    simp only at h1
    have h2 := psTxt_long (C := C) (by omega) ps h.2.2.2.1
    have h3 := SlT.long hC b (ah ++ [32, 32]) h.2.2.2.2 (by simp; omega)
    have h4 : (if k = 2 then kClass else kDefine).length ≤ 6 := by split <;> decide
    simp only [StT.txt, StT.size, List.length_cons, List.length_append, List.length_nil, Nat.add_mul, Nat.one_mul] at h2 h3 ⊢
    omega
  | .incl tx, ah, h, hm => by
    have h1 := h.2.len
    simp only at h1
    simp only [StT.txt, StT.size, kInclude, List.length_cons, List.length_append, List.length_nil, Nat.one_mul]
    omega
  | .set tx v, ah, h, hm => by
    have h1 := h.1.len
    simp only at h1
    have h2 := VT.long (C := C) (by omega) v h.2
    simp only [StT.txt, StT.size, List.length_cons, List.length_append, Nat.add_mul, Nat.one_mul]
    omega
  | .cond v b, ah, h, hm => by
    simp only [StT.size] at hm
    have h2 := VT.long (C := C) (by omega) v h.1
    have h3 := SlT.long hC b (ah ++ [32, 32]) h.2 (by simp; omega)
    simp only [StT.txt, StT.size, kIf, List.length_cons, List.length_append, List.length_nil, Nat.add_mul, Nat.one_mul] at h3 ⊢
    omega
  | .condE v b e, ah, h, hm => by
    simp only [StT.size] at hm
    have h2 := VT.long (C := C) (by omega) v h.1
    have h3 := SlT.long hC b (ah ++ [32, 32]) h.2.1 (by simp; omega)
    have h4 := SlT.long hC e (ah ++ [32, 32]) h.2.2 (by simp; omega)
    simp only [StT.txt, StT.size, kIf, kElse, List.length_cons, List.length_append, List.length_nil, Nat.add_mul, Nat.one_mul] at h3 h4 ⊢
    omega
  | .res tx v ats, ah, h, hm => by
    have h1 := h.2.1.len
    simp only at h1
    have h2 := VT.long (C := C) (by omega) v h.2.2.1
    have h3 := atsX_long (tx := AtT.txt) (sz := AtT.size) (C := C) ats fun a ha => AtT.long (by omega) a (h.2.2.2 a ha)
    simp only [StT.txt, StT.size, List.length_cons, List.length_append, List.length_nil, Nat.add_mul, Nat.one_mul]
    omega
  | .chain r l, ah, h, hm => by
    have h2 := rf_long (C := C) (by omega) r h.1
    have h3 := ars_long (C := C) (by omega) l h.2.2
    simp only [StT.txt, StT.size, List.length_append, Nat.add_mul, Nat.one_mul]
    omega
theorem SlT.long {M C : Nat} (hC : C = 70000 + 2 * M) : ∀ (b : SlT) (ah : List UInt8), b.Ok TkC → ah.length + 2 * b.size ≤ M → (b.txt ah).length ≤ b.size * C
  | .nil, _, _, _ => by simp [SlT.txt]
  | .cons s l, ah, h, hm => by
    simp only [SlT.size] at hm
    have h1 := StT.long hC s ah h.1 (by omega)
    have h2 := SlT.long hC l ah h.2 (by omega)
    simp only [SlT.txt, SlT.size, List.length_cons, List.length_append, Nat.add_mul]
    omega
end
theorem top_long {b : SlT} (h : b.Ok TkC) (h1 : (topL b).length ≤ 1024) : (b.txt []).length ≤ 100000000 := by
  rw [topL_len] at h1
  have := SlT.long (M := 2048) (C := 74096) rfl b [] h (by simp; omega)
  have : b.size * 74096 ≤ 1023 * 74096 := Nat.mul_le_mul_right _ (by omega)
  omega
theorem st_long {s : StT} (h : s.Ok TkC) (h1 : s.size ≤ 1024) : (s.txt []).length ≤ 100000000 := by
  have := StT.long (M := 2048) (C := 74096) rfl s [] h (by simp; omega)
  have : s.size * 74096 ≤ 1024 * 74096 := Nat.mul_le_mul_right _ h1
  omega
end Go.Proofs.YtfpdgdacifiejaaGreat

namespace Go.Proofs.YtfpdgdacifiejaaGreat
open Go.RowKit Go.Maps

/-- Behind a call that lays something. -/
def PgOut (p : Nat) (nv : Value) (bl : Nat) (acc : List UInt8) (w : World) (e : Ending) (w' : World) : Prop := e = .returned (.tuple #[]) ∧ PgSt p nv bl acc w' ∧ PF p w w'
/-- A node is laid, f being its text by how many blocks it is in; d: how many more there may be. -/
def PCt (W : World) (nv : Value) (d : Nat) (i : Nat) (f : Nat → List UInt8) : Prop :=
  ∀ (p bl : Nat) (acc : List UInt8) (w : World), W.heap.size ≤ p → Kept [] W w → PgSt p nv bl acc w → bl + d ≤ 5000 → acc.length + (f bl).length ≤ 70368744177664 →
    Calls Tryz.prog 23 #[.pointer (some ⟨p, 0, none⟩), .int .i64 (i : Int)] w (PgOut p nv bl (acc ++ f bl) w)
theorem PCt.more {W : World} {nv : Value} {d d' i : Nat} {f : Nat → List UInt8} (h : PCt W nv d i f) (hd : d ≤ d') : PCt W nv d' i f := fun p bl acc w h1 h2 h3 h4 h5 => h p bl acc w h1 h2 h3 (by omega) h5
/-- Nodes side by side. -/
inductive PCs (W : World) (nv : Value) (d : Nat) : List Nat → List (Nat → List UInt8) → Prop where
  | nil : PCs W nv d [] []
  | cons {i : Nat} {f : Nat → List UInt8} {ks : List Nat} {fs : List (Nat → List UInt8)} (h : PCt W nv d i f) (r : PCs W nv d ks fs) : PCs W nv d (i :: ks) (f :: fs)
theorem PCs.len {W : World} {nv : Value} {d : Nat} {ks : List Nat} {fs : List (Nat → List UInt8)} (h : PCs W nv d ks fs) : ks.length = fs.length := by
  induction h with
  | nil => rfl
  | cons _ _ ih => simp [ih]
theorem PCs.get {W : World} {nv : Value} {d : Nat} {ks : List Nat} {fs : List (Nat → List UInt8)} (h : PCs W nv d ks fs) : ∀ (k : Nat) (h1 : k < ks.length) (h2 : k < fs.length), PCt W nv d ks[k] fs[k] := by
  induction h with
  | nil => intro k h1; simp at h1
  | cons h r ih =>
    intro k h1 h2
    cases k with
    | zero => exact h
    | succ k => exact ih k (by simpa using h1) (by simpa using h2)
theorem PCs.app {W : World} {nv : Value} {d : Nat} {ks ks' : List Nat} {fs fs' : List (Nat → List UInt8)} (h : PCs W nv d ks fs) (k : PCs W nv d ks' fs') : PCs W nv d (ks ++ ks') (fs ++ fs') := by
  induction h with
  | nil => exact k
  | cons h r ih => exact .cons h ih
theorem PCs.more {W : World} {nv : Value} {d d' : Nat} {ks : List Nat} {fs : List (Nat → List UInt8)} (h : PCs W nv d ks fs) (hd : d ≤ d') : PCs W nv d' ks fs := by
  induction h with
  | nil => exact .nil
  | cons h r ih => exact .cons (h.more hd) ih
/-- Texts with one between each two. -/
def joinT (b : List UInt8) : List (List UInt8) → List UInt8
  | [] => []
  | [a] => a
  | a :: c :: r => a ++ (b ++ joinT b (c :: r))
theorem joinT_snoc (b x : List UInt8) : ∀ l : List (List UInt8), l ≠ [] → joinT b (l ++ [x]) = joinT b l ++ (b ++ x)
  | [], h => absurd rfl h
  | [a], _ => rfl
  | a :: c :: r, _ => by
    have := joinT_snoc b x (c :: r) (by simp)
    simp only [List.cons_append] at this ⊢
    simp only [joinT, this, List.append_assoc]
theorem joinT_le (b : List UInt8) : ∀ l m : List (List UInt8), (joinT b l).length ≤ (joinT b (l ++ m)).length
  | [], m => by simp [joinT]
  | [a], [] => by simp
  | [a], c :: m => by simp [joinT]
  | a :: c :: r, m => by
    have := joinT_le b (c :: r) m
    simp only [List.cons_append, joinT, List.length_append] at this ⊢
    omega
set_option maxRecDepth 100000 in
set_option maxHeartbeats 4000000 in
theorem plist_any (W : World) (nv : Value) (d : Nat) (ks : List Nat) (fs : List (Nat → List UInt8)) (b : List UInt8) (lv : Value) (hks : KsIs W lv ks) (hfs : PCs W nv d ks fs)
    (p bl : Nat) (acc : List UInt8) (w : World) (hp : W.heap.size ≤ p) (hw : Kept [] W w) (hs : PgSt p nv bl acc w) (hd : bl + d ≤ 5000) (hl : acc.length + (joinT b (fs.map fun f => f bl)).length ≤ 70368744177664) :
    Calls Tryz.prog 48 #[.pointer (some ⟨p, 0, none⟩), lv, .string (strL b)] w (PgOut p nv bl (acc ++ joinT b (fs.map fun f => f bl)) w) := by
  obtain ⟨ao, cap, rfl, hcap, hc63, hcell⟩ := hks
  obtain ⟨n, hn⟩ : ∃ n, ks.length = n := ⟨_, rfl⟩
  have HN : Hid (ks.length = n ∧ fs.length = n) := ⟨hn, by rw [← hfs.len, hn]⟩
  have HCELL := Lib.hid hcell
  rw [hn] at hcap ⊢
  have HFS := Lib.hid hfs
  have HL := Lib.hid hl
  have HX := Lib.hid (And.intro hp (And.intro hw hd))
  have H0 := Lib.hid hs
  obtain ⟨L, hL⟩ : ∃ L, L = (fs.map fun f => f bl) := ⟨_, rfl⟩
  have HLL : Hid (L.length = n ∧ ∀ k (h1 : k < L.length) (h2 : k < fs.length), L[k] = fs[k] bl) := ⟨by rw [hL, List.length_map]; exact HN.out.2, fun k h1 h2 => by simp [hL]⟩
  rw [← hL] at HL ⊢
  clear hcell hn hfs hl hp hw hd hs hL
  go_enter Tryz.func48, Tryz.ntmps48
  go_wp2_with fail
  go_loopw [10] (fun si wr => ∃ k : Nat, si = .int .i64 k ∧ k ≤ n ∧ Hid (PgSt p nv bl (acc ++ joinT b (L.take k)) wr ∧ PF p w wr)) (fun si _ => n - (intOf si).toNat)
  case atStart => exact ⟨0, rfl, by omega, Lib.hid ⟨by simpa [joinT] using H0.out, PF.refl _ _⟩⟩
  case round =>
    obtain ⟨k, rfl, hk, HS⟩ := hrel
    clear H0
    by_cases hlt : k < n
    · have hkk : k < ks.length := by rw [HN.out.1]; exact hlt
      have hkf : k < fs.length := by rw [HN.out.2]; exact hlt
      have hkL : k < L.length := by rw [HLL.out.1]; exact hlt
      obtain ⟨b2, o2, rfl, hb2, hc2⟩ := HCELL.out (by omega)
      have y0 := hc2 k hkk
      have HKW : Hid (Kept [] W wr) := PF.kept HX.out.2.1 HS.out.2 HX.out.1
      have y1 := (HKW.out.cell (p := ⟨b2, o2 + k, none⟩) hb2 (by simp)).trans y0
      have HB2 := Lib.hid hb2
      have HCH := Lib.hid (HFS.out.get k hkk hkf)
      have HLk := Lib.hid (HLL.out.2 k hkL hkf)
      have HTK : Hid ((joinT b (L.take (k + 1))).length ≤ (joinT b L).length) := by
        have := joinT_le b (L.take (k + 1)) (L.drop (k + 1))
        rwa [List.take_append_drop] at this
      obtain ⟨x, hx⟩ : ∃ x, ks[k] = x := ⟨_, rfl⟩
      obtain ⟨f, hf⟩ : ∃ f, fs[k] = f := ⟨_, rfl⟩
      rw [hx] at y1 HCH
      rw [hf] at HCH HLk
      clear y0 hx hf hc2 hb2
      by_cases hk0 : k = 0
      · subst hk0
        have y2 : wr.cell? ⟨b2, o2, none⟩ = some (.int .i64 (x : Int)) := y1
        have HEQ : Hid (joinT b (L.take (0 + 1)) = f bl) := by
          show _ = _
          rw [List.take_succ_eq_append_getElem hkL, List.take_zero, List.nil_append, HLk.out]
          rfl
        have HP := Lib.hid (HCH.out p bl (acc ++ joinT b (L.take 0)) wr HX.out.1 HKW.out HS.out.1 HX.out.2.2 (by
          have h1 := HTK.out; have h2 := HL.out
          rw [HEQ.out] at h1
          simp only [List.take_zero, joinT, List.append_nil]
          omega))
        go_wp2_with fail
        refine HP.out.mono ?_
        rintro e w2 ⟨rfl, h1, h2⟩
        have H2 : Hid (PgSt p nv bl (acc ++ joinT b (L.take (0 + 1))) w2 ∧ PF p w w2) := ⟨by rw [HEQ.out]; simpa [joinT] using h1, HS.out.2.trans h2⟩
        clear h1 h2 y1 y2 HP
        go_wp2_with fail
        go_roundw
        case rel => exact ⟨0 + 1, by go_num, by omega, H2⟩
        case measure => simp [intOf]; omega
      · have HEQ : Hid (joinT b (L.take (k + 1)) = joinT b (L.take k) ++ (b ++ f bl)) := by
          show _ = _
          rw [List.take_succ_eq_append_getElem hkL, joinT_snoc b _ _ (by intro hh; have := congrArg List.length hh; rw [List.length_take, List.length_nil] at this; omega), HLk.out]
        have HLQ : Hid ((acc ++ joinT b (L.take k)).length + (b.length + (f bl).length) ≤ 70368744177664) := by
          have h1 := HTK.out; have h2 := HL.out
          rw [HEQ.out] at h1
          simp only [List.length_append] at h1 ⊢
          show _ ≤ _
          omega
        obtain ⟨v, hv⟩ : ∃ v, wr.alloc (.cells #[.string (strL b)] 9) = v := ⟨_, rfl⟩
        have HV : Hid (Kept [] wr v ∧ v.heap[wr.heap.size]? = some (.cells #[.string (strL b)] 9)) := by
          rw [← hv]
          exact ⟨Kept.alloc _ _ _, heap_alloc_last _ _⟩
        have HP := Lib.hid (pput_one p nv bl (acc ++ joinT b (L.take k)) b wr.heap.size v (HS.out.1.go HV.out.1) HV.out.2 (by have := HLQ.out; omega))
        have hkp : ¬ k = 0 := hk0
        have hki : (0 : Int) < (k : Int) := by omega
        go_wp2_with fail
        refine HP.out.mono ?_
        rintro e w2 ⟨rfl, h1, h2⟩
        have H2 : Hid (PgSt p nv bl (acc ++ joinT b (L.take k) ++ b) w2 ∧ PF p w w2) := ⟨h1, (HS.out.2.trans (PF.of HV.out.1)).trans h2⟩
        have HQ := Lib.hid (HCH.out p bl _ w2 HX.out.1 (PF.kept HX.out.2.1 H2.out.2 HX.out.1) H2.out.1 HX.out.2.2 (by have := HLQ.out; rw [List.length_append]; omega))
        clear h1 h2 y1 HP hv HV
        go_wp2_with fail
        refine HQ.out.mono ?_
        rintro e w3 ⟨rfl, h1, h2⟩
        have H3 : Hid (PgSt p nv bl (acc ++ joinT b (L.take (k + 1))) w3 ∧ PF p w w3) := ⟨by rw [HEQ.out]; simpa only [List.append_assoc] using h1, H2.out.2.trans h2⟩
        clear h1 h2 HQ H2
        go_wp2_with fail
        go_roundw
        case rel => exact ⟨k + 1, by go_num, by omega, H3⟩
        case measure => simp [intOf]; omega
    · have hkn : k = n := by omega
      have HE : Hid (PgSt p nv bl (acc ++ joinT b L) wr ∧ PF p w wr) := by
        have := HS.out
        rw [hkn, List.take_of_length_le (by rw [HLL.out.1]; omega)] at this
        exact this
      have hii : ¬ (k : Int) < (n : Int) := by omega
      clear hkn
      go_wp2_with fail
      go_end0
      exact ⟨rfl, HE.out.1, HE.out.2⟩
/-- What a leaf's text is. -/
def leafX (k : Nat) (tx : List UInt8) : List UInt8 := if k = 13 then 39 :: (tx ++ [39]) else if k = 14 then 34 :: (tx ++ [34]) else if k = 16 then 36 :: tx else if k = 17 then [116, 114, 117, 101] else if k = 18 then [102, 97, 108, 115, 101] else tx
set_option maxRecDepth 100000 in
set_option maxHeartbeats 4000000 in
theorem pleaf_any (k : Nat) (tx : List UInt8) (lv : Value) (w : World) (hk : k = 12 ∨ k = 13 ∨ k = 14 ∨ k = 15 ∨ k = 16 ∨ k = 17 ∨ k = 18) (hlv : ∃ ao n cap, lv = .slice ao n cap) (hl : tx.length ≤ 70368744177664) :
    Calls Tryz.prog 49 #[.agg #[.int .i64 (k : Int), .string (strL tx), lv]] w fun e w' => e = .returned (.string (strL (leafX k tx))) ∧ Kept [] w w' := by
  obtain ⟨ao, n, cap, rfl⟩ := hlv
  have HC := Lib.hid (fun j => pcovered_any j tx (w.alloc (.cells #[.int .i64 (k : Int), .string (strL tx), .slice ao n cap] 41)) hl)
  have HK : Hid (Kept [] w (w.alloc (.cells #[.int .i64 (k : Int), .string (strL tx), .slice ao n cap] 41))) := Kept.alloc _ _ _
  clear hl
  rcases hk with rfl | rfl | rfl | rfl | rfl | rfl | rfl
  · have e : leafX 12 tx = tx := rfl
    have HE : Hid (strL (leafX 12 tx) = strL tx) := by rw [e]; exact rfl
    clear e
    go_enter Tryz.func49, Tryz.ntmps49
    go_wp2_with fail
    go_ret
    exact ⟨by rw [HE.out]; rfl, HK.out⟩
  · have HE : Hid (leafX 13 tx = covO ⟨4, tx, 0⟩) := rfl
    go_enter Tryz.func49, Tryz.ntmps49
    go_wp2_with fail
    refine (HC.out 4).mono ?_
    rintro e w2 ⟨rfl, rfl⟩
    go_wp2_with fail
    go_ret
    exact ⟨by rw [HE.out]; rfl, HK.out⟩
  · have HE : Hid (leafX 14 tx = covO ⟨5, tx, 0⟩) := rfl
    go_enter Tryz.func49, Tryz.ntmps49
    go_wp2_with fail
    refine (HC.out 5).mono ?_
    rintro e w2 ⟨rfl, rfl⟩
    go_wp2_with fail
    go_ret
    exact ⟨by rw [HE.out]; rfl, HK.out⟩
  · have e : leafX 15 tx = tx := rfl
    have HE : Hid (strL (leafX 15 tx) = strL tx) := by rw [e]; exact rfl
    clear e
    go_enter Tryz.func49, Tryz.ntmps49
    go_wp2_with fail
    go_ret
    exact ⟨by rw [HE.out]; rfl, HK.out⟩
  · have HE : Hid (leafX 16 tx = covO ⟨3, tx, 0⟩) := rfl
    go_enter Tryz.func49, Tryz.ntmps49
    go_wp2_with fail
    refine (HC.out 3).mono ?_
    rintro e w2 ⟨rfl, rfl⟩
    go_wp2_with fail
    go_ret
    exact ⟨by rw [HE.out]; rfl, HK.out⟩
  · have e : leafX 17 tx = [116, 114, 117, 101] := rfl
    have HE : Hid (strL (leafX 17 tx) = ⟨#[116, 114, 117, 101]⟩) := by rw [e]; exact rfl
    clear e
    go_enter Tryz.func49, Tryz.ntmps49
    go_wp2_with fail
    go_ret
    exact ⟨by rw [HE.out]; rfl, HK.out⟩
  · have e : leafX 18 tx = [102, 97, 108, 115, 101] := rfl
    have HE : Hid (strL (leafX 18 tx) = ⟨#[102, 97, 108, 115, 101]⟩) := by rw [e]; exact rfl
    clear e
    go_enter Tryz.func49, Tryz.ntmps49
    go_wp2_with fail
    go_ret
    exact ⟨by rw [HE.out]; rfl, HK.out⟩
end Go.Proofs.YtfpdgdacifiejaaGreat

namespace Go.Proofs.YtfpdgdacifiejaaGreat
open Go.RowKit Go.Maps

theorem PgSt.setBl {p : Nat} {nv : Value} {bl : Nat} {acc : List UInt8} {w : World} (h : PgSt p nv bl acc w) (c : Nat) : PgSt p nv c acc (w.setCell ⟨p, 3, none⟩ (.int .i64 (c : Int))) := by
  obtain ⟨ad, bf, h1, h2, h3, h4⟩ := h.out
  refine ⟨ad, bf, row_setJ h1 3 _, h2, h3.kept (Kept.setCell [p] _ _ _ (by simp)) fun k hq hm => ?_, h4⟩
  simp at hm
  subst hm
  exact own_not h3 h1 byte_ne_page hq
set_option maxRecDepth 100000 in
set_option maxHeartbeats 4000000 in
/-- Within a block. -/
theorem pwithin_any (p : Nat) (nv : Value) (bl : Nat) (acc T : List UInt8) (w : World) (fid : FuncId) (cap : Array Value) (hent : Enters Tryz.prog fid) (h : PgSt p nv bl acc w) (hb : bl ≤ 10000)
    (hf : ∀ w1, PgSt p nv (bl + 1) acc w1 → PF p w w1 → Calls Tryz.prog fid cap w1 (PgOut p nv (bl + 1) (acc ++ T) w1)) :
    Calls Tryz.prog 64 #[.pointer (some ⟨p, 0, none⟩), .func (.func fid) #[] cap] w (PgOut p nv bl (acc ++ T) w) := by
  have hE : ∀ (args : Array Value) (w : World), (callFunc fid args).run Tryz.prog w = .ok (.enter fid args) w := hent
  obtain ⟨ad, bf, h1, _⟩ := h.out
  have c3 : w.cell? ⟨p, 3, none⟩ = some (.int .i64 (bl : Int)) := cell_of_row _ _ 3 _ _ _ h1
  have f3 : w.frozen? ⟨p, 3, none⟩ = false := frozen_of_row _ _ 3 _ _ h1
  have hwr : IntKind.i64.wrap ((bl : Int) + 1) = ((bl + 1 : Nat) : Int) := by rw [IntKind.wrap_i64]; omega
  have hwq : IntKind.i64.wrap (((bl + 1 : Nat) : Int) - 1) = (bl : Int) := by rw [IntKind.wrap_i64]; omega
  obtain ⟨b1, hb1⟩ : ∃ b, bl + 1 = b := ⟨_, rfl⟩
  rw [hb1] at hwr hwq hf
  obtain ⟨w1, hw1⟩ : ∃ w1, w.setCell ⟨p, 3, none⟩ (.int .i64 (b1 : Int)) = w1 := ⟨_, rfl⟩
  have H1 : Hid (PgSt p nv b1 acc w1 ∧ PF p w w1) := by
    rw [← hw1]
    exact ⟨h.setBl b1, PF.ofp (Kept.setCell _ _ _ _ (by simp))⟩
  have HP := Lib.hid (hf w1 H1.out.1 H1.out.2)
  clear h h1 hf hb hb1
  go_enter Tryz.func64, Tryz.ntmps64
  go_wp2_with fail
  refine HP.out.mono ?_
  rintro e w2 ⟨rfl, h2, hk2⟩
  obtain ⟨ad2, bf2, h3, _⟩ := h2.out
  have d3 : w2.cell? ⟨p, 3, none⟩ = some (.int .i64 (b1 : Int)) := cell_of_row _ _ 3 _ _ _ h3
  have g3 : w2.frozen? ⟨p, 3, none⟩ = false := frozen_of_row _ _ 3 _ _ h3
  have HFIN : Hid (PgSt p nv bl (acc ++ T) (w2.setCell ⟨p, 3, none⟩ (.int .i64 (bl : Int))) ∧ PF p w (w2.setCell ⟨p, 3, none⟩ (.int .i64 (bl : Int)))) :=
    ⟨h2.setBl bl, (H1.out.2.trans hk2).trans (PF.ofp (Kept.setCell _ _ _ _ (by simp)))⟩
  clear h2 hk2 h3 c3 f3 hw1
  go_wp2_with fail
  go_end0
  exact ⟨rfl, HFIN.out.1, HFIN.out.2⟩
/-- The statements of a block, a line ended ahead of each. -/
def linesT (ah : List UInt8) : List (List UInt8) → List UInt8
  | [] => []
  | a :: r => 10 :: (ah ++ (a ++ linesT ah r))
theorem linesT_snoc (ah x : List UInt8) : ∀ l : List (List UInt8), linesT ah (l ++ [x]) = linesT ah l ++ (10 :: (ah ++ x))
  | [] => by simp [linesT]
  | a :: r => by simp [linesT, linesT_snoc ah x r]
theorem linesT_le (ah : List UInt8) : ∀ l m : List (List UInt8), (linesT ah l).length ≤ (linesT ah (l ++ m)).length
  | [], m => by simp [linesT]
  | a :: r, m => by
    have := linesT_le ah r m
    simp only [List.cons_append, linesT, List.length_cons, List.length_append] at this ⊢
    omega
theorem enters_pblock1 : Enters Tryz.prog 65 := enters_of Tryz.func65 (by kernel_rfl) rfl
set_option maxRecDepth 100000 in
set_option maxHeartbeats 4000000 in
theorem pblock1_any (W : World) (nv : Value) (d : Nat) (ks : List Nat) (fs : List (Nat → List UInt8)) (lv : Value) (hks : KsIs W lv ks) (hfs : PCs W nv d ks fs) (kd : Nat) (tx : List UInt8) (q1 q2 : Nat)
    (p bl : Nat) (acc : List UInt8) (w : World) (hp : W.heap.size ≤ p) (hw : Kept [] W w) (hs : PgSt p nv bl acc w) (hd : bl + d ≤ 5000) (hl : acc.length + (linesT (ahS bl) (fs.map fun f => f bl)).length ≤ 70368744177664)
    (hq1 : w.heap[q1]? = some (.cells #[.int .i64 (kd : Int), .string (strL tx), lv] 41)) (hq2 : w.heap[q2]? = some (.cells #[.pointer (some ⟨p, 0, none⟩)] 57)) (hn2 : q2 ≠ p) :
    Calls Tryz.prog 65 #[.pointer (some ⟨q1, 0, none⟩), .pointer (some ⟨q2, 0, none⟩)] w (PgOut p nv bl (acc ++ linesT (ahS bl) (fs.map fun f => f bl)) w) := by
  obtain ⟨ao, cap, rfl, hcap, hc63, hcell⟩ := hks
  obtain ⟨n, hn⟩ : ∃ n, ks.length = n := ⟨_, rfl⟩
  have HN : Hid (ks.length = n ∧ fs.length = n) := ⟨hn, by rw [← hfs.len, hn]⟩
  have HCELL := Lib.hid hcell
  rw [hn] at hcap hq1
  have HFS := Lib.hid hfs
  have HL := Lib.hid hl
  have HX := Lib.hid (And.intro hp (And.intro hw hd))
  have H0 := Lib.hid hs
  obtain ⟨L, hL⟩ : ∃ L, L = (fs.map fun f => f bl) := ⟨_, rfl⟩
  have HLL : Hid (L.length = n ∧ ∀ k (h1 : k < L.length) (h2 : k < fs.length), L[k] = fs[k] bl) := ⟨by rw [hL, List.length_map]; exact HN.out.2, fun k h1 h2 => by simp [hL]⟩
  rw [← hL] at HL ⊢
  have a2 : w.cell? ⟨q1, 2, none⟩ = some (.slice ao n cap) := cell_of_row _ _ 2 _ _ _ hq1
  have HQ2 : Hid (∀ wr, PF p w wr → wr.cell? ⟨q2, 0, none⟩ = some (.pointer (some ⟨p, 0, none⟩))) := fun wr hk => cell_of_row _ _ 0 _ _ _ (hk.heap hq2 hn2 (by decide))
  clear hcell hn hfs hl hp hw hd hs hL hq1 hq2 hn2
  go_enter Tryz.func65, Tryz.ntmps65
  go_wp2_with fail
  clear a2
  go_loopw [7] (fun si wr => ∃ k : Nat, si = .int .i64 k ∧ k ≤ n ∧ Hid (PgSt p nv bl (acc ++ linesT (ahS bl) (L.take k)) wr ∧ PF p w wr)) (fun si _ => n - (intOf si).toNat)
  case atStart => exact ⟨0, rfl, by omega, Lib.hid ⟨by simpa [linesT] using H0.out, PF.refl _ _⟩⟩
  case round =>
    obtain ⟨k, rfl, hk, HS⟩ := hrel
    clear H0
    by_cases hlt : k < n
    · have hkk : k < ks.length := by rw [HN.out.1]; exact hlt
      have hkf : k < fs.length := by rw [HN.out.2]; exact hlt
      have hkL : k < L.length := by rw [HLL.out.1]; exact hlt
      obtain ⟨b2, o2, rfl, hb2, hc2⟩ := HCELL.out (by omega)
      have y0 := hc2 k hkk
      have HKW : Hid (Kept [] W wr) := PF.kept HX.out.2.1 HS.out.2 HX.out.1
      have y1 := (HKW.out.cell (p := ⟨b2, o2 + k, none⟩) hb2 (by simp)).trans y0
      have p1 := HQ2.out wr HS.out.2
      have HCH := Lib.hid (HFS.out.get k hkk hkf)
      have HLk := Lib.hid (HLL.out.2 k hkL hkf)
      have HTK : Hid ((linesT (ahS bl) (L.take (k + 1))).length ≤ (linesT (ahS bl) L).length) := by
        have := linesT_le (ahS bl) (L.take (k + 1)) (L.drop (k + 1))
        rwa [List.take_append_drop] at this
      obtain ⟨x, hx⟩ : ∃ x, ks[k] = x := ⟨_, rfl⟩
      obtain ⟨f, hf⟩ : ∃ f, fs[k] = f := ⟨_, rfl⟩
      rw [hx] at y1 HCH
      rw [hf] at HCH HLk
      clear y0 hx hf hc2 hb2
      have HEQ : Hid (linesT (ahS bl) (L.take (k + 1)) = linesT (ahS bl) (L.take k) ++ (10 :: (ahS bl ++ f bl))) := by
        show _ = _
        rw [List.take_succ_eq_append_getElem hkL, linesT_snoc, HLk.out]
      have HLQ : Hid ((acc ++ linesT (ahS bl) (L.take k)).length + (1 + (ahS bl).length + (f bl).length) ≤ 70368744177664) := by
        have h1 := HTK.out; have h2 := HL.out
        rw [HEQ.out] at h1
        simp only [List.length_append, List.length_cons] at h1 ⊢
        show _ ≤ _
        omega
      have HP := Lib.hid (pline_any p nv bl (acc ++ linesT (ahS bl) (L.take k)) wr HS.out.1 (by have := HX.out.2.2; omega) (by have := HLQ.out; omega))
      go_wp2_with fail
      refine HP.out.mono ?_
      rintro e w2 ⟨rfl, h1, h2⟩
      have H2 : Hid (PgSt p nv bl (acc ++ linesT (ahS bl) (L.take k) ++ (10 :: ahS bl)) w2 ∧ PF p w w2) := ⟨h1, HS.out.2.trans h2⟩
      have HQ := Lib.hid (HCH.out p bl _ w2 HX.out.1 (PF.kept HX.out.2.1 H2.out.2 HX.out.1) H2.out.1 HX.out.2.2 (by have := HLQ.out; simp only [List.length_append, List.length_cons] at this ⊢; omega))
      have p2 := HQ2.out w2 H2.out.2
      clear h1 h2 y1 HP p1
      go_wp2_with fail
      refine HQ.out.mono ?_
      rintro e w3 ⟨rfl, h1, h2⟩
      have H3 : Hid (PgSt p nv bl (acc ++ linesT (ahS bl) (L.take (k + 1))) w3 ∧ PF p w w3) := ⟨by rw [HEQ.out]; simpa only [List.append_assoc, List.cons_append] using h1, H2.out.2.trans h2⟩
      clear h1 h2 HQ H2 p2
      go_wp2_with fail
      go_roundw
      case rel => exact ⟨k + 1, by go_num, by omega, H3⟩
      case measure => simp [intOf]; omega
    · have hkn : k = n := by omega
      have HE : Hid (PgSt p nv bl (acc ++ linesT (ahS bl) L) wr ∧ PF p w wr) := by
        have := HS.out
        rw [hkn, List.take_of_length_le (by rw [HLL.out.1]; omega)] at this
        exact this
      have hii : ¬ (k : Int) < (n : Int) := by omega
      clear hkn
      go_wp2_with fail
      go_end0
      exact ⟨rfl, HE.out.1, HE.out.2⟩
set_option maxRecDepth 100000 in
set_option maxHeartbeats 4000000 in
theorem pblock_any (W : World) (nv : Value) (d : Nat) (ks : List Nat) (fs : List (Nat → List UInt8)) (lv : Value) (hks : KsIs W lv ks) (hfs : PCs W nv d ks fs) (kd : Nat) (tx : List UInt8)
    (p bl : Nat) (acc : List UInt8) (w : World) (hp : W.heap.size ≤ p) (hw : Kept [] W w) (hs : PgSt p nv bl acc w) (hd : bl + (d + 1) ≤ 5000)
    (hl : acc.length + ([123] ++ (linesT (ahS (bl + 1)) (fs.map fun f : Nat → List UInt8 => f (bl + 1)) ++ ((10 :: ahS bl) ++ [125]))).length ≤ 70368744177664) :
    Calls Tryz.prog 42 #[.pointer (some ⟨p, 0, none⟩), .agg #[.int .i64 (kd : Int), .string (strL tx), lv]] w (PgOut p nv bl (acc ++ ([123] ++ (linesT (ahS (bl + 1)) (fs.map fun f : Nat → List UInt8 => f (bl + 1)) ++ ((10 :: ahS bl) ++ [125])))) w) := by
  obtain ⟨ao, n, cap, hlv⟩ : ∃ ao n cap, lv = .slice ao n cap := by obtain ⟨a, c, h, _⟩ := hks; exact ⟨_, _, _, h⟩
  have HKS := Lib.hid hks
  have HFS := Lib.hid hfs
  have HL := Lib.hid hl
  have HX := Lib.hid (And.intro hp (And.intro hw hd))
  obtain ⟨w1, hw1⟩ : ∃ w1, w.alloc (.cells #[.pointer (some ⟨p, 0, none⟩)] 57) = w1 := ⟨_, rfl⟩
  obtain ⟨w2, hw2⟩ : ∃ w2, w1.alloc (.cells #[.int .i64 (kd : Int), .string (strL tx), lv] 41) = w2 := ⟨_, rfl⟩
  have H2 : Hid (PgSt p nv bl acc w2 ∧ PF p w w2 ∧ w2.heap[w.heap.size]? = some (.cells #[.pointer (some ⟨p, 0, none⟩)] 57) ∧ w2.heap[w1.heap.size]? = some (.cells #[.int .i64 (kd : Int), .string (strL tx), lv] 41) ∧ w.heap.size ≠ p ∧ w1.heap.size ≠ p) := by
    have h1 : Kept [] w w1 := by rw [← hw1]; exact Kept.alloc _ _ _
    have h2 : Kept [] w1 w2 := by rw [← hw2]; exact Kept.alloc _ _ _
    have hlt := hs.lt
    refine ⟨hs.go (h1.trans h2), PF.of (h1.trans h2), h2.heap (by simp) ?_, ?_, by omega, by have := h1.size; omega⟩
    · rw [← hw1]; exact heap_alloc_last _ _
    · rw [← hw2]; exact heap_alloc_last _ _
  have c2 : w2.cell? ⟨w.heap.size, 0, none⟩ = some (.pointer (some ⟨p, 0, none⟩)) := cell_of_row _ _ 0 _ _ _ H2.out.2.2.1
  obtain ⟨w3, hw3⟩ : ∃ w3, w2.alloc (.cells #[.string ⟨#[123]⟩] 9) = w3 := ⟨_, rfl⟩
  have K3 : Hid (Kept [] w2 w3 ∧ w3.heap[w2.heap.size]? = some (.cells #[.string (strL [123])] 9)) := by
    rw [← hw3]
    exact ⟨Kept.alloc _ _ _, heap_alloc_last _ _⟩
  have HP := Lib.hid (pput_one p nv bl acc [123] w2.heap.size w3 (H2.out.1.go K3.out.1) K3.out.2 (by have := HL.out; simp only [List.length_append, List.length_cons, List.length_nil] at this ⊢; omega))
  clear hks hfs hl hp hw hs hd
  subst hlv
  go_enter Tryz.func42, Tryz.ntmps42
  go_wp2_with fail
  refine HP.out.mono ?_
  rintro e w4 ⟨rfl, h4, hk4⟩
  have H4 : Hid (PgSt p nv bl (acc ++ [123]) w4 ∧ PF p w w4 ∧ PF p w2 w4) := ⟨h4, (H2.out.2.1.trans (PF.of K3.out.1)).trans hk4, (PF.of K3.out.1).trans hk4⟩
  have c4 : w4.cell? ⟨w.heap.size, 0, none⟩ = some (.pointer (some ⟨p, 0, none⟩)) := cell_of_row _ _ 0 _ _ _ (H4.out.2.2.heap H2.out.2.2.1 H2.out.2.2.2.2.1 (by decide))
  clear h4 hk4 HP K3 c2 hw3
  obtain ⟨T, hT⟩ : ∃ T, linesT (ahS (bl + 1)) (fs.map fun f : Nat → List UInt8 => f (bl + 1)) = T := ⟨_, rfl⟩
  have HLT : Hid (acc.length + (T.length + (ahS bl).length + 3) ≤ 70368744177664) := by
    show _ ≤ _
    have := HL.out
    rw [hT] at this
    simp only [List.length_append, List.length_cons, List.length_nil] at this
    omega
  have HW := Lib.hid (pwithin_any p nv bl (acc ++ [123]) T w4 65 #[.pointer (some ⟨w1.heap.size, 0, none⟩), .pointer (some ⟨w.heap.size, 0, none⟩)] enters_pblock1 H4.out.1 (by have := HX.out.2.2; omega)
    (fun wx hx hkx => by
      have := pblock1_any W nv d ks fs (.slice ao n cap) HKS.out HFS.out kd tx w1.heap.size w.heap.size p (bl + 1) (acc ++ [123]) wx HX.out.1 (PF.kept HX.out.2.1 (H4.out.2.1.trans hkx) HX.out.1) hx (by have := HX.out.2.2; omega)
        (by rw [hT]; have := HLT.out; simp only [List.length_append, List.length_cons, List.length_nil]; omega)
        ((H4.out.2.2.trans hkx).heap H2.out.2.2.2.1 H2.out.2.2.2.2.2 (by decide)) ((H4.out.2.2.trans hkx).heap H2.out.2.2.1 H2.out.2.2.2.2.1 (by decide)) H2.out.2.2.2.2.1
      rwa [hT] at this))
  go_wp2_with fail
  refine HW.out.mono ?_
  rintro e w5 ⟨rfl, h5, hk5⟩
  have H5 : Hid (PgSt p nv bl (acc ++ [123] ++ T) w5 ∧ PF p w w5 ∧ PF p w2 w5) := ⟨h5, H4.out.2.1.trans hk5, H4.out.2.2.trans hk5⟩
  have c5 : w5.cell? ⟨w.heap.size, 0, none⟩ = some (.pointer (some ⟨p, 0, none⟩)) := cell_of_row _ _ 0 _ _ _ (H5.out.2.2.heap H2.out.2.2.1 H2.out.2.2.2.2.1 (by decide))
  have HP := Lib.hid (pline_any p nv bl (acc ++ [123] ++ T) w5 H5.out.1 (by have := HX.out.2.2; omega) (by have := HLT.out; simp only [List.length_append, List.length_cons, List.length_nil]; omega))
  clear h5 hk5 HW H4 c4
  go_wp2_with fail
  refine HP.out.mono ?_
  rintro e w6 ⟨rfl, h6, hk6⟩
  have H6 : Hid (PgSt p nv bl (acc ++ [123] ++ T ++ (10 :: ahS bl)) w6 ∧ PF p w w6 ∧ PF p w2 w6) := ⟨h6, H5.out.2.1.trans hk6, H5.out.2.2.trans hk6⟩
  have c6 : w6.cell? ⟨w.heap.size, 0, none⟩ = some (.pointer (some ⟨p, 0, none⟩)) := cell_of_row _ _ 0 _ _ _ (H6.out.2.2.heap H2.out.2.2.1 H2.out.2.2.2.2.1 (by decide))
  clear h6 hk6 HP H5 c5
  obtain ⟨w7, hw7⟩ : ∃ w7, w6.alloc (.cells #[.string ⟨#[125]⟩] 9) = w7 := ⟨_, rfl⟩
  have K7 : Hid (Kept [] w6 w7 ∧ w7.heap[w6.heap.size]? = some (.cells #[.string (strL [125])] 9)) := by
    rw [← hw7]
    exact ⟨Kept.alloc _ _ _, heap_alloc_last _ _⟩
  have HP := Lib.hid (pput_one p nv bl _ [125] w6.heap.size w7 (H6.out.1.go K7.out.1) K7.out.2 (by have := HLT.out; simp only [List.length_append, List.length_cons, List.length_nil]; omega))
  have HT := Lib.hid hT
  clear hT
  go_wp2_with fail
  refine HP.out.mono ?_
  rintro e w8 ⟨rfl, h8, hk8⟩
  have H8 : Hid (PgSt p nv bl (acc ++ [123] ++ T ++ (10 :: ahS bl) ++ [125]) w8 ∧ PF p w w8) := ⟨h8, (H6.out.2.1.trans (PF.of K7.out.1)).trans hk8⟩
  clear h8 hk8
  go_wp2_with fail
  go_end0
  exact ⟨rfl, by rw [HT.out]; simpa only [List.append_assoc, List.cons_append, List.nil_append, List.append_nil] using H8.out.1, H8.out.2⟩
end Go.Proofs.YtfpdgdacifiejaaGreat

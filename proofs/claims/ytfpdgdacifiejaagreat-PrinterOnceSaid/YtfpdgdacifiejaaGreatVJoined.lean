/-
  Layer 12: the program's joined: parts with operators between them.
  Conditions: those that each theorem states.
-/
import Derived.Test.YtfpdgdacifiejaaGreatVNode
import Derived.Shelf.Abstract
import Derived.Deep.DeepCutAuto
namespace Go.Proofs.YtfpdgdacifiejaaGreat
open Go.RowKit Go.Maps Go.Shelf

/-- A row of texts in a block of its own. -/
theorem contains12 (ops : List (List UInt8)) (ob n : Nat) (y : List UInt8) (w : World) (hn : ops.length = n) (hs : n ≤ 100) (hrow : w.heap[ob]? = some (.cells (svA ops) 9)) :
    Calls Tryz.prog 158 #[.slice (some ⟨ob, 0, none⟩) n n, .string (strL y)] w fun e w' => e = .returned (.bool (decide (y ∈ ops))) ∧ w = w' := by
  subst hn
  refine (Any.slices_Contains_string Tryz.lays110 ob 0 ops.length ops.length (ops.map strL) (strL y) w (by simp) (by omega) (fun j hj => ?_)).mono fun e w' ⟨he, hw⟩ => ⟨?_, hw.symm⟩
  · simp at hj
    rw [Nat.zero_add, cell_of_row _ _ j _ _ _ hrow]
    simp [svA, sv, hj]
  · rw [he]
    refine retB ?_
    rw [List.take_of_length_le (by simp), Bool.eq_iff_iff, Lib.containsS_iff, decide_eq_true_iff, List.mem_map]
    constructor
    · rintro ⟨z, hz, e⟩
      have : z = y := by
        have := congrArg (fun s : ByteArray => s.data.toList) e
        simpa [strL] using this
      rwa [← this]
    · exact fun h => ⟨y, h, rfl⟩

/-- Where a parser's memory says that it stands. -/
def atOf (c : PCx) (w : World) : Nat := match w.cell? ⟨c.g, 1, none⟩ with
  | some (.int _ k) => k.toNat
  | _ => 0
theorem PrSt.meas {c : PCx} {A : List Nat} {m : Nat} {s : PSt} {w : World} (h : PrSt c A m s w) : c.l.length - atOf c w = s.r.length := by
  obtain ⟨nv, c0, c1, _⟩ := h.open
  have := h.le
  unfold atOf
  rw [c1]
  simp only [Int.toNat_natCast]
  omega
theorem PRes.more {α : Type} {c : PCx} {o : POut α} {val : α → Value} {A : List Nat} {m n : Nat} {w : World} {e : Ending} {w' : World} (h : PRes c o val A m w e w') (hn : m ≤ n) : PRes c o val A n w e w' := by
  cases o with
  | ok s a => exact ⟨h.1, h.2.1.more hn, h.2.2⟩
  | err r => exact h
theorem PrSt.pos {c : PCx} {A : List Nat} {m : Nat} {s : PSt} {w : World} {p : Tok → Bool} (h : PrSt c A m s w) (hp : tkB p s.r = true) : 1 ≤ m := by
  obtain ⟨t, r, h1, _⟩ := tk_split hp
  have := h.few
  rw [h1] at this
  simp at this
  omega
theorem KA.less {c : PCx} {A A2 : List Nat} {w w' : World} (h : KA c A w w') (h2 : ∀ q ∈ A2, q ∈ A) : KA c A2 w w' := by
  obtain ⟨ex, e1, e2⟩ := h
  exact ⟨ex, e1, fun q hq => ⟨fun hh => (e2 q hq).1 (h2 q hh), (e2 q hq).2⟩⟩
/-- What joined's loop is at. -/
structure JnSt (c : PCx) (A : List Nat) (m : Nat) (ob wb : Nat) (w wr : World) (s : PSt) (a : Int) : Prop where
  st : PrSt c (wb :: ob :: A) m s wr
  ka : KA c (ob :: A) w wr
  box : wr.heap[wb]? = some (.cells #[.int .i64 (hdK s.r), .string (strL (hdT s.r)), .int .i64 a] 38)
theorem alloc_box {c : PCx} {A : List Nat} {m : Nat} {s : PSt} {w : World} (h : PrSt c A m s w) (o : Obj) : PrSt c (w.heap.size :: A) m s (w.alloc o) :=
  h.go (Kept.alloc [] w o) (by simp) (fun q hq => by
    rw [size_alloc]
    rcases List.mem_cons.1 hq with rfl | hq
    · exact ⟨.inr (Nat.le_refl _), by omega⟩
    · have := (h.hA q hq).2
      exact ⟨.inl hq, by omega⟩)

set_option maxRecDepth 100000 in
set_option maxHeartbeats 8000000 in
theorem yjoined_any (c : PCx) (fid : FuncId) (sub : Prs Nat) (n : Nat) (hent : Enters Tryz.prog fid) (hsub : PC c fid sub n) (hlc : Lc sub) (kind : Int) (hk0 : kind ≠ 0) (ops : List (List UInt8)) (q : Nat) (hq : ops.length = q) (hq2 : q ≤ 100) (p : Tok → Bool)
    (hp : ∀ r, tkB p r = (decide (hdK r = kind) && decide (hdT r ∈ ops))) (A : List Nat) (m : Nat) (s : PSt) (w : World) (ob : Nat) (hm : m ≤ 5000) (hr : s.r.length < n) (h : PrSt c (ob :: A) m s w) (hob : ob ∉ A) (hrow : w.heap[ob]? = some (.cells (svA ops) 9)) :
    Calls Tryz.prog 149 #[.pointer (some ⟨c.g, 0, none⟩), .func (.func fid) #[.pointer (some ⟨c.g, 0, none⟩)] #[], .int .i64 kind, .slice (some ⟨ob, 0, none⟩) q q] w (PRes c (pbind sub (fun x => opLoop sub p n x) s) nV A m w) := by
  have hE : ∀ (args : Array Value) (w : World), (callFunc fid args).run Tryz.prog w = .ok (.enter fid args) w := hent
  have HH := Lib.hid h
  have HROW := Lib.hid hrow
  have HC := Lib.hid (hsub (ob :: A) m s w hm hr h)
  have HSUB := Lib.hid hsub
  have HLC := Lib.hid hlc
  have HP := Lib.hid hp
  have HM := Lib.hid (And.intro hm hr)
  have HOB := Lib.hid hob
  have HQQ := Lib.hid (And.intro hq hq2)
  have HK0 := Lib.hid hk0
  clear h hrow hsub hlc hp hm hr hob hq hq2 hk0 hent
  go_enter Tryz.func149, Tryz.ntmps149
  go_wp2_with fail
  refine HC.out.mono ?_
  intro e w1 h1
  rcases h1.way with ⟨r, hs1, rfl, h3⟩ | ⟨s1, x, hs1, rfl, h3, h4⟩
  · exact ⟨rfl, PRes.err (bind_err hs1) rfl h3.1 h3.2⟩
  have H1 := Lib.hid (And.intro h3 h4)
  have HZ : Hid (pbind sub (fun x => opLoop sub p n x) s = opLoop sub p n x s1 ∧ s1.r.length < n) := ⟨bind_ok hs1, by have := HLC.out.le hs1; have := HM.out.2; omega⟩
  have HW := Lib.hid (yword_any c _ m s1 w1 h3)
  unfold nV
  clear h1 h3 h4 hs1 HC
  unfold wdV at HW
  go_wp2_with fail
  refine HW.out.mono ?_
  rintro e w2 ⟨a, rfl, hk2⟩
  have HK2 := Lib.hid hk2
  obtain ⟨K, hK⟩ : ∃ K, hdK s1.r = K := ⟨_, rfl⟩
  obtain ⟨T, hT⟩ : ∃ T, hdT s1.r = T := ⟨_, rfl⟩
  have HKT := Lib.hid (And.intro hK hT)
  rw [hK, hT]
  obtain ⟨w3, hw3⟩ : ∃ w3, w2.alloc (.cells #[.int .i64 K, .string (strL T), .int .i64 a] 38) = w3 := ⟨_, rfl⟩
  obtain ⟨wb, hwb⟩ : ∃ wb, w2.heap.size = wb := ⟨_, rfl⟩
  have HJ : Hid (JnSt c A m ob wb w w3 s1 a) := by
    rw [← hw3, ← hwb, ← hK, ← hT]
    exact ⟨alloc_box (H1.out.1.keep HK2.out) _, (H1.out.2.trans (KA.of (HK2.out.trans (Kept.alloc _ _ _))) (fun _ h => h)), heap_alloc_last _ _⟩
  clear hk2 HW hK hT HKT
  go_wp2_with fail
  clear hw3 hwb
  go_loopw [9, 10] (fun v9 v10 wr => ∃ (x : Nat) (wb j : Nat) (sk : PSt) (a : Int), v9 = .int .i64 x ∧ v10 = .pointer (some ⟨wb, 0, none⟩) ∧ Hid (JnSt c A m ob wb w wr sk a ∧ sk.r.length < j ∧ j ≤ n ∧ pbind sub (fun x => opLoop sub p n x) s = opLoop sub p j x sk)) (fun _ _ wr => c.l.length - atOf c wr)
  case atStart => exact ⟨x, wb, n, s1, a, rfl, rfl, HJ.out, HZ.out.2, Nat.le_refl _, HZ.out.1⟩
  case round =>
    obtain ⟨x, wb, j, sk, a, rfl, rfl, HS⟩ := hrel
    clear HJ HZ H1
    have hms := HS.out.1.st.meas
    obtain ⟨K, hK⟩ : ∃ K, hdK sk.r = K := ⟨_, rfl⟩
    obtain ⟨T, hT⟩ : ∃ T, hdT sk.r = T := ⟨_, rfl⟩
    have HKT := Lib.hid (And.intro hK hT)
    have HB := Lib.hid HS.out.1.box
    rw [hK, hT] at HB
    have v0 : wr.cell? ⟨wb, 0, none⟩ = some (.int .i64 K) := cell_of_row _ _ 0 _ _ _ HB.out
    have v1 : wr.cell? ⟨wb, 1, none⟩ = some (.string (strL T)) := cell_of_row _ _ 1 _ _ _ HB.out
    have v2 : wr.cell? ⟨wb, 2, none⟩ = some (.int .i64 a) := cell_of_row _ _ 2 _ _ _ HB.out
    have HTK : Hid (tkB p sk.r = (decide (K = kind) && decide (T ∈ ops))) := by show _ = _; rw [HP.out, hK, hT]
    have HOBR := Lib.hid (HS.out.1.ka.heap HROW.out (by simp))
    obtain ⟨j', rfl⟩ : ∃ j', j = j' + 1 := ⟨j - 1, by have := HS.out.2.1; omega⟩
    have HEX : Hid (tkB p sk.r = false → PRes c (pbind sub (fun x => opLoop sub p n x) s) nV A m w (.returned (.int .i64 (x : Int))) wr) := fun hb => by
      refine PRes.ok (s := sk) (a := x) ?_ rfl (HS.out.1.st.less (by simp +contextual)) (HS.out.1.ka.less (by simp +contextual))
      rw [HS.out.2.2.2]
      unfold opLoop
      rw [ifT_f hb]
      rfl
    clear hK hT
    by_cases hkk : K = kind
    case neg =>
      have q1 : (K == kind) = false := by simpa using hkk
      have HF := Lib.hid (HEX.out (by rw [HTK.out]; simp [hkk]))
      clear v1 v2 hms
      go_wp2_with fail
      go_ret
      exact HF.out
    subst hkk
    have HCT := Lib.hid (contains12 ops ob q T wr HQQ.out.1 HQQ.out.2 HOBR.out)
    by_cases hto : T ∈ ops
    case neg =>
      have HF := Lib.hid (HEX.out (by rw [HTK.out]; simp [hto]))
      rw [decide_eq_false hto] at HCT
      clear v2 hms
      go_wp2_with fail
      refine HCT.out.mono ?_
      rintro e w4 ⟨rfl, rfl⟩
      go_wp2_with fail
      go_ret
      exact HF.out
    rw [decide_eq_true hto] at HCT
    have HTT : Hid (tkB p sk.r = true) := by show _ = _; rw [HTK.out]; simp [hto]
    have HE := Lib.hid (HS.out.1.st.eat (fun hh => by have := HTT.out; rw [hh] at this; cases this))
    have hle := HS.out.1.st.tk.len
    obtain ⟨nv, c0, c1, c2, fz, _, _⟩ := HS.out.1.st.open
    obtain ⟨at', hat'⟩ : ∃ n, c.l.length - sk.r.length = n := ⟨_, rfl⟩
    have hatl : at' ≤ 140737488355328 := by omega
    rw [hat'] at c1 HE
    have hwr : IntKind.i64.wrap ((at' : Int) + 1) = (at' : Int) + 1 := by rw [IntKind.wrap_i64]; omega
    obtain ⟨w5, hw5⟩ : ∃ w5, wr.setCell ⟨c.g, 1, none⟩ (.int .i64 ((at' : Int) + 1)) = w5 := ⟨_, rfl⟩
    simp only [hw5] at HE
    have HB5 := Lib.hid (HE.out.2.heap HB.out (by simp))
    have HTL : Hid (opLoop sub p (j' + 1) x sk = (pbind sub fun y => pbind (pnode 19 T [x, y]) fun z => opLoop sub p j' z) ⟨sk.r.tail, sk.ns⟩) := by
      show _ = _
      rw [show opLoop sub p (j' + 1) x = ifT p (fun t => pbind sub fun y => pbind (pnode 19 t [x, y]) fun z => opLoop sub p j' z) (prt x) from rfl, ifT_t HTT.out, HKT.out.2]
    have HLN : Hid (sk.r.tail.length + 1 = sk.r.length) := by
      obtain ⟨t, r, h1, _, h2, _⟩ := tk_split HTT.out
      show _ + 1 = _
      rw [h2, h1]
      rfl
    have HPOS := Lib.hid (HS.out.1.st.pos HTT.out)
    have HC2 := Lib.hid (HSUB.out (wb :: ob :: A) (m - 1) ⟨sk.r.tail, sk.ns⟩ w5 (by have := HM.out.1; omega) (by have := HLN.out; have := HS.out.2; show sk.r.tail.length < n; omega) HE.out.1)
    clear hto hle hat' hms v2 c0 c2
    go_wp2_with fail
    refine HCT.out.mono ?_
    rintro e w4 ⟨rfl, rfl⟩
    go_wp2_with fail
    clear c1 fz hw5 v0 v1
    refine HC2.out.mono ?_
    intro e w6 h6
    rcases h6.way with ⟨r, hs2, rfl, h3⟩ | ⟨s2, y, hs2, rfl, h3, h4⟩
    · exact ⟨rfl, PRes.err (by rw [HS.out.2.2.2, HTL.out, bind_err hs2]) rfl h3.1 h3.2⟩
    have HB6 := Lib.hid (h4.heap HB5.out (by simp))
    have HR2 : Hid (s2.r.length ≤ sk.r.tail.length) := HLC.out.le hs2
    have HP6 := Lib.hid h3
    have HK6 := Lib.hid h4
    have HS2 := Lib.hid hs2
    unfold nV
    have v1 : w6.cell? ⟨wb, 1, none⟩ = some (.string (strL T)) := cell_of_row _ _ 1 _ _ _ HB6.out
    obtain ⟨w7, hw7⟩ : ∃ w7, w6.alloc (.cells #[.int .i64 (x : Int), .int .i64 (y : Int)] 3) = w7 := ⟨_, rfl⟩
    obtain ⟨lb, hlb⟩ : ∃ lb, w6.heap.size = lb := ⟨_, rfl⟩
    have HA7 : Hid (Kept [] w6 w7 ∧ PrSt c (lb :: wb :: ob :: A) (m - 1) s2 w7 ∧ OwnJ (c.g + 1) w7 (.slice (some ⟨lb, 0, none⟩) 2 2) [x, y] ∧ ∀ z ∈ wb :: ob :: A, z ≠ lb) := by
      rw [← hw7, ← hlb]
      exact ⟨Kept.alloc _ _ _, alloc_box h3 _, OwnJ.made w6 [x, y] 2 rfl (c.g + 1) h3.lt (by omega), fun z hz hh => by have := (h3.hA z hz).2; omega⟩
    have HN := Lib.hid (ynode_any c (wb :: ob :: A) (m - 1) s2 w7 19 T (.slice (some ⟨lb, 0, none⟩) 2 2) [x, y] (by have := HM.out.1; omega) HA7.out.2.1 HA7.out.2.2.1 (fun z hz hh => by
      injection hz with hz
      exact HA7.out.2.2.2 z hh hz.symm))
    clear h6 h3 h4 hs2
    go_wp2_with fail
    clear hw7 hlb v1
    refine HN.out.mono ?_
    intro e w8 h8
    obtain ⟨rfl, h3, h4⟩ := h8
    have HB8 := Lib.hid (h4.heap (HA7.out.1.heap (by simp) HB6.out) (by simp))
    have HP8 := Lib.hid h3
    have HK8 := Lib.hid h4
    clear h3 h4 HN
    unfold nV
    obtain ⟨s3, hs3⟩ : ∃ s3, (⟨s2.r, s2.ns ++ [⟨19, T, [x, y]⟩]⟩ : PSt) = s3 := ⟨_, rfl⟩
    obtain ⟨z, hz⟩ : ∃ z, s2.ns.length = z := ⟨_, rfl⟩
    rw [hs3] at HP8
    rw [hz]
    have HQ3 : Hid (opLoop sub p (j' + 1) x sk = opLoop sub p j' z s3 ∧ s3.r = s2.r) := by
      refine ⟨?_, by rw [← hs3]⟩
      rw [HTL.out, bind_ok HS2.out]
      unfold pbind pnode
      simp only
      rw [hs3, hz]
    clear hs3 hz
    have u0 : w8.cell? ⟨wb, 0, none⟩ = some (.int .i64 K) := cell_of_row _ _ 0 _ _ _ HB8.out
    have u1 : w8.cell? ⟨wb, 1, none⟩ = some (.string (strL T)) := cell_of_row _ _ 1 _ _ _ HB8.out
    have u2 : w8.cell? ⟨wb, 2, none⟩ = some (.int .i64 a) := cell_of_row _ _ 2 _ _ _ HB8.out
    obtain ⟨w9, hw9⟩ : ∃ w9, w8.alloc (.cells #[.int .i64 K, .string (strL T), .int .i64 a] 38) = w9 := ⟨_, rfl⟩
    obtain ⟨nb, hnb⟩ : ∃ nb, w8.heap.size = nb := ⟨_, rfl⟩
    have HP9 : Hid (PrSt c (nb :: ob :: A) m s3 w9 ∧ Kept [] w8 w9 ∧ w9.heap[nb]? = some (.cells #[.int .i64 K, .string (strL T), .int .i64 a] 38) ∧ (∀ q ∈ ob :: A, q ≠ nb)) := by
      rw [← hw9, ← hnb]
      refine ⟨alloc_box ((HP8.out.less (by simp +contextual)).more (by have := HPOS.out; omega)) _, Kept.alloc _ _ _, heap_alloc_last _ _, fun q hq hh => ?_⟩
      have := (HP8.out.hA q (by simp at hq; simp [hq])).2
      omega
    have HW9 := Lib.hid (yword_any c _ m s3 w9 HP9.out.1)
    unfold wdV at HW9
    obtain ⟨K2, hK2⟩ : ∃ K, hdK s3.r = K := ⟨_, rfl⟩
    obtain ⟨T2, hT2⟩ : ∃ T, hdT s3.r = T := ⟨_, rfl⟩
    have HKT2 := Lib.hid (And.intro hK2 hT2)
    rw [hK2, hT2] at HW9
    clear hK2 hT2
    go_wp2_with fail
    clear hw9 hnb u0 u1 u2
    refine HW9.out.mono ?_
    rintro e w10 ⟨a2, rfl, hk10⟩
    have HRB := Lib.hid (hk10.heap (by simp) HP9.out.2.2.1)
    have u0 : w10.cell? ⟨nb, 0, none⟩ = some (.int .i64 K) := cell_of_row _ _ 0 _ _ _ HRB.out
    have u1 : w10.cell? ⟨nb, 1, none⟩ = some (.string (strL T)) := cell_of_row _ _ 1 _ _ _ HRB.out
    have u2 : w10.cell? ⟨nb, 2, none⟩ = some (.int .i64 a) := cell_of_row _ _ 2 _ _ _ HRB.out
    have f0 : w10.frozen? ⟨nb, 0, none⟩ = false := frozen_of_row _ _ 0 _ _ HRB.out
    have f1 : w10.frozen? ⟨nb, 1, none⟩ = false := frozen_of_row _ _ 1 _ _ HRB.out
    have f2 : w10.frozen? ⟨nb, 2, none⟩ = false := frozen_of_row _ _ 2 _ _ HRB.out
    obtain ⟨w11, hw11⟩ : ∃ w11, ((w10.setCell ⟨nb, 0, none⟩ (.int .i64 K2)).setCell ⟨nb, 1, none⟩ (.string (strL T2))).setCell ⟨nb, 2, none⟩ (.int .i64 a2) = w11 := ⟨_, rfl⟩
    have HK11 : Hid (Kept [nb] w10 w11 ∧ w11.heap[nb]? = some (.cells #[.int .i64 K2, .string (strL T2), .int .i64 a2] 38)) := by
      rw [← hw11]
      exact ⟨((Kept.setCell _ _ _ _ (by simp)).trans (Kept.setCell _ _ _ _ (by simp))).trans (Kept.setCell _ _ _ _ (by simp)), row_setJ (row_setJ (row_setJ HRB.out 0 _) 1 _) 2 _⟩
    have HK10 := Lib.hid hk10
    have HJ2 : Hid (JnSt c A m ob nb w w11 s3 a2) := by
      have hs11 := HK11.out.1.size
      refine ⟨(HP9.out.1.keep HK10.out).go HK11.out.1 (by simp) (fun q hq => ⟨.inl hq, Nat.lt_of_lt_of_le ((HP9.out.1.keep HK10.out).hA q hq).2 hs11⟩), ?_, by rw [HKT2.out.1, HKT2.out.2]; exact HK11.out.2⟩
      have k1 := HS.out.1.ka.trans HE.out.2 (by simp +contextual)
      have k2 := k1.trans HK6.out (by simp +contextual)
      have k3 := (k2.trans (KA.of HA7.out.1) (fun _ h => h)).trans HK8.out (by simp +contextual)
      have k4 := k3.trans (KA.of (HP9.out.2.1.trans HK10.out)) (fun _ h => h)
      exact k4.trans (⟨[nb], HK11.out.1, fun q hq => by
        simp only [List.mem_singleton] at hq
        subst hq
        exact ⟨fun hh => HP9.out.2.2.2 _ hh rfl, Nat.le_of_lt (HP9.out.1.hA _ (by simp)).1⟩⟩ : KA c (ob :: A) w10 w11) (fun _ h => h)
    have HLT : Hid (s3.r.length < j' ∧ s3.r.length < sk.r.length) := by
      have h1 := HLN.out
      have h2 := HR2.out
      have h3 := HS.out.2.1
      have h4 : s3.r.length = s2.r.length := by rw [HQ3.out.2]
      constructor
      · omega
      · omega
    have HMS : Hid (c.l.length - atOf c w11 < c.l.length - atOf c wr) := by
      show _ < _
      rw [HJ2.out.st.meas, HS.out.1.st.meas]
      exact HLT.out.2
    clear hk10
    go_wp2_with fail
    exact ⟨⟨z, nb, j', s3, a2, rfl, rfl, HJ2.out, HLT.out.1, by have := HS.out.2.2.1; omega, HS.out.2.2.2.trans HQ3.out.1⟩, HMS.out⟩
end Go.Proofs.YtfpdgdacifiejaaGreat

/-
  LayoutNodes, walked: any node is put, or refused, as the document says, and taken as it was.
  Conditions: those of the theorem.
-/
import Derived.Test.YtampdibpmgiffaaDoorLMore
import Derived.Test.YtampdibpmgiffaaDoorLRPut
import Derived.Test.YtampdibpmgiffaaDoorLShown
import Derived.Laws.AppendOwnNone
import Derived.Laws.BytesString
import Derived.Laws.BytesArg
import Derived.Laws.IdiomStrings
namespace Go.Proofs.YtampdibpmgiffaaDoor
open Go.RowKit Go.Maps

theorem conv_of_range {P : Program} (w : World) (src dst e : TypeId) (hs : P.underlying src = some (.slice e)) (he : P.underlying e = some (.int .u8)) (hd : P.underlying dst = some .string)
    (b o cap : Nat) (l : List UInt8) (n : Nat) (hn : l.length = n) (hc : w.rangeAt b o (bv l)) :
    (convert src dst (.slice (some ⟨b, o, none⟩) n cap)).run P w = .ok (.string (strL l)) w := by
  subst hn
  refine run_convert_bytes_back w src dst e ⟨b, o, none⟩ cap l hs he hd (fun j hj => ?_)
  rw [Addr.add_mid]
  exact hc j _ (by simp [bv, hj])

theorem convL {w : World} {v : Value} {l : List UInt8} (h : SlIs w v l) : (convert 33 9 v).run Tryd.prog w = .ok (.string (strL l)) w := by
  rcases h with ⟨b, o, cap, rfl, _, hc⟩ | ⟨rfl, rfl⟩
  · exact conv_of_range w _ _ _ Tryd.underlying33 Tryd.underlying5 Tryd.underlying9 b o cap l _ rfl hc
  · rw [run_convert_bytes_string w _ _ _ none 0 0 Tryd.underlying33 Tryd.underlying5 Tryd.underlying9]
    rfl

theorem hilo (n : Nat) (h : n < 65536) : 256 * (hiB n).toNat + (loB n).toNat = n := by simp [hiB, loB]; omega
theorem numAt_here (A Z : List UInt8) (n : Nat) (h : n < 65536) : numAt (A ++ (twoB n ++ Z)) A.length = n := by
  unfold numAt
  have h1 : (A ++ (twoB n ++ Z)).getD A.length 0 = hiB n := by simp [List.getD_eq_getElem?_getD, twoB]
  have h2 : (A ++ (twoB n ++ Z)).getD (A.length + 1) 0 = loB n := by
    rw [List.getD_eq_getElem?_getD, List.getElem?_append_right (by omega)]
    simp [twoB]
  rw [h1, h2]
  exact hilo n h
theorem numAt_twos (A Z : List UInt8) (F : List Nat) (i : Nat) (hi : i < F.length) (h : F[i] < 65536) : numAt (A ++ (twosB F ++ Z)) (A.length + 2 * i) = F[i] := by
  have e : A ++ (twosB F ++ Z) = (A ++ twosB (F.take i)) ++ (twoB F[i] ++ (twosB (F.drop (i + 1)) ++ Z)) := by
    conv => lhs; rw [← List.take_append_drop i F, List.drop_eq_getElem_cons hi, twosB_append, show twosB (F[i] :: F.drop (i + 1)) = twoB F[i] ++ twosB (F.drop (i + 1)) from rfl]
    simp
  have hl : (A ++ twosB (F.take i)).length = A.length + 2 * i := by rw [List.length_append, twosB_length, List.length_take]; omega
  rw [e, ← hl]
  exact numAt_here _ _ _ h
theorem recL_num {k : Nat} {F : List Nat} (i : Nat) (hi : i < F.length) (h : F[i] < 65536) : numAt (recL k F) (1 + 2 * i) = F[i] := numAt_twos [loB k] (zerosL 13) F i hi h
theorem recL_kind {k : Nat} {F : List Nat} (h : k < 256) : kindN (recL k F) = k := by simp [kindN, recL, loB]; omega

/-- A node's bytes are taken as the node. -/
theorem take_put {k m s more : Nat} {r : List Nat} (hv : validB k m s more (natI r) = true) :
    kindN (recL k (fieldsL m s more r)) = k ∧ numAt (recL k (fieldsL m s more r)) 1 = m ∧ numAt (recL k (fieldsL m s more r)) 3 = s ∧ numAt (recL k (fieldsL m s more r)) 5 = more ∧ dirL (recL k (fieldsL m s more r)) = r.take 6 ∧ takeB (recL k (fieldsL m s more r)) = true ∧ dataI k s = r.length := by
  obtain ⟨kN, mN, sN, moreN, r', e1, e2, e3, e4, e5, g1, g2, g3, g4, g5, g6, g7, g8, g9, g10, g11⟩ := valid_parts hv
  obtain rfl : k = kN := by omega
  obtain rfl : m = mN := by omega
  obtain rfl : s = sN := by omega
  obtain rfl : more = moreN := by omega
  have er : r = r' := by
    have := congrArg (List.map Int.toNat) e5
    simpa [natI, Function.comp_def] using this
  subst er
  have hF9 := fieldsL_length m s more r
  have hFb : ∀ i (hi : i < (fieldsL m s more r).length), (fieldsL m s more r)[i] < 65536 := fun i hi => by
    have hm := List.getElem_mem hi
    generalize (fieldsL m s more r)[i] = x at hm
    simp only [fieldsL, List.mem_cons, List.mem_append, List.mem_replicate] at hm
    rcases hm with rfl | rfl | rfl | hm | ⟨_, rfl⟩
    · omega
    · omega
    · omega
    · have := g6 x (List.mem_of_mem_take hm); omega
    · omega
  have h0 : kindN (recL k (fieldsL m s more r)) = k := recL_kind (by omega)
  have h1 : numAt (recL k (fieldsL m s more r)) 1 = m := recL_num 0 (by omega) (hFb 0 _)
  have h2 : numAt (recL k (fieldsL m s more r)) 3 = s := recL_num 1 (by omega) (hFb 1 _)
  have h3 : numAt (recL k (fieldsL m s more r)) 5 = more := recL_num 2 (by omega) (hFb 2 _)
  have hnums : numsL (recL k (fieldsL m s more r)) = fieldsL m s more r := by
    refine List.ext_getElem (by rw [numsL_length, hF9]) fun i hi1 hi2 => ?_
    rw [numsL_get]
    exact recL_num i hi2 (hFb i hi2)
  have hd : dirL (recL k (fieldsL m s more r)) = r.take 6 := by
    unfold dirL dirN
    rw [h0, h2, hnums, g7]
    show ((r.take 6 ++ List.replicate (6 - r.length) 0)).take (min 6 (r.length : Int).toNat) = r.take 6
    rw [List.take_append_of_le_length (by simp), List.take_of_length_le (by simp)]
  refine ⟨h0, h1, h2, h3, hd, ?_, g7⟩
  unfold takeB
  rw [h0, h1, h2, h3, hd, recL_length hF9, g9]
  have hall : (natI (r.take 6)).all sndB = true := by
    rw [List.all_eq_true]
    intro x hx
    simp only [natI, List.mem_map] at hx
    obtain ⟨y, hy, rfl⟩ := hx
    have := g6 y (List.mem_of_mem_take hy)
    simp [sndB]
    omega
  have hrec : recL k (fieldsL m s more (r.take 6)) = recL k (fieldsL m s more r) := by
    unfold fieldsL
    rw [List.take_take, show min 6 6 = 6 from rfl, List.length_take, show 6 - min 6 r.length = 6 - r.length by omega]
  rw [hall, hrec]
  simp
  omega

theorem more_put {r : List Nat} (h : ∀ x ∈ r, 1 ≤ x ∧ x < 4096) (h32 : r.length ≤ 32) : moreN (moreL r) r.length = r ∧ moreB (moreL r) (r.length : Int) = true := by
  have hm : moreN (moreL r) r.length = r := by
    refine List.ext_getElem (by rw [moreN_length]) fun i hi1 hi2 => ?_
    have : numAt (moreL r) (2 * i) = r[i] := by
      have hb := h r[i] (List.getElem_mem hi2)
      have := numAt_twos [] (zerosL (64 - 2 * r.length)) r i hi2 (by omega)
      show numAt (twosB r ++ zerosL (64 - 2 * r.length)) (2 * i) = r[i]
      simpa using this
    simpa [moreN] using this
  refine ⟨hm, ?_⟩
  unfold moreB
  rw [Int.toNat_natCast, hm, moreL_length h32]
  have hall : (natI r).all sndB = true := by
    rw [List.all_eq_true]
    intro x hx
    simp only [natI, List.mem_map] at hx
    obtain ⟨y, hy, rfl⟩ := hx
    have := h y hy
    simp [sndB]
    omega
  rw [hall]
  simp
  omega

theorem own_intsL {w : World} {base : Nat} {v : Value} {n : Nat} {l : List Int} (h : w.ownsRow base 3 1 v n (iv l)) (hn : n ≤ 4611686018427387904) : ∃ ao cap, v = .slice ao n cap ∧ n ≤ cap ∧ IntsIs w ao n l ∧ ∀ b o, ao = some ⟨b, o, none⟩ → base ≤ b := by
  have hl : l.length = n := by have := h.1; rw [iv_length] at this; omega
  rcases owns_range h with ⟨g, cap, rfl, hbg, hg, hc, hm, hr⟩ | ⟨rfl, rfl, hx⟩
  · exact ⟨_, _, rfl, hc, ⟨hl, hn, .inr ⟨g, 0, rfl, hg, hr⟩⟩, fun b o e => by injection e with e; injection e with e1 e2; omega⟩
  · exact ⟨_, _, rfl, by omega, ⟨hl, by omega, .inl rfl⟩, fun b o e => by cases e⟩

/-- 'append([]int{}, x...)'. -/
theorem copy_ints (ao : Option Addr) (len cap : Nat) (l : List Int) (w : World) (hl : IntsIs w ao len l) (hb : len * 8 ≤ 140737488355328) (hnil : ao = none → cap = 0) :
    ∃ ao' cap' w7, (Builtin.append_ #[30, 30] 30 #[.slice (some ⟨w.heap.size, 0, none⟩) 0 0, .slice ao len cap]).run Tryd.prog (w.alloc (.cells #[] 3)) = .ok (.slice ao' len cap') w7 ∧ IntsIs w7 ao' len l ∧ len ≤ cap' ∧ Kept [] w w7 ∧ ∀ b o, ao' = some ⟨b, o, none⟩ → w.heap.size ≤ b := by
  have how : (w.alloc (.cells #[] 3)).ownsRow w.heap.size 3 1 (.slice (some ⟨w.heap.size, 0, none⟩) 0 0) 0 [] :=
    ⟨by simp, .inr ⟨w.heap.size, 0, #[], rfl, Nat.le_refl _, heap_alloc_last _ _, Nat.le_refl _, by unfold maxLen; omega, rfl, rfl⟩⟩
  have hs0 : w.heap.size ≤ (w.alloc (.cells #[] 3)).heap.size := by rw [size_alloc]; omega
  have hk0 : Kept [] w (w.alloc (.cells #[] 3)) := Kept.alloc _ _ _
  have hll := hl.1
  have go : ∀ ad, (∀ j u, (iv l)[j]? = some u → (w.alloc (.cells #[] 3)).cell? (Addr.add ad j) = some u) → ao = some ad → ∃ ao' cap' w7, (Builtin.append_ #[30, 30] 30 #[.slice (some ⟨w.heap.size, 0, none⟩) 0 0, .slice ao len cap]).run Tryd.prog (w.alloc (.cells #[] 3)) = .ok (.slice ao' len cap') w7 ∧ IntsIs w7 ao' len l ∧ len ≤ cap' ∧ Kept [] w w7 ∧ ∀ b o, ao' = some ⟨b, o, none⟩ → w.heap.size ≤ b := by
    rintro ad hsrc rfl
    obtain ⟨v7, w7, hrun, hown, hk7, _⟩ := own_app elemInt 30 (w.alloc (.cells #[] 3)) w.heap.size _ 0 [] how ad len cap (iv l) (by rw [iv_length]; omega) hsrc (iv_one _) (by unfold maxLen; omega) (by omega) hs0
    rw [Nat.zero_add, List.nil_append] at hown
    obtain ⟨ao', cap', rfl, hc, hi, hbb⟩ := own_intsL hown (by omega)
    exact ⟨ao', cap', w7, hrun, hi, hc, hk0.own how (Nat.le_refl _) hk7, hbb⟩
  rcases hl.2.2 with h0 | ⟨b, o, rfl, hbl, hr⟩
  · subst h0
    obtain rfl : l = [] := List.eq_nil_of_length_eq_zero hll
    cases ao with
    | some ad => exact go ad (fun j u hu => by simp [iv] at hu) rfl
    | none =>
      obtain ⟨i, hi, _⟩ := info_parts elemInt.info
      have hrun := run_append_owned_none (P := Tryd.prog) (w := w.alloc (.cells #[] 3)) w.heap.size 30 30 3 i 1 Tryd.underlying30 hi _ 0 [] how
      rw [hnil rfl]
      exact ⟨_, _, _, hrun, ⟨rfl, by omega, .inl rfl⟩, by omega, hk0, fun b o e => by injection e with e; injection e with e1 e2; omega⟩
  · exact go ⟨b, o, none⟩ (fun j u hu => by rw [Addr.add_mid]; exact hk0.range hbl (by simp) hr j u hu) rfl

def inodeA (k m s : Int) (ao : Option Addr) (len cap : Nat) (more : Int) : Array Value := #[.int .i64 k, .int .i64 m, .int .i64 s, .slice ao len cap, .int .i64 more]
structure NdSt (w : World) (B1 : Nat) (k m s more : Int) (ao ao' : Option Addr) (len cap cap' : Nat) (l : List Int) (wr : World) : Prop where
  x : wr.heap[w.heap.size]? = some (.cells (inodeA k m s ao len cap more) 32)
  y : wr.heap[B1]? = some (.cells (inodeA k m s ao' len cap' more) 32)
  xi : IntsIs wr ao len l
  yi : IntsIs wr ao' len l
  kept : Kept [] w wr
theorem NdSt.go {w : World} {B1 : Nat} {k m s more : Int} {ao ao' : Option Addr} {len cap cap' : Nat} {l : List Int} {wr w' : World} (h : NdSt w B1 k m s more ao ao' len cap cap' l wr) (hk : Kept [] wr w') : NdSt w B1 k m s more ao ao' len cap cap' l w' :=
  ⟨hk.heap (by simp) h.x, hk.heap (by simp) h.y, h.xi.kept hk, h.yi.kept hk, h.kept.trans hk⟩
theorem sameB_refl (k m s more : Int) (l : List Int) : sameB k m s more l k m s more l = true := by simp [sameB]

set_option maxRecDepth 100000 in
set_option maxHeartbeats 8000000 in
theorem nodes_walk (k m s more : Int) (ao : Option Addr) (len cap : Nat) (l : List Int) (w : World) (hl : IntsIs w ao len l) (hb : len * 8 ≤ 140737488355328) (hnil : ao = none → cap = 0) :
    Calls Tryd.prog 4 #[nodeV k m s ao len cap more] w fun e w' => e = .returned (.bool true) ∧ Kept [] w w' := by
  unfold nodeV
  have HL := Lib.hid hl
  have HNIL := Lib.hid hnil
  clear hl hnil
  go_enter Tryd.func4, Tryd.ntmps4
  go_wp2_with fail
  refine (shown3_any _).mono ?_
  rintro e w1 ⟨rfl, hk1⟩
  have HX1 := Lib.hid (hk1.heap (by simp) (heap_alloc_last w _))
  have HK1 := Lib.hid ((Kept.alloc [] w (.cells #[.int .i64 k, .int .i64 m, .int .i64 s, .slice ao len cap, .int .i64 more] 32)).trans hk1)
  clear hk1
  have c0 : w1.cell? ⟨w.heap.size, 0, none⟩ = some (.int .i64 k) := cell_of_row _ _ 0 _ _ _ HX1.out
  have c1 : w1.cell? ⟨w.heap.size, 1, none⟩ = some (.int .i64 m) := cell_of_row _ _ 1 _ _ _ HX1.out
  have c2 : w1.cell? ⟨w.heap.size, 2, none⟩ = some (.int .i64 s) := cell_of_row _ _ 2 _ _ _ HX1.out
  have c3 : w1.cell? ⟨w.heap.size, 3, none⟩ = some (.slice ao len cap) := cell_of_row _ _ 3 _ _ _ HX1.out
  have c4 : w1.cell? ⟨w.heap.size, 4, none⟩ = some (.int .i64 more) := cell_of_row _ _ 4 _ _ _ HX1.out
  have hlt1 : w.heap.size < w1.heap.size := (Array.getElem?_eq_some_iff.1 HX1.out).1
  obtain ⟨w2, hw2⟩ : ∃ w2, w1.alloc (.cells #[.int .i64 k, .int .i64 m, .int .i64 s, .slice ao len cap, .int .i64 more] 32) = w2 := ⟨_, rfl⟩
  have hk2 : Kept [] w1 w2 := by rw [← hw2]; exact Kept.alloc _ _ _
  have hy2 : w2.heap[w1.heap.size]? = some (.cells #[.int .i64 k, .int .i64 m, .int .i64 s, .slice ao len cap, .int .i64 more] 32) := by rw [← hw2]; exact heap_alloc_last _ _
  obtain ⟨ao', cap', w7, hrun, hi7, hc7, hk7, hbb⟩ := copy_ints ao len cap l w2 (HL.out.kept (HK1.out.trans hk2)) hb HNIL.out
  have hx7 := (hk2.trans hk7).heap (by simp) HX1.out
  have hy7 := hk7.heap (by simp) hy2
  have d0 : w7.cell? ⟨w1.heap.size, 0, none⟩ = some (.int .i64 k) := cell_of_row _ _ 0 _ _ _ hy7
  have d1 : w7.cell? ⟨w1.heap.size, 1, none⟩ = some (.int .i64 m) := cell_of_row _ _ 1 _ _ _ hy7
  have d2 : w7.cell? ⟨w1.heap.size, 2, none⟩ = some (.int .i64 s) := cell_of_row _ _ 2 _ _ _ hy7
  have d3 : w7.cell? ⟨w1.heap.size, 3, none⟩ = some (.slice ao len cap) := cell_of_row _ _ 3 _ _ _ hy7
  have d4 : w7.cell? ⟨w1.heap.size, 4, none⟩ = some (.int .i64 more) := cell_of_row _ _ 4 _ _ _ hy7
  have fd : ∀ q, w7.frozen? ⟨w1.heap.size, q, none⟩ = false := fun q => frozen_of_row _ _ q _ _ hy7
  have e3 : (w2.alloc (.cells #[] 3)).cell? ⟨w.heap.size, 3, none⟩ = some (.slice ao len cap) := cell_of_row _ _ 3 _ _ _ ((Kept.alloc [] _ _).heap (by simp) (hk2.heap (by simp) HX1.out))
  have hs2 : w2.heap.size = w1.heap.size + 1 := by rw [← hw2, size_alloc]
  have HBB : Hid (∀ b o, ao' = some ⟨b, o, none⟩ → b ∉ [w1.heap.size]) := fun b o e => by have := hbb b o e; simp; omega
  have HRUN := Lib.hid hrun
  have HI7 := Lib.hid hi7
  have HX7 := Lib.hid hx7
  have HY7 := Lib.hid hy7
  have HK7 := Lib.hid ((HK1.out.trans hk2).trans hk7)
  have HL7 := Lib.hid (HL.out.kept ((HK1.out.trans hk2).trans hk7))
  clear hrun hi7 hx7 hy7 hk7 hk2 hy2 hs2 hbb
  go_wp2_with (at_builtin; refine wpList_append_run rfl _ _ 30 rfl _ _ _ rfl rfl HRUN.out ?_)
  generalize hw8 : World.setCell w7 _ _ = w8
  obtain ⟨B1, hB1⟩ : ∃ B1, w1.heap.size = B1 := ⟨_, rfl⟩
  have H8 : Hid (NdSt w B1 k m s more ao ao' len cap cap' l w8) := by
    have hkx : Kept [w1.heap.size] w7 w8 := by rw [← hw8]; exact Kept.setCell _ _ _ _ (by simp)
    have hkw : Kept [] w w8 := HK7.out.into hkx (by simp; omega)
    refine ⟨hkx.heap (by simp; omega) HX7.out, ?_, HL.out.kept hkw, HI7.out.keptEx hkx HBB.out, hkw⟩
    rw [← hw8, ← hB1]
    exact heap_setCell_same _ _ _ _ _ _ HY7.out
  rw [hB1]
  clear hw8 hw2 c0 c1 c2 c3 c4 d0 d1 d2 d3 d4 fd e3 HRUN HI7 HX7 HY7 HK7 HL7 HX1 HK1 hlt1 hB1 HBB
  clear w7
  cases hv : validB k m s more l
  · have HV := Lib.hid hv
    clear hv
    refine (putNode_no k m s more ao' len cap' l _ H8.out.yi HV.out).mono ?_
    rintro e w9 ⟨rfl, hk9⟩
    have H9 := Lib.hid (H8.out.go hk9)
    clear hk9 H8
    have c0 : w9.cell? ⟨w.heap.size, 0, none⟩ = some (.int .i64 k) := cell_of_row _ _ 0 _ _ _ H9.out.x
    have c1 : w9.cell? ⟨w.heap.size, 1, none⟩ = some (.int .i64 m) := cell_of_row _ _ 1 _ _ _ H9.out.x
    have c2 : w9.cell? ⟨w.heap.size, 2, none⟩ = some (.int .i64 s) := cell_of_row _ _ 2 _ _ _ H9.out.x
    have c3 : w9.cell? ⟨w.heap.size, 3, none⟩ = some (.slice ao len cap) := cell_of_row _ _ 3 _ _ _ H9.out.x
    have c4 : w9.cell? ⟨w.heap.size, 4, none⟩ = some (.int .i64 more) := cell_of_row _ _ 4 _ _ _ H9.out.x
    go_wp2_with fail
    refine (rputNode_no k m s more ao len cap l _ H9.out.xi HV.out).mono ?_
    rintro e wA ⟨rfl, hkA⟩
    have HA := Lib.hid (H9.out.go hkA)
    clear hkA H9 c0 c1 c2 c3 c4
    have c0 : wA.cell? ⟨w.heap.size, 0, none⟩ = some (.int .i64 k) := cell_of_row _ _ 0 _ _ _ HA.out.x
    have c1 : wA.cell? ⟨w.heap.size, 1, none⟩ = some (.int .i64 m) := cell_of_row _ _ 1 _ _ _ HA.out.x
    have c2 : wA.cell? ⟨w.heap.size, 2, none⟩ = some (.int .i64 s) := cell_of_row _ _ 2 _ _ _ HA.out.x
    have c3 : wA.cell? ⟨w.heap.size, 3, none⟩ = some (.slice ao len cap) := cell_of_row _ _ 3 _ _ _ HA.out.x
    have c4 : wA.cell? ⟨w.heap.size, 4, none⟩ = some (.int .i64 more) := cell_of_row _ _ 4 _ _ _ HA.out.x
    have d0 : wA.cell? ⟨B1, 0, none⟩ = some (.int .i64 k) := cell_of_row _ _ 0 _ _ _ HA.out.y
    have d1 : wA.cell? ⟨B1, 1, none⟩ = some (.int .i64 m) := cell_of_row _ _ 1 _ _ _ HA.out.y
    have d2 : wA.cell? ⟨B1, 2, none⟩ = some (.int .i64 s) := cell_of_row _ _ 2 _ _ _ HA.out.y
    have d3 : wA.cell? ⟨B1, 3, none⟩ = some (.slice ao' len cap') := cell_of_row _ _ 3 _ _ _ HA.out.y
    have d4 : wA.cell? ⟨B1, 4, none⟩ = some (.int .i64 more) := cell_of_row _ _ 4 _ _ _ HA.out.y
    go_wp2_with fail
    refine (same_any k m s more k m s more ao' ao len cap' len cap l l _ HA.out.yi HA.out.xi).mono ?_
    rw [sameB_refl]
    rintro e wB ⟨rfl, hkB⟩
    have HB := Lib.hid (HA.out.kept.trans hkB)
    have cv : (convert 33 9 (.slice none 0 0)).run Tryd.prog wB = .ok (.string (strL [])) wB := convL (.inr ⟨rfl, rfl⟩)
    clear hkB HA c0 c1 c2 c3 c4 d0 d1 d2 d3 d4
    go_wp2_with fail
    go_ret
    exact ⟨rfl, HB.out⟩
  · obtain ⟨kN, mN, sN, moreN, r, rfl, rfl, rfl, rfl, rfl, g1, g2, g3, g4, g5, g6, g7, g8, g9, g10, g11⟩ := valid_parts hv
    obtain ⟨t0, t1, t2, t3, t4, t5, t6⟩ := take_put hv
    have hrl : r.length = len := by have := H8.out.xi.1; rwa [natI_length] at this
    have hRl : (recL kN (fieldsL mN sN moreN r)).length = 32 := recL_length (fieldsL_length _ _ _ _)
    obtain ⟨R, hR⟩ : ∃ R, recL kN (fieldsL mN sN moreN r) = R := ⟨_, rfl⟩
    obtain ⟨M, hM⟩ : ∃ M, moreOf r = M := ⟨_, rfl⟩
    have hN : ∀ w e w', NodeOut kN mN sN moreN r w e w' → ∃ va vm, e = .returned (.tuple #[va, vm, .int .i64 0]) ∧ SlIs w' va R ∧ SlIs w' vm M ∧ Kept [] w w' := fun w e w' h => by unfold NodeOut at h; rw [hR, hM] at h; exact h
    rw [hR] at t0 t1 t2 t3 t4 t5 hRl
    have HV := Lib.hid hv
    have HN := Lib.hid hN
    have HRl := Lib.hid hRl
    have HMM := Lib.hid hM
    have HT := Lib.hid (And.intro t0 (And.intro t1 (And.intro t2 (And.intro t3 (And.intro t4 (And.intro t5 t6))))))
    have G6 := Lib.hid g6
    have HRL := Lib.hid hrl
    have h38 : len ≤ 38 := by omega
    clear hv hN hRl hM t0 t1 t2 t3 t4 t5 t6 g6 g7 g8 g9 g10 g11 hrl hR
    refine (putNode_yes kN mN sN moreN ao' len cap' r _ H8.out.yi hc7 HV.out).mono ?_
    intro e w9 hout
    obtain ⟨va, vm, rfl, ha, hm, hk9⟩ := HN.out _ _ _ hout
    have H9 := Lib.hid (H8.out.go hk9)
    have HA9 := Lib.hid ha
    have HM9 := Lib.hid hm
    clear hk9 H8 hout ha hm
    have c0 : w9.cell? ⟨w.heap.size, 0, none⟩ = some (.int .i64 kN) := cell_of_row _ _ 0 _ _ _ H9.out.x
    have c1 : w9.cell? ⟨w.heap.size, 1, none⟩ = some (.int .i64 mN) := cell_of_row _ _ 1 _ _ _ H9.out.x
    have c2 : w9.cell? ⟨w.heap.size, 2, none⟩ = some (.int .i64 sN) := cell_of_row _ _ 2 _ _ _ H9.out.x
    have c3 : w9.cell? ⟨w.heap.size, 3, none⟩ = some (.slice ao len cap) := cell_of_row _ _ 3 _ _ _ H9.out.x
    have c4 : w9.cell? ⟨w.heap.size, 4, none⟩ = some (.int .i64 moreN) := cell_of_row _ _ 4 _ _ _ H9.out.x
    go_wp2_with fail
    refine (rputNode_yes kN mN sN moreN ao len cap r _ H9.out.xi HV.out).mono ?_
    intro e wA hout
    obtain ⟨vb, vn, rfl, hb, hn, hkA⟩ := HN.out _ _ _ hout
    have HA := Lib.hid (H9.out.go hkA)
    have HAA := Lib.hid (HA9.out.kept hkA)
    have HMA := Lib.hid (HM9.out.kept hkA)
    have HBA := Lib.hid hb
    have HNA := Lib.hid hn
    clear hkA H9 c0 c1 c2 c3 c4 hout hb hn HA9 HM9
    have c0 : wA.cell? ⟨w.heap.size, 0, none⟩ = some (.int .i64 kN) := cell_of_row _ _ 0 _ _ _ HA.out.x
    have c1 : wA.cell? ⟨w.heap.size, 1, none⟩ = some (.int .i64 mN) := cell_of_row _ _ 1 _ _ _ HA.out.x
    have c2 : wA.cell? ⟨w.heap.size, 2, none⟩ = some (.int .i64 sN) := cell_of_row _ _ 2 _ _ _ HA.out.x
    have c3 : wA.cell? ⟨w.heap.size, 3, none⟩ = some (.slice ao len cap) := cell_of_row _ _ 3 _ _ _ HA.out.x
    have c4 : wA.cell? ⟨w.heap.size, 4, none⟩ = some (.int .i64 moreN) := cell_of_row _ _ 4 _ _ _ HA.out.x
    have d0 : wA.cell? ⟨B1, 0, none⟩ = some (.int .i64 kN) := cell_of_row _ _ 0 _ _ _ HA.out.y
    have d1 : wA.cell? ⟨B1, 1, none⟩ = some (.int .i64 mN) := cell_of_row _ _ 1 _ _ _ HA.out.y
    have d2 : wA.cell? ⟨B1, 2, none⟩ = some (.int .i64 sN) := cell_of_row _ _ 2 _ _ _ HA.out.y
    have d3 : wA.cell? ⟨B1, 3, none⟩ = some (.slice ao' len cap') := cell_of_row _ _ 3 _ _ _ HA.out.y
    have d4 : wA.cell? ⟨B1, 4, none⟩ = some (.int .i64 moreN) := cell_of_row _ _ 4 _ _ _ HA.out.y
    go_wp2_with fail
    refine (same_any kN mN sN moreN kN mN sN moreN ao' ao len cap' len cap (natI r) (natI r) _ HA.out.yi HA.out.xi).mono ?_
    rw [sameB_refl]
    rintro e wB ⟨rfl, hkB⟩
    have HB := Lib.hid (HA.out.go hkB)
    have cva : (convert 33 9 va).run Tryd.prog wB = .ok (.string (strL R)) wB := convL (HAA.out.kept hkB)
    have cvb : (convert 33 9 vb).run Tryd.prog wB = .ok (.string (strL R)) wB := convL (HBA.out.kept hkB)
    have cvm : (convert 33 9 vm).run Tryd.prog wB = .ok (.string (strL M)) wB := convL (HMA.out.kept hkB)
    have cvn : (convert 33 9 vn).run Tryd.prog wB = .ok (.string (strL M)) wB := convL (HNA.out.kept hkB)
    obtain ⟨b, o, cp, rfl, hbl, hbr⟩ : ∃ b o cp, va = .slice (some ⟨b, o, none⟩) 32 cp ∧ b < wB.heap.size ∧ wB.rangeAt b o (bv R) := by
      rcases HAA.out.kept hkB with ⟨b, o, cp, h1, h2, h3⟩ | ⟨_, h2⟩
      · rw [HRl.out] at h1
        exact ⟨b, o, cp, h1, h2, h3⟩
      · have := HRl.out
        rw [h2] at this
        simp at this
    have HBR := Lib.hid hbr
    have HMB := Lib.hid (HMA.out.kept hkB)
    clear hkB HA c0 c1 c2 c3 c4 d0 d1 d2 d3 d4 HAA HBA HMA HNA hbr
    go_wp2_with fail
    clear cva cvb cvm cvn
    refine (takeNode_32 b o cp R _ HRl.out hbl HBR.out).mono ?_
    rintro e wC ⟨hkC, hd⟩
    obtain ⟨ao2, cap2, rfl, hown2⟩ : ∃ ao2 cap2, e = .returned (.tuple #[.agg #[.int .i64 kN, .int .i64 mN, .int .i64 sN, .slice ao2 (r.take 6).length cap2, .int .i64 moreN], .int .i64 ((r.length : Int) - (r.take 6).length), .int .i64 0]) ∧ wC.ownsRow wB.heap.size 3 1 (.slice ao2 (r.take 6).length cap2) (r.take 6).length (iv (natI (r.take 6))) := by
      obtain ⟨t0, t1, t2, t3, t4, t5, t6⟩ := HT.out
      rcases hd with ⟨h, _⟩ | ⟨ao2, cap2, _, he, _, _, how⟩
      · rw [t5] at h; cases h
      · rw [t0, t1, t2, t3, t4, t6] at he
        rw [t4] at how
        exact ⟨ao2, cap2, he, how⟩
    have HC := Lib.hid (HB.out.go hkC)
    have HMC := Lib.hid (HMB.out.kept hkC)
    have HBs : Hid (w.heap.size < wB.heap.size) := (Array.getElem?_eq_some_iff.1 HB.out.x).1
    clear hd
    have htl : (r.take 6).length = min 6 len := by rw [List.length_take, HRL.out]
    rw [htl] at hown2 ⊢
    rw [HRL.out]
    have HOW := Lib.hid hown2
    have hszC := hkC.size
    clear hown2 htl hkC HMB HBR hbl
    obtain ⟨wD, hwD⟩ : ∃ wD, wC.alloc (.cells #[.int .i64 kN, .int .i64 mN, .int .i64 sN, .slice ao2 (min 6 len) cap2, .int .i64 moreN] 32) = wD := ⟨_, rfl⟩
    have hkD : Kept [] wC wD := by rw [← hwD]; exact Kept.alloc _ _ _
    have hyD : wD.heap[wC.heap.size]? = some (.cells #[.int .i64 kN, .int .i64 mN, .int .i64 sN, .slice ao2 (min 6 len) cap2, .int .i64 moreN] 32) := by rw [← hwD]; exact heap_alloc_last _ _
    have HD := Lib.hid (HC.out.go hkD)
    have HOD := Lib.hid (owns_kept HOW.out hkD (by simp))
    have HMD := Lib.hid (HMC.out.kept hkD)
    have hBC : wB.heap.size ≤ wC.heap.size := hszC
    obtain ⟨Y, hY⟩ : ∃ Y, wC.heap.size = Y := ⟨_, rfl⟩
    have HYD := Lib.hid (hY ▸ hyD)
    have hwY : w.heap.size < Y := by have := HBs.out; omega
    have hBY : wB.heap.size ≤ Y := by omega
    have x0 : wD.cell? ⟨w.heap.size, 0, none⟩ = some (.int .i64 kN) := cell_of_row _ _ 0 _ _ _ HD.out.x
    have x1 : wD.cell? ⟨w.heap.size, 1, none⟩ = some (.int .i64 mN) := cell_of_row _ _ 1 _ _ _ HD.out.x
    have x2 : wD.cell? ⟨w.heap.size, 2, none⟩ = some (.int .i64 sN) := cell_of_row _ _ 2 _ _ _ HD.out.x
    have x3 : wD.cell? ⟨w.heap.size, 3, none⟩ = some (.slice ao len cap) := cell_of_row _ _ 3 _ _ _ HD.out.x
    have x4 : wD.cell? ⟨w.heap.size, 4, none⟩ = some (.int .i64 moreN) := cell_of_row _ _ 4 _ _ _ HD.out.x
    have y0 : wD.cell? ⟨Y, 0, none⟩ = some (.int .i64 kN) := cell_of_row _ _ 0 _ _ _ HYD.out
    have y1 : wD.cell? ⟨Y, 1, none⟩ = some (.int .i64 mN) := cell_of_row _ _ 1 _ _ _ HYD.out
    have y2 : wD.cell? ⟨Y, 2, none⟩ = some (.int .i64 sN) := cell_of_row _ _ 2 _ _ _ HYD.out
    have y3 : wD.cell? ⟨Y, 3, none⟩ = some (.slice ao2 (min 6 len) cap2) := cell_of_row _ _ 3 _ _ _ HYD.out
    have y4 : wD.cell? ⟨Y, 4, none⟩ = some (.int .i64 moreN) := cell_of_row _ _ 4 _ _ _ HYD.out
    clear hkD hyD hb hc7 g1 g2 g3 g4 g5 hBC hszC
    by_cases h6 : len ≤ 6
    · have hm6 : min 6 len = len := by omega
      rw [hm6] at HOD HYD y3 hwD ⊢
      have htk : r.take 6 = r := List.take_of_length_le (by rw [HRL.out]; omega)
      rw [htk] at HOD
      rw [show ((len : Nat) : Int) - (len : Nat) = 0 by omega]
      clear hm6 htk
      have q3 : (len : Int) ≤ 6 := by omega
      have q2 : (len : Int) - 6 ≤ 0 := by omega
      have w6 : IntKind.i64.wrap ((len : Int) - 6) = (len : Int) - 6 := by rw [IntKind.wrap_i64]; omega
      have hmx : max 0 ((len : Int) - 6) = 0 := by omega
      have hmn : min 6 (len : Int) = len := by omega
      set_option maxRecDepth 200000 in
      go_wp2_with fail
      obtain ⟨ao3, cap3, he, _, hi3, _⟩ := own_intsL HOD.out (by omega)
      injection he with e1 e2 e3
      subst e1
      clear hwD hY x0 x1 x2 x3 x4 y0 y1 y2 y3 y4 w6
      refine (same_any kN mN sN moreN kN mN sN moreN ao2 ao len cap2 len cap (natI r) (natI r) _ hi3 HD.out.xi).mono ?_
      rw [sameB_refl]
      rintro e wE ⟨rfl, hkE⟩
      have HE := Lib.hid (HD.out.kept.trans hkE)
      clear hkE hi3 HD HOD HYD HMD HC HMC HOW HB HL
      go_wp2_with fail
      go_ret
      exact ⟨rfl, HE.out⟩
    · have hm6 : min 6 len = 6 := by omega
      rw [hm6] at HOD HYD y3 hwD HOW ⊢
      obtain ⟨n, rfl⟩ : ∃ n : Nat, len = n + 6 := ⟨len - 6, by omega⟩
      rw [show ((n + 6 : Nat) : Int) - ((6 : Nat) : Int) = (n : Int) by omega]
      have hl6 : (n : Int) + 6 - 6 = (n : Int) := by omega
      have w6 : IntKind.i64.wrap ((n : Int) + 6 - 6) = (n : Int) := by rw [IntKind.wrap_i64]; omega
      have hmx : max 0 (n : Int) = n := by omega
      have hmn : min 6 ((n : Int) + 6) = 6 := by omega
      have hn0 : (0 : Int) < n := by omega
      have hd6 : Hid (M = moreL (r.drop 6)) := by
        show M = _
        rw [← HMM.out]
        unfold moreOf
        rw [if_pos (by rw [HRL.out]; omega)]
      have hdl : Hid ((r.drop 6).length = n) := by
        show _ = _
        rw [List.length_drop, HRL.out]; omega
      have hML : Hid (M.length = 64) := by show _ = _; rw [hd6.out]; exact moreL_length (by rw [hdl.out]; omega)
      have hmp : Hid (Go.Proofs.YtampdibpmgiffaaDoor.moreN M n = r.drop 6 ∧ moreB M (n : Int) = true) := by
        have := more_put (r := r.drop 6) (fun x hx => G6.out x (List.mem_of_mem_drop hx)) (by rw [hdl.out]; omega)
        rw [hdl.out, ← hd6.out] at this
        exact this
      obtain ⟨b2, o2, cp2, rfl, hb2r⟩ : ∃ b2 o2 cp2, vm = .slice (some ⟨b2, o2, none⟩) 64 cp2 ∧ Hid (wD.rangeAt b2 o2 (bv M)) := by
        rcases HMD.out with ⟨b, o, cp, h1, h2, h3⟩ | ⟨_, h2⟩
        · rw [hML.out] at h1
          exact ⟨b, o, cp, h1, h3⟩
        · have := hML.out
          rw [h2] at this
          simp at this
      clear hm6
      set_option maxRecDepth 200000 in
      go_wp2_with fail
      clear hwD hmx hmn w6 hl6 x0 x1 x2 x3 x4 y0 y1 y2 y3 y4
      refine (takeMore_64 b2 o2 cp2 n M _ hML.out hb2r.out (by omega)).mono ?_
      rintro e wE ⟨hkE, hd⟩
      obtain ⟨ao4, cap4, rfl, hi4⟩ : ∃ ao4 cap4, e = .returned (.tuple #[.slice ao4 n cap4, .int .i64 0]) ∧ IntsIs wE ao4 n (natI (r.drop 6)) := by
        rcases hd with ⟨h, _⟩ | ⟨ao4, cap4, h, he, hi, _⟩
        · rw [hmp.out.2] at h; cases h
        · rw [Int.toNat_natCast] at he hi
          rw [hmp.out.1] at hi
          exact ⟨_, _, he, hi⟩
      obtain ⟨b4, o4, rfl, hb4, hr4⟩ : ∃ b4 o4, ao4 = some ⟨b4, o4, none⟩ ∧ b4 < wE.heap.size ∧ wE.rangeAt b4 o4 (iv (natI (r.drop 6))) := by
        rcases hi4.2.2 with h0 | h
        · omega
        · exact h
      have hsz2 : wB.heap.size ≤ wD.heap.size := by have := (Array.getElem?_eq_some_iff.1 HYD.out).1; omega
      obtain ⟨v5, wF, hrun, hown5, hkF, hob⟩ := own_app elemInt 30 wE wB.heap.size _ 6 _ (owns_kept HOD.out hkE (by simp)) ⟨b4, o4, none⟩ n cap4 (iv (natI (r.drop 6))) (by rw [iv_length, natI_length, hdl.out]; omega)
        (fun j u hu => by rw [Addr.add_mid]; exact hr4 j u hu) (iv_one _) (by unfold maxLen; omega) (by omega) (Nat.le_trans hsz2 hkE.size)
      rw [show iv (natI (r.take 6)) ++ iv (natI (r.drop 6)) = iv (natI r) by simp only [iv, natI, ← List.map_append, List.take_append_drop]] at hown5
      have hob2 : ∀ q ∈ (Value.slice ao2 6 cap2).ownBlock.toList, wB.heap.size ≤ q ∧ q < Y := fun q hq => by have := World.ownsRow.lt HOW.out q (by simpa using hq); omega
      obtain ⟨ao5, cap5, rfl, hc5, hi5, hbb5⟩ := own_intsL hown5 (by omega)
      have HE := Lib.hid (HD.out.go hkE)
      have hYE := hkE.heap (by simp) HYD.out
      have y3 : wE.cell? ⟨Y, 3, none⟩ = some (.slice ao2 6 cap2) := cell_of_row _ _ 3 _ _ _ hYE
      have HXF := Lib.hid (hkF.heap (fun h => by have := hob2 _ h; have := HBs.out; omega) HE.out.x)
      have HYF := Lib.hid (hkF.heap (fun h => by have := hob2 _ h; omega) hYE)
      have x0 : wF.cell? ⟨w.heap.size, 0, none⟩ = some (.int .i64 kN) := cell_of_row _ _ 0 _ _ _ HXF.out
      have x1 : wF.cell? ⟨w.heap.size, 1, none⟩ = some (.int .i64 mN) := cell_of_row _ _ 1 _ _ _ HXF.out
      have x2 : wF.cell? ⟨w.heap.size, 2, none⟩ = some (.int .i64 sN) := cell_of_row _ _ 2 _ _ _ HXF.out
      have x3 : wF.cell? ⟨w.heap.size, 3, none⟩ = some (.slice ao (n + 6) cap) := cell_of_row _ _ 3 _ _ _ HXF.out
      have x4 : wF.cell? ⟨w.heap.size, 4, none⟩ = some (.int .i64 moreN) := cell_of_row _ _ 4 _ _ _ HXF.out
      have z0 : wF.cell? ⟨Y, 0, none⟩ = some (.int .i64 kN) := cell_of_row _ _ 0 _ _ _ HYF.out
      have z1 : wF.cell? ⟨Y, 1, none⟩ = some (.int .i64 mN) := cell_of_row _ _ 1 _ _ _ HYF.out
      have z2 : wF.cell? ⟨Y, 2, none⟩ = some (.int .i64 sN) := cell_of_row _ _ 2 _ _ _ HYF.out
      have z3 : wF.cell? ⟨Y, 3, none⟩ = some (.slice ao2 6 cap2) := cell_of_row _ _ 3 _ _ _ HYF.out
      have z4 : wF.cell? ⟨Y, 4, none⟩ = some (.int .i64 moreN) := cell_of_row _ _ 4 _ _ _ HYF.out
      have fz : ∀ q, wF.frozen? ⟨Y, q, none⟩ = false := fun q => frozen_of_row _ _ q _ _ HYF.out
      have hne1 : ¬ w.heap.size = Y := by omega
      have hne2 : ¬ Y = w.heap.size := by omega
      have HFK : Hid (Kept [] w wF) := HE.out.kept.into hkF (fun q hq => by have := hob2 _ hq; have := HBs.out; omega)
      have HI5 := Lib.hid hi5
      have HRUN := Lib.hid hrun
      have HB5 : Hid (∀ b o, ao5 = some ⟨b, o, none⟩ → b ∉ [Y]) := fun b o e => by
        have hYs := (Array.getElem?_eq_some_iff.1 hYE).1
        rcases hob with h | h
        · have := hob2 b (by rw [← h, e]; simp [Value.ownBlock])
          simp; omega
        · rw [e] at h
          injection h with h
          simp at h
          simp; omega
      clear hrun hi5 hob hob2 hown5 hkF hYE hkE hd hi4 hb4 hr4 hbb5 hsz2 hc5
      go_wp2_with (at_builtin; refine wpList_append_run rfl _ _ 30 rfl _ _ _ rfl rfl HRUN.out ?_)
      generalize hwG : World.setCell wF _ _ = wG
      have hkG : Kept [Y] wF wG := by rw [← hwG]; exact Kept.setCell _ _ _ _ (by simp)
      have hkw : Kept [] w wG := HFK.out.into hkG (by simp; omega)
      refine (same_any kN mN sN moreN kN mN sN moreN ao5 ao (6 + n) cap5 (n + 6) cap (natI r) (natI r) _ (HI5.out.keptEx hkG HB5.out) (HL.out.kept hkw)).mono ?_
      rw [sameB_refl]
      rintro e wH ⟨rfl, hkH⟩
      have HH := Lib.hid (hkw.trans hkH)
      clear hkH hkw hkG hwG x0 x1 x2 x3 x4 z0 z1 z2 z3 z4 y3 fz
      go_wp2_with fail
      go_ret
      exact ⟨rfl, HH.out⟩

end Go.Proofs.YtampdibpmgiffaaDoor

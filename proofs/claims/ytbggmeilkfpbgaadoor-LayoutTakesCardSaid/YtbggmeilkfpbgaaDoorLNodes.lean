/-
  LayoutNodes, walked: any node is put, or refused, as the document says, and taken as it was.
  Conditions: those of the theorem.
-/
import Derived.Test.YtbggmeilkfpbgaaDoorLMore
import Derived.Test.YtbggmeilkfpbgaaDoorLRPut
import Derived.Test.YtbggmeilkfpbgaaDoorLShown
import Derived.Laws.AppendOwnNone
import Derived.Laws.BytesString
import Derived.Laws.BytesArg
import Derived.Laws.IdiomStrings
namespace Go.Proofs.YtbggmeilkfpbgaaDoor
open Go.RowKit Go.Maps

theorem conv_of_range {P : Program} (w : World) (src dst e : TypeId) (hs : P.underlying src = some (.slice e)) (he : P.underlying e = some (.int .u8)) (hd : P.underlying dst = some .string)
    (b o cap : Nat) (l : List UInt8) (n : Nat) (hn : l.length = n) (hc : w.rangeAt b o (bv l)) :
    (convert src dst (.slice (some ⟨b, o, none⟩) n cap)).run P w = .ok (.string (strL l)) w := by
  subst hn
  refine run_convert_bytes_back w src dst e ⟨b, o, none⟩ cap l hs he hd (fun j hj => ?_)
  rw [Addr.add_mid]
  exact hc j _ (by simp [bv, hj])

theorem convL {w : World} {v : Value} {l : List UInt8} (h : SlIs w v l) : (convert 22 9 v).run Tryd.prog w = .ok (.string (strL l)) w := by
  rcases h with ⟨b, o, cap, rfl, _, hc⟩ | ⟨rfl, rfl⟩
  · exact conv_of_range w _ _ _ Tryd.underlying22 Tryd.underlying5 Tryd.underlying9 b o cap l _ rfl hc
  · rw [run_convert_bytes_string w _ _ _ none 0 0 Tryd.underlying22 Tryd.underlying5 Tryd.underlying9]
    rfl

theorem hilo (n : Nat) (h : n < 65536) : 256 * (hiB n).toNat + (loB n).toNat = n := by simp [hiB, loB]; omega
theorem numAt_here (A Z : List UInt8) (n : Nat) (h : n < 65536) : numAt (A ++ (twoB n ++ Z)) A.length = n := by
  unfold numAt
  have h1 : (A ++ (twoB n ++ Z)).getD A.length 0 = hiB n := by simp [List.getD_eq_getElem?_getD, twoB]
  have h2 : (A ++ (twoB n ++ Z)).getD (A.length + 1) 0 = loB n := by
    rw [List.getD_eq_getElem?_getD, List.getElem?_append_right (by omega)]
    simp [twoB]
  rw [h1, h2]
  exact hilo n h
theorem numAt_twos (A Z : List UInt8) (F : List Nat) (i : Nat) (hi : i < F.length) (h : F[i] < 65536) : numAt (A ++ (twosB F ++ Z)) (A.length + 2 * i) = F[i] := by
  have e : A ++ (twosB F ++ Z) = (A ++ twosB (F.take i)) ++ (twoB F[i] ++ (twosB (F.drop (i + 1)) ++ Z)) := by
    conv => lhs; rw [← List.take_append_drop i F, List.drop_eq_getElem_cons hi, twosB_append, show twosB (F[i] :: F.drop (i + 1)) = twoB F[i] ++ twosB (F.drop (i + 1)) from rfl]
    simp
  have hl : (A ++ twosB (F.take i)).length = A.length + 2 * i := by rw [List.length_append, twosB_length, List.length_take]; omega
  rw [e, ← hl]
  exact numAt_here _ _ _ h
theorem recL_num {k : Nat} {F : List Nat} (i : Nat) (hi : i < F.length) (h : F[i] < 65536) : numAt (recL k F) (1 + 2 * i) = F[i] := numAt_twos [loB k] (zerosL 13) F i hi h
theorem recL_kind {k : Nat} {F : List Nat} (h : k < 256) : kindN (recL k F) = k := by simp [kindN, recL, loB]; omega

/-- A node's bytes are taken as the node. -/
theorem take_put {k m s more : Nat} {r : List Nat} (hv : validB k m s more (natI r) = true) :
    kindN (recL k (fieldsL m s more r)) = k ∧ numAt (recL k (fieldsL m s more r)) 1 = m ∧ numAt (recL k (fieldsL m s more r)) 3 = s ∧ numAt (recL k (fieldsL m s more r)) 5 = more ∧ dirL (recL k (fieldsL m s more r)) = r.take 6 ∧ takeB (recL k (fieldsL m s more r)) = true ∧ dataI k s = r.length := by
  obtain ⟨kN, mN, sN, moreN, r', e1, e2, e3, e4, e5, g1, g2, g3, g4, g5, g6, g7, g8, g9, g10, g11⟩ := valid_parts hv
  obtain rfl : k = kN := by omega
  obtain rfl : m = mN := by omega
  obtain rfl : s = sN := by omega
  obtain rfl : more = moreN := by omega
  have er : r = r' := by
    have := congrArg (List.map Int.toNat) e5
    simpa [natI, Function.comp_def] using this
  subst er
  have hF9 := fieldsL_length m s more r
  have hFb : ∀ i (hi : i < (fieldsL m s more r).length), (fieldsL m s more r)[i] < 65536 := fun i hi => by
    have hm := List.getElem_mem hi
    generalize (fieldsL m s more r)[i] = x at hm
    simp only [fieldsL, List.mem_cons, List.mem_append, List.mem_replicate] at hm
    rcases hm with rfl | rfl | rfl | hm | ⟨_, rfl⟩
    · omega
    · omega
    · omega
    · have := g6 x (List.mem_of_mem_take hm); omega
    · omega
  have h0 : kindN (recL k (fieldsL m s more r)) = k := recL_kind (by omega)
  have h1 : numAt (recL k (fieldsL m s more r)) 1 = m := recL_num 0 (by omega) (hFb 0 _)
  have h2 : numAt (recL k (fieldsL m s more r)) 3 = s := recL_num 1 (by omega) (hFb 1 _)
  have h3 : numAt (recL k (fieldsL m s more r)) 5 = more := recL_num 2 (by omega) (hFb 2 _)
  have hnums : numsL (recL k (fieldsL m s more r)) = fieldsL m s more r := by
    refine List.ext_getElem (by rw [numsL_length, hF9]) fun i hi1 hi2 => ?_
    rw [numsL_get]
    exact recL_num i hi2 (hFb i hi2)
  have hd : dirL (recL k (fieldsL m s more r)) = r.take 6 := by
    unfold dirL dirN
    rw [h0, h2, hnums, g7]
    show ((r.take 6 ++ List.replicate (6 - r.length) 0)).take (min 6 (r.length : Int).toNat) = r.take 6
    rw [List.take_append_of_le_length (by simp), List.take_of_length_le (by simp)]
  refine ⟨h0, h1, h2, h3, hd, ?_, g7⟩
  unfold takeB
  rw [h0, h1, h2, h3, hd, recL_length hF9, g9]
  have hall : (natI (r.take 6)).all sndB = true := by
    rw [List.all_eq_true]
    intro x hx
    simp only [natI, List.mem_map] at hx
    obtain ⟨y, hy, rfl⟩ := hx
    have := g6 y (List.mem_of_mem_take hy)
    simp [sndB]
    omega
  have hrec : recL k (fieldsL m s more (r.take 6)) = recL k (fieldsL m s more r) := by
    unfold fieldsL
    rw [List.take_take, show min 6 6 = 6 from rfl, List.length_take, show 6 - min 6 r.length = 6 - r.length by omega]
  rw [hall, hrec]
  simp
  omega

theorem more_put {r : List Nat} (h : ∀ x ∈ r, 1 ≤ x ∧ x < 4096) (h32 : r.length ≤ 32) : moreN (moreL r) r.length = r ∧ moreB (moreL r) (r.length : Int) = true := by
  have hm : moreN (moreL r) r.length = r := by
    refine List.ext_getElem (by rw [moreN_length]) fun i hi1 hi2 => ?_
    have : numAt (moreL r) (2 * i) = r[i] := by
      have hb := h r[i] (List.getElem_mem hi2)
      have := numAt_twos [] (zerosL (64 - 2 * r.length)) r i hi2 (by omega)
      show numAt (twosB r ++ zerosL (64 - 2 * r.length)) (2 * i) = r[i]
      simpa using this
    simpa [moreN] using this
  refine ⟨hm, ?_⟩
  unfold moreB
  rw [Int.toNat_natCast, hm, moreL_length h32]
  have hall : (natI r).all sndB = true := by
    rw [List.all_eq_true]
    intro x hx
    simp only [natI, List.mem_map] at hx
    obtain ⟨y, hy, rfl⟩ := hx
    have := h y hy
    simp [sndB]
    omega
  rw [hall]
  simp
  omega

theorem own_intsL {w : World} {base : Nat} {v : Value} {n : Nat} {l : List Int} (h : w.ownsRow base 3 1 v n (iv l)) (hn : n ≤ 4611686018427387904) : ∃ ao cap, v = .slice ao n cap ∧ n ≤ cap ∧ IntsIs w ao n l ∧ ∀ b o, ao = some ⟨b, o, none⟩ → base ≤ b := by
  have hl : l.length = n := by have := h.1; rw [iv_length] at this; omega
  rcases owns_range h with ⟨g, cap, rfl, hbg, hg, hc, hm, hr⟩ | ⟨rfl, rfl, hx⟩
  · exact ⟨_, _, rfl, hc, ⟨hl, hn, .inr ⟨g, 0, rfl, hg, hr⟩⟩, fun b o e => by injection e with e; injection e with e1 e2; omega⟩
  · exact ⟨_, _, rfl, by omega, ⟨hl, by omega, .inl rfl⟩, fun b o e => by cases e⟩

/-- 'append([]int{}, x...)'. -/
theorem copy_ints (ao : Option Addr) (len cap : Nat) (l : List Int) (w : World) (hl : IntsIs w ao len l) (hb : len * 8 ≤ 140737488355328) (hnil : ao = none → cap = 0) :
    ∃ ao' cap' w7, (Builtin.append_ #[24, 24] 24 #[.slice (some ⟨w.heap.size, 0, none⟩) 0 0, .slice ao len cap]).run Tryd.prog (w.alloc (.cells #[] 3)) = .ok (.slice ao' len cap') w7 ∧ IntsIs w7 ao' len l ∧ len ≤ cap' ∧ Kept [] w w7 ∧ ∀ b o, ao' = some ⟨b, o, none⟩ → w.heap.size ≤ b := by
  have how : (w.alloc (.cells #[] 3)).ownsRow w.heap.size 3 1 (.slice (some ⟨w.heap.size, 0, none⟩) 0 0) 0 [] :=
    ⟨by simp, .inr ⟨w.heap.size, 0, #[], rfl, Nat.le_refl _, heap_alloc_last _ _, Nat.le_refl _, by unfold maxLen; omega, rfl, rfl⟩⟩
  have hs0 : w.heap.size ≤ (w.alloc (.cells #[] 3)).heap.size := by rw [size_alloc]; omega
  have hk0 : Kept [] w (w.alloc (.cells #[] 3)) := Kept.alloc _ _ _
  have hll := hl.1
  have go : ∀ ad, (∀ j u, (iv l)[j]? = some u → (w.alloc (.cells #[] 3)).cell? (Addr.add ad j) = some u) → ao = some ad → ∃ ao' cap' w7, (Builtin.append_ #[24, 24] 24 #[.slice (some ⟨w.heap.size, 0, none⟩) 0 0, .slice ao len cap]).run Tryd.prog (w.alloc (.cells #[] 3)) = .ok (.slice ao' len cap') w7 ∧ IntsIs w7 ao' len l ∧ len ≤ cap' ∧ Kept [] w w7 ∧ ∀ b o, ao' = some ⟨b, o, none⟩ → w.heap.size ≤ b := by
    rintro ad hsrc rfl
    obtain ⟨v7, w7, hrun, hown, hk7, _⟩ := own_app elemInt 24 (w.alloc (.cells #[] 3)) w.heap.size _ 0 [] how ad len cap (iv l) (by rw [iv_length]; omega) hsrc (iv_one _) (by unfold maxLen; omega) (by omega) hs0
    rw [Nat.zero_add, List.nil_append] at hown
    obtain ⟨ao', cap', rfl, hc, hi, hbb⟩ := own_intsL hown (by omega)
    exact ⟨ao', cap', w7, hrun, hi, hc, hk0.own how (Nat.le_refl _) hk7, hbb⟩
  rcases hl.2.2 with h0 | ⟨b, o, rfl, hbl, hr⟩
  · subst h0
    obtain rfl : l = [] := List.eq_nil_of_length_eq_zero hll
    cases ao with
    | some ad => exact go ad (fun j u hu => by simp [iv] at hu) rfl
    | none =>
      obtain ⟨i, hi, _⟩ := info_parts elemInt.info
      have hrun := run_append_owned_none (P := Tryd.prog) (w := w.alloc (.cells #[] 3)) w.heap.size 24 24 3 i 1 Tryd.underlying24 hi _ 0 [] how
      rw [hnil rfl]
      exact ⟨_, _, _, hrun, ⟨rfl, by omega, .inl rfl⟩, by omega, hk0, fun b o e => by injection e with e; injection e with e1 e2; omega⟩
  · exact go ⟨b, o, none⟩ (fun j u hu => by rw [Addr.add_mid]; exact hk0.range hbl (by simp) hr j u hu) rfl

def inodeA (k m s : Int) (ao : Option Addr) (len cap : Nat) (more : Int) : Array Value := #[.int .i64 k, .int .i64 m, .int .i64 s, .slice ao len cap, .int .i64 more]
structure NdSt (w : World) (B1 : Nat) (k m s more : Int) (ao ao' : Option Addr) (len cap cap' : Nat) (l : List Int) (wr : World) : Prop where
  x : wr.heap[w.heap.size]? = some (.cells (inodeA k m s ao len cap more) 26)
  y : wr.heap[B1]? = some (.cells (inodeA k m s ao' len cap' more) 26)
  xi : IntsIs wr ao len l
  yi : IntsIs wr ao' len l
  kept : Kept [] w wr
theorem NdSt.go {w : World} {B1 : Nat} {k m s more : Int} {ao ao' : Option Addr} {len cap cap' : Nat} {l : List Int} {wr w' : World} (h : NdSt w B1 k m s more ao ao' len cap cap' l wr) (hk : Kept [] wr w') : NdSt w B1 k m s more ao ao' len cap cap' l w' :=
  ⟨hk.heap (by simp) h.x, hk.heap (by simp) h.y, h.xi.kept hk, h.yi.kept hk, h.kept.trans hk⟩
theorem sameB_refl (k m s more : Int) (l : List Int) : sameB k m s more l k m s more l = true := by simp [sameB]

end Go.Proofs.YtbggmeilkfpbgaaDoor

/-
  Layer 3: the law's own examples come out right (shown).
  Conditions: none.
  LayoutNodes, walked: any node is put, or refused, as the document says, and taken as it was.
  Conditions: those of the theorem.
  Layer 3: rows of entries: which may be (soundEntries), and the record of one (entryRecord).
  Conditions: those that each theorem states.
  Layer 3: the record of an entry (entryRecord).
  Conditions: those that each theorem states.
-/
import Derived.Test.YtiedoocgbajjjaaGreatDoorLPath
import Derived.Test.YtiedoocgbajjjaaGreatDoorLPut
import Derived.Test.YtiedoocgbajjjaaGreatDoorLRPut
import Derived.Laws.AppendOwnNone
import Derived.Laws.BytesString
import Derived.Laws.BytesArg
import Derived.Laws.IdiomStrings
import Derived.BigQuiet
import Derived.Deep.Cut
import Derived.Lib.BufferWrite
namespace Go.Proofs.YtiedoocgbajjjaaGreatDoor
open Go.RowKit Go.Maps
set_option maxRecDepth 100000

theorem path_ab (w : World) : Calls Tryz.prog 75 #[.string ⟨#[47, 97, 47, 98]⟩] w fun e w' => ∃ b o cap, e = .returned (.tuple #[.slice (some ⟨b, o, none⟩) 2 cap, .int .i64 0]) ∧ Hid (w'.cell? ⟨b, o + 1, none⟩ = some (.string ⟨#[98]⟩) ∧ b < w'.heap.size ∧ Kept [] w w') := by
  refine (path_any [47, 97, 47, 98] w (by simp)).mono fun e w' ⟨hk, h⟩ => ?_
  have hp : pathO [47, 97, 47, 98] = some [[97], [98]] := by decide
  rcases h with ⟨h, _⟩ | ⟨ps, v, h, he, hs⟩
  · rw [hp] at h; cases h
  · rw [hp] at h
    injection h with h
    subst h
    rcases hs with ⟨b, o, cap, rfl, hb, hr⟩ | ⟨_, h⟩
    · exact ⟨b, o, cap, he, hr 1 _ rfl, hb, hk⟩
    · cases h
theorem path_dd (w : World) : Calls Tryz.prog 75 #[.string ⟨#[47, 46, 46]⟩] w fun e w' => e = .returned (.tuple #[.slice none 0 0, .int .i64 40]) ∧ Kept [] w w' := by
  refine (path_any [47, 46, 46] w (by simp)).mono fun e w' ⟨hk, h⟩ => ?_
  have hp : pathO [47, 46, 46] = none := by decide
  rcases h with ⟨_, h⟩ | ⟨ps, v, h, he, hs⟩
  · exact ⟨h, hk⟩
  · rw [hp] at h; cases h
theorem put_ex (B : Nat) (w : World) (hb : w.heap[B]? = some (.cells #[.int .i64 300] 3)) : Calls Tryz.prog 69 #[.agg #[.int .i64 1, .int .i64 420, .int .i64 3, .slice (some ⟨B, 0, none⟩) 1 1, .int .i64 0]] w fun e w' => ∃ b o cap vm, e = .returned (.tuple #[.slice (some ⟨b, o, none⟩) 32 cap, vm, .int .i64 0]) ∧ Hid (w'.cell? ⟨b, o, none⟩ = some (.int .u8 1) ∧ w'.cell? ⟨b, o + 2, none⟩ = some (.int .u8 164) ∧ w'.cell? ⟨b, o + 4, none⟩ = some (.int .u8 3) ∧ w'.cell? ⟨b, o + 7, none⟩ = some (.int .u8 1) ∧ w'.cell? ⟨b, o + 8, none⟩ = some (.int .u8 44) ∧ Kept [] w w') := by
  have hl : IntsIs w (some ⟨B, 0, none⟩) 1 (natI [300]) := ⟨rfl, by omega, .inr ⟨B, 0, rfl, (Array.getElem?_eq_some_iff.1 hb).1, fun j v hv => by
    rw [Nat.zero_add, cell_of_row w B j _ _ _ hb]
    simpa [iv, natI] using hv⟩⟩
  refine (putNode_yes 1 420 3 0 (some ⟨B, 0, none⟩) 1 1 [300] w hl (by omega) (by decide)).mono fun e w' ⟨va, vm, he, ha, hm, hk⟩ => ?_
  rcases ha with ⟨b, o, cap, rfl, hb', hr⟩ | ⟨_, h⟩
  · have hlen : (recL 1 (fieldsL 420 3 0 [300])).length = 32 := by decide
    rw [hlen] at he
    exact ⟨b, o, cap, vm, he, hr 0 _ (by rfl), hr 2 _ (by rfl), hr 4 _ (by rfl), hr 7 _ (by rfl), hr 8 _ (by rfl), hk⟩
  · have := congrArg List.length h
    simp [recL] at this

end Go.Proofs.YtiedoocgbajjjaaGreatDoor

namespace Go.Proofs.YtiedoocgbajjjaaGreatDoor
open Go.RowKit Go.Maps
set_option maxRecDepth 100000

theorem hilo (n : Nat) (h : n < 65536) : 256 * (hiB n).toNat + (loB n).toNat = n := by simp [hiB, loB]; omega
theorem numAt_here (A Z : List UInt8) (n : Nat) (h : n < 65536) : numAt (A ++ (twoB n ++ Z)) A.length = n := by
  unfold numAt
  have h1 : (A ++ (twoB n ++ Z)).getD A.length 0 = hiB n := by simp [List.getD_eq_getElem?_getD, twoB]
  have h2 : (A ++ (twoB n ++ Z)).getD (A.length + 1) 0 = loB n := by
    rw [List.getD_eq_getElem?_getD, List.getElem?_append_right (by omega)]
    simp [twoB]
  rw [h1, h2]
  exact hilo n h
theorem numAt_twos (A Z : List UInt8) (F : List Nat) (i : Nat) (hi : i < F.length) (h : F[i] < 65536) : numAt (A ++ (twosB F ++ Z)) (A.length + 2 * i) = F[i] := by
  have e : A ++ (twosB F ++ Z) = (A ++ twosB (F.take i)) ++ (twoB F[i] ++ (twosB (F.drop (i + 1)) ++ Z)) := by
    conv => lhs; rw [← List.take_append_drop i F, List.drop_eq_getElem_cons hi, twosB_append, show twosB (F[i] :: F.drop (i + 1)) = twoB F[i] ++ twosB (F.drop (i + 1)) from rfl]
    simp
  have hl : (A ++ twosB (F.take i)).length = A.length + 2 * i := by rw [List.length_append, twosB_length, List.length_take]; omega
  rw [e, ← hl]
  exact numAt_here _ _ _ h
theorem recL_num {k : Nat} {F : List Nat} (i : Nat) (hi : i < F.length) (h : F[i] < 65536) : numAt (recL k F) (1 + 2 * i) = F[i] := numAt_twos [loB k] (zerosL 13) F i hi h
theorem recL_kind {k : Nat} {F : List Nat} (h : k < 256) : kindN (recL k F) = k := by simp [kindN, recL, loB]; omega

/-- A node's bytes are taken as the node. -/
theorem take_put {k m s more : Nat} {r : List Nat} (hv : validB k m s more (natI r) = true) :
    kindN (recL k (fieldsL m s more r)) = k ∧ numAt (recL k (fieldsL m s more r)) 1 = m ∧ numAt (recL k (fieldsL m s more r)) 3 = s ∧ numAt (recL k (fieldsL m s more r)) 5 = more ∧ dirL (recL k (fieldsL m s more r)) = r.take 6 ∧ takeB (recL k (fieldsL m s more r)) = true ∧ dataI k s = r.length := by
  obtain ⟨kN, mN, sN, moreN, r', e1, e2, e3, e4, e5, g1, g2, g3, g4, g5, g6, g7, g8, g9, g10, g11⟩ := valid_parts hv
  obtain rfl : k = kN := by omega
  obtain rfl : m = mN := by omega
  obtain rfl : s = sN := by omega
  obtain rfl : more = moreN := by omega
  have er : r = r' := by
    have := congrArg (List.map Int.toNat) e5
    simpa [natI, Function.comp_def] using this
  subst er
  have hF9 := fieldsL_length m s more r
  have hFb : ∀ i (hi : i < (fieldsL m s more r).length), (fieldsL m s more r)[i] < 65536 := fun i hi => by
    have hm := List.getElem_mem hi
    generalize (fieldsL m s more r)[i] = x at hm
    simp only [fieldsL, List.mem_cons, List.mem_append, List.mem_replicate] at hm
    rcases hm with rfl | rfl | rfl | hm | ⟨_, rfl⟩
    · omega
    · omega
    · omega
    · have := g6 x (List.mem_of_mem_take hm); omega
    · omega
  have h0 : kindN (recL k (fieldsL m s more r)) = k := recL_kind (by omega)
  have h1 : numAt (recL k (fieldsL m s more r)) 1 = m := recL_num 0 (by omega) (hFb 0 _)
  have h2 : numAt (recL k (fieldsL m s more r)) 3 = s := recL_num 1 (by omega) (hFb 1 _)
  have h3 : numAt (recL k (fieldsL m s more r)) 5 = more := recL_num 2 (by omega) (hFb 2 _)
  have hnums : numsL (recL k (fieldsL m s more r)) = fieldsL m s more r := by
    refine List.ext_getElem (by rw [numsL_length, hF9]) fun i hi1 hi2 => ?_
    rw [numsL_get]
    exact recL_num i hi2 (hFb i hi2)
  have hd : dirL (recL k (fieldsL m s more r)) = r.take 6 := by
    unfold dirL dirN
    rw [h0, h2, hnums, g7]
    show ((r.take 6 ++ List.replicate (6 - r.length) 0)).take (min 6 (r.length : Int).toNat) = r.take 6
    rw [List.take_append_of_le_length (by simp), List.take_of_length_le (by simp)]
  refine ⟨h0, h1, h2, h3, hd, ?_, g7⟩
  unfold takeB
  rw [h0, h1, h2, h3, hd, recL_length hF9, g9]
  have hall : (natI (r.take 6)).all sndB = true := by
    rw [List.all_eq_true]
    intro x hx
    simp only [natI, List.mem_map] at hx
    obtain ⟨y, hy, rfl⟩ := hx
    have := g6 y (List.mem_of_mem_take hy)
    simp [sndB]
    omega
  have hrec : recL k (fieldsL m s more (r.take 6)) = recL k (fieldsL m s more r) := by
    unfold fieldsL
    rw [List.take_take, show min 6 6 = 6 from rfl, List.length_take, show 6 - min 6 r.length = 6 - r.length by omega]
  rw [hall, hrec]
  simp
  omega

theorem more_put {r : List Nat} (h : ∀ x ∈ r, 1 ≤ x ∧ x < 4096) (h32 : r.length ≤ 32) : moreN (moreL r) r.length = r ∧ moreB (moreL r) (r.length : Int) = true := by
  have hm : moreN (moreL r) r.length = r := by
    refine List.ext_getElem (by rw [moreN_length]) fun i hi1 hi2 => ?_
    have : numAt (moreL r) (2 * i) = r[i] := by
      have hb := h r[i] (List.getElem_mem hi2)
      have := numAt_twos [] (zerosL (64 - 2 * r.length)) r i hi2 (by omega)
      show numAt (twosB r ++ zerosL (64 - 2 * r.length)) (2 * i) = r[i]
      simpa using this
    simpa [moreN] using this
  refine ⟨hm, ?_⟩
  unfold moreB
  rw [Int.toNat_natCast, hm, moreL_length h32]
  have hall : (natI r).all sndB = true := by
    rw [List.all_eq_true]
    intro x hx
    simp only [natI, List.mem_map] at hx
    obtain ⟨y, hy, rfl⟩ := hx
    have := h y hy
    simp [sndB]
    omega
  rw [hall]
  simp
  omega

theorem own_intsL {w : World} {base : Nat} {v : Value} {n : Nat} {l : List Int} (h : w.ownsRow base 3 1 v n (iv l)) (hn : n ≤ 4611686018427387904) : ∃ ao cap, v = .slice ao n cap ∧ n ≤ cap ∧ IntsIs w ao n l ∧ ∀ b o, ao = some ⟨b, o, none⟩ → base ≤ b := by
  have hl : l.length = n := by have := h.1; rw [iv_length] at this; omega
  rcases owns_range h with ⟨g, cap, rfl, hbg, hg, hc, hm, hr⟩ | ⟨rfl, rfl, hx⟩
  · exact ⟨_, _, rfl, hc, ⟨hl, hn, .inr ⟨g, 0, rfl, hg, hr⟩⟩, fun b o e => by injection e with e; injection e with e1 e2; omega⟩
  · exact ⟨_, _, rfl, by omega, ⟨hl, by omega, .inl rfl⟩, fun b o e => by cases e⟩

/-- 'append([]int{}, x...)'. -/
theorem copy_ints (ao : Option Addr) (len cap : Nat) (l : List Int) (w : World) (hl : IntsIs w ao len l) (hb : len * 8 ≤ 140737488355328) (hnil : ao = none → cap = 0) :
    ∃ ao' cap' w7, (Builtin.append_ #[56, 56] 56 #[.slice (some ⟨w.heap.size, 0, none⟩) 0 0, .slice ao len cap]).run Tryz.prog (w.alloc (.cells #[] 3)) = .ok (.slice ao' len cap') w7 ∧ IntsIs w7 ao' len l ∧ len ≤ cap' ∧ Kept [] w w7 ∧ ∀ b o, ao' = some ⟨b, o, none⟩ → w.heap.size ≤ b := by
  have how : (w.alloc (.cells #[] 3)).ownsRow w.heap.size 3 1 (.slice (some ⟨w.heap.size, 0, none⟩) 0 0) 0 [] :=
    ⟨by simp, .inr ⟨w.heap.size, 0, #[], rfl, Nat.le_refl _, heap_alloc_last _ _, Nat.le_refl _, by unfold maxLen; omega, rfl, rfl⟩⟩
  have hs0 : w.heap.size ≤ (w.alloc (.cells #[] 3)).heap.size := by rw [size_alloc]; omega
  have hk0 : Kept [] w (w.alloc (.cells #[] 3)) := Kept.alloc _ _ _
  have hll := hl.1
  have go : ∀ ad, (∀ j u, (iv l)[j]? = some u → (w.alloc (.cells #[] 3)).cell? (Addr.add ad j) = some u) → ao = some ad → ∃ ao' cap' w7, (Builtin.append_ #[56, 56] 56 #[.slice (some ⟨w.heap.size, 0, none⟩) 0 0, .slice ao len cap]).run Tryz.prog (w.alloc (.cells #[] 3)) = .ok (.slice ao' len cap') w7 ∧ IntsIs w7 ao' len l ∧ len ≤ cap' ∧ Kept [] w w7 ∧ ∀ b o, ao' = some ⟨b, o, none⟩ → w.heap.size ≤ b := by
    rintro ad hsrc rfl
    obtain ⟨v7, w7, hrun, hown, hk7, _⟩ := own_app elemInt 56 (w.alloc (.cells #[] 3)) w.heap.size _ 0 [] how ad len cap (iv l) (by rw [iv_length]; omega) hsrc (iv_one _) (by unfold maxLen; omega) (by omega) hs0
    rw [Nat.zero_add, List.nil_append] at hown
    obtain ⟨ao', cap', rfl, hc, hi, hbb⟩ := own_intsL hown (by omega)
    exact ⟨ao', cap', w7, hrun, hi, hc, hk0.own how (Nat.le_refl _) hk7, hbb⟩
  rcases hl.2.2 with h0 | ⟨b, o, rfl, hbl, hr⟩
  · subst h0
    obtain rfl : l = [] := List.eq_nil_of_length_eq_zero hll
    cases ao with
    | some ad => exact go ad (fun j u hu => by simp [iv] at hu) rfl
    | none =>
      obtain ⟨i, hi, _⟩ := info_parts elemInt.info
      have hrun := run_append_owned_none (P := Tryz.prog) (w := w.alloc (.cells #[] 3)) w.heap.size 56 56 3 i 1 Tryz.underlying56 hi _ 0 [] how
      rw [hnil rfl]
      exact ⟨_, _, _, hrun, ⟨rfl, by omega, .inl rfl⟩, by omega, hk0, fun b o e => by injection e with e; injection e with e1 e2; omega⟩
  · exact go ⟨b, o, none⟩ (fun j u hu => by rw [Addr.add_mid]; exact hk0.range hbl (by simp) hr j u hu) rfl

def inodeA (k m s : Int) (ao : Option Addr) (len cap : Nat) (more : Int) : Array Value := #[.int .i64 k, .int .i64 m, .int .i64 s, .slice ao len cap, .int .i64 more]
structure NdSt (w : World) (B1 : Nat) (k m s more : Int) (ao ao' : Option Addr) (len cap cap' : Nat) (l : List Int) (wr : World) : Prop where
  x : wr.heap[w.heap.size]? = some (.cells (inodeA k m s ao len cap more) 123)
  y : wr.heap[B1]? = some (.cells (inodeA k m s ao' len cap' more) 123)
  xi : IntsIs wr ao len l
  yi : IntsIs wr ao' len l
  kept : Kept [] w wr
theorem NdSt.go {w : World} {B1 : Nat} {k m s more : Int} {ao ao' : Option Addr} {len cap cap' : Nat} {l : List Int} {wr w' : World} (h : NdSt w B1 k m s more ao ao' len cap cap' l wr) (hk : Kept [] wr w') : NdSt w B1 k m s more ao ao' len cap cap' l w' :=
  ⟨hk.heap (by simp) h.x, hk.heap (by simp) h.y, h.xi.kept hk, h.yi.kept hk, h.kept.trans hk⟩
theorem sameB_refl (k m s more : Int) (l : List Int) : sameB k m s more l k m s more l = true := by simp [sameB]

end Go.Proofs.YtiedoocgbajjjaaGreatDoor

namespace Go.Proofs.YtiedoocgbajjjaaGreatDoor
open Go.RowKit Go.Maps
set_option maxRecDepth 100000

abbrev Ent := Int × List UInt8
def ev : List Ent → List Value
  | [] => []
  | x :: l => .int .i64 x.1 :: .string (strL x.2) :: ev l
theorem ev_length : ∀ l : List Ent, (ev l).length = 2 * l.length
  | [] => rfl
  | x :: l => by simp [ev, ev_length l]; omega
theorem ev_get0 : ∀ (l : List Ent) (i : Nat) (hi : i < l.length), (ev l)[2 * i]? = some (.int .i64 l[i].1)
  | x :: l, 0, _ => rfl
  | x :: l, i + 1, hi => by
    have := ev_get0 l i (by simpa using hi)
    rw [show 2 * (i + 1) = 2 * i + 2 by omega]
    simpa [ev] using this
theorem ev_get1 : ∀ (l : List Ent) (i : Nat) (hi : i < l.length), (ev l)[2 * i + 1]? = some (.string (strL l[i].2))
  | x :: l, 0, _ => rfl
  | x :: l, i + 1, hi => by
    have := ev_get1 l i (by simpa using hi)
    rw [show 2 * (i + 1) + 1 = 2 * i + 1 + 2 by omega]
    simpa [ev] using this
theorem ev_append : ∀ (l r : List Ent), ev (l ++ r) = ev l ++ ev r
  | [], r => rfl
  | x :: l, r => by simp [ev, ev_append l r]

/-- A row of entries as a value. -/
def EntsIs (w : World) (ao : Option Addr) (len : Nat) (l : List Ent) : Prop :=
  l.length = len ∧ len ≤ 140737488355328 ∧ (len = 0 ∨ ∃ b o, ao = some ⟨b, o, none⟩ ∧ b < w.heap.size ∧ w.rangeAt b o (ev l)) ∧ ∀ x ∈ l, x.2.length ≤ 140737488355328
theorem EntsIs.kept {w w' : World} {ao : Option Addr} {len : Nat} {l : List Ent} (h : EntsIs w ao len l) (hk : Kept [] w w') : EntsIs w' ao len l := by
  obtain ⟨h1, h2, h3, h4⟩ := h
  refine ⟨h1, h2, ?_, h4⟩
  rcases h3 with h3 | ⟨b, o, rfl, hb, hr⟩
  · exact .inl h3
  · exact .inr ⟨b, o, rfl, Nat.lt_of_lt_of_le hb hk.size, hk.range hb (by simp) hr⟩
theorem EntsIs.cell {w : World} {ao : Option Addr} {len : Nat} {l : List Ent} (h : EntsIs w ao len l) (h0 : 0 < len) : ∃ b o, ao = some ⟨b, o, none⟩ ∧ b < w.heap.size ∧
    ∀ k (hk : k < l.length), w.cell? ⟨b, o + k * 2, none⟩ = some (.int .i64 l[k].1) ∧ w.cell? ⟨b, o + k * 2 + 1, none⟩ = some (.string (strL l[k].2)) := by
  obtain ⟨_, _, h3 | ⟨b, o, rfl, hb, hr⟩, _⟩ := h
  · omega
  · refine ⟨b, o, rfl, hb, fun k hk => ⟨?_, ?_⟩⟩
    · have := hr (2 * k) _ (ev_get0 l k hk)
      rw [show k * 2 = 2 * k by omega]; exact this
    · have := hr (2 * k + 1) _ (ev_get1 l k hk)
      rw [show o + k * 2 + 1 = o + (2 * k + 1) by omega]; exact this

def entB (x : Ent) : Bool := decide (1 ≤ x.1 ∧ x.1 < 64) && nameB x.2
def goodB (l : List Ent) : Bool := decide (∀ i, (hi : i < l.length) → entB l[i] = true ∧ (0 < i → lessB (l[i - 1]'(by omega)).2 l[i].2 = true))
theorem good_of {l : List Ent} (h : ∀ i, (hi : i < l.length) → entB l[i] = true ∧ (0 < i → lessB (l[i - 1]'(by omega)).2 l[i].2 = true)) : goodB l = true := decide_eq_true h
theorem not_good {l : List Ent} (i : Nat) (hi : i < l.length) (h : entB l[i] = false ∨ (0 < i ∧ lessB (l[i - 1]'(by omega)).2 l[i].2 = false)) : goodB l = false := by
  refine decide_eq_false fun ha => ?_
  obtain ⟨h1, h2⟩ := ha i hi
  rcases h with h | ⟨h0, h⟩
  · rw [h1] at h; cases h
  · rw [h2 h0] at h; cases h

set_option maxRecDepth 100000 in
set_option maxHeartbeats 4000000 in
theorem soundEntries_any (ao : Option Addr) (len cap : Nat) (l : List Ent) (w : World) (hl : EntsIs w ao len l) :
    Calls Tryz.prog 160 #[.slice ao len cap] w fun e w' => e = .returned (.bool (goodB l)) ∧ Kept [] w w' := by
  have HL := Lib.hid hl
  have hlen := hl.2.1
  have HLL := Lib.hid hl.1
  clear hl
  go_enter Tryz.func160, Tryz.ntmps160
  go_wp2_with fail
  go_loopw [7] (fun i wr => ∃ k : Nat, k ≤ len ∧ i = .int .i64 k ∧ Hid (∀ j, (hj : j < l.length) → j < k → entB l[j] = true ∧ (0 < j → lessB (l[j - 1]'(by omega)).2 l[j].2 = true)) ∧ Hid (Kept [] w wr)) (fun i _ => len - (intOf i).toNat)
  case atStart => exact ⟨0, by omega, rfl, fun j hj h0 => by omega, Kept.refl _ _⟩
  case round =>
    obtain ⟨k, hk, rfl, HK, HW⟩ := hrel
    by_cases hlt : k < len
    · obtain ⟨b, o, rfl, hb, hc⟩ := (HL.out.kept HW.out).cell (by omega)
      have hll : k < l.length := by rw [HLL.out]; exact hlt
      obtain ⟨c0, c1⟩ := hc k hll
      obtain ⟨n, hn⟩ : ∃ n, l[k].1 = n := ⟨_, rfl⟩
      obtain ⟨p, hp⟩ : ∃ p, l[k].2 = p := ⟨_, rfl⟩
      rw [hn] at c0
      rw [hp] at c1
      have HN := Lib.hid hn
      have HP := Lib.hid hp
      have HC := Lib.hid hc
      clear hn hp hc
      have hpl : p.length ≤ 140737488355328 := by rw [← HP.out]; exact HL.out.2.2.2 _ (List.getElem_mem hll)
      have HPL := Lib.hid hpl
      have HK1 := Lib.hid (HW.out.trans (Kept.alloc [] wr (.cells #[.int .i64 n, .string (strL p)] 205)))
      clear hpl
      rcases (by omega : n < 1 ∨ (¬ n < 1 ∧ 64 ≤ n) ∨ (1 ≤ n ∧ n < 64)) with h1 | ⟨h1, h2⟩ | ⟨h1, h2⟩
      · have HG : Hid (goodB l = false) := not_good k hll (.inl (by unfold entB; rw [HN.out, decide_eq_false (by omega)]; rfl))
        go_wp2_with fail
        go_ret
        exact ⟨retB HG.out.symm, HK1.out⟩
      · have HG : Hid (goodB l = false) := not_good k hll (.inl (by unfold entB; rw [HN.out, decide_eq_false (by omega)]; rfl))
        go_wp2_with fail
        go_ret
        exact ⟨retB HG.out.symm, HK1.out⟩
      · have HE : Hid (entB l[k] = nameB p) := by show _ = _; unfold entB; rw [HN.out, HP.out, decide_eq_true ⟨h1, h2⟩]; rfl
        have h3 : ¬ n < 1 := by omega
        have h4 : ¬ 64 ≤ n := by omega
        cases hb : nameB p
        · have HB := Lib.hid hb
          have HG : Hid (goodB l = false) := not_good k hll (.inl (by rw [HE.out]; exact hb))
          clear hb
          go_wp2_with fail
          refine (name_any (strL p) _ (by rw [strL_size]; have := HPL.out; omega)).mono ?_
          rw [strL_toList, HB.out]
          rintro e w' ⟨rfl, rfl⟩
          go_wp2_with fail
          go_ret
          exact ⟨retB HG.out.symm, HK1.out⟩
        · have HB := Lib.hid hb
          clear hb
          by_cases h0 : k = 0
          · have HK2 : Hid (∀ j, (hj : j < l.length) → j < k + 1 → entB l[j] = true ∧ (0 < j → lessB (l[j - 1]'(by omega)).2 l[j].2 = true)) := fun j hj hjk => by
              have e : j = k := by omega
              subst e
              exact ⟨by rw [HE.out]; exact HB.out, fun h => by omega⟩
            subst h0
            simp only [Nat.zero_mul, Nat.add_zero] at c0 c1
            go_wp2_with fail
            refine (name_any (strL p) _ (by rw [strL_size]; have := HPL.out; omega)).mono ?_
            rw [strL_toList, HB.out]
            rintro e w' ⟨rfl, rfl⟩
            go_wp2_with fail
            go_quiet (fail)
            go_wp2_with fail
            go_roundw
            case rel => exact ⟨1, by omega, by go_num, HK2.out, HK1.out.trans (Kept.drewN _ _ _)⟩
            case measure => simp [intOf]; omega
          · obtain ⟨q, rfl⟩ : ∃ q, k = q + 1 := ⟨k - 1, by omega⟩
            have hql : q < l.length := by omega
            obtain ⟨_, c3⟩ := HC.out q hql
            obtain ⟨p2, hp2⟩ : ∃ p2, l[q].2 = p2 := ⟨_, rfl⟩
            rw [hp2] at c3
            have HP2 := Lib.hid hp2
            clear hp2
            have wq : IntKind.i64.wrap ((q : Int) + 1 - 1) = (q : Int) := by rw [IntKind.wrap_i64]; omega
            have c4 : (wr.alloc (.cells #[.int .i64 n, .string (strL p)] 205)).cell? ⟨b, o + q * 2 + 1, none⟩ = some (.string (strL p2)) := by
              rw [World.cell?_alloc_old _ _ _ (by simp; omega)]; exact c3
            cases hs : lessB p2 p
            · have HG : Hid (goodB l = false) := not_good (q + 1) hll (.inr ⟨by omega, by rw [HP.out]; exact (by have := HP2.out; simp only [Nat.add_sub_cancel]; rw [this]; exact hs)⟩)
              have hs2 : Op.bytesLess (strL p2).toList (strL p).toList = false := by rw [strL_bytes, strL_bytes]; exact hs
              clear hs
              go_wp2_with fail
              refine (name_any (strL p) _ (by rw [strL_size]; have := HPL.out; omega)).mono ?_
              rw [strL_toList, HB.out]
              rintro e w' ⟨rfl, rfl⟩
              go_wp2_with fail
              go_quiet (fail)
              go_wp2_with fail
              go_ret
              exact ⟨retB HG.out.symm, HK1.out.trans (Kept.drewN _ _ _)⟩
            · have HG : Hid (∀ j, (hj : j < l.length) → j < q + 1 + 1 → entB l[j] = true ∧ (0 < j → lessB (l[j - 1]'(by omega)).2 l[j].2 = true)) := fun j hj hjk => by
                by_cases e : j = q + 1
                · subst e
                  refine ⟨by rw [HE.out]; exact HB.out, fun _ => ?_⟩
                  rw [HP.out]
                  have := HP2.out
                  simp only [Nat.add_sub_cancel]
                  rw [this]; exact hs
                · exact HK.out j hj (by omega)
              have hs2 : Op.bytesLess (strL p2).toList (strL p).toList = true := by rw [strL_bytes, strL_bytes]; exact hs
              clear hs
              go_wp2_with fail
              refine (name_any (strL p) _ (by rw [strL_size]; have := HPL.out; omega)).mono ?_
              rw [strL_toList, HB.out]
              rintro e w' ⟨rfl, rfl⟩
              go_wp2_with fail
              go_quiet (fail)
              go_wp2_with fail
              go_roundw
              case rel => exact ⟨q + 1 + 1, by omega, by go_num, HG.out, HK1.out.trans (Kept.drewN _ _ _)⟩
              case measure => simp [intOf]; omega
    · go_wp2_with fail
      go_ret
      exact ⟨retB (good_of fun i hi => HK.out i hi (by rw [HLL.out] at hi; omega)).symm, HW.out⟩
end Go.Proofs.YtiedoocgbajjjaaGreatDoor

namespace Go.Proofs.YtiedoocgbajjjaaGreatDoor
open Go.RowKit Go.Maps
set_option maxRecDepth 100000

/-- An entry's 32 bytes. -/
def entL (n : Nat) (p : List UInt8) : List UInt8 := loB n :: loB p.length :: (p ++ zerosL (30 - p.length))
theorem entL_length {n : Nat} {p : List UInt8} (h : p.length ≤ 30) : (entL n p).length = 32 := by simp [entL, zerosL]; omega

structure ErSt (w : World) (n : Nat) (p : List UInt8) (wr : World) : Prop where
  x : wr.heap[w.heap.size]? = some (.cells #[.int .i64 n, .string (strL p)] 205)
  r : wr.heap[w.heap.size + 1]? = some (.cells (bvA (zerosL 32)) 154)
  kept : Kept [] w wr
theorem ErSt.go {w : World} {n : Nat} {p : List UInt8} {wr w' : World} (h : ErSt w n p wr) (hk : Kept [] wr w') : ErSt w n p w' :=
  ⟨hk.heap (by simp) h.x, hk.heap (by simp) h.r, h.kept.trans hk⟩

set_option maxRecDepth 100000 in
set_option maxHeartbeats 2000000 in
theorem entryRecord_any (n : Nat) (p : List UInt8) (w : World) (hn : n < 256) (hp : p.length ≤ 30) :
    Calls Tryz.prog 161 #[.agg #[.int .i64 n, .string (strL p)]] w fun e w' => e = .returned (.agg (bvA (entL n p))) ∧ Kept [] w w' := by
  go_enter Tryz.func161, Tryz.ntmps161
  go_upto_region 1 with (fail)
  generalize hw2 : World.alloc (World.alloc w _) _ = w2
  have HS : Hid (ErSt w n p w2) := by
    rw [← hw2]
    refine ⟨(Kept.alloc [] _ _).heap (by simp) (heap_alloc_last w _), ?_, (Kept.alloc _ _ _).trans (Kept.alloc _ _ _)⟩
    have := heap_alloc_last (w.alloc (.cells #[.int .i64 n, .string (strL p)] 205)) (.cells (bvA (zerosL 32)) 154)
    rw [size_alloc] at this
    exact this
  have hsz2 : w2.heap.size = w.heap.size + 2 := by rw [← hw2, size_alloc, size_alloc]
  clear hw2
  have c0 : w2.cell? ⟨w.heap.size, 0, none⟩ = some (.int .i64 n) := cell_of_row _ _ 0 _ _ _ HS.out.x
  have c1 : w2.cell? ⟨w.heap.size, 1, none⟩ = some (.string (strL p)) := cell_of_row _ _ 1 _ _ _ HS.out.x
  have z32 := zero32 w2
  have hs0 : (bvA (zerosL 32)).size = 32 := rfl
  have hne : ¬ bvA (zerosL 32) = #[] := fun h => by have := congrArg Array.size h; simp [hs0] at this
  have hsp : (strL p).size = p.length := strL_size p
  have hkb : ((loB n).toNat : Int) = n := by simp [loB]; omega
  have hlb : ((loB p.length).toNat : Int) = p.length := by simp [loB]; omega
  have hset : (bvA (loB n :: loB p.length :: zerosL 30)).toList = ((bvA (zerosL 32)).toList.set 0 (.int .u8 (n : Int))).set 1 (.int .u8 (p.length : Int)) := by rw [bvA_toList, bvA_toList, ← hkb, ← hlb]; rfl
  have hst := run_storeCells_new (P := Tryz.prog) w2 154 (bvA (zerosL 32)) (bvA (loB n :: loB p.length :: zerosL 30)) (by rw [size64]; rfl) rfl (bvA_one _)
  rw [hset, hsz2] at hst
  clear hset hkb hlb
  go_wp2_with fail
  clear hst z32 hne hs0 c0 c1
  generalize hw3 : World.alloc w2 _ = w3
  have HS3 : Hid (ErSt w n p w3 ∧ w3.heap[w.heap.size + 2]? = some (.cells (bvA (loB n :: loB p.length :: zerosL 30)) 154)) := by
    rw [← hw3]
    refine ⟨HS.out.go (Kept.alloc _ _ _), ?_⟩
    rw [← hsz2]
    exact heap_alloc_last _ _
  clear hw3 HS hsz2
  clear w2
  have c1 : w3.cell? ⟨w.heap.size, 1, none⟩ = some (.string (strL p)) := cell_of_row _ _ 1 _ _ _ HS3.out.1.x
  have hrun := Lib.run_copy_row_string (P := Tryz.prog) w3.drew 22 9 3 5 (w.heap.size + 2) 2 30 30 (strL p) (bvA (loB n :: loB p.length :: zerosL 30)) 154 Tryz.underlying22 (by kernel_rfl) ((Kept.drew [] _).heap (by simp) HS3.out.2) (by rw [hsp]; omega) (by rw [hsp, bvA_size]; simp [zerosL]; omega)
  have hrow : ((bvA (loB n :: loB p.length :: zerosL 30)).toList.take 2 ++ Lib.byteCells (strL p).data.toList ++ (bvA (loB n :: loB p.length :: zerosL 30)).toList.drop (2 + (strL p).size)).toArray = bvA (entL n p) := by
    rw [hsp, bvA_toList, show Lib.byteCells (strL p).data.toList = bv p from rfl]
    apply Array.toList_inj.1
    rw [bvA_toList]
    rw [show 2 + p.length = p.length + 2 by omega]
    simp [entL, bv, zerosL]
    show List.drop p.length (List.replicate 30 (Value.int .u8 0)) = _
    rw [List.drop_replicate]
  rw [hrow, hsp] at hrun
  have HR := Lib.hid hrun
  clear hrun hrow
  refine wp_region_still_tail 3 (by kernel_rfl) (by kernel_rfl) ?_
  simp only [List.take_succ_cons, List.take_zero, List.drop_succ_cons, List.drop_zero]
  still_step
  still_step
  still_step
  refine wpStill_nil ?_
  refine wpList_copy_run rfl _ _ _ _ rfl _ _ _ rfl rfl HR.out ?_
  have hg4 := setRow_heap w3.drew (w.heap.size + 2) _ (bvA (entL n p)) 154 _ ((Kept.drew [] _).heap (by simp) HS3.out.2)
  obtain ⟨w4, hw4⟩ : ∃ w4, w3.drew.setRow (w.heap.size + 2) (bvA (entL n p)) = w4 := ⟨_, rfl⟩
  rw [hw4] at hg4 ⊢
  have hk4 : Kept [w.heap.size + 2] w3.drew w4 := by rw [← hw4]; exact setRow_kept _ _ _
  have HS4 : Hid (w4.heap[w.heap.size + 1]? = some (.cells (bvA (zerosL 32)) 154) ∧ Kept [] w w4) := ⟨hk4.heap (by simp) (HS3.out.1.go (Kept.drew _ _)).r, (HS3.out.1.go (Kept.drew _ _)).kept.into hk4 (by simp)⟩
  clear hw4 hk4 HS3 HR c1
  clear w3
  obtain ⟨L, hL⟩ : ∃ L, entL n p = L := ⟨_, rfl⟩
  have hrl : L.length = 32 := by rw [← hL]; exact entL_length hp
  rw [hL] at hg4
  have HLM := Lib.hid hL
  have HRL := Lib.hid hrl
  clear hL hrl
  have hrg := range_row hg4
  have hsz : (Tryz.prog.info? 154).map (·.size) = some (bv L).length := by rw [bv_length, HRL.out]; exact size64
  have hsz2 : (Tryz.prog.info? 154).map (·.size) = some L.length := by rw [HRL.out]; exact size64
  have hl2 : L.length = (zerosL 32).length := by rw [HRL.out]; rfl
  have HR := HS4.out.1
  clear hg4
  go_wp2_with first
    | (refine wpList_load_mid rfl 154 _ rfl _ 0 rfl (bv L) _ hrg Tryz.underlying154 rfl hsz ?_)
    | (refine wpList_store_row rfl 154 _ _ rfl (w.heap.size + 1) 154 (zerosL 32) L rfl rfl HR hl2 hsz2 ?_)
  refine bodyPost_ret_by (results_cell_row rfl _ _ (w.heap.size + 1) 154 (bvA L) (0, 0) _ rfl (setRow_heap _ _ _ _ _ _ HR) Tryz.underlying154 rfl (by rw [bvA_size]; exact hsz2)) rfl ⟨by rw [HLM.out], ?_⟩
  exact HS4.out.2.into (setRow_kept _ _ _) (by simp)
end Go.Proofs.YtiedoocgbajjjaaGreatDoor

/-
  Layer 5: the walk of TablesParse.
  Conditions: those that each theorem states.
-/
import Derived.Test.YtdaofgmdledcbaaDoorTParseR
import Derived.Test.YtdaofgmdledcbaaDoorTPrint
namespace Go.Proofs.YtdaofgmdledcbaaDoor
open Go.RowKit Go.Maps

/-- A block that holds bytes alone. -/
def AllU8 (cur : Array Value) : Prop := ∀ (j : Nat) (u : Value), cur[j]? = some u → ∃ c, u = .int .u8 c
theorem AllU8.str {cur : Array Value} {t : TypeId} {w : World} {g o : Nat} {s : ByteArray} (h : AllU8 cur) (hg : w.heap[g]? = some (.cells cur t)) : w.cell? ⟨g, o, none⟩ ≠ some (.string s) := fun e => by
  rw [cell_of_row w g o _ _ _ hg] at e
  obtain ⟨c, hc⟩ := h o _ e
  cases hc
theorem CellsIs.keptU8 {w w' : World} {v : Value} {l : List (List UInt8)} {g : Nat} {cur : Array Value} {t : TypeId} (h : CellsIs w v l) (hg : w.heap[g]? = some (.cells cur t)) (hu : AllU8 cur) (hk : Kept [g] w w') : CellsIs w' v l := by
  obtain ⟨⟨ao, cap, h1, h2, h3, h4, h5⟩, h6, h7⟩ := h
  refine ⟨⟨ao, cap, h1, h2, h3, h4, ?_⟩, h6, h7⟩
  by_cases h0 : l.length = 0
  · exact .inl h0
  · rcases h5 with h5 | ⟨b, o, rfl, hb, hr⟩
    · exact .inl h5
    · refine .inr ⟨b, o, rfl, Nat.lt_of_lt_of_le hb hk.size, hk.range hb ?_ hr⟩
      intro hm
      have e : b = g := by simpa using hm
      subst e
      have := hr 0 _ (sv_get l 0 (by omega))
      exact hu.str hg this
theorem RowsIs.keptU8 {w w' : World} {ao : Option Addr} {len : Nat} {l : List TRow} {g : Nat} {cur : Array Value} {t : TypeId} (h : RowsIs w ao len l) (hg : w.heap[g]? = some (.cells cur t)) (hu : AllU8 cur) (hk : Kept [g] w w') : RowsIs w' ao len l := by
  obtain ⟨h1, h2, ⟨vs, h3, h4⟩, h5⟩ := h
  refine ⟨h1, h2, ⟨vs, ⟨h3.1, fun i hi hv => ((h3.2 i hi hv).1.keptU8 hg hu hk).D⟩, ?_⟩, h5⟩
  by_cases h0 : len = 0
  · exact .inl h0
  · rcases h4 with h4 | ⟨b, o, rfl, hb, hr⟩
    · exact .inl h4
    · refine .inr ⟨b, o, rfl, Nat.lt_of_lt_of_le hb hk.size, hk.range hb ?_ hr⟩
      intro hm
      have e : b = g := by simpa using hm
      subst e
      have := hr (2 * 0) _ (rv_get0 l vs h3.1 0 (by omega))
      exact hu.str hg this

theorem zero_u8 (n : Nat) : (Builtin.zeroCells (Value.int .u8 0).cells n).toList = List.replicate n (.int .u8 0) := by
  apply List.ext_getElem
  · simp [Builtin.zeroCells, Value.cells]
  · intro i h1 h2
    simp [Builtin.zeroCells, Value.cells, Nat.mod_one]
/-- 'append([]byte{}, b...)'. -/
theorem copy_bytes {w : World} {ao : Option Addr} {len cap : Nat} {B : List UInt8} (h : ArgB w ao len cap B) :
    ∃ oo oc w', (Builtin.append_ #[25, 25] 25 #[.slice (some ⟨w.heap.size, 0, none⟩) 0 0, .slice ao len cap]).run Tryd.prog (w.alloc (.cells #[] 5)) = .ok (.slice oo len oc) w' ∧ ArgB w' oo len oc B ∧ Kept [] w w' ∧
      (len = 0 ∨ ∃ g cur, oo = some ⟨g, 0, none⟩ ∧ w.heap.size ≤ g ∧ w'.heap[g]? = some (.cells cur 5) ∧ AllU8 cur ∧ len ≤ cur.size) := by
  have how : (w.alloc (.cells #[] 5)).ownsRow w.heap.size 5 1 (.slice (some ⟨w.heap.size, 0, none⟩) 0 0) 0 [] :=
    ⟨by simp, .inr ⟨w.heap.size, 0, #[], rfl, Nat.le_refl _, heap_alloc_last _ _, Nat.le_refl _, by unfold maxLen; omega, rfl, rfl⟩⟩
  have hk0 : Kept [] w (w.alloc (.cells #[] 5)) := Kept.alloc _ _ _
  have hs0 : w.heap.size ≤ (w.alloc (.cells #[] 5)).heap.size := by rw [size_alloc]; omega
  obtain ⟨i, hi, hz, hs, hby⟩ := info_parts elemByte.info
  have hle := h.hle
  by_cases h0 : len = 0
  · subst h0
    have hB : B = [] := List.eq_nil_of_length_eq_zero h.hlen
    subst hB
    cases ao with
    | none =>
      have hrun := run_append_owned_none (P := Tryd.prog) (w := w.alloc (.cells #[] 5)) w.heap.size 25 25 5 i 1 Tryd.underlying25 hi _ 0 [] how
      rw [h.hnil rfl]
      exact ⟨_, _, _, hrun, ⟨rfl, by omega, Nat.le_refl _, by omega, fun e => (by cases e), .inl rfl⟩, hk0, .inl rfl⟩
    | some ad =>
      obtain ⟨v7, w7, hrun, hown, hk7, _⟩ := own_app elemByte 25 (w.alloc (.cells #[] 5)) w.heap.size _ 0 [] how ad 0 cap [] (by simp) (fun j u hu => by simp at hu) (by simp) (by unfold maxLen; omega) (by omega) hs0
      rcases owns_range hown with ⟨g, cap', rfl, hbg, hg, hc, hm, hr⟩ | ⟨rfl, hn, _⟩
      · exact ⟨_, _, w7, hrun, ⟨rfl, by omega, by omega, by unfold maxLen at hm; omega, fun e => (by cases e), .inl rfl⟩, hk0.own how (Nat.le_refl _) hk7, .inl rfl⟩
      · exact ⟨_, _, w7, hrun, ⟨rfl, by omega, by omega, by omega, fun _ => rfl, .inl rfl⟩, hk0.own how (Nat.le_refl _) hk7, .inl rfl⟩
  · rcases h.at' with h1 | ⟨b, o, rfl, hb, hr⟩
    · omega
    · have hr2 := run_append_grow (P := Tryd.prog) (w := w.alloc (.cells #[] 5)) 25 25 5 i (.int .u8 0) Tryd.underlying25 hi hz ⟨w.heap.size, 0, none⟩ 0 0 [] (by simp) (fun j u hu => by simp at hu) ⟨b, o, none⟩ len cap (bv B) (by rw [hs, bv_length, h.hlen]; omega)
        (fun j u hu => by rw [Addr.add_mid]; exact hk0.range hb (by simp) hr j u hu) (by omega) (by omega) (growslice_fits (by omega) (by rw [hby]; omega))
      have hge := grownCap_ge (w.alloc (.cells #[] 5)) (0 + len) 0 5
      have hgm : grownCap (w.alloc (.cells #[] 5)) (0 + len) 0 5 ≤ maxLen := grownCap_le_maxLen _ _ _ _ (by unfold maxLen; omega)
      simp only [Nat.zero_add] at hr2 hge hgm
      generalize grownCap (w.alloc (.cells #[] 5)) len 0 5 = gc at hr2 hge hgm
      obtain ⟨cur, hcur⟩ : ∃ cur, ([] : List Value).toArray ++ (bv B).toArray ++ Builtin.zeroCells (Value.int .u8 0).cells (gc - len) = cur := ⟨_, rfl⟩
      rw [hcur] at hr2
      have hcl : cur.toList = bv B ++ List.replicate (gc - len) (.int .u8 0) := by
        rw [← hcur]
        simp only [Array.toList_append, List.nil_append]
        congr 1
        exact zero_u8 _
      have hgg : ((w.alloc (.cells #[] 5)).drew.alloc (.cells cur 5)).heap[w.heap.size + 1]? = some (.cells cur 5) := by
        have := heap_alloc_last ((w.alloc (.cells #[] 5)).drew) (.cells cur 5)
        rw [show ((w.alloc (.cells #[] 5)).drew).heap.size = w.heap.size + 1 from size_alloc _ _] at this
        exact this
      rw [size_alloc] at hr2
      refine ⟨_, _, _, hr2, ⟨h.hlen, hle, hge, by unfold maxLen at hgm; omega, fun e => (by cases e), .inr ⟨w.heap.size + 1, 0, rfl, (Array.getElem?_eq_some_iff.1 hgg).1, fun j u hu => ?_⟩⟩, (hk0.trans (Kept.drew _ _)).trans (Kept.alloc _ _ _), .inr ⟨w.heap.size + 1, cur, rfl, by omega, hgg, fun j u hu => ?_, ?_⟩⟩
      · rw [Nat.zero_add, cell_of_row _ _ j _ _ _ hgg]
        have hj := (List.getElem?_eq_some_iff.1 hu).1
        rw [← Array.getElem?_toList, hcl, List.getElem?_append_left hj]
        exact hu
      · rw [← Array.getElem?_toList, hcl] at hu
        have hm := List.mem_of_getElem? hu
        rcases List.mem_append.1 hm with hm | hm
        · simp [bv] at hm
          obtain ⟨c, _, rfl⟩ := hm
          exact ⟨_, rfl⟩
        · rw [List.mem_replicate] at hm
          exact ⟨_, hm.2⟩
      · have : cur.toList.length = len + (gc - len) := by rw [hcl]; simp [bv, h.hlen]
        rw [Array.length_toList] at this
        omega
theorem parse_back {t b : List UInt8} {l : List TRow} (h : parseE t b = (0, l)) : printE t l = (0, b) := by
  unfold parseE at h
  split at h
  · simp at h
  split at h
  · simp at h
  split at h
  · rename_i hp
    have := (Prod.mk.inj h).2
    rw [← this]
    exact hp
  · simp at h
theorem AllU8.set {cur : Array Value} (h : AllU8 cur) (k : Nat) (c : Int) : AllU8 (cur.setIfInBounds k (.int .u8 c)) := fun j u hu => by
  rw [Array.getElem?_setIfInBounds] at hu
  split at hu
  · split at hu
    · exact ⟨c, by simpa using hu.symm⟩
    · cases hu
  · exact h j u hu

structure PwSt (w : World) (g : Nat) (n : Nat) (xao : Option Addr) (xlen : Nat) (L : List TRow) (wr : World) : Prop where
  own : ∃ cur, wr.heap[g]? = some (.cells cur 5) ∧ AllU8 cur ∧ n ≤ cur.size
  rows : RowsIs wr xao xlen L
  kept : Kept [] w wr

set_option maxRecDepth 100000 in
set_option maxHeartbeats 4000000 in
theorem tparse_walk (t : List UInt8) (ao : Option Addr) (len cap : Nat) (b : List UInt8) (w : World) (ht : t.length ≤ 9223372036854775807) (hb : ArgB w ao len cap b) (hlen : len ≤ 100000000) :
    Calls Tryd.prog 4 #[.string (strL t), .slice ao len cap] w fun e w' => e = .returned (.bool true) ∧ Kept [] w w' := by
  have HB := Lib.hid hb
  clear hb
  go_enter Tryd.func4, Tryd.ntmps4
  go_wp2_with fail
  refine (shown5_any _).mono ?_
  rintro e w1 ⟨rfl, hk1⟩
  have HK1 := Lib.hid hk1
  obtain ⟨oo, oc, w2, hrun, hao, hk2, hor⟩ := copy_bytes (HB.out.kept hk1)
  have HR := Lib.hid hrun
  have HAO := Lib.hid hao
  have HK2 := Lib.hid (hk1.trans hk2)
  have HOR : Hid (len = 0 ∨ ∃ g cur, oo = some ⟨g, 0, none⟩ ∧ w.heap.size ≤ g ∧ w2.heap[g]? = some (.cells cur 5) ∧ AllU8 cur ∧ len ≤ cur.size) := by
    rcases hor with h | ⟨g, cur, h1, h2, h3⟩
    · exact .inl h
    · exact .inr ⟨g, cur, h1, by have := hk1.size; omega, h3⟩
  clear hk1 hrun hao hk2 hor
  go_wp2_with (at_builtin; refine wpList_append_run rfl _ _ 25 rfl _ _ _ rfl rfl HR.out ?_)
  refine (parse_any t oo len oc b _ ht HAO.out).mono ?_
  rintro e w3 ⟨xao, xlen, xcap, n, L, rfl, HX⟩
  have HXE := Lib.hid HX.out.1
  have HXL : Hid (xlen ≤ 140737488355328) := by show _ ≤ _; have := HX.out.2.1.bytes; omega
  have HST : Hid (len = 0 ∨ ∃ g, oo = some ⟨g, 0, none⟩ ∧ w.heap.size ≤ g ∧ PwSt w g len xao xlen L w3) := by
    rcases HOR.out with h | ⟨g, cur, h1, h2, h3, h4, h5⟩
    · exact .inl h
    · exact .inr ⟨g, h1, h2, ⟨cur, HX.out.2.2.2.heap (by simp) h3, h4, h5⟩, HX.out.2.1, HK2.out.trans HX.out.2.2.2⟩
  have HK3 := Lib.hid (HK2.out.trans HX.out.2.2.2)
  have HRW3 := Lib.hid HX.out.2.1
  clear HX HOR HAO HR
  go_wp2_with fail
  go_loopw [9] (fun i wr => ∃ k : Nat, k ≤ len ∧ i = .int .i64 k ∧ Hid (RowsIs wr xao xlen L ∧ Kept [] w wr ∧ (len = 0 ∨ ∃ g, oo = some ⟨g, 0, none⟩ ∧ w.heap.size ≤ g ∧ PwSt w g len xao xlen L wr))) (fun i _ => len - (intOf i).toNat)
  case atStart => exact ⟨0, by omega, rfl, HRW3.out, HK3.out, HST.out⟩
  case round =>
    clear HST HK3 HRW3
    obtain ⟨k, hk, rfl, HS⟩ := hrel
    by_cases hlt : k < len
    · obtain ⟨g, hg, hgw, hS⟩ : ∃ g, oo = some ⟨g, 0, none⟩ ∧ w.heap.size ≤ g ∧ PwSt w g len xao xlen L wr := by
        rcases HS.out.2.2 with h | h
        · omega
        · exact h
      subst hg
      obtain ⟨cur, hcur, hu8, hsz⟩ := hS.own
      have c0 : wr.cell? ⟨g, k, none⟩ = some (cur[k]'(by omega)) := by rw [cell_of_row _ _ k _ _ _ hcur]; simp [show k < cur.size by omega]
      obtain ⟨c, hc⟩ := hu8 k _ (show cur[k]? = some (cur[k]'(by omega)) by simp [show k < cur.size by omega])
      rw [hc] at c0
      have f0 := frozen_of_row _ _ k _ _ hcur
      have HS2 : Hid (RowsIs (wr.setCell ⟨g, k, none⟩ (.int .u8 120)) xao xlen L ∧ Kept [] w (wr.setCell ⟨g, k, none⟩ (.int .u8 120)) ∧ (len = 0 ∨ ∃ g', (some ⟨g, 0, none⟩ : Option Addr) = some ⟨g', 0, none⟩ ∧ w.heap.size ≤ g' ∧ PwSt w g' len xao xlen L (wr.setCell ⟨g, k, none⟩ (.int .u8 120)))) := by
        have hkk : Kept [g] wr (wr.setCell ⟨g, k, none⟩ (.int .u8 120)) := Kept.setCell _ _ _ _ (by simp)
        have h1 := hS.rows.keptU8 hcur hu8 hkk
        have h2 := hS.kept.into hkk (by simpa using hgw)
        exact ⟨h1, h2, .inr ⟨g, rfl, hgw, ⟨_, heap_setCell_same _ _ k _ _ _ hcur, hu8.set k 120, by simpa using hsz⟩, h1, h2⟩⟩
      clear hS hcur hu8 hsz hc HS
      go_wp2_with fail
      go_roundw
      case rel => exact ⟨k + 1, by omega, by go_num, HS2⟩
      case measure => simp [intOf]; omega
    · have HRW := Lib.hid HS.out.1
      have HK := Lib.hid HS.out.2.1
      clear HS
      go_wp2_with fail
      refine (rparse_any t ao len cap b _ (HB.out.kept HK.out) hlen).mono ?_
      rintro e w4 ⟨yao, ylen, ycap, n', L', rfl, HY⟩
      have hy := HY.out.1
      rw [parse_same, HXE.out] at hy
      injection hy with hy1 hy2
      subst hy1 hy2
      have HRW4 := Lib.hid (HRW.out.kept HY.out.2.2)
      have HRY := Lib.hid HY.out.2.1
      have HK4 := Lib.hid (HK.out.trans HY.out.2.2)
      clear HY HRW HK
      go_wp2_with fail
      refine (rsame_self xao xlen xcap L yao ylen ycap _ HRW4.out HRY.out).mono ?_
      rintro e w5 ⟨rfl, hk5⟩
      have HK5 := Lib.hid (HK4.out.trans hk5)
      have HRW5 := Lib.hid (HRW4.out.kept hk5)
      clear hk5
      by_cases hn : n = 0
      · have q2 : (n != 0) = false := by simpa using hn
        have q2' : (n == 0) = true := by simpa using hn
        have HPB : Hid (printE t L = (0, b)) := parse_back (by rw [HXE.out, hn])
        clear hn
        go_wp2_with fail
        refine (print_any t xao xlen xcap L _ ht HRW5.out).mono ?_
        rintro e w6 ⟨v6, m, c, rfl, HP⟩
        have hp := HP.out.1
        rw [HPB.out] at hp
        injection hp with hp1 hp2
        subst hp1 hp2
        have cv1 : (convert 25 9 v6).run Tryd.prog w6 = .ok (.string (strL b)) w6 := convL HP.out.2.1
        have HK6 := Lib.hid (HK5.out.trans HP.out.2.2.2)
        have cv2 : (convert 25 9 (.slice ao len cap)).run Tryd.prog w6 = .ok (.string (strL b)) w6 := (HB.out.kept HK6.out).conv
        clear HP
        go_wp2_with fail
        go_ret
        exact ⟨rfl, HK6.out⟩
      · have q2 : (n != 0) = true := by simpa using hn
        have q2' : (n == 0) = false := by simpa using hn
        clear hn
        go_wp2_with fail
        go_ret
        exact ⟨rfl, HK5.out⟩
end Go.Proofs.YtdaofgmdledcbaaDoor

/-
  Layer 3: rows of entries: which may be (soundEntries), and the record of one (entryRecord).
  Conditions: those that each theorem states.
-/
import Derived.Test.YtbggmeilkfpbgaaDoorLNodes
import Derived.BigQuiet
namespace Go.Proofs.YtbggmeilkfpbgaaDoor
open Go.RowKit Go.Maps

abbrev Ent := Int × List UInt8
def ev : List Ent → List Value
  | [] => []
  | x :: l => .int .i64 x.1 :: .string (strL x.2) :: ev l
theorem ev_length : ∀ l : List Ent, (ev l).length = 2 * l.length
  | [] => rfl
  | x :: l => by simp [ev, ev_length l]; omega
theorem ev_get0 : ∀ (l : List Ent) (i : Nat) (hi : i < l.length), (ev l)[2 * i]? = some (.int .i64 l[i].1)
  | x :: l, 0, _ => rfl
  | x :: l, i + 1, hi => by
    have := ev_get0 l i (by simpa using hi)
    rw [show 2 * (i + 1) = 2 * i + 2 by omega]
    simpa [ev] using this
theorem ev_get1 : ∀ (l : List Ent) (i : Nat) (hi : i < l.length), (ev l)[2 * i + 1]? = some (.string (strL l[i].2))
  | x :: l, 0, _ => rfl
  | x :: l, i + 1, hi => by
    have := ev_get1 l i (by simpa using hi)
    rw [show 2 * (i + 1) + 1 = 2 * i + 1 + 2 by omega]
    simpa [ev] using this
theorem ev_append : ∀ (l r : List Ent), ev (l ++ r) = ev l ++ ev r
  | [], r => rfl
  | x :: l, r => by simp [ev, ev_append l r]

/-- A row of entries as a value. -/
def EntsIs (w : World) (ao : Option Addr) (len : Nat) (l : List Ent) : Prop :=
  l.length = len ∧ len ≤ 140737488355328 ∧ (len = 0 ∨ ∃ b o, ao = some ⟨b, o, none⟩ ∧ b < w.heap.size ∧ w.rangeAt b o (ev l)) ∧ ∀ x ∈ l, x.2.length ≤ 140737488355328
theorem EntsIs.kept {w w' : World} {ao : Option Addr} {len : Nat} {l : List Ent} (h : EntsIs w ao len l) (hk : Kept [] w w') : EntsIs w' ao len l := by
  obtain ⟨h1, h2, h3, h4⟩ := h
  refine ⟨h1, h2, ?_, h4⟩
  rcases h3 with h3 | ⟨b, o, rfl, hb, hr⟩
  · exact .inl h3
  · exact .inr ⟨b, o, rfl, Nat.lt_of_lt_of_le hb hk.size, hk.range hb (by simp) hr⟩
theorem EntsIs.cell {w : World} {ao : Option Addr} {len : Nat} {l : List Ent} (h : EntsIs w ao len l) (h0 : 0 < len) : ∃ b o, ao = some ⟨b, o, none⟩ ∧ b < w.heap.size ∧
    ∀ k (hk : k < l.length), w.cell? ⟨b, o + k * 2, none⟩ = some (.int .i64 l[k].1) ∧ w.cell? ⟨b, o + k * 2 + 1, none⟩ = some (.string (strL l[k].2)) := by
  obtain ⟨_, _, h3 | ⟨b, o, rfl, hb, hr⟩, _⟩ := h
  · omega
  · refine ⟨b, o, rfl, hb, fun k hk => ⟨?_, ?_⟩⟩
    · have := hr (2 * k) _ (ev_get0 l k hk)
      rw [show k * 2 = 2 * k by omega]; exact this
    · have := hr (2 * k + 1) _ (ev_get1 l k hk)
      rw [show o + k * 2 + 1 = o + (2 * k + 1) by omega]; exact this

def entB (x : Ent) : Bool := decide (1 ≤ x.1 ∧ x.1 < 64) && nameB x.2
def lessB (p q : List UInt8) : Bool := Op.bytesLess p q
theorem strL_bytes (p : List UInt8) : (strL p).toList = p := by rw [Lib.toList_data]; rfl
def goodB (l : List Ent) : Bool := decide (∀ i, (hi : i < l.length) → entB l[i] = true ∧ (0 < i → lessB (l[i - 1]'(by omega)).2 l[i].2 = true))
theorem good_of {l : List Ent} (h : ∀ i, (hi : i < l.length) → entB l[i] = true ∧ (0 < i → lessB (l[i - 1]'(by omega)).2 l[i].2 = true)) : goodB l = true := decide_eq_true h
theorem not_good {l : List Ent} (i : Nat) (hi : i < l.length) (h : entB l[i] = false ∨ (0 < i ∧ lessB (l[i - 1]'(by omega)).2 l[i].2 = false)) : goodB l = false := by
  refine decide_eq_false fun ha => ?_
  obtain ⟨h1, h2⟩ := ha i hi
  rcases h with h | ⟨h0, h⟩
  · rw [h1] at h; cases h
  · rw [h2 h0] at h; cases h

set_option maxRecDepth 100000 in
set_option maxHeartbeats 4000000 in
theorem soundEntries_any (ao : Option Addr) (len cap : Nat) (l : List Ent) (w : World) (hl : EntsIs w ao len l) :
    Calls Tryd.prog 34 #[.slice ao len cap] w fun e w' => e = .returned (.bool (goodB l)) ∧ Kept [] w w' := by
  have HL := Lib.hid hl
  have hlen := hl.2.1
  have HLL := Lib.hid hl.1
  clear hl
  go_enter Tryd.func34, Tryd.ntmps34
  go_wp2_with fail
  go_loopw [7] (fun i wr => ∃ k : Nat, k ≤ len ∧ i = .int .i64 k ∧ Hid (∀ j, (hj : j < l.length) → j < k → entB l[j] = true ∧ (0 < j → lessB (l[j - 1]'(by omega)).2 l[j].2 = true)) ∧ Hid (Kept [] w wr)) (fun i _ => len - (intOf i).toNat)
  case atStart => exact ⟨0, by omega, rfl, fun j hj h0 => by omega, Kept.refl _ _⟩
  case round =>
    obtain ⟨k, hk, rfl, HK, HW⟩ := hrel
    by_cases hlt : k < len
    · obtain ⟨b, o, rfl, hb, hc⟩ := (HL.out.kept HW.out).cell (by omega)
      have hll : k < l.length := by rw [HLL.out]; exact hlt
      obtain ⟨c0, c1⟩ := hc k hll
      obtain ⟨n, hn⟩ : ∃ n, l[k].1 = n := ⟨_, rfl⟩
      obtain ⟨p, hp⟩ : ∃ p, l[k].2 = p := ⟨_, rfl⟩
      rw [hn] at c0
      rw [hp] at c1
      have HN := Lib.hid hn
      have HP := Lib.hid hp
      have HC := Lib.hid hc
      clear hn hp hc
      have hpl : p.length ≤ 140737488355328 := by rw [← HP.out]; exact HL.out.2.2.2 _ (List.getElem_mem hll)
      have HPL := Lib.hid hpl
      have HK1 := Lib.hid (HW.out.trans (Kept.alloc [] wr (.cells #[.int .i64 n, .string (strL p)] 38)))
      clear hpl
      rcases (by omega : n < 1 ∨ (¬ n < 1 ∧ 64 ≤ n) ∨ (1 ≤ n ∧ n < 64)) with h1 | ⟨h1, h2⟩ | ⟨h1, h2⟩
      · have HG : Hid (goodB l = false) := not_good k hll (.inl (by unfold entB; rw [HN.out, decide_eq_false (by omega)]; rfl))
        go_wp2_with fail
        go_ret
        exact ⟨retB HG.out.symm, HK1.out⟩
      · have HG : Hid (goodB l = false) := not_good k hll (.inl (by unfold entB; rw [HN.out, decide_eq_false (by omega)]; rfl))
        go_wp2_with fail
        go_ret
        exact ⟨retB HG.out.symm, HK1.out⟩
      · have HE : Hid (entB l[k] = nameB p) := by show _ = _; unfold entB; rw [HN.out, HP.out, decide_eq_true ⟨h1, h2⟩]; rfl
        have h3 : ¬ n < 1 := by omega
        have h4 : ¬ 64 ≤ n := by omega
        cases hb : nameB p
        · have HB := Lib.hid hb
          have HG : Hid (goodB l = false) := not_good k hll (.inl (by rw [HE.out]; exact hb))
          clear hb
          go_wp2_with fail
          refine (name_any (strL p) _ (by rw [strL_size]; have := HPL.out; omega)).mono ?_
          rw [strL_toList, HB.out]
          rintro e w' ⟨rfl, rfl⟩
          go_wp2_with fail
          go_ret
          exact ⟨retB HG.out.symm, HK1.out⟩
        · have HB := Lib.hid hb
          clear hb
          by_cases h0 : k = 0
          · have HK2 : Hid (∀ j, (hj : j < l.length) → j < k + 1 → entB l[j] = true ∧ (0 < j → lessB (l[j - 1]'(by omega)).2 l[j].2 = true)) := fun j hj hjk => by
              have e : j = k := by omega
              subst e
              exact ⟨by rw [HE.out]; exact HB.out, fun h => by omega⟩
            subst h0
            simp only [Nat.zero_mul, Nat.add_zero] at c0 c1
            go_wp2_with fail
            refine (name_any (strL p) _ (by rw [strL_size]; have := HPL.out; omega)).mono ?_
            rw [strL_toList, HB.out]
            rintro e w' ⟨rfl, rfl⟩
            go_wp2_with fail
            go_quiet (fail)
            go_wp2_with fail
            go_roundw
            case rel => exact ⟨1, by omega, by go_num, HK2.out, HK1.out.trans (Kept.drewN _ _ _)⟩
            case measure => simp [intOf]; omega
          · obtain ⟨q, rfl⟩ : ∃ q, k = q + 1 := ⟨k - 1, by omega⟩
            have hql : q < l.length := by omega
            obtain ⟨_, c3⟩ := HC.out q hql
            obtain ⟨p2, hp2⟩ : ∃ p2, l[q].2 = p2 := ⟨_, rfl⟩
            rw [hp2] at c3
            have HP2 := Lib.hid hp2
            clear hp2
            have wq : IntKind.i64.wrap ((q : Int) + 1 - 1) = (q : Int) := by rw [IntKind.wrap_i64]; omega
            have c4 : (wr.alloc (.cells #[.int .i64 n, .string (strL p)] 38)).cell? ⟨b, o + q * 2 + 1, none⟩ = some (.string (strL p2)) := by
              rw [World.cell?_alloc_old _ _ _ (by simp; omega)]; exact c3
            cases hs : lessB p2 p
            · have HG : Hid (goodB l = false) := not_good (q + 1) hll (.inr ⟨by omega, by rw [HP.out]; exact (by have := HP2.out; simp only [Nat.add_sub_cancel]; rw [this]; exact hs)⟩)
              have hs2 : Op.bytesLess (strL p2).toList (strL p).toList = false := by rw [strL_bytes, strL_bytes]; exact hs
              clear hs
              go_wp2_with fail
              refine (name_any (strL p) _ (by rw [strL_size]; have := HPL.out; omega)).mono ?_
              rw [strL_toList, HB.out]
              rintro e w' ⟨rfl, rfl⟩
              go_wp2_with fail
              go_quiet (fail)
              go_wp2_with fail
              go_ret
              exact ⟨retB HG.out.symm, HK1.out.trans (Kept.drewN _ _ _)⟩
            · have HG : Hid (∀ j, (hj : j < l.length) → j < q + 1 + 1 → entB l[j] = true ∧ (0 < j → lessB (l[j - 1]'(by omega)).2 l[j].2 = true)) := fun j hj hjk => by
                by_cases e : j = q + 1
                · subst e
                  refine ⟨by rw [HE.out]; exact HB.out, fun _ => ?_⟩
                  rw [HP.out]
                  have := HP2.out
                  simp only [Nat.add_sub_cancel]
                  rw [this]; exact hs
                · exact HK.out j hj (by omega)
              have hs2 : Op.bytesLess (strL p2).toList (strL p).toList = true := by rw [strL_bytes, strL_bytes]; exact hs
              clear hs
              go_wp2_with fail
              refine (name_any (strL p) _ (by rw [strL_size]; have := HPL.out; omega)).mono ?_
              rw [strL_toList, HB.out]
              rintro e w' ⟨rfl, rfl⟩
              go_wp2_with fail
              go_quiet (fail)
              go_wp2_with fail
              go_roundw
              case rel => exact ⟨q + 1 + 1, by omega, by go_num, HG.out, HK1.out.trans (Kept.drewN _ _ _)⟩
              case measure => simp [intOf]; omega
    · go_wp2_with fail
      go_ret
      exact ⟨retB (good_of fun i hi => HK.out i hi (by rw [HLL.out] at hi; omega)).symm, HW.out⟩
end Go.Proofs.YtbggmeilkfpbgaaDoor

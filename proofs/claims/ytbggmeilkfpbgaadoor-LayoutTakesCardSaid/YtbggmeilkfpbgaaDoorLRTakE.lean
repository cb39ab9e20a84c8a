/-
  Layer 3: the document's TakeEntries; both sides' TakeEntries in one form.
  Conditions: those that each theorem states.
-/
import Derived.Test.YtbggmeilkfpbgaaDoorLEntries
import Derived.Test.YtbggmeilkfpbgaaDoorBytesArg
namespace Go.Proofs.YtbggmeilkfpbgaaDoor
open Go.RowKit Go.Maps

/-- A slice of bytes that came in. -/
structure ArgB (w : World) (ao : Option Addr) (len cap : Nat) (B : List UInt8) : Prop where
  hlen : B.length = len
  hle : len ≤ 140737488355328
  hcap : len ≤ cap
  cap63 : cap ≤ 9223372036854775807
  hnil : ao = none → cap = 0
  at' : len = 0 ∨ ∃ b o, ao = some ⟨b, o, none⟩ ∧ b < w.heap.size ∧ w.rangeAt b o (bv B)
theorem ArgB.kept {w w' : World} {ao : Option Addr} {len cap : Nat} {B : List UInt8} (h : ArgB w ao len cap B) (hk : Kept [] w w') : ArgB w' ao len cap B := by
  refine ⟨h.hlen, h.hle, h.hcap, h.cap63, h.hnil, ?_⟩
  rcases h.at' with h0 | ⟨b, o, e, hb, hr⟩
  · exact .inl h0
  · exact .inr ⟨b, o, e, Nat.lt_of_lt_of_le hb hk.size, hk.range hb (by simp) hr⟩
theorem ArgB.conv {w : World} {ao : Option Addr} {len cap : Nat} {B : List UInt8} (h : ArgB w ao len cap B) : ConvIs w (.slice ao len cap) B := by
  rcases h.at' with h0 | ⟨b, o, rfl, hb, hr⟩
  · have hB : B = [] := List.eq_nil_of_length_eq_zero (by rw [h.hlen, h0])
    rw [hB, h0]
    exact conv_empty w ao cap h.hnil
  · have := h.hlen
    subst this
    exact (show SlIs w (.slice (some ⟨b, o, none⟩) B.length cap) B from .inl ⟨b, o, cap, rfl, hb, hr⟩).conv

def takeEF (B : List UInt8) : Bool := decide (B.length % 32 = 0 ∧ B.length ≤ 512) && takeEB B (B.length / 32)
def takeQ (B : List UInt8) : List Ent := if takeEF B then entsOf B (B.length / 32) else []
def takeC (B : List UInt8) : Int := if takeEF B then 0 else 4
def TakeEU (B : List UInt8) (w : World) (e : Ending) (w' : World) : Prop :=
  ∃ ao cap, e = .returned (.tuple #[.slice ao (takeQ B).length cap, .int .i64 (takeC B)]) ∧ Hid (Kept [] w w' ∧ EntsIs w' ao (takeQ B).length (takeQ B))
theorem takeEU_no {B : List UInt8} {w w' : World} (h : takeEF B = false) (hk : Kept [] w w') : TakeEU B w (.returned (.tuple #[.slice none 0 0, .int .i64 4])) w' := by
  unfold TakeEU takeQ takeC
  rw [h]
  exact ⟨none, 0, rfl, hk, rfl, by show (0:Nat) ≤ _; omega, .inl rfl, fun x hx => by cases hx⟩
theorem takeEU_yes {B : List UInt8} {w w' : World} {v : Value} (h : takeEF B = true) (hk : Kept [] w w') (hown : w'.ownsRow w.heap.size 38 2 v (B.length / 32) (ev (entsOf B (B.length / 32)))) : TakeEU B w (.returned (.tuple #[v, .int .i64 0])) w' := by
  have h1 : B.length ≤ 512 := by
    unfold takeEF at h
    rw [Bool.and_eq_true] at h
    exact (of_decide_eq_true h.1).2
  obtain ⟨ao, cap, rfl, _, _, he⟩ := own_ents hown (by omega) (entsOf_names _ _)
  unfold TakeEU takeQ takeC
  rw [h]
  simp only [if_true, entsOf_length]
  exact ⟨ao, cap, rfl, hk, he⟩

theorem takeE_one (ao : Option Addr) (len cap : Nat) (B : List UInt8) (w : World) (h : ArgB w ao len cap B) :
    Calls Tryd.prog 12 #[.slice ao len cap] w (TakeEU B w) := by
  have hl := h.hlen
  have hle := h.hle
  by_cases hbad : 0 < len % 32 ∨ 512 < len
  · refine (takeE_bad ao len cap w (by omega) hbad).mono ?_
    rintro e w' ⟨rfl, rfl⟩
    exact takeEU_no (by unfold takeEF; rw [decide_eq_false (by omega), Bool.false_and]) (Kept.refl _ _)
  · obtain ⟨N, hN⟩ : ∃ N, len = 32 * N := ⟨len / 32, by omega⟩
    have hdiv : B.length / 32 = N := by omega
    have hF : takeEF B = takeEB B N := by unfold takeEF; rw [decide_eq_true (by omega), Bool.true_and, hdiv]
    have hcap := h.hcap
    subst hN
    refine (takeE_go ao cap N B w (by omega) hl hcap h.cap63 h.hnil (h.at'.imp (by omega) id)).mono ?_
    rintro e w' ⟨hk, ⟨h1, rfl⟩ | ⟨h1, v, rfl, ho⟩⟩
    · exact takeEU_no (by rw [hF]; exact h1) hk
    · exact takeEU_yes (by rw [hF]; exact h1) hk (by rw [hdiv]; exact ho)

structure RtSt (w : World) (B : List UInt8) (k : Nat) (v : Value) (wr : World) : Prop where
  te : TeSt w B k v wr
  short : ∀ t, t < k → byteN (recAt B t) 1 ≤ 28

/-- An entry more. -/
theorem TeSt.nextB {w : World} {B : List UInt8} {k : Nat} {v : Value} {wr : World} (R : TeSt w B k v wr) (hk : (k + 1) * 24 ≤ 140737488355328) (n : Nat) (p : List UInt8) (hx : entAt B k = ((n : Int), p)) :
    ∃ v' w7, (Builtin.append_ #[34, 34] 34 #[v, .slice (some ⟨wr.heap.size, 0, none⟩) 1 1]).run Tryd.prog (wr.alloc (.cells #[.int .i64 (n : Int), .string (strL p)] 38)) = .ok v' w7 ∧ TeSt w B (k + 1) v' w7 ∧ Below w.heap.size (wr.alloc (.cells #[.int .i64 (n : Int), .string (strL p)] 38)) w7 := by
  have hs0 : w.heap.size ≤ (wr.alloc (.cells #[.int .i64 (n : Int), .string (strL p)] 38)).heap.size := by rw [size_alloc]; have := R.kept.size; omega
  obtain ⟨v', w7, hrun, hown, hk7, _⟩ := own_app elemEnt 34 (wr.alloc (.cells #[.int .i64 (n : Int), .string (strL p)] 38)) w.heap.size v k _ (World.ownsRow.alloc R.own _) ⟨wr.heap.size, 0, none⟩ 1 1 (ev [((n : Int), p)]) (by rw [ev_length]; rfl)
    (fun j u hu => by
      rw [Addr.add_mid, Nat.zero_add, cell_of_row _ _ j _ _ _ (heap_alloc_last wr _)]
      simpa [ev] using hu) (ev_one _) (by unfold maxLen; omega) hk hs0
  refine ⟨v', w7, hrun, ⟨?_, (R.kept.trans (Kept.alloc _ _ _)).own (World.ownsRow.alloc R.own _) (Nat.le_refl _) hk7⟩, hk7.below hs0 fun q hq => (World.ownsRow.lt R.own q (by simpa using hq)).1⟩
  rw [entsOf_succ, hx, ev_append]
  exact hown

theorem long_bad {B : List UInt8} {k N : Nat} (hk : k < N) (hB : 32 * N ≤ B.length) (h : 28 < byteN (recAt B k) 1) : goodB (entsOf B N) = false := by
  refine not_good k (by rw [entsOf_length]; exact hk) (.inl ?_)
  have e : (entsOf B N)[k]'(by rw [entsOf_length]; exact hk) = entAt B k := by simp [entsOf]
  rw [e]
  have hl := recAt_length (B := B) (i := k) (by omega)
  have : nameB (nmL (recAt B k)) = false := nameB_len (.inr (by
    unfold nmL
    rw [List.length_take, List.length_drop, hl]
    omega))
  unfold entB entAt
  rw [this, Bool.and_false]

set_option maxRecDepth 100000 in
set_option maxHeartbeats 4000000 in
theorem rtakeE_one (ao : Option Addr) (len cap : Nat) (B : List UInt8) (w : World) (h : ArgB w ao len cap B) :
    Calls Tryd.prog 13 #[.slice ao len cap] w (TakeEU B w) := by
  have HA := Lib.hid h
  have hle := h.hle
  have hcap := h.hcap
  have hc63 := h.cap63
  clear h
  go_enter Tryd.func13, Tryd.ntmps13
  go_wp2_with fail
  go_loopw [4, 5] (fun v i wr => ∃ k j : Nat, 32 * k ≤ len ∧ i = .int .i64 j ∧ Hid (j = 32 * k ∧ RtSt w B k v wr)) (fun _ i _ => len + 32 - (intOf i).toNat)
  case atStart => exact ⟨0, 0, by omega, rfl, rfl, ⟨World.ownsRow_nil _ _ _ _, Kept.refl _ _⟩, fun t h => by omega⟩
  case round =>
    obtain ⟨k, j, hk, rfl, HS⟩ := hrel
    have hj : j ≤ len := by rw [HS.out.1]; exact hk
    by_cases hlt : j + 32 ≤ len
    · have hltI : (j : Int) + 32 ≤ (len : Int) := by omega
      obtain ⟨b, o, rfl, hb, hr⟩ : ∃ b o, ao = some ⟨b, o, none⟩ ∧ b < w.heap.size ∧ w.rangeAt b o (bv B) := by
        rcases HA.out.at' with h0 | h0
        · omega
        · exact h0
      have HR := Lib.hid hr
      obtain ⟨R, hR⟩ : ∃ R, recAt B k = R := ⟨_, rfl⟩
      have hRl : R.length = 32 := by rw [← hR]; exact recAt_length (by rw [HA.out.hlen]; have := HS.out.1; omega)
      have hBR : ∀ i u, (bv R)[i]? = some u → (bv B)[j + i]? = some u := fun i u hu => by
        rw [← hR] at hu
        unfold recAt at hu
        have hi : i < 32 := by have := (List.getElem?_eq_some_iff.1 hu).1; simp [bv] at this; omega
        simp only [bv, List.getElem?_map] at hu ⊢
        rw [List.getElem?_take_of_lt hi, List.getElem?_drop, ← HS.out.1] at hu
        exact hu
      have cell : ∀ i u, (bv R)[i]? = some u → w.cell? ⟨b, o + (j + i), none⟩ = some u := fun i u hu => hr _ _ (hBR i u hu)
      obtain ⟨n0, h0⟩ : ∃ n, byteN R 0 = n := ⟨_, rfl⟩
      obtain ⟨n1, h1⟩ : ∃ n, byteN R 1 = n := ⟨_, rfl⟩
      have c0w : w.cell? ⟨b, o + j, none⟩ = some (.int .u8 (n0 : Int)) := by have := cell 0 _ (byteN_get (by omega)); rw [h0] at this; exact this
      have c1w : w.cell? ⟨b, o + (j + 1), none⟩ = some (.int .u8 (n1 : Int)) := by have := cell 1 _ (byteN_get (by omega)); rw [h1] at this; exact this
      have x0 : n0 < 256 := by rw [← h0]; exact byteN_lt _ _
      have x1 : n1 < 256 := by rw [← h1]; exact byteN_lt _ _
      have hbel : Below w.heap.size w wr := HS.out.2.te.kept.below (Nat.le_refl _) (by simp)
      have c1 := below_cell hbel hb c1w
      have HCW := Lib.hid (And.intro c0w c1w)
      have HCELL := Lib.hid cell
      have HRE := Lib.hid (And.intro hR hRl)
      have HN01 := Lib.hid (And.intro h0 h1)
      have HJ := Lib.hid HS.out.1
      clear c0w c1w cell hBR hr hR hRl h0 h1
      by_cases h28 : 28 < n1
      · have h28I : (28 : Int) < (n1 : Int) := by omega
        have HT : Hid (takeEF B = false) := by
          show _ = _
          unfold takeEF
          by_cases hd : B.length % 32 = 0 ∧ B.length ≤ 512
          · have hkk : k < B.length / 32 := by have := HJ.out; have := HA.out.hlen; omega
            have := long_bad (B := B) (k := k) (N := B.length / 32) hkk (by omega) (by rw [HRE.out.1, HN01.out.2]; exact h28)
            unfold takeEB
            rw [this, Bool.false_and, Bool.and_false]
          · rw [decide_eq_false hd, Bool.false_and]
        have HK := Lib.hid HS.out.2.te.kept
        go_wp2_with fail
        go_ret2
        exact takeEU_no HT.out HK.out
      · have h28I : ¬ (28 : Int) < (n1 : Int) := by omega
        obtain ⟨p, hp⟩ : ∃ p, nmL R = p := ⟨_, rfl⟩
        have hpl : p.length = n1 := by
          rw [← hp]
          unfold nmL
          rw [List.length_take, List.length_drop, HRE.out.2, HN01.out.2]
          omega
        have hpr : ∀ w', Below w.heap.size wr.drew w' → (convert 22 9 (.slice (some ⟨b, o + (j + 2), none⟩) n1 (cap - (j + 2)))).run Tryd.prog w' = .ok (.string (strL p)) w' := fun w' hw' => by
          refine conv_of_range w' _ _ _ Tryd.underlying22 Tryd.underlying5 Tryd.underlying9 b _ _ p n1 hpl (fun i u hu => ?_)
          refine below_cell hw' hb (below_cell ((HS.out.2.te.kept.trans (Kept.drew _ _)).below (Nat.le_refl _) (by simp)) hb ?_)
          rw [show o + (j + 2) + i = o + (j + (2 + i)) by omega]
          refine HCELL.out (2 + i) u ?_
          rw [← hp] at hu
          unfold nmL at hu
          have hi := (List.getElem?_eq_some_iff.1 hu).1
          simp only [bv, List.length_map] at hi
          simp only [bv, List.getElem?_map] at hu ⊢
          rw [List.getElem?_take_of_lt (by rw [List.length_take] at hi; omega), List.getElem?_drop] at hu
          exact hu
        have q0 : ∀ w', Below w.heap.size wr.drew w' → w'.cell? ⟨b, o + j, none⟩ = some (.int .u8 (n0 : Int)) := fun w' hw' => below_cell hw' hb (below_cell ((HS.out.2.te.kept.trans (Kept.drew _ _)).below (Nat.le_refl _) (by simp)) hb HCW.out.1)
        obtain ⟨v', w7, hrun, hst, hbl⟩ := TeSt.nextB (wr := wr.drew) ⟨owns_kept HS.out.2.te.own (Kept.drew [] _) (by simp), HS.out.2.te.kept.trans (Kept.drew _ _)⟩ (by have := HJ.out; omega) n0 p (by unfold entAt; rw [HRE.out.1, HN01.out.1, hp])
        have HRUN := Lib.hid hrun
        have HBL := Lib.hid hbl
        have HN : Hid (j + 32 = 32 * (k + 1) ∧ RtSt w B (k + 1) v' w7) := by
          refine ⟨by have := HJ.out; omega, hst, fun t ht => ?_⟩
          by_cases e : t = k
          · rw [e, HRE.out.1, HN01.out.2]; omega
          · exact HS.out.2.short t (by omega)
        have hsz : w.heap.size ≤ wr.heap.size := HS.out.2.te.kept.size
        have hjl : j < len := by omega
        have hjI : (j : Int) < (len : Int) := by omega
        have ww0 : IntKind.i64.wrap (n0 : Int) = n0 := by rw [IntKind.wrap_i64]; omega
        have ww1 : IntKind.i64.wrap ((j : Int) + 2) = (j : Int) + 2 := by rw [IntKind.wrap_i64]; omega
        have ww2 : IntKind.i64.wrap ((j : Int) + 2 + (n1 : Int)) = (j : Int) + 2 + (n1 : Int) := by rw [IntKind.wrap_i64]; omega
        have a0 : (0 : Int) ≤ (j : Int) + 2 := by omega
        have a3 : ((j : Int) + 2).toNat = j + 2 := by omega
        have a4 : ((j : Int) + 2 + (n1 : Int)).toNat = j + 2 + n1 := by omega
        have a5 : ¬ cap = j + 2 := by omega
        have a6 : j + 2 + n1 - (j + 2) = n1 := by omega
        have a7 : (j : Int) + 2 ≤ (j : Int) + 2 + (n1 : Int) := by omega
        clear hrun hst hbl hp hpl HS HCELL HCW
        have a1 : (j : Int) + 2 + (n1 : Int) ≤ (cap : Int) := by omega
        go_wp2_with fail
        refine wp_region_ordR (R := (Below w.heap.size)) [(true, 0), (true, 1), (true, 2), (true, 3), (true, 4), (true, 5), (true, 6), (true, 7), (true, 8), (true, 9), (true, 10), (true, 11), (true, 12), (true, 13), (true, 14), (true, 15), (false, 16), (false, 17), (true, 18)] (fun _ => Below.refl _ _) (fun _ _ _ h k => h.trans k) (by kernel_rfl) (fun _ _ d _ _ h => by cases d <;> exact h) (by kernel_rfl) rfl (by kernel_rfl) (by kernel_rfl) ?_
        simp only [named, List.getD_cons_zero, List.getD_cons_succ]
        repeat (first | (apply wpR_take; (case hw => rfl); (case hv => intro w' hk; go_simp; with_reducible rfl); simp only [Act.put, List.setIfInBounds_toArray, List.set_cons_zero, List.set_cons_succ]) | (refine wpR_pass (by rfl) ?_; simp only [Act.put, List.setIfInBounds_toArray, List.set_cons_zero, List.set_cons_succ]))
        refine wpR_force (by rfl) (fun K hK => ?_)
        go_simp
        have hb1 : Below w.heap.size wr.drew (wr.alloc (.cells #[.int .i64 (n0 : Int), .string (strL p)] 38)).drew := (Kept.alloc [] wr.drew _).below hsz (by simp)
        refine hK _ _ hb1 ?_
        clear hK K
        refine wpR_force (by rfl) (fun K hK => ?_)
        refine wp_append_run _ _ _ rfl _ _ _ rfl rfl HRUN.out ?_
        refine hK _ _ HBL.out ?_
        clear hK K hb1 HBL HRUN q0 hpr
        repeat (first | (apply wpR_take; (case hw => rfl); (case hv => intro w' hk; go_simp; with_reducible rfl); simp only [Act.put, List.setIfInBounds_toArray, List.set_cons_zero, List.set_cons_succ]) | (refine wpR_pass (by rfl) ?_; simp only [Act.put, List.setIfInBounds_toArray, List.set_cons_zero, List.set_cons_succ]))
        refine wpR_nil ?_
        go_wp2_with fail
        go_roundw
        case rel => exact ⟨k + 1, j + 32, by have := HJ.out; omega, by go_num, HN⟩
        case measure => simp [intOf]; omega
    · have hltI : ¬ (j : Int) + 32 ≤ (len : Int) := by omega
      have hkn : k = B.length / 32 := by have := HS.out.1; have := HA.out.hlen; omega
      have hst := HS.out.2.te
      have HK := Lib.hid hst.kept
      have hown := hst.own
      obtain ⟨ao4, cp4, rfl, _, hcp4, hents⟩ := own_entsG hown (by omega) (entsOf_names B k)
      have HO := Lib.hid hown
      have HEN := Lib.hid hents
      have HAK := Lib.hid (HA.out.kept hst.kept)
      have HKN := Lib.hid hkn
      have HHL := Lib.hid HA.out.hlen
      clear hents hst hown hkn HS HA
      obtain ⟨q, hq⟩ : ∃ q, entsOf B k = q := ⟨_, rfl⟩
      have hql : q.length = k := by rw [← hq]; exact entsOf_length _ _
      obtain ⟨c, hc⟩ : ∃ c, putC q = c := ⟨_, rfl⟩
      obtain ⟨L, hL⟩ : ∃ L, putL q = L := ⟨_, rfl⟩
      have HQ := Lib.hid (And.intro hq hql)
      rw [hq] at HEN
      clear hq hql
      go_wp2_with fail
      refine (rputE_one ao4 k cp4 q _ HEN.out).mono ?_
      rw [hc, hL]
      rintro e w5 ⟨v5, rfl, H5⟩
      have HC : Hid (c = 0 → (q.length ≤ 16 ∧ goodB q = true) ∧ L = entsL q) := fun h => by
        have h1 := H5.out.2.2.2 h
        refine ⟨h1, ?_⟩
        rw [← hL]
        unfold putL
        rw [if_neg (by omega), h1.2]
        rfl
      have HC1 : Hid (c ≠ 0 → ¬ (q.length ≤ 16 ∧ goodB q = true)) := fun h hh => by
        apply h
        rw [← hc]
        unfold putC
        rw [if_neg (by omega), hh.2]
        rfl
      have HK5 := Lib.hid (HK.out.trans H5.out.1)
      have cv1 : (convert 22 9 v5).run Tryd.prog w5 = .ok (.string (strL L)) w5 := convL H5.out.2.1
      have cv2 : (convert 22 9 (.slice ao len cap)).run Tryd.prog w5 = .ok (.string (strL B)) w5 := (HAK.out.kept H5.out.1).conv
      have HO5 := Lib.hid (owns_kept HO.out H5.out.1 (by simp))
      clear hc hL H5
      by_cases h0 : c = 0
      · subst h0
        by_cases hLB : L = B
        · have q1 : ((strL L).toList == (strL B).toList) = true := by rw [strL_bytes, strL_bytes]; simpa using hLB
          have HT : Hid (takeEF B = true) := by
            show _ = _
            obtain ⟨⟨h1, h2⟩, h3⟩ := HC.out rfl
            have hlen := entsL_length (good_len h2)
            rw [← h3, hLB, HQ.out.2] at hlen
            unfold takeEF takeEB
            rw [← HKN.out, HQ.out.1, h2, ← h3, decide_eq_true hLB, decide_eq_true (by have := HQ.out.2; omega)]
            rfl
          clear hLB
          go_wp2_with fail
          go_ret2
          refine takeEU_yes HT.out HK5.out ?_
          rw [← HKN.out]
          exact HO5.out
        · have q1 : ((strL L).toList == (strL B).toList) = false := by rw [strL_bytes, strL_bytes]; simpa using hLB
          have HT : Hid (takeEF B = false) := by
            show _ = _
            obtain ⟨⟨h1, h2⟩, h3⟩ := HC.out rfl
            unfold takeEF takeEB
            rw [← HKN.out, HQ.out.1, ← h3, decide_eq_false hLB, Bool.and_false, Bool.and_false]
          clear hLB
          go_wp2_with fail
          go_ret2
          exact takeEU_no HT.out HK5.out
      · have h0' : (c != 0) = true := by simpa using h0
        have HT : Hid (takeEF B = false) := by
          show _ = _
          have hh := HC1.out h0
          unfold takeEF takeEB
          rw [← HKN.out, HQ.out.1]
          by_cases hg : goodB q = true
          · have : 16 < q.length := by
              rcases Nat.lt_or_ge 16 q.length with h | h
              · exact h
              · exact absurd ⟨h, hg⟩ hh
            rw [decide_eq_false (by have := HQ.out.2; have := HKN.out; omega), Bool.false_and]
          · simp only [Bool.not_eq_true] at hg
            rw [hg, Bool.false_and, Bool.and_false]
        go_wp2_with fail
        go_ret2
        exact takeEU_no HT.out HK5.out
end Go.Proofs.YtbggmeilkfpbgaaDoor

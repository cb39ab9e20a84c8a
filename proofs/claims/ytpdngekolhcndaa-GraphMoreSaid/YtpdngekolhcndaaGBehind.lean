/-
  Layer 8: the program's Behind.
  Conditions: those that each theorem states.
-/
import Derived.Test.YtpdngekolhcndaaGVisit
namespace Go.Proofs.Ytpdngekolhcndaa
open Go.RowKit Go.Maps

def BehOut (n : Int) (L : List Edg) (s : Int) (w : World) (e : Ending) (w' : World) : Prop := ∃ v, e = .returned v ∧ Hid (NsIs w' v (behL n L s) ∧ Kept [] w w')
theorem BehOut.no {n : Int} {L : List Edg} {s : Int} {w w' : World} (h : ¬ (GOk n L ∧ 0 ≤ s ∧ s < n)) (hk : Kept [] w w') : BehOut n L s w (.returned (.slice none 0 0)) w' :=
  ⟨_, rfl, by rw [behL_no h]; exact NsIs.nil _, hk⟩
/-- The first of a row that are in a set. -/
def fil (Z : Nat → Bool) (k : Nat) : List Nat := (List.range k).filter Z
theorem fil_succ (Z : Nat → Bool) (k : Nat) : fil Z (k + 1) = fil Z k ++ if Z k = true then [k] else [] := by
  unfold fil
  rw [List.range_succ, List.filter_append]
  congr 1
  cases h : Z k <;> simp [h]
theorem fil_len (Z : Nat → Bool) (k : Nat) : (fil Z k).length ≤ k := by
  have := List.length_filter_le Z (List.range k)
  unfold fil
  simpa using this

set_option maxRecDepth 100000 in
set_option maxHeartbeats 4000000 in
theorem behind_any (n : Int) (L : List Edg) (s : Int) (v : Value) (w : World) (h : EsIs w v L) :
    Calls Try.prog 13 #[.int .i64 n, v, .int .i64 s] w (BehOut n L s w) := by
  have HE := Lib.hid h
  clear h
  go_enter Try.func13, Try.ntmps13
  go_wp2_with fail
  generalize hw1 : World.alloc w _ = w1
  have HK1 : Hid (Kept [] w w1) := by rw [← hw1]; exact Kept.alloc _ _ _
  have HN1 : Hid (w1.cell? ⟨w.heap.size, 0, none⟩ = some (.int .i64 n)) := by rw [← hw1]; exact cell_of_row _ _ 0 _ _ _ (heap_alloc_last _ _)
  clear hw1
  refine (gather_any n L v w1 (HE.out.kept HK1.out)).mono ?_
  rintro e w2 ⟨M, c, rfl, H2⟩
  obtain ⟨A0, hA0⟩ : ∃ A0, blA (List.replicate 1024 false) = A0 := ⟨_, rfl⟩
  have hz : ∀ w, (zeroValue 42).run Try.prog w = .ok (.agg A0) w := fun w => by rw [← hA0]; exact zero_ged w
  obtain ⟨A1, hA1⟩ : ∃ A1, blA M = A1 := ⟨_, rfl⟩
  have h1 : A1.size = 1024 := by rw [← hA1, blA_size]; exact H2.out.1
  have h0 : A0.size = 1024 := by rw [← hA0, blA_size, List.length_replicate]
  have hst := run_storeCells_new (P := Try.prog) w2 42 A0 A1 (by rw [h1]; exact size_ged) (by rw [h1, h0]) (by rw [← hA1]; exact blA_one _)
  rw [hA1]
  have HA1 := Lib.hid hA1
  have HK2 : Hid (Kept [] w w2) := HK1.out.trans H2.out.2.2.2
  have HN2 : Hid (w2.cell? ⟨w.heap.size, 0, none⟩ = some (.int .i64 n)) := (H2.out.2.2.2.cell (p := ⟨w.heap.size, 0, none⟩) (World.block_lt_of_cell? w1 _ HN1.out) (by simp)).trans HN1.out
  obtain ⟨wA, hwA⟩ : ∃ wA, w2.alloc (.cells A1 42) = wA := ⟨_, rfl⟩
  have HKA : Hid (Kept [] w wA) := by rw [← hwA]; exact HK2.out.trans (Kept.alloc _ _ _)
  have cnA : wA.cell? ⟨w.heap.size, 0, none⟩ = some (.int .i64 n) := by
    rw [← hwA]
    exact ((Kept.alloc [] w2 _).cell (p := ⟨w.heap.size, 0, none⟩) (World.block_lt_of_cell? w2 _ HN2.out) (by simp)).trans HN2.out
  clear hA0 hA1
  by_cases hok : GOk n L
  case neg =>
    have hc : c = 1 := by rw [H2.out.2.1, if_neg hok]
    subst hc
    have HOK : Hid (¬ (GOk n L ∧ 0 ≤ s ∧ s < n)) := fun g => hok g.1
    clear hok
    go_wp2_with fail
    go_ret
    exact BehOut.no HOK.out HKA.out
  have hc : c = 0 := by rw [H2.out.2.1, if_pos hok]
  subst hc
  by_cases hs : s < 0 ∨ n ≤ s
  · have HOK : Hid (¬ (GOk n L ∧ 0 ≤ s ∧ s < n)) := fun g => by omega
    clear hok
    by_cases h2 : s < 0
    all_goals
      go_wp2_with fail
      go_ret
      exact BehOut.no HOK.out HKA.out
  have HOK := Lib.hid hok
  obtain ⟨q, rfl⟩ : ∃ q : Nat, n = q := ⟨n.toNat, by have := hok.1; omega⟩
  obtain ⟨f, rfl⟩ : ∃ f : Nat, s = f := ⟨s.toNat, by omega⟩
  have hq : q ≤ 32 := by have := hok.1; omega
  have hfq : f < q := by omega
  have hf0 : ¬ (f : Int) < 0 := by omega
  have hf1 : ¬ (q : Int) ≤ f := by omega
  have HLD : Hid (∀ i j, i < 32 → j < 32 → M.getD (i * 32 + j) false = adjL L i j) := H2.out.2.2.1 hok
  have HML : Hid (M.length = 1024) := H2.out.1
  have HADJ : Hid (∀ i j, adjL L i j = true → i < q ∧ j < q) := fun i j => adjL_lt hok
  obtain ⟨A2, hA2⟩ : ∃ A2, blA (List.replicate 32 false) = A2 := ⟨_, rfl⟩
  have hz2 : ∀ w, (zeroValue 40).run Try.prog w = .ok (.agg A2) w := fun w => by rw [← hA2]; exact zero_set w
  obtain ⟨g, hg⟩ : ∃ g, w2.heap.size = g := ⟨_, rfl⟩
  have hsA : wA.heap.size = g + 1 := by rw [← hwA, size_alloc, hg]
  have hwlt : w.heap.size < g := by rw [← hg]; exact World.block_lt_of_cell? w2 _ HN2.out
  obtain ⟨w3, hw3⟩ : ∃ w3, (wA.alloc (.cells A2 40)).alloc (.cells #[.func (.func 23) #[] #[.pointer (some ⟨w.heap.size, 0, none⟩), .pointer (some ⟨g, 0, none⟩), .pointer (some ⟨g + 1, 0, none⟩), .pointer (some ⟨g + 2, 0, none⟩)]] 50) = w3 := ⟨_, rfl⟩
  have HK3 : Hid (Kept [] wA w3) := by rw [← hw3]; exact (Kept.alloc _ _ _).trans (Kept.alloc _ _ _)
  have HV : Hid (ViSt q w.heap.size g (g + 1) (g + 2) (adjL L) (fun _ => false) w3) := by
    refine ⟨(HK3.out.cell (p := ⟨w.heap.size, 0, none⟩) (World.block_lt_of_cell? wA _ cnA) (by simp)).trans cnA, ?_, ?_, ?_⟩
    · refine ⟨M, HK3.out.heap (by simp) ?_, HML.out, HLD.out⟩
      rw [← hwA, HA1.out, ← hg]
      exact heap_alloc_last _ _
    · refine ⟨List.replicate 32 false, ?_, List.length_replicate, fun i hi => ?_⟩
      · rw [← hw3, hA2]
        refine (Kept.alloc [] _ _).heap (by simp) ?_
        have := heap_alloc_last wA (.cells A2 40)
        rw [hsA] at this
        exact this
      · rw [List.getD_eq_getElem?_getD, List.getElem?_replicate, if_pos hi]; rfl
    · have := heap_alloc_last (wA.alloc (.cells A2 40)) (.cells #[.func (.func 23) #[] #[.pointer (some ⟨w.heap.size, 0, none⟩), .pointer (some ⟨g, 0, none⟩), .pointer (some ⟨g + 1, 0, none⟩), .pointer (some ⟨g + 2, 0, none⟩)]] 50)
      rw [size_alloc, hsA] at this
      rw [← hw3]
      exact cell_of_row _ _ 0 _ _ _ this
  have HS3 : Hid (w3.heap.size = g + 3) := by show _ = _; rw [← hw3, size_alloc, size_alloc, hsA]
  have HK03 : Hid (Kept [] w w3) := HKA.out.trans HK3.out
  have hE2 : ∀ (args : Array Value) (w : World), (callFunc 23 args).run Try.prog w = .ok (.enter 23 args) w := enters_b1
  have hstf : ∀ (w3 : World) (a : Addr) (fn : Fn) (cap : Array Value), (store a (.func fn #[] cap)).run Try.prog w3 = match w3.cell? a with
    | some _ => if w3.frozen? a then .halt (.unsupported (.unsafePointer "a write to bytes that a string shares")) w3 else .ok () (w3.setCell a (.func fn #[] cap))
    | none => match w3.farStore Try.prog a (.func fn #[] cap) false with
      | .ok (w', _) => .ok () w'
      | .error h => .halt h w3 := fun w3 a fn cap => run_store _ w3 a _ _ rfl
  rw [hg] at hst
  clear hok hs hA2 H2
  have c4 := HV.out.fn
  go_wp2_with fail
  clear hstf hst hz hz2 h1 h0 hw3 c4 cnA hwA hg hsA hf0 hf1
  refine (visit_any q w.heap.size g (g + 1) (g + 2) (adjL L) hq HADJ.out (by omega) (by omega) (by omega) _ f (fun _ => false) w3 rfl hfq HV.out).mono ?_
  rintro e w4 ⟨rfl, H4⟩
  obtain ⟨Z, HZ⟩ : ∃ Z, Hid (VLp (adjL L) f (fun _ => false) q Z ∧ ViSt q w.heap.size g (g + 1) (g + 2) (adjL L) Z w4 ∧ Kept [g + 1] w3 w4) := by
    obtain ⟨Z, hZ⟩ := H4.out
    exact ⟨Z, hZ⟩
  have HR : Hid (behL q L f = fil Z q) := by
    show _ = _
    have hv := HZ.out.1
    have := behL_is HOK.out (s := f) (by omega) (Z := Z) (reach_is (fun j hj => by
      rcases hv.reach j hj with h | h
      · cases h
      · exact h) (fun j hj => hv.next j (HADJ.out _ _ hj).2 hj) (fun x j hx hj => hv.shut x hx rfl j hj))
    rw [this]
    rfl
  have HK4 : Hid (Kept [] w w4 ∧ g + 3 ≤ w4.heap.size) := ⟨HK03.out.into HZ.out.2.2 (by simp; omega), by have := HZ.out.2.2.size; rw [HS3.out] at this; omega⟩
  have HS4 : Hid (SetIs w4 (g + 1) Z) := HZ.out.2.1.set
  have cn := HZ.out.2.1.cnb
  clear H4 hE2
  go_wp2_with fail
  clear cn
  clear HV HS3 HK03 HK3 HZ
  go_loopw [11, 35] (fun v i wr => ∃ (k : Nat), k ≤ q ∧ i = .int .i64 k ∧ Hid (OwnN (g + 2) wr v (fil Z k) ∧ SetIs wr (g + 1) Z ∧ Kept [] w wr ∧ g + 3 ≤ wr.heap.size)) (fun _ i _ => q - (intOf i).toNat)
  case atStart => exact ⟨0, by omega, rfl, OwnN.nil _ _, HS4.out, HK4.out⟩
  case round =>
    clear HS4 HK4
    obtain ⟨k, hk, rfl, HS⟩ := hrel
    obtain ⟨va, vc, rfl⟩ := HS.out.1.slice
    by_cases hlt : k < q
    · have k32 : (k : Int) < 32 := by omega
      have ck := HS.out.2.1.cell (i := k) (by omega)
      cases hz : Z k
      · rw [hz] at ck
        have hfe : fil Z (k + 1) = fil Z k := by rw [fil_succ, if_neg (by rw [hz]; simp), List.append_nil]
        have HN : Hid (OwnN (g + 2) wr (.slice va (fil Z k).length vc) (fil Z (k + 1)) ∧ SetIs wr (g + 1) Z ∧ Kept [] w wr ∧ g + 3 ≤ wr.heap.size) := by rw [hfe]; exact HS.out
        clear hz hfe
        go_wp2_with fail
        go_roundw
        case rel => exact ⟨k + 1, by omega, by go_num, HN⟩
        case measure => simp [intOf]; omega
      · rw [hz] at ck
        have hfe : fil Z (k + 1) = fil Z k ++ [k] := by rw [fil_succ, if_pos hz]
        obtain ⟨v4, w8, hrun, hown, hap⟩ := HS.out.1.app (by have := HS.out.2.2.2; omega) k (by have := fil_len Z k; omega)
        have HRUN := Lib.hid hrun
        have HN : Hid (OwnN (g + 2) w8 v4 (fil Z (k + 1)) ∧ SetIs w8 (g + 1) Z ∧ Kept [] w w8 ∧ g + 3 ≤ w8.heap.size) := by
          have hb := HS.out.1.blk
          have hne : ∀ b ∈ (Value.slice va (fil Z k).length vc).ownBlock.toList, g + 2 ≤ b := fun b hb2 => (hb b (by simpa using hb2)).1
          rw [hfe]
          exact ⟨hown, HS.out.2.1.kept hap.kept (fun hm => by have := hne _ hm; omega), HS.out.2.2.1.into hap.kept (fun b hb2 => by have := hne b hb2; omega), by have := hap.kept.size; have := HS.out.2.2.2; omega⟩
        clear hz hfe hrun hown hap
        go_wp2_with (at_builtin; refine wpList_append_run rfl _ _ 24 rfl _ _ _ rfl rfl HRUN.out ?_)
        go_roundw
        case rel => exact ⟨k + 1, by omega, by go_num, HN⟩
        case measure => simp [intOf]; omega
    · have hkq : k = q := by omega
      have HF : Hid (fil Z k = behL q L f) := by show _ = _; rw [hkq, HR.out]
      go_wp2_with fail
      go_ret
      exact ⟨_, rfl, by rw [← HF.out]; exact HS.out.1.ns, HS.out.2.2.1⟩
end Go.Proofs.Ytpdngekolhcndaa

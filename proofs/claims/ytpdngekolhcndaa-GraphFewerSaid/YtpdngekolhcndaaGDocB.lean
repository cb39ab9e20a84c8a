/-
  Layer 8: the document's Behind.
  Conditions: those that each theorem states.
-/
import Derived.Test.YtpdngekolhcndaaGDocO
import Derived.Test.YtpdngekolhcndaaGBehind
namespace Go.Proofs.Ytpdngekolhcndaa
open Go.RowKit Go.Maps

/-- One edge: if it leads from the number, or from what is seen, its end is seen. -/
def relx (s : Nat) (x : Edg) (Z : Nat → Bool) : Nat → Bool := if (decide (x.fr = (s : Int)) || Z x.fr.toNat) = true then put Z x.tw.toNat true else Z
def relL (s : Nat) (L : List Edg) (Z : Nat → Bool) : Nat → Bool := L.foldl (fun Z x => relx s x Z) Z
theorem relx_mono (s : Nat) (x : Edg) (Z : Nat → Bool) (j : Nat) (h : Z j = true) : relx s x Z j = true := by
  unfold relx
  split
  · exact put_mono j h
  · exact h
theorem relL_mono (s : Nat) : ∀ (L : List Edg) (Z : Nat → Bool) (j : Nat), Z j = true → relL s L Z j = true
  | [], _, _, h => h
  | x :: L, Z, j, h => relL_mono s L (relx s x Z) j (relx_mono s x Z j h)
/-- What is seen is reached. -/
def Snd (A : Nat → Nat → Bool) (s : Nat) (Z : Nat → Bool) : Prop := ∀ j, Z j = true → Reach A s j
theorem relx_snd {n s : Nat} {L : List Edg} (h : GOk n L) {x : Edg} (hx : x ∈ L) {Z : Nat → Bool} (hz : Snd (adjL L) s Z) : Snd (adjL L) s (relx s x Z) := by
  intro j hj
  unfold relx at hj
  have hok := h.2 x hx
  unfold EdOk at hok
  have ha : adjL L x.fr.toNat x.tw.toNat = true := adjL_iff.2 ⟨x, hx, by omega, by omega⟩
  split at hj
  · rename_i hc
    unfold put at hj
    by_cases e : j = x.tw.toNat
    · rw [e]
      rw [Bool.or_eq_true, decide_eq_true_eq] at hc
      rcases hc with hc | hc
      · refine .one ?_
        rw [show s = x.fr.toNat by omega]
        exact ha
      · exact .more (hz _ hc) ha
    · rw [if_neg e] at hj
      exact hz j hj
  · exact hz j hj
theorem relL_snd {n s : Nat} {L : List Edg} (h : GOk n L) : ∀ (l : List Edg) (Z : Nat → Bool), (∀ x ∈ l, x ∈ L) → Snd (adjL L) s Z → Snd (adjL L) s (relL s l Z)
  | [], _, _, hz => hz
  | x :: l, Z, hl, hz => relL_snd h l (relx s x Z) (fun y hy => hl y (by simp [hy])) (relx_snd h (hl x (by simp)) hz)
/-- A turn that adds nothing shuts. -/
def Sht (s : Nat) (L : List Edg) (Z : Nat → Bool) : Prop := ∀ x ∈ L, (decide (x.fr = (s : Int)) || Z x.fr.toNat) = true → Z x.tw.toNat = true
theorem relL_of_sht {s : Nat} : ∀ {L : List Edg} {Z : Nat → Bool}, Sht s L Z → relL s L Z = Z
  | [], _, _ => rfl
  | x :: L, Z, h => by
    have e : relx s x Z = Z := by
      unfold relx
      split
      · rename_i hc
        have := h x (by simp) hc
        funext j
        unfold put
        split
        · rename_i e; rw [e]; exact this.symm
        · rfl
      · rfl
    show relL s L (relx s x Z) = Z
    rw [e]
    exact relL_of_sht (fun y hy => h y (by simp [hy]))
theorem relL_stay {s n : Nat} : ∀ {L : List Edg} {Z : Nat → Bool}, (∀ x ∈ L, x.tw.toNat < n) → cnt n (relL s L Z) = cnt n Z → Sht s L Z
  | [], _, _, _ => fun x hx => by cases hx
  | x :: L, Z, hl, h => by
    have h1 := cnt_mono (relL_mono s L (relx s x Z)) n
    have h2 := cnt_mono (relx_mono s x Z) n
    have h3 : cnt n (relL s L (relx s x Z)) = cnt n Z := h
    have e : relx s x Z = Z ∧ ((decide (x.fr = (s : Int)) || Z x.fr.toNat) = true → Z x.tw.toNat = true) := by
      unfold relx at h1 h2 h3 ⊢
      split
      · rename_i hc
        rw [if_pos hc] at h1 h2 h3
        cases hz : Z x.tw.toNat with
        | false =>
          have := cnt_put hz n (hl x (by simp))
          omega
        | true =>
          refine ⟨?_, fun _ => rfl⟩
          funext j
          unfold put
          split
          · rename_i e; rw [e]; exact hz.symm
          · rfl
      · rename_i hc
        exact ⟨rfl, fun q => absurd q hc⟩
    rw [e.1] at h3
    have ih := relL_stay (s := s) (L := L) (Z := Z) (fun y hy => hl y (by simp [hy])) h3
    intro y hy
    rcases List.mem_cons.1 hy with rfl | hy
    · exact e.2
    · exact ih y hy
/-- What the turns come to. -/
structure TuSt (n s : Nat) (L : List Edg) (t : Nat) (Z : Nat → Bool) : Prop where
  snd : Snd (adjL L) s Z
  or : Sht s L Z ∨ cnt n Z + t ≤ n
theorem cnt_none : ∀ n, cnt n (fun _ => false) = n
  | 0 => rfl
  | n + 1 => by unfold cnt; rw [cnt_none n]; simp
theorem TuSt.init (n s : Nat) (L : List Edg) : TuSt n s L 0 (fun _ => false) := ⟨fun j h => (by cases h), .inr (by rw [cnt_none]; omega)⟩
theorem TuSt.next {n s t : Nat} {L : List Edg} {Z : Nat → Bool} (hg : GOk n L) (h : TuSt n s L t Z) : TuSt n s L (t + 1) (relL s L Z) := by
  refine ⟨relL_snd hg L Z (fun x hx => hx) h.snd, ?_⟩
  rcases h.or with h1 | h1
  · left; rw [relL_of_sht h1]; exact h1
  · have h2 := cnt_mono (relL_mono s L Z) n
    by_cases e : cnt n (relL s L Z) = cnt n Z
    · left
      have hs := relL_stay (s := s) (n := n) (fun x hx => by have := hg.2 x hx; unfold EdOk at this; omega) e
      rw [relL_of_sht hs]
      exact hs
    · right; omega
theorem TuSt.out {n s : Nat} {L : List Edg} {Z : Nat → Bool} (h : TuSt n s L (n + 1) Z) (j : Nat) : Z j = true ↔ Reach (adjL L) s j := by
  have hs : Sht s L Z := by
    rcases h.or with h1 | h1
    · exact h1
    · omega
  refine reach_is h.snd (fun j hj => ?_) (fun x j hx hj => ?_) j
  · obtain ⟨y, hy, e1, e2⟩ := adjL_iff.1 hj
    have := hs y hy (by rw [e1]; simp)
    rw [e2] at this
    simpa using this
  · obtain ⟨y, hy, e1, e2⟩ := adjL_iff.1 hj
    have := hs y hy (by rw [e1]; simp [hx])
    rw [e2] at this
    simpa using this
theorem relL_snoc (s : Nat) (l : List Edg) (x : Edg) (Z : Nat → Bool) : relL s (l ++ [x]) Z = relx s x (relL s l Z) := by
  unfold relL
  rw [List.foldl_append]
  rfl

set_option maxRecDepth 100000 in
set_option maxHeartbeats 4000000 in
theorem rbehind_any (n : Int) (L : List Edg) (s : Int) (v : Value) (w : World) (h : EsIs w v L) :
    Calls Try.prog 14 #[.int .i64 n, v, .int .i64 s] w (BehOut n L s w) := by
  have HB := Lib.hid (rgbad_any n L v w h)
  by_cases hok : GOk n L
  case neg =>
    rw [decide_eq_false hok] at HB
    have HOK : Hid (¬ (GOk n L ∧ 0 ≤ s ∧ s < n)) := fun g => hok g.1
    clear hok h
    go_enter Try.func14, Try.ntmps14
    go_wp2_with fail
    refine HB.out.mono ?_
    rintro e w2 ⟨rfl, rfl⟩
    go_wp2_with fail
    go_ret
    exact BehOut.no HOK.out (Kept.refl _ _)
  rw [decide_eq_true hok] at HB
  by_cases hs : s < 0 ∨ n ≤ s
  · have HOK : Hid (¬ (GOk n L ∧ 0 ≤ s ∧ s < n)) := fun g => by omega
    clear hok h
    by_cases h2 : s < 0
    all_goals
      go_enter Try.func14, Try.ntmps14
      go_wp2_with fail
      refine HB.out.mono ?_
      rintro e w2 ⟨rfl, rfl⟩
      go_wp2_with fail
      go_ret
      exact BehOut.no HOK.out (Kept.refl _ _)
  have HOK := Lib.hid hok
  obtain ⟨q, rfl⟩ : ∃ q : Nat, n = q := ⟨n.toNat, by have := hok.1; omega⟩
  obtain ⟨f, rfl⟩ : ∃ f : Nat, s = f := ⟨s.toNat, by omega⟩
  have hq : q ≤ 32 := by have := hok.1; omega
  have hfq : f < q := by omega
  have hf0 : ¬ (f : Int) < 0 := by omega
  have hf1 : ¬ (q : Int) ≤ f := by omega
  obtain ⟨ao, cap, rfl, hcap, hc63, _, hcell⟩ := h.open
  have HC := Lib.hid hcell
  have hlen := h.len
  obtain ⟨m, hm⟩ : ∃ m, L.length = m := ⟨_, rfl⟩
  have HM := Lib.hid hm
  rw [hm] at hlen HB
  rw [hm]
  have hmk := run_make_bools w q (by omega)
  obtain ⟨w1, hw1⟩ : ∃ w1, w.alloc (.cells (blA (List.replicate q false)) 4) = w1 := ⟨_, rfl⟩
  have HS1 : Hid (BlIs w1 w.heap.size q (fun _ => false)) := by rw [← hw1]; exact BlIs.made w q
  have HK1 : Hid (Kept [] w w1 ∧ w.heap.size + 1 ≤ w1.heap.size) := by rw [← hw1]; exact ⟨Kept.alloc _ _ _, by rw [size_alloc]; omega⟩
  rw [hw1] at hmk
  clear hok h hcell hm hcap hw1 hs
  go_enter Try.func14, Try.ntmps14
  go_wp2_with fail
  refine HB.out.mono ?_
  rintro e w2 ⟨rfl, rfl⟩
  go_wp2_with fail
  clear hmk
  go_loopw [8] (fun i wr => ∃ (t : Nat) (Z : Nat → Bool), t ≤ q + 1 ∧ i = .int .i64 t ∧ Hid (BlIs wr w.heap.size q Z ∧ TuSt q f L t Z ∧ Kept [] w wr ∧ w.heap.size + 1 ≤ wr.heap.size)) (fun i _ => q + 1 - (intOf i).toNat)
  case atStart => exact ⟨0, fun _ => false, by omega, rfl, HS1.out, TuSt.init _ _ _, HK1.out⟩
  case round =>
    clear HS1 HK1
    obtain ⟨t, Z, ht, rfl, HS⟩ := hrel
    by_cases hlt : t ≤ q
    · have HTN : Hid (TuSt q f L (t + 1) (relL f L Z)) := HS.out.2.1.next HOK.out
      have H0 : Hid (BlIs wr w.heap.size q (relL f (L.take 0) Z) ∧ Kept [] w wr ∧ w.heap.size + 1 ≤ wr.heap.size) := ⟨HS.out.1, HS.out.2.2⟩
      go_wp2_with fail
      clear HS
      go_loopw [9] (fun i wr => ∃ (k : Nat), k ≤ m ∧ i = .int .i64 k ∧ Hid (BlIs wr w.heap.size q (relL f (L.take k) Z) ∧ Kept [] w wr ∧ w.heap.size + 1 ≤ wr.heap.size)) (fun i _ => m - (intOf i).toNat)
      case atStart => exact ⟨0, by omega, rfl, H0⟩
      case round =>
        clear H0
        obtain ⟨k, hk, rfl, HS⟩ := hrel
        by_cases hkm : k < m
        · have hkl : k < L.length := by rw [HM.out]; exact hkm
          obtain ⟨eb, eo, rfl, heb, hcc⟩ := HC.out (by omega)
          obtain ⟨a0, a1, _⟩ := hcc k hkl
          have hok := HOK.out.2 _ (List.getElem_mem hkl)
          unfold EdOk at hok
          obtain ⟨x, hx⟩ : ∃ x : Nat, L[k].fr = x := ⟨L[k].fr.toNat, by omega⟩
          obtain ⟨y, hy⟩ : ∃ y : Nat, L[k].tw = y := ⟨L[k].tw.toNat, by omega⟩
          rw [hx] at a0
          rw [hy] at a1
          have hxk : x < q := by omega
          have hyk : y < q := by omega
          have c0 := (HS.out.2.1.cell (p := ⟨eb, eo + k * 3, none⟩) heb (by simp)).trans a0
          have c1 := (HS.out.2.1.cell (p := ⟨eb, eo + k * 3 + 1, none⟩) heb (by simp)).trans a1
          have cx := HS.out.1.cell hxk
          have cy := HS.out.1.cell hyk
          have fz := HS.out.1.ok y
          obtain ⟨Y, hY⟩ : ∃ Y, relL f (L.take k) Z = Y := ⟨_, rfl⟩
          have HE2 : Hid (relL f (L.take (k + 1)) Z = if (decide (x = f) || Y x) = true then put Y y true else Y) := by
            show _ = _
            rw [List.take_succ_eq_append_getElem hkl, relL_snoc, hY]
            unfold relx
            rw [hx, hy, Int.toNat_natCast, Int.toNat_natCast]
            congr 1
            rw [show decide ((x : Int) = (f : Int)) = decide (x = f) by rw [Bool.eq_iff_iff, decide_eq_true_eq, decide_eq_true_eq]; omega]
          rw [hY] at HS cx cy
          have HYES : Hid ((decide (x = f) || Y x) = true → (BlIs (wr.setCell ⟨w.heap.size, y, none⟩ (.bool true)) w.heap.size q (relL f (L.take (k + 1)) Z) ∧ Kept [] w (wr.setCell ⟨w.heap.size, y, none⟩ (.bool true)) ∧ w.heap.size + 1 ≤ (wr.setCell ⟨w.heap.size, y, none⟩ (.bool true)).heap.size)) := fun e => by
            rw [HE2.out, if_pos e]
            exact ⟨HS.out.1.set y true, HS.out.2.1.into (Kept.setCell [w.heap.size] _ _ _ (by simp)) (by simp), by have := HS.out.2.2; simpa [World.setCell] using this⟩
          clear a0 a1 hcc hok hx hy heb hY
          by_cases e : x = f
          · have q1 : ((x : Int) == (f : Int)) = true := by rw [e]; simp
            have HN := Lib.hid (HYES.out (by rw [decide_eq_true e]; rfl))
            clear e
            go_wp2_with fail
            go_roundw
            case rel => exact ⟨k + 1, by omega, by go_num, HN⟩
            case measure => simp [intOf]; omega
          · have q1 : ((x : Int) == (f : Int)) = false := by simp; omega
            cases hs : Y x
            · rw [hs] at cx
              have HN : Hid (BlIs wr w.heap.size q (relL f (L.take (k + 1)) Z) ∧ Kept [] w wr ∧ w.heap.size + 1 ≤ wr.heap.size) := by
                rw [HE2.out, if_neg (by rw [decide_eq_false e, hs]; simp)]
                exact HS.out
              clear e hs
              go_wp2_with fail
              go_roundw
              case rel => exact ⟨k + 1, by omega, by go_num, HN⟩
              case measure => simp [intOf]; omega
            · rw [hs] at cx
              have HN := Lib.hid (HYES.out (by rw [hs]; simp))
              clear e hs
              go_wp2_with fail
              go_roundw
              case rel => exact ⟨k + 1, by omega, by go_num, HN⟩
              case measure => simp [intOf]; omega
        · have HN : Hid (BlIs wr w.heap.size q (relL f L Z) ∧ TuSt q f L (t + 1) (relL f L Z) ∧ Kept [] w wr ∧ w.heap.size + 1 ≤ wr.heap.size) := by
            have := HS.out
            rw [List.take_of_length_le (by rw [HM.out]; omega)] at this
            exact ⟨this.1, HTN.out, this.2⟩
          go_wp2_with fail
          go_roundw
          case rel => exact ⟨t + 1, _, by omega, by go_num, HN⟩
          case measure => simp [intOf]; omega
    have htq : t = q + 1 := by omega
    subst htq
    have HR : Hid (behL q L f = fil Z q) := by
      show _ = _
      rw [behL_is HOK.out (s := f) (by omega) (Z := Z) HS.out.2.1.out]
      rfl
    have hn : ¬ ((q + 1 : Nat) : Int) ≤ (q : Int) := by omega
    clear hlt ht
    have HS4 : Hid (BlIs wr w.heap.size q Z ∧ Kept [] w wr ∧ w.heap.size + 1 ≤ wr.heap.size) := ⟨HS.out.1, HS.out.2.2⟩
    go_wp2_with fail
    clear HS hn
    go_loopw [10, 11] (fun v i wr => ∃ (k : Nat), k ≤ q ∧ i = .int .i64 k ∧ Hid (OwnN (w.heap.size + 1) wr v (fil Z k) ∧ BlIs wr w.heap.size q Z ∧ Kept [] w wr ∧ w.heap.size + 1 ≤ wr.heap.size)) (fun _ i _ => q - (intOf i).toNat)
    case atStart => exact ⟨0, by omega, rfl, OwnN.nil _ _, HS4.out⟩
    case round =>
      clear HS4
      obtain ⟨k, hk, rfl, HS⟩ := hrel
      obtain ⟨va, vc, rfl⟩ := HS.out.1.slice
      by_cases hlt : k < q
      · have ck := HS.out.2.1.cell (i := k) (by omega)
        cases hz : Z k
        · rw [hz] at ck
          have hfe : fil Z (k + 1) = fil Z k := by rw [fil_succ, if_neg (by rw [hz]; simp), List.append_nil]
          have HN : Hid (OwnN (w.heap.size + 1) wr (.slice va (fil Z k).length vc) (fil Z (k + 1)) ∧ BlIs wr w.heap.size q Z ∧ Kept [] w wr ∧ w.heap.size + 1 ≤ wr.heap.size) := by rw [hfe]; exact HS.out
          clear hz hfe
          go_wp2_with fail
          go_roundw
          case rel => exact ⟨k + 1, by omega, by go_num, HN⟩
          case measure => simp [intOf]; omega
        · rw [hz] at ck
          have hfe : fil Z (k + 1) = fil Z k ++ [k] := by rw [fil_succ, if_pos hz]
          obtain ⟨v4, w8, hrun, hown, hap⟩ := HS.out.1.app HS.out.2.2.2 k (by have := fil_len Z k; omega)
          have HRUN := Lib.hid hrun
          have HN : Hid (OwnN (w.heap.size + 1) w8 v4 (fil Z (k + 1)) ∧ BlIs w8 w.heap.size q Z ∧ Kept [] w w8 ∧ w.heap.size + 1 ≤ w8.heap.size) := by
            have hb := HS.out.1.blk
            have hne : ∀ b ∈ (Value.slice va (fil Z k).length vc).ownBlock.toList, w.heap.size + 1 ≤ b := fun b hb2 => (hb b (by simpa using hb2)).1
            rw [hfe]
            exact ⟨hown, HS.out.2.1.kept hap.kept (fun hm => by have := hne _ hm; omega), HS.out.2.2.1.into hap.kept (fun b hb2 => by have := hne b hb2; omega), by have := hap.kept.size; have := HS.out.2.2.2; omega⟩
          clear hz hfe hrun hown hap
          go_wp2_with (at_builtin; refine wpList_append_run rfl _ _ 24 rfl _ _ _ rfl rfl HRUN.out ?_)
          go_roundw
          case rel => exact ⟨k + 1, by omega, by go_num, HN⟩
          case measure => simp [intOf]; omega
      · have hkq : k = q := by omega
        have HF : Hid (fil Z k = behL q L f) := by show _ = _; rw [hkq, HR.out]
        go_wp2_with fail
        go_ret
        exact ⟨_, rfl, by rw [← HF.out]; exact HS.out.1.ns, HS.out.2.2.1⟩
end Go.Proofs.Ytpdngekolhcndaa

/-
  Layer 4: body: the bytes that a node's blocks hold.
  Conditions: those that each theorem states.
  Layer 4: the slots and blocks that are free are enough for a tree that fits; what place gives is all different. No program text.
  Conditions: those that each theorem states.
-/
import Derived.Test.YtiedoocgbajjjaaGreatDoorFInode
namespace Go.Proofs.YtiedoocgbajjjaaGreatDoor
open Go.RowKit Go.Maps
set_option maxRecDepth 100000

set_option maxRecDepth 100000 in
theorem bsure_any (w : World) : Calls Tryz.prog 71 #[.int .i64 0] w fun e w' => e = .returned (.tuple #[]) ∧ w' = w := by
  go_enter Tryz.func71, Tryz.ntmps71
  go_wp2_with fail
  go_end0
  exact ⟨rfl, rfl⟩
/-- A directory's entries, as layout has them. -/
def AKs.ents : AKs → List Ent
  | .nil => []
  | .cons s t k => ((t.rc.slot : Int), s) :: k.ents
theorem AKs.ents_list : ∀ k : AKs, k.ents = k.toList.map fun p => ((p.2.rc.slot : Int), p.1)
  | .nil => rfl
  | .cons s t k => by simp [AKs.ents, AKs.toList, AKs.ents_list k]
theorem AKs.ents_length (k : AKs) : k.ents.length = k.kids.length := by rw [k.ents_list, k.kids_list]; simp
theorem AKs.names_length (k : AKs) : k.names.length = k.kids.length := by rw [k.names_list, k.kids_list]; simp
/-- The bytes that a node's blocks hold. -/
def ATr.bodyL (t : ATr) : List UInt8 := if t.rc.kind = 2 then entsL t.ks.ents else t.rc.bytes
/-- Behind j names. -/
structure BodySt (w : World) (k : AKs) (j : Nat) (v : Value) (wr : World) : Prop where
  own : wr.ownsRow w.heap.size 205 2 v j (ev (k.ents.take j))
  kept : Kept [] w wr
theorem BodySt.next {w wr : World} {k : AKs} {j : Nat} {v : Value} (R : BodySt w k j v wr) (hj : j < k.ents.length) (h16 : j < 16) (n : Nat) (p : List UInt8) (hx : k.ents[j] = ((n : Int), p)) :
    ∃ v' w7, (Builtin.append_ #[201, 201] 201 #[v, .slice (some ⟨wr.heap.size, 0, none⟩) 1 1]).run Tryz.prog (wr.alloc (.cells #[.int .i64 (n : Int), .string (strL p)] 205)) = .ok v' w7 ∧ BodySt w k (j + 1) v' w7 := by
  have hs0 : w.heap.size ≤ (wr.alloc (.cells #[.int .i64 (n : Int), .string (strL p)] 205)).heap.size := by rw [size_alloc]; have := R.kept.size; omega
  obtain ⟨v', w7, hrun, hown, hk7, _⟩ := own_app elemEnt 201 (wr.alloc (.cells #[.int .i64 (n : Int), .string (strL p)] 205)) w.heap.size v j _ (World.ownsRow.alloc R.own _) ⟨wr.heap.size, 0, none⟩ 1 1 (ev [((n : Int), p)]) (by rw [ev_length]; rfl)
    (fun j u hu => by
      rw [Addr.add_mid, Nat.zero_add, cell_of_row _ _ j _ _ _ (heap_alloc_last wr _)]
      simpa [ev] using hu) (ev_one _) (by unfold maxLen; omega) (by omega) hs0
  refine ⟨v', w7, hrun, ?_, (R.kept.trans (Kept.alloc _ _ _)).own (World.ownsRow.alloc R.own _) (Nat.le_refl _) hk7⟩
  rw [List.take_succ_eq_append_getElem hj, hx, ev_append]
  exact hown

set_option maxRecDepth 100000 in
set_option maxHeartbeats 2000000 in
theorem nbody_any (t : ATr) (w : World) (h : TrOk w t) (hl : t.ks.kids.length ≤ 16) (hg : t.rc.kind = 2 → goodB t.ks.ents = true) :
    Calls Tryz.prog 129 #[.pointer (some ⟨t.addr, 0, none⟩)] w fun e w' => ∃ v, e = .returned v ∧ Hid (Kept [] w w' ∧ SlIs w' v t.bodyL ∧ CapOk v) := by
  obtain ⟨m, va, vb, hrow, hd, _, hby, _⟩ := h.row
  have c0 : w.cell? ⟨t.addr, 0, none⟩ = some (.int .i64 t.rc.kind) := cell_of_row _ _ 0 _ _ _ hrow
  have c2 : w.cell? ⟨t.addr, 2, none⟩ = some va := cell_of_row _ _ 2 _ _ _ hrow
  by_cases hk : t.rc.kind = 2
  · obtain ⟨mb, rfl, hm⟩ := hd hk
    have hkb : (t.rc.kind != 2) = false := by simpa using hk
    have HN := Lib.hid (nnames_any t w h (by omega))
    have HB : Hid (t.bodyL = entsL t.ks.ents) := by show _ = _; unfold ATr.bodyL; rw [if_pos hk]
    have HROW := Lib.hid hrow
    have HM := Lib.hid hm
    have HG := Lib.hid (hg hk)
    have HAP := Lib.hid h.apart
    have HOK := Lib.hid h.kids
    obtain ⟨K, hK⟩ : ∃ K, t.ks.kids.length = K := ⟨_, rfl⟩
    have HK : Hid (t.ks.ents.length = K ∧ t.ks.names.length = K ∧ t.ks.toList.length = K) := ⟨by rw [AKs.ents_length, hK], by rw [AKs.names_length, hK], by rw [← hK, AKs.kids_list]; simp⟩
    rw [hK] at hl
    obtain ⟨a, ha⟩ : ∃ a, t.addr = a := ⟨_, rfl⟩
    rw [ha] at HN HROW c0 ⊢
    clear hby hd hg hm hrow h hk c2 hK ha
    go_enter Tryz.func129, Tryz.ntmps129
    go_wp2_with fail
    refine HN.out.mono ?_
    rintro e w1 ⟨v, rfl, H1⟩
    obtain ⟨ao, cap, hv, hcell⟩ : ∃ ao cap, v = .slice ao K cap ∧ (∀ j, (hj : j < t.ks.names.length) → ∃ b o, ao = some ⟨b, o, none⟩ ∧ b < w1.heap.size ∧ w1.cell? ⟨b, o + j, none⟩ = some (.string (strL t.ks.names[j]))) := by
      rcases H1.out.2.1 with ⟨b, o, cap, rfl, hb, hr⟩ | ⟨rfl, hn⟩
      · exact ⟨_, cap, by rw [HK.out.2.1], fun j hj => ⟨b, o, rfl, hb, hr j _ (by simp [sv, hj])⟩⟩
      · have := HK.out.2.1
        rw [hn] at this
        refine ⟨none, 0, by rw [← this]; rfl, fun j hj => ?_⟩
        rw [hn] at hj
        cases hj
    subst hv
    have HC := Lib.hid hcell
    have HS0 : Hid (BodySt w1 t.ks 0 (.slice none 0 0) w1) := ⟨by simpa [ev] using World.ownsRow_nil w1 w1.heap.size 205 2, Kept.refl _ _⟩
    have HK1 := Lib.hid H1.out.1
    clear hcell H1 HN c0
    go_wp2_with fail
    go_loopw [3, 20] (fun v i wr => ∃ j : Nat, j ≤ K ∧ i = .int .i64 j ∧ Hid (BodySt w1 t.ks j v wr)) (fun _ i _ => K - (intOf i).toNat)
    case atStart => exact ⟨0, by omega, rfl, HS0.out⟩
    case round =>
      clear HS0
      obtain ⟨j, hj, rfl, HS⟩ := hrel
      by_cases hlt : j < K
      · have hje : j < t.ks.ents.length := by rw [HK.out.1]; exact hlt
        have hjn : j < t.ks.names.length := by rw [HK.out.2.1]; exact hlt
        have hjl : j < t.ks.toList.length := by rw [HK.out.2.2]; exact hlt
        obtain ⟨x, hx⟩ : ∃ x, t.ks.toList[j].2 = x := ⟨_, rfl⟩
        obtain ⟨s, hs⟩ : ∃ s, t.ks.toList[j].1 = s := ⟨_, rfl⟩
        have hsn : t.ks.names[j] = s := by rw [← hs]; simp [AKs.names_list]
        have hex : t.ks.ents[j] = ((x.rc.slot : Int), s) := by rw [← hs, ← hx]; simp [AKs.ents_list]
        obtain ⟨hxo, hs28⟩ := HOK.out.at hjl
        rw [hx] at hxo
        rw [hs] at hs28
        obtain ⟨b, o, rfl, hb, cs⟩ := HC.out j hjn
        rw [hsn] at cs
        have cs' : wr.cell? ⟨b, o + j, none⟩ = some (.string (strL s)) := (HS.out.kept.cell hb (by simp)).trans cs
        have hkw : Kept [] w wr := HK1.out.trans HS.out.kept
        have c3 : wr.cell? ⟨a, 3, none⟩ = some (.map (some mb)) := cell_of_row _ _ 3 _ _ _ (hkw.heap (by simp) HROW.out)
        have hget := AKs.get_at HAP.out hjl
        rw [hs, hx] at hget
        have hlook := (HM.out.kept hkw (by simp)).look s (by omega)
        rw [AKs.kget, hget] at hlook
        simp only [Option.map_some] at hlook
        obtain ⟨xm, xa, xb, xrow, xrest⟩ := hxo.row
        clear xrest
        obtain ⟨xd, hxd⟩ : ∃ xd, x.addr = xd := ⟨_, rfl⟩
        obtain ⟨sl, hsl⟩ : ∃ sl, x.rc.slot = sl := ⟨_, rfl⟩
        rw [hxd] at xrow hlook
        unfold nodeRow at xrow
        rw [hsl] at xrow hex
        have c4 : wr.cell? ⟨xd, 4, none⟩ = some (.int .i64 (sl : Int)) := cell_of_row _ _ 4 _ _ _ (hkw.heap (by simp) xrow)
        obtain ⟨v', w7, hrun, R7⟩ := HS.out.next hje (by omega) sl s hex
        have HRUN := Lib.hid hrun
        have HR7 := Lib.hid R7
        clear hje hjn hx hs hsn hex hxo hs28 hb cs hkw hget xrow hxd hsl hrun R7 hjl
        go_wp2_with (at_builtin; refine wpList_append_run rfl _ _ 201 rfl _ _ _ rfl rfl HRUN.out ?_)
        go_roundw
        case rel => exact ⟨j + 1, by omega, by go_num, HR7.out⟩
        case measure => simp [intOf]; omega
      · obtain rfl : j = K := by omega
        have hown := HS.out.own
        rw [show t.ks.ents.take j = t.ks.ents by rw [← HK.out.1, List.take_length]] at hown
        obtain ⟨ao5, cap5, hu5, _, _, hi5⟩ := own_ents hown (by omega) (fun x hx => by
          rw [AKs.ents_list] at hx
          obtain ⟨q, hq, rfl⟩ := List.mem_map.1 hx
          obtain ⟨i, hi, rfl⟩ := List.getElem_of_mem hq
          have := (HOK.out.at hi).2
          show (t.ks.toList[i].1).length ≤ _
          omega)
        subst hu5
        have HP := Lib.hid (putE_yes ao5 j cap5 t.ks.ents wr hi5 hl HG.out)
        have HKR := Lib.hid (HK1.out.trans HS.out.kept)
        clear hown hi5 hlt HS
        go_wp2_with fail
        refine HP.out.mono ?_
        rintro e w8 ⟨hk8, ⟨h16, _⟩ | ⟨_, hbad, _⟩ | ⟨_, _, v8, rfl, hsl8, hcap8⟩⟩
        · exact absurd h16 (by rw [HK.out.1]; omega)
        · rw [HG.out] at hbad
          cases hbad
        have HF : Hid (Kept [] w w8 ∧ SlIs w8 v8 t.bodyL ∧ CapOk v8) := ⟨HKR.out.trans hk8, by rw [HB.out]; exact hsl8, hcap8⟩
        clear hk8 hsl8 hcap8 HP
        go_wp2_with fail
        refine (bsure_any w8).mono ?_
        rintro e w9 ⟨rfl, rfl⟩
        go_wp2_with fail
        go_ret
        exact ⟨v8, rfl, HF.out⟩
  · have hkb : (t.rc.kind != 2) = true := by simpa using hk
    have HF : Hid (SlIs w va t.bodyL ∧ CapOk va) := by
      refine ⟨?_, hby.2.2⟩
      unfold ATr.bodyL; rw [if_neg hk]; exact hby.1
    clear hby hd hg hrow h hk
    go_enter Tryz.func129, Tryz.ntmps129
    go_wp2_with fail
    go_ret
    exact ⟨va, rfl, Kept.refl _ _, HF.out⟩
end Go.Proofs.YtiedoocgbajjjaaGreatDoor

namespace Go.Proofs.YtiedoocgbajjjaaGreatDoor
open Go.RowKit Go.Maps
set_option maxRecDepth 100000

/-- What setAll leaves. -/
theorem setAll_at : ∀ (l : List Nat) (F : List Bool) (i : Nat), (setAll F l)[i]? = (F[i]?).map fun b => b || decide (i ∈ l)
  | [], F, i => by simp [setAll]
  | x :: l, F, i => by
    rw [setAll, setAll_at l, List.getElem?_set]
    by_cases h : x = i
    · subst h
      by_cases hx : x < F.length
      · simp [hx]
      · simp [hx]
    · rw [if_neg h]
      have : ¬ i = x := fun e => h e.symm
      simp [this]
theorem setAll_ext {F : List Bool} {l m : List Nat} (h : ∀ i, i ∈ l ↔ i ∈ m) : setAll F l = setAll F m := by
  apply List.ext_getElem?
  intro i
  rw [setAll_at, setAll_at]
  simp only [h]
theorem mem_freeL : ∀ (F : List Bool) (k i : Nat), i ∈ freeL k F ↔ k ≤ i ∧ F[i - k]? = some false
  | [], k, i => by simp [freeL]
  | b :: F, k, i => by
    have ih := mem_freeL F (k + 1) i
    have e : ∀ _ : k < i, (b :: F)[i - k]? = F[i - (k + 1)]? := fun h => by
      rw [show i - k = (i - (k + 1)) + 1 by omega, List.getElem?_cons_succ]
    by_cases hk : k < i
    · rw [e hk]
      cases b
      · simp only [freeL, Bool.false_eq_true, if_false, List.mem_cons, ih]
        constructor
        · rintro (h | h)
          · omega
          · exact ⟨by omega, h.2⟩
        · rintro ⟨_, h⟩; exact .inr ⟨by omega, h⟩
      · simp only [freeL, if_true, ih]
        exact ⟨fun h => ⟨by omega, h.2⟩, fun h => ⟨by omega, h.2⟩⟩
    · by_cases hi : k = i
      · subst hi
        cases b
        · simp [freeL]
        · simp only [freeL, if_true, ih]
          simp
          omega
      · cases b
        · simp only [freeL, Bool.false_eq_true, if_false, List.mem_cons, ih]
          constructor
          · rintro (h | h) <;> omega
          · omega
        · simp only [freeL, if_true, ih]
          omega
theorem freeL_rise : ∀ (F : List Bool) (k : Nat), (freeL k F).Pairwise (· < ·)
  | [], _ => .nil
  | b :: F, k => by
    have ih := freeL_rise F (k + 1)
    cases b
    · simp only [freeL, Bool.false_eq_true, if_false]
      refine List.pairwise_cons.2 ⟨fun x hx => ?_, ih⟩
      have := ((mem_freeL F (k + 1) x).1 hx).1
      omega
    · simpa [freeL] using ih
theorem freeL_nodup (F : List Bool) (k : Nat) : (freeL k F).Nodup := (freeL_rise F k).imp fun h => by omega
theorem freeL_set : ∀ (F : List Bool) (k i : Nat), F[i]? = some false → (freeL k (F.set i true)).length + 1 = (freeL k F).length
  | [], _, _, h => by simp at h
  | b :: F, k, 0, h => by
    simp only [List.getElem?_cons_zero, Option.some.injEq] at h
    subst h
    simp [freeL]
  | b :: F, k, i + 1, h => by
    have ih := freeL_set F (k + 1) i (by simpa using h)
    cases b <;> simp only [List.set_cons_succ, freeL, Bool.false_eq_true, if_false, if_true, List.length_cons] <;> omega
theorem freeL_setAll (k : Nat) : ∀ (l : List Nat) (F : List Bool), l.Nodup → (∀ i ∈ l, F[i]? = some false) → (freeL k (setAll F l)).length + l.length = (freeL k F).length
  | [], _, _, _ => rfl
  | x :: l, F, hn, h => by
    obtain ⟨hx, hn⟩ := List.nodup_cons.1 hn
    have h1 := freeL_set F k x (h x (by simp))
    have h2 := freeL_setAll k l (F.set x true) hn (fun i hi => by
      rw [List.getElem?_set, if_neg (fun e => hx (by rw [e]; exact hi))]
      exact h i (by simp [hi]))
    simp only [setAll, List.length_cons]
    omega
theorem freeL_fresh : ∀ (N k : Nat), (freeL k (List.replicate N false)).length = N
  | 0, _ => rfl
  | N + 1, k => by simp [List.replicate_succ, freeL, freeL_fresh N]

/-- The slots that are someone's, beside the root's; the blocks. -/
def slotsNZ (l : List Nd) : List Nat := (l.map fun n => n.rc.slot).filter fun s => decide (s ≠ 0)
def blksL (l : List Nd) : List Nat := l.flatMap Nd.blks
def Nd.cst (n : Nd) : Nat := n.cont + if n.far then 1 else 0
/-- The nodes of a tree that is to be placed. -/
structure PreOk (N d c a0 : Nat) (l : List Nd) : Prop where
  head : ∃ n r, l = n :: r ∧ n.addr = a0 ∧ n.rc.slot = 0
  addrs : (l.map Nd.addr).Nodup
  slots : (slotsNZ l).Nodup
  slotlt : ∀ n ∈ l, n.rc.slot < c
  blks : (blksL l).Nodup
  rng : ∀ b ∈ blksL l, d ≤ b ∧ b < N
  low : 0 < d ∧ d ≤ N ∧ 0 < c
/-- Blocks that trim leaves are no more than a node needs. -/
def Slim (n : Nd) : Prop := n.rc.blocks.length ≤ n.cont ∧ (0 < n.rc.more → n.far = true)
theorem trim_slim (n : Nd) : Slim n.trim := by
  refine ⟨by simp [Nd.trim]; omega, fun h => ?_⟩
  simp only [Nd.trim] at h ⊢
  cases hf : n.far
  · rw [hf] at h; simp at h
  · rfl
theorem trim_blks (n : Nd) : n.trim.blks.Sublist n.blks := by
  unfold Nd.blks
  refine List.Sublist.append (by simp only [Nd.trim]; exact List.take_sublist _ _) ?_
  simp only [Nd.trim]
  by_cases hf : n.far = true
  · simp [hf]
  · simp [hf]
theorem trim_blksL : ∀ l : List Nd, (blksL (l.map Nd.trim)).Sublist (blksL l)
  | [] => List.Sublist.refl _
  | n :: l => by
    simp only [blksL, List.map_cons, List.flatMap_cons]
    exact List.Sublist.append (trim_blks n) (trim_blksL l)
theorem trim_slots (l : List Nd) : ((l.map Nd.trim).map fun n => n.rc.slot) = l.map fun n => n.rc.slot := by
  rw [List.map_map]; rfl
theorem PreOk.trim {N d c a0 : Nat} {l : List Nd} (h : PreOk N d c a0 l) : PreOk N d c a0 (l.map Nd.trim) := by
  obtain ⟨n, r, e, h1, h2⟩ := h.head
  refine ⟨⟨n.trim, r.map Nd.trim, by rw [e]; rfl, h1, h2⟩, by rw [nds_trim_addr]; exact h.addrs, ?_, ?_, (trim_blksL l).nodup h.blks, fun b hb => h.rng b ((trim_blksL l).subset hb), h.low⟩
  · unfold slotsNZ
    rw [trim_slots]
    exact h.slots
  · intro x hx
    obtain ⟨y, hy, rfl⟩ := List.mem_map.1 hx
    exact h.slotlt y hy
theorem nz_count : ∀ (r : List Nd) (a0 : Nat), (∀ n ∈ r, n.addr ≠ a0) → bares a0 r + (slotsNZ r).length = r.length
  | [], _, _ => rfl
  | n :: r, a0, h => by
    have ih := nz_count r a0 (fun x hx => h x (by simp [hx]))
    have hn := h n (by simp)
    unfold bares slotsNZ at ih ⊢
    simp only [List.map_cons, List.sum_cons, List.length_cons, List.filter_cons]
    by_cases hs : n.rc.slot = 0
    · have : n.bare a0 = true := by simp [Nd.bare, hs, hn]
      simp [this, hs]
      simp at ih
      omega
    · have : n.bare a0 = false := by simp [Nd.bare, hs]
      simp [this, hs]
      simp at ih
      omega
theorem PreOk.bareN {N d c a0 : Nat} {l : List Nd} (h : PreOk N d c a0 l) (hl : l.length ≤ c) : bares a0 l + (slotsNZ l).length + 1 = l.length ∧ bares a0 l ≤ (slotsF c l).length := by
  obtain ⟨n, r, e, h1, h2⟩ := h.head
  have hr : ∀ x ∈ r, x.addr ≠ a0 := fun x hx hh => by
    have := h.addrs
    rw [e, List.map_cons, List.nodup_cons] at this
    exact this.1 (by rw [h1, ← hh]; exact List.mem_map.2 ⟨x, hx, rfl⟩)
  have hc := nz_count r a0 hr
  have e1 : bares a0 l = bares a0 r := by
    rw [e]
    have : n.bare a0 = false := by simp [Nd.bare, h1]
    simp [bares, this]
  have e2 : slotsNZ l = slotsNZ r := by
    rw [e]
    simp [slotsNZ, h2]
  have hfree : (slotsF c l).length + (1 + (slotsNZ l).length) = c := by
    unfold slotsF
    rw [setAll_ext (m := 0 :: slotsNZ l) (fun i => ?_)]
    · have := freeL_setAll 0 (0 :: slotsNZ l) (List.replicate c false) (List.nodup_cons.2 ⟨by simp [slotsNZ], h.slots⟩) (fun i hi => ?_)
      · rw [freeL_fresh] at this
        simp only [List.length_cons] at this
        omega
      · rw [List.getElem?_replicate, if_pos]
        rcases List.mem_cons.1 hi with rfl | hi
        · exact h.low.2.2
        · obtain ⟨hi, _⟩ := List.mem_filter.1 hi
          obtain ⟨x, hx, rfl⟩ := List.mem_map.1 hi
          exact h.slotlt x hx
    · constructor
      · intro hi
        by_cases h0 : i = 0
        · simp [h0]
        · exact List.mem_cons.2 (.inr (List.mem_filter.2 ⟨hi, by simpa using h0⟩))
      · intro hi
        rcases List.mem_cons.1 hi with rfl | hi
        · rw [e]; simp [h2]
        · exact (List.mem_filter.1 hi).1
  have hl2 : l.length = r.length + 1 := by rw [e]; rfl
  rw [e2] at hfree ⊢
  rw [e1]
  omega
theorem lacks_count : ∀ (l : List Nd), (∀ n ∈ l, Slim n) → lacks l + (blksL l).length = (l.map Nd.cst).sum
  | [], _ => rfl
  | n :: l, h => by
    have ih := lacks_count l (fun x hx => h x (by simp [hx]))
    obtain ⟨h1, h2⟩ := h n (by simp)
    unfold lacks blksL at ih ⊢
    simp only [List.map_cons, List.sum_cons, List.flatMap_cons, List.length_append]
    have : n.lack + n.lackM + n.blks.length = n.cst := by
      unfold Nd.lack Nd.lackM Nd.blks Nd.cst
      rw [List.length_append]
      cases hf : n.far
      · have : ¬ 0 < n.rc.more := fun hh => by rw [h2 hh] at hf; cases hf
        simp [this]; omega
      · by_cases hm : n.rc.more = 0
        · simp [hm]; omega
        · have : 0 < n.rc.more := by omega
          simp [hm, this]; omega
    omega
theorem PreOk.free {N d c a0 : Nat} {l : List Nd} (h : PreOk N d c a0 l) : (blocksF N d l).length + d + (blksL l).length = N := by
  unfold blocksF
  rw [← setAll_append]
  have := freeL_setAll 0 (List.range d ++ blksL l) (List.replicate N false) (List.nodup_append.2 ⟨List.nodup_range, h.blks, fun a ha b hb e => by
    have := (h.rng b hb).1
    have := List.mem_range.1 ha
    omega⟩) (fun i hi => by
      rw [List.getElem?_replicate, if_pos]
      have := h.low
      rcases List.mem_append.1 hi with hi | hi
      · have := List.mem_range.1 hi; omega
      · exact (h.rng i hi).2)
  rw [freeL_fresh, List.length_append, List.length_range] at this
  unfold blksL at this ⊢
  omega
theorem PreOk.lackN {N d c a0 : Nat} {l : List Nd} (h : PreOk N d c a0 l) (hs : ∀ n ∈ l, Slim n) (hc : (l.map Nd.cst).sum ≤ N - d) : lacks l ≤ (blocksF N d l).length := by
  have h1 := lacks_count l hs
  have h2 := h.free
  omega
/-- The nodes of a tree that stands. -/
structure SetOk (N d c a0 : Nat) (l : List Nd) : Prop where
  head : ∃ n r, l = n :: r ∧ n.addr = a0 ∧ n.rc.slot = 0
  addrs : (l.map Nd.addr).Nodup
  slots : (l.map fun n => n.rc.slot).Nodup
  slotlt : ∀ n ∈ l, n.rc.slot < c
  blks : (blksL l).Nodup
  rng : ∀ b ∈ blksL l, d ≤ b ∧ b < N
  full : ∀ n ∈ l, n.rc.blocks.length = n.cont ∧ (0 < n.rc.more ↔ n.far = true)
  low : 0 < d ∧ d ≤ N ∧ 0 < c
/-- What place leaves of a node. -/
def Nd.bone (n : Nd) : Nd := { n with rc := { n.rc with slot := 0, blocks := [], more := 0 } }
theorem fill_bone (n : Nd) (L : List Nat) : (n.fill L).bone = n.bone := rfl
theorem slotR_bone (a0 : Nat) (n : Nd) (S : List Nat) : (n.slotR a0 S).bone = n.bone := by unfold Nd.slotR; split <;> rfl
theorem trim_bone (n : Nd) : n.trim.bone = n.bone := rfl
theorem plc_bone (a0 : Nat) : ∀ (l : List Nd) (S B : List Nat), (plc a0 l S B).map Nd.bone = l.map Nd.bone
  | [], _, _ => rfl
  | n :: l, S, B => by
    simp only [plc, List.map_cons, plc_bone a0 l, fill_bone, slotR_bone]
def keptS (a0 : Nat) (l : List Nd) : List Nat := (l.filter fun n => !n.bare a0).map fun n => n.rc.slot
theorem plc_slots (a0 : Nat) : ∀ (l : List Nd) (S B : List Nat), bares a0 l ≤ S.length → ((plc a0 l S B).map fun n => n.rc.slot).Perm (keptS a0 l ++ S.take (bares a0 l))
  | [], S, B, _ => by simp [plc, keptS, bares]
  | n :: l, S, B, h => by
    have e : bares a0 (n :: l) = (if n.bare a0 then 1 else 0) + bares a0 l := by simp [bares]
    rw [e] at h ⊢
    simp only [plc, List.map_cons]
    have es : ((n.slotR a0 S).fill B).rc.slot = (n.slotR a0 S).rc.slot := rfl
    rw [es]
    cases hb : n.bare a0
    · rw [hb] at h
      have ih := plc_slots a0 l S (B.drop (n.lack + n.lackM)) (by simpa using h)
      have e1 : (n.slotR a0 S).rc.slot = n.rc.slot := by simp [Nd.slotR, hb]
      have e2 : keptS a0 (n :: l) = n.rc.slot :: keptS a0 l := by simp [keptS, hb]
      rw [e1, e2]
      simpa using ih
    · rw [hb] at h
      simp only [if_true] at h ⊢
      cases S with
      | nil => simp at h
      | cons x S =>
        have ih := plc_slots a0 l S (B.drop (n.lack + n.lackM)) (by simp at h; omega)
        have e1 : (n.slotR a0 (x :: S)).rc.slot = x := by simp [Nd.slotR, hb]
        have e2 : keptS a0 (n :: l) = keptS a0 l := by simp [keptS, hb]
        rw [e1, e2, Nat.add_comm 1, List.take_succ_cons]
        exact (ih.cons x).trans List.perm_middle.symm
theorem slotR_parts (a0 : Nat) (n : Nd) (S : List Nat) : (n.slotR a0 S).lack = n.lack ∧ (n.slotR a0 S).lackM = n.lackM ∧ (n.slotR a0 S).rc.blocks = n.rc.blocks ∧ (n.slotR a0 S).rc.more = n.rc.more := by
  unfold Nd.slotR
  split <;> exact ⟨rfl, rfl, rfl, rfl⟩
theorem fill_blks (n : Nd) (B : List Nat) (hB : ∀ b ∈ B, 0 < b) (h : n.lack + n.lackM ≤ B.length) : (n.fill B).blks.Perm (n.blks ++ B.take (n.lack + n.lackM)) := by
  by_cases hm : n.lackM = 1
  · have hm0 : n.rc.more = 0 := by
      unfold Nd.lackM at hm
      split at hm
      · rename_i hh; exact hh.2
      · cases hm
    have hg : B.getD n.lack 0 = B[n.lack]'(by omega) := by rw [List.getD_eq_getElem?_getD, List.getElem?_eq_getElem (by omega)]; rfl
    have hp : 0 < B.getD n.lack 0 := by rw [hg]; exact hB _ (List.getElem_mem _)
    have e1 : (n.fill B).blks = n.rc.blocks ++ B.take n.lack ++ [B.getD n.lack 0] := by
      show (n.rc.blocks ++ B.take n.lack) ++ (if 0 < (if n.lackM = 1 then B.getD n.lack 0 else n.rc.more) then [if n.lackM = 1 then B.getD n.lack 0 else n.rc.more] else []) = _
      rw [if_pos hm, if_pos hp]
    have e2 : n.blks = n.rc.blocks := by simp [Nd.blks, hm0]
    rw [e1, e2, hm, List.take_succ_eq_append_getElem (by omega), hg, List.append_assoc]
  · have hm' : n.lackM = 0 := by unfold Nd.lackM at hm ⊢; split at hm; exact absurd rfl hm; simp_all
    have e1 : (n.fill B).blks = n.rc.blocks ++ B.take n.lack ++ if 0 < n.rc.more then [n.rc.more] else [] := by simp [Nd.fill, Nd.blks, hm]
    rw [e1, hm', Nat.add_zero]
    unfold Nd.blks
    rw [List.append_assoc, List.append_assoc]
    exact List.Perm.append_left _ List.perm_append_comm
theorem plc_blks (a0 : Nat) : ∀ (l : List Nd) (S B : List Nat), (∀ b ∈ B, 0 < b) → lacks l ≤ B.length → (blksL (plc a0 l S B)).Perm (blksL l ++ B.take (lacks l))
  | [], S, B, _, _ => by simp [plc, blksL, lacks]
  | n :: l, S, B, hB, h => by
    have e : lacks (n :: l) = (n.lack + n.lackM) + lacks l := by simp [lacks]
    rw [e] at h ⊢
    obtain ⟨p1, p2, p3, p4⟩ := slotR_parts a0 n S
    have h1 := fill_blks (n.slotR a0 S) B hB (by rw [p1, p2]; omega)
    rw [p1, p2] at h1
    have eb : (n.slotR a0 S).blks = n.blks := by unfold Nd.blks; rw [p3, p4]
    rw [eb] at h1
    have ih := plc_blks a0 l (if n.bare a0 then S.tail else S) (B.drop (n.lack + n.lackM)) (fun b hb => hB b (List.mem_of_mem_drop hb)) (by rw [List.length_drop]; omega)
    simp only [plc, blksL, List.flatMap_cons] at ih ⊢
    refine (h1.append ih).trans ?_
    rw [show B.take (n.lack + n.lackM + lacks l) = B.take (n.lack + n.lackM) ++ (B.drop (n.lack + n.lackM)).take (lacks l) from List.take_add, List.append_assoc, List.append_assoc]
    refine List.Perm.append_left _ ?_
    rw [← List.append_assoc, ← List.append_assoc]
    exact List.Perm.append_right _ List.perm_append_comm
theorem fill_full (n : Nd) (B : List Nat) (hB : ∀ b ∈ B, 0 < b) (h : n.lack + n.lackM ≤ B.length) (hs : Slim n) : (n.fill B).rc.blocks.length = n.cont ∧ (0 < (n.fill B).rc.more ↔ n.far = true) := by
  constructor
  · have := hs.1
    simp only [Nd.fill, List.length_append, List.length_take]
    unfold Nd.lack at h ⊢
    omega
  · by_cases hm : n.lackM = 1
    · have hg : B.getD n.lack 0 = B[n.lack]'(by omega) := by rw [List.getD_eq_getElem?_getD, List.getElem?_eq_getElem (by omega)]; rfl
      have hp : 0 < B.getD n.lack 0 := by rw [hg]; exact hB _ (List.getElem_mem _)
      have hf : n.far = true := by
        unfold Nd.lackM at hm
        split at hm
        · rename_i hh; exact hh.1
        · cases hm
      show 0 < (if n.lackM = 1 then B.getD n.lack 0 else n.rc.more) ↔ _
      rw [if_pos hm]
      exact ⟨fun _ => hf, fun _ => hp⟩
    · have e : (n.fill B).rc.more = n.rc.more := by simp [Nd.fill, hm]
      rw [e]
      refine ⟨hs.2, fun hf => ?_⟩
      refine Nat.pos_of_ne_zero fun h0 => hm ?_
      unfold Nd.lackM
      rw [if_pos ⟨hf, h0⟩]
theorem plc_full (a0 : Nat) : ∀ (l : List Nd) (S B : List Nat), (∀ b ∈ B, 0 < b) → lacks l ≤ B.length → (∀ n ∈ l, Slim n) → ∀ n ∈ plc a0 l S B, n.rc.blocks.length = n.cont ∧ (0 < n.rc.more ↔ n.far = true)
  | [], _, _, _, _, _, _, hn => by cases hn
  | m :: l, S, B, hB, h, hs, n, hn => by
    have e : lacks (m :: l) = (m.lack + m.lackM) + lacks l := by simp [lacks]
    rw [e] at h
    obtain ⟨p1, p2, p3, p4⟩ := slotR_parts a0 m S
    rcases List.mem_cons.1 hn with rfl | hn
    · have hsl : Slim (m.slotR a0 S) := by
        have := hs m (by simp)
        unfold Nd.slotR
        split
        · exact this
        · exact this
      have := fill_full (m.slotR a0 S) B hB (by rw [p1, p2]; omega) hsl
      exact this
    · exact plc_full a0 l _ (B.drop (m.lack + m.lackM)) (fun b hb => hB b (List.mem_of_mem_drop hb)) (by rw [List.length_drop]; omega) (fun x hx => hs x (by simp [hx])) n hn
theorem keptS_nz : ∀ (r : List Nd) (a0 : Nat), (∀ n ∈ r, n.addr ≠ a0) → keptS a0 r = slotsNZ r
  | [], _, _ => rfl
  | n :: r, a0, h => by
    have ih := keptS_nz r a0 (fun x hx => h x (by simp [hx]))
    have hn := h n (by simp)
    unfold keptS slotsNZ at ih ⊢
    by_cases hs : n.rc.slot = 0
    · have : n.bare a0 = true := by simp [Nd.bare, hs, hn]
      simpa [this, hs] using ih
    · have : n.bare a0 = false := by simp [Nd.bare, hs]
      simpa [this, hs] using ih
/-- What place makes of the nodes of a tree that fits. -/
theorem PreOk.placed {N d c a0 : Nat} {l : List Nd} (h : PreOk N d c a0 l) (hs : ∀ n ∈ l, Slim n) (hl : l.length ≤ c) (hc : (l.map Nd.cst).sum ≤ N - d) : SetOk N d c a0 (plc a0 l (slotsF c l) (blocksF N d l)) := by
  obtain ⟨n, r, e, h1, h2⟩ := h.head
  obtain ⟨hb1, hb2⟩ := h.bareN hl
  have hlk := h.lackN hs hc
  have hBpos : ∀ b ∈ blocksF N d l, (d ≤ b ∧ b < N) ∧ b ∉ blksL l := fun b hb => by
    unfold blocksF at hb
    rw [← setAll_append, mem_freeL] at hb
    obtain ⟨_, hb⟩ := hb
    rw [setAll_at] at hb
    simp only [Nat.sub_zero, List.getElem?_replicate] at hb
    by_cases hN : b < N
    · rw [if_pos hN] at hb
      simp only [Option.map_some, Option.some.injEq, Bool.false_or, decide_eq_false_iff_not, List.mem_append, not_or, List.mem_range] at hb
      exact ⟨⟨by omega, hN⟩, hb.2⟩
    · rw [if_neg hN] at hb; simp at hb
  have hSpos : ∀ s ∈ slotsF c l, s < c ∧ s ∉ l.map fun n => n.rc.slot := fun s hb => by
    unfold slotsF at hb
    rw [mem_freeL] at hb
    obtain ⟨_, hb⟩ := hb
    rw [setAll_at] at hb
    simp only [Nat.sub_zero, List.getElem?_replicate] at hb
    by_cases hN : s < c
    · rw [if_pos hN] at hb
      simp only [Option.map_some, Option.some.injEq, Bool.false_or, decide_eq_false_iff_not] at hb
      exact ⟨hN, hb⟩
    · rw [if_neg hN] at hb; simp at hb
  have hr : ∀ x ∈ r, x.addr ≠ a0 := fun x hx hh => by
    have := h.addrs
    rw [e, List.map_cons, List.nodup_cons] at this
    exact this.1 (by rw [h1, ← hh]; exact List.mem_map.2 ⟨x, hx, rfl⟩)
  have hk : keptS a0 l = 0 :: slotsNZ l := by
    have e2 : slotsNZ l = slotsNZ r := by rw [e]; simp [slotsNZ, h2]
    have hb : n.bare a0 = false := by simp [Nd.bare, h1]
    rw [e2, ← keptS_nz r a0 hr, e]
    simp [keptS, hb, h2]
  have hps := plc_slots a0 l (slotsF c l) (blocksF N d l) hb2
  have hpb := plc_blks a0 l (slotsF c l) (blocksF N d l) (fun b hb => by have := (hBpos b hb).1.1; have := h.low; omega) hlk
  have hsub : ∀ s ∈ keptS a0 l, s ∈ l.map fun n => n.rc.slot := fun s hs2 => by
    unfold keptS at hs2
    obtain ⟨x, hx, rfl⟩ := List.mem_map.1 hs2
    exact List.mem_map.2 ⟨x, (List.mem_filter.1 hx).1, rfl⟩
  refine ⟨?_, ?_, ?_, ?_, ?_, ?_, plc_full a0 l _ _ (fun b hb => by have := (hBpos b hb).1.1; have := h.low; omega) hlk hs, h.low⟩
  · have hb : n.bare a0 = false := by simp [Nd.bare, h1]
    rw [e]
    refine ⟨_, _, rfl, ?_, ?_⟩
    · show (n.slotR a0 _).addr = a0
      simp [Nd.slotR, hb, h1]
    · show (n.slotR a0 _).rc.slot = 0
      simp [Nd.slotR, hb, h2]
  · have : (plc a0 l (slotsF c l) (blocksF N d l)).map Nd.addr = l.map Nd.addr := by
      have := congrArg (List.map Nd.addr) (plc_bone a0 l (slotsF c l) (blocksF N d l))
      simpa [List.map_map, Function.comp_def, Nd.bone] using this
    rw [this]; exact h.addrs
  · refine hps.nodup_iff.2 (List.nodup_append.2 ⟨?_, ((freeL_nodup _ _).sublist (List.take_sublist _ _)), fun a ha b hb e => ?_⟩)
    · rw [hk]
      exact List.nodup_cons.2 ⟨by simp [slotsNZ], h.slots⟩
    · exact (hSpos b (List.mem_of_mem_take hb)).2 (by rw [← e]; exact hsub a ha)
  · intro m hm
    have : m.rc.slot ∈ keptS a0 l ++ (slotsF c l).take (bares a0 l) := hps.subset (List.mem_map.2 ⟨m, hm, rfl⟩)
    rcases List.mem_append.1 this with h3 | h3
    · obtain ⟨x, hx, e3⟩ := List.mem_map.1 (hsub _ h3)
      rw [← e3]; exact h.slotlt x hx
    · exact (hSpos _ (List.mem_of_mem_take h3)).1
  · refine hpb.nodup_iff.2 (List.nodup_append.2 ⟨h.blks, ((freeL_nodup _ _).sublist (List.take_sublist _ _)), fun a ha b hb e => ?_⟩)
    exact (hBpos b (List.mem_of_mem_take hb)).2 (by rw [← e]; exact ha)
  · intro b hb
    rcases List.mem_append.1 (hpb.subset hb) with h3 | h3
    · exact h.rng b h3
    · exact (hBpos b (List.mem_of_mem_take h3)).1
end Go.Proofs.YtiedoocgbajjjaaGreatDoor

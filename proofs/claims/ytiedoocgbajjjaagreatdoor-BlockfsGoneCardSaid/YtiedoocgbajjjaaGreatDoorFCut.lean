/-
  Layer 4: the nodes of a tree that may be: what each needs, that they fit, that its entries and records may be laid. No program text.
  Conditions: those that each theorem states.
  Layer 4: edits speak of a tree's core alone; what Do makes of a tree. No program text.
  Conditions: those that each theorem states.
  Layer 4: cut: memory as blocks.
  Conditions: those that each theorem states.
-/
import Derived.Test.YtiedoocgbajjjaaGreatDoorFCnt
import Derived.Test.YtiedoocgbajjjaaGreatDoorFFresh
import Derived.Test.YtiedoocgbajjjaaGreatDoorFPool
import Derived.Test.YtiedoocgbajjjaaGreatDoorLPut
import Derived.Great.BuildSlice
namespace Go.Proofs.YtiedoocgbajjjaaGreatDoor
open Go.RowKit Go.Maps
set_option maxRecDepth 100000

mutual
theorem nds_recs (t : ATr) : t.nds.map Nd.rc = t.er.recs := by
  match t with
  | .node a m va vb r ks =>
    have := ndsK_recs ks
    unfold AKs.nds at this
    simp only [ATr.nds, ATr.all, List.map_cons, ATr.er, PTr.recs, this]
    rfl
theorem ndsK_recs (k : AKs) : k.nds.map Nd.rc = k.er.recs := by
  match k with
  | .nil => rfl
  | .cons s t k =>
    have h1 := nds_recs t
    have h2 := ndsK_recs k
    unfold ATr.nds at h1
    unfold AKs.nds at h2
    simp only [AKs.nds, AKs.all, List.map_append, AKs.er, PKs.recs, h1, h2]
end
theorem nds_slotsR (t : ATr) : slotsNZ t.nds = slotsR t.er.recs := by
  rw [← nds_recs, slotsR, slotsNZ, List.map_map]
  rfl
theorem nds_blksR (t : ATr) : blksL t.nds = blksR t.er.recs := by
  rw [← nds_recs, blksR, blksL, List.flatMap_map]
  rfl
mutual
theorem fine_all {t : ATr} (h : t.er.fine) : ∀ s ∈ t.all, s.er.fine := by
  match t, h with
  | .node a m va vb r ks, h =>
    intro s hs
    simp only [ATr.all, List.mem_cons] at hs
    rcases hs with rfl | hs
    · exact h
    · exact fine_allK h.2.2.2 s hs
theorem fine_allK {k : AKs} (h : k.er.fine) : ∀ s ∈ k.all, s.er.fine := by
  match k, h with
  | .nil, _ => intro s hs; cases hs
  | .cons x t k, h =>
    intro s hs
    simp only [AKs.all, List.mem_append] at hs
    rcases hs with hs | hs
    · exact fine_all h.2.1 s hs
    · exact fine_allK h.2.2 s hs
end
theorem fine_parts {s : ATr} (h : s.er.fine) : s.rc.fine ∧ s.ks.kids.length ≤ 16 ∧ (s.rc.kind ≠ 2 → s.ks.kids.length = 0) ∧ s.ks.er.fine := by
  obtain ⟨a, m, va, vb, r, ks⟩ := s
  refine ⟨h.1, ?_, fun hk => ?_, h.2.2.2⟩
  · have := h.2.1
    rw [er_len] at this
    exact this
  · have := h.2.2.1 hk
    have e : ks.er.len = 0 := by rw [this]; rfl
    rw [er_len] at e
    exact e
mutual
theorem fine_small {t : ATr} (h : t.er.fine) : t.small := by
  match t, h with
  | .node a m va vb r ks, h => exact ⟨(fine_parts (s := .node a m va vb r ks) h).2.1, fine_smallK h.2.2.2⟩
theorem fine_smallK {k : AKs} (h : k.er.fine) : k.small := by
  match k, h with
  | .nil, _ => trivial
  | .cons s t k, h => exact ⟨fine_small h.2.1, fine_smallK h.2.2⟩
end
mutual
theorem fine_sm {t : PTr} (h : t.fine) : t.sm := by
  match t, h with
  | .node r ks, h => exact ⟨h.2.1, fine_smK h.2.2.2⟩
theorem fine_smK {k : PKs} (h : k.fine) : k.sm := by
  match k, h with
  | .nil, _ => trivial
  | .cons s t k, h => exact ⟨fine_sm h.2.1, fine_smK h.2.2⟩
end
/-- What a node that may be needs. -/
theorem fine_cost {s : ATr} (h : s.er.fine) : (s.cont : Int) = dataI s.rc.kind s.size ∧ s.cost = (s.nd.cst : Int) ∧ s.far = decide (6 < s.cont) ∧ s.cont ≤ 38 := by
  obtain ⟨⟨hk, hm, hb, h2, h3⟩, h16, hz, _⟩ := fine_parts h
  have hd : (s.cont : Int) = dataI s.rc.kind s.size := by
    unfold ATr.cont dataI
    obtain ⟨a, m, va, vb, r, ks⟩ := s
    simp only [ATr.rc, ATr.ks, ATr.size] at *
    rcases hk with hk | hk | hk
    · simp only [hk]; simp; split <;> omega
    · simp only [hk]; simp; split <;> omega
    · have := (h3 hk).2
      simp only [hk]; simp; split <;> omega
  have hbd := dataI_bd s.rc.kind s.size
  have hc : s.cost = if 6 < s.cont then (s.cont : Int) + 1 else s.cont := by
    unfold ATr.cost costI
    rw [← hd]
    split <;> split <;> omega
  have hf : s.far = decide (6 < s.cont) := by
    unfold ATr.far
    rw [hc]
    by_cases h6 : 6 < s.cont
    · simp [h6]; omega
    · simp [h6]
  refine ⟨hd, ?_, hf, by omega⟩
  rw [hc]
  show _ = ((s.cont + if s.far = true then 1 else 0 : Nat) : Int)
  rw [hf]
  by_cases h6 : 6 < s.cont
  · simp [h6]
  · simp [h6]
theorem costL_sum : ∀ (l : List ATr), (∀ s ∈ l, s.er.fine) → costL l = (((l.map ATr.nd).map Nd.cst).sum : Nat)
  | [], _ => rfl
  | s :: l, h => by
    have h1 := (fine_cost (h s (by simp))).2.1
    have h2 := costL_sum l (fun x hx => h x (by simp [hx]))
    simp only [costL, List.map_cons, List.sum_cons]
    omega
/-- A tree that is to be placed, made by edits of one that stands. -/
theorem pre_of {N d c a0 : Nat} {L : List Nd} (h : SetOk N d c a0 L) {base : Nat} {w : World} {t : ATr} (hM : MTr base w t) (hslot : t.rc.slot = 0) (hs : (slotsR t.er.recs).Sublist (slotsNZ L)) (hb : (blksR t.er.recs).Sublist (blksL L)) : PreOk N d c t.addr t.nds := by
  obtain ⟨a, m, va, vb, r, ks⟩ := t
  refine ⟨⟨_, _, rfl, rfl, hslot⟩, by rw [nds_addr]; exact hM.addrs, ?_, ?_, ?_, ?_, h.low⟩
  · rw [nds_slotsR]
    exact hs.nodup (h.slots.sublist List.filter_sublist)
  · intro n hn
    by_cases h0 : n.rc.slot = 0
    · rw [h0]; exact h.low.2.2
    · have : n.rc.slot ∈ slotsNZ (ATr.node a m va vb r ks).nds := List.mem_filter.2 ⟨List.mem_map.2 ⟨n, hn, rfl⟩, by simpa using h0⟩
      rw [nds_slotsR] at this
      have := hs.subset this
      obtain ⟨x, hx, e⟩ := List.mem_map.1 (List.mem_filter.1 this).1
      rw [← e]; exact h.slotlt x hx
  · rw [nds_blksR]; exact hb.nodup h.blks
  · rw [nds_blksR]; exact fun b hb2 => h.rng b (hb.subset hb2)
/-- The records of a tree that stands may be laid. -/
theorem set_valid {N d c a0 : Nat} {t : ATr} (h : SetOk N d c a0 t.nds) (hN : N ≤ 4096) (hf : t.er.fine) {s : ATr} (hs : s ∈ t.all) : validB s.rc.kind s.rc.mode s.size s.rc.more (natI s.rc.blocks) = true := by
  have hfs := fine_all hf s hs
  obtain ⟨hd, hc, hfar, h38⟩ := fine_cost hfs
  obtain ⟨⟨hk, hm, hb, h2, h3⟩, _⟩ := fine_parts hfs
  have hnd : s.nd ∈ t.nds := List.mem_map.2 ⟨s, hs, rfl⟩
  obtain ⟨f1, f2⟩ := h.full _ hnd
  have f1' : s.rc.blocks.length = s.cont := f1
  have f2' : 0 < s.rc.more ↔ s.far = true := f2
  have hin : ∀ b ∈ s.nd.blks, d ≤ b ∧ b < N := fun b hb => h.rng b (List.mem_flatMap.2 ⟨_, hnd, hb⟩)
  have hd0 := h.low.1
  have hall : (natI s.rc.blocks).all sndB = true := by
    rw [List.all_eq_true]
    intro x hx
    obtain ⟨b, hb2, rfl⟩ := List.mem_map.1 hx
    have := hin b (List.mem_append.2 (.inl hb2))
    unfold sndB
    exact decide_eq_true ⟨by omega, by omega⟩
  have hhead : headB s.rc.mode (dataI s.rc.kind s.size) s.rc.more = true := by
    unfold headB
    rw [← hd]
    rw [decide_eq_true hm, Bool.true_and]
    rw [hfar] at f2'
    by_cases h6 : 6 < s.cont
    · rw [if_pos (by omega)]
      have hp := f2'.2 (by simpa using h6)
      have := hin s.rc.more (List.mem_append.2 (.inr (by
        show s.rc.more ∈ if 0 < s.rc.more then [s.rc.more] else []
        rw [if_pos hp]; simp)))
      unfold sndB
      exact decide_eq_true ⟨by omega, by omega⟩
    · rw [if_neg (by omega)]
      have : ¬ 0 < s.rc.more := fun hh => by have := f2'.1 hh; simp at this; omega
      exact decide_eq_true (by omega)
  simp only [validB, Bool.and_eq_true, decide_eq_true_eq]
  refine ⟨⟨⟨by rw [← hd]; omega, ?_⟩, hhead⟩, hall⟩
  rw [natI_length, ← hd, f1']
theorem before_less : ∀ {p q : List UInt8}, bytesBefore p q = true → lessB p q = true
  | [], [], h => by cases h
  | [], _ :: _, _ => rfl
  | _ :: _, [], h => by cases h
  | a :: x, b :: y, h => by
    unfold lessB
    simp only [bytesBefore, Bool.or_eq_true, Bool.and_eq_true, decide_eq_true_eq, beq_iff_eq] at h
    simp only [Op.bytesLess, Bool.or_eq_true, Bool.and_eq_true, decide_eq_true_eq, beq_iff_eq]
    rcases h with h | ⟨h1, h2⟩
    · exact .inl h
    · exact .inr ⟨h1, before_less h2⟩
theorem fine_names : ∀ {k : AKs}, k.er.fine → ∀ p ∈ k.toList, nameB p.1 = true
  | .nil, _, p, hp => by cases hp
  | .cons s t k, h, p, hp => by
    simp only [AKs.toList, List.mem_cons] at hp
    rcases hp with rfl | hp
    · exact h.1
    · exact fine_names h.2.2 p hp
mutual
/-- A tree's own entries are among its nodes. -/
theorem kids_all : ∀ {t s : ATr}, s ∈ t.all → ∀ p ∈ s.ks.toList, p.2 ∈ t.all
  | .node a m va vb r ks, s, hs, p, hp => by
    simp only [ATr.all, List.mem_cons] at hs ⊢
    rcases hs with rfl | hs
    · refine .inr ?_
      show p.2 ∈ ks.all
      rw [AKs.all_list]
      exact List.mem_flatMap.2 ⟨p, hp, by rw [ATr.all_ks]; simp⟩
    · exact .inr (kids_allK hs p hp)
theorem kids_allK : ∀ {k : AKs} {s : ATr}, s ∈ k.all → ∀ p ∈ s.ks.toList, p.2 ∈ k.all
  | .nil, s, hs, _, _ => by cases hs
  | .cons x t k, s, hs, p, hp => by
    simp only [AKs.all, List.mem_append] at hs ⊢
    rcases hs with hs | hs
    · exact .inl (kids_all hs p hp)
    · exact .inr (kids_allK hs p hp)
end
mutual
theorem kids_below : ∀ {t s : ATr}, s ∈ t.all → ∀ p ∈ s.ks.toList, p.2 ∈ t.ks.all
  | .node a m va vb r ks, s, hs, p, hp => by
    simp only [ATr.all, List.mem_cons] at hs
    rcases hs with rfl | hs
    · show p.2 ∈ ks.all
      rw [AKs.all_list]
      exact List.mem_flatMap.2 ⟨p, hp, by rw [ATr.all_ks]; simp⟩
    · exact kids_allK hs p hp
theorem kids_belowK : True := trivial
end
/-- The entries of a directory of a tree that stands may be laid. -/
theorem set_good {N d c a0 : Nat} {t : ATr} (h : SetOk N d c a0 t.nds) (hc : c ≤ 64) (hf : t.er.fine) {w : World} (hT : TrOk w t) (hslot : t.rc.slot = 0) {s : ATr} (hs : s ∈ t.all) : goodB s.ks.ents = true := by
  have hso : TrOk w s := (hT.mem (fine_small hf) s hs).1
  have hsort := hso.sorted
  have hfs := fine_all hf s hs
  refine good_of fun i hi => ?_
  have hi' : i < s.ks.toList.length := by rw [AKs.ents_list] at hi; simpa using hi
  have ei : s.ks.ents[i] = ((s.ks.toList[i].2.rc.slot : Int), s.ks.toList[i].1) := by simp [AKs.ents_list]
  have hmem : s.ks.toList[i] ∈ s.ks.toList := List.getElem_mem hi'
  constructor
  · rw [ei]
    have hb := kids_below hs _ hmem
    have hx : s.ks.toList[i].2.nd ∈ t.nds := List.mem_map.2 ⟨_, kids_all hs _ hmem, rfl⟩
    have h1 := h.slotlt _ hx
    have h0 : s.ks.toList[i].2.rc.slot ≠ 0 := fun e0 => by
      have hn := h.slots
      have : t.nds = t.nd :: t.ks.nds := by rw [ATr.nds, ATr.all_ks]; rfl
      rw [this, List.map_cons, List.nodup_cons] at hn
      exact hn.1 (by
        show t.rc.slot ∈ _
        rw [hslot, ← e0]
        exact List.mem_map.2 ⟨_, List.mem_map.2 ⟨_, hb, rfl⟩, rfl⟩)
    have h1' : s.ks.toList[i].2.rc.slot < c := h1
    unfold entB
    simp only [Bool.and_eq_true, decide_eq_true_eq]
    exact ⟨⟨by omega, by omega⟩, fine_names (fine_parts hfs).2.2.2 _ hmem⟩
  · intro h0
    have hi2 : i - 1 < s.ks.toList.length := by omega
    have ei2 : s.ks.ents[i - 1]'(by omega) = ((s.ks.toList[i - 1].2.rc.slot : Int), s.ks.toList[i - 1].1) := by simp [AKs.ents_list]
    rw [ei, ei2]
    refine before_less ?_
    rw [AKs.names_list, List.pairwise_map] at hsort
    exact List.pairwise_iff_getElem.1 hsort (i - 1) i hi2 hi' (by omega)
mutual
/-- As many entries as nodes, beside the root. -/
theorem kn_sum (t : ATr) : (t.nds.map Nd.kn).sum + 1 = t.all.length := by
  match t with
  | .node a m va vb r ks =>
    have := kn_sumK ks
    unfold AKs.nds at this
    simp only [ATr.nds, ATr.all, List.map_cons, List.sum_cons, List.length_cons]
    show ks.kids.length + _ + 1 = _
    omega
theorem kn_sumK (k : AKs) : (k.nds.map Nd.kn).sum + k.kids.length = k.all.length := by
  match k with
  | .nil => rfl
  | .cons s t k =>
    have h1 := kn_sum t
    have h2 := kn_sumK k
    unfold ATr.nds at h1
    unfold AKs.nds at h2
    simp only [AKs.nds, AKs.all, List.map_append, List.sum_append, AKs.kids, List.length_cons, List.length_append]
    omega
end
/-- How many blocks are written for what is fresh. -/
def Nd.wr (n : Nd) : Nat := if n.rc.fresh then n.cst else 0
theorem wr_bound : ∀ (l : List ATr), (∀ s ∈ l, s.er.fine) → 384 * ((l.map ATr.nd).map Nd.wr).sum ≤ 7 * muL fB ((l.map ATr.nd).map Nd.rc) + 384 * muL fF ((l.map ATr.nd).map Nd.rc) + 384 * muL fD ((l.map ATr.nd).map Nd.rc) + 224 * ((l.map ATr.nd).map Nd.kn).sum
  | [], _ => by simp [muL]
  | s :: l, h => by
    have ih := wr_bound l (fun x hx => h x (by simp [hx]))
    have hs := h s (by simp)
    obtain ⟨⟨hk, hm, hb, h2, h3⟩, h16, hz, _⟩ := fine_parts hs
    obtain ⟨hd, hc, hfar, h38⟩ := fine_cost hs
    have one : 384 * s.nd.wr ≤ 7 * fB s.rc + 384 * fF s.rc + 384 * fD s.rc + 224 * s.nd.kn := by
      unfold Nd.wr fB fF fD
      have e1 : s.nd.rc = s.rc := rfl
      have e2 : s.nd.kn = s.ks.kids.length := rfl
      rw [e1, e2]
      cases hfr : s.rc.fresh
      · simp
      · have ec : s.nd.cst = s.cont + if 6 < s.cont then 1 else 0 := by
          show s.cont + (if s.far = true then 1 else 0) = _
          rw [hfar]
          simp
        rw [ec]
        by_cases hk2 : s.rc.kind = 2
        · have hco : s.cont = (s.ks.kids.length * 32 + 63) / 64 := by
            obtain ⟨a, m, va, vb, r, ks⟩ := s
            have hk2' : r.kind = 2 := hk2
            simp only [ATr.cont, ATr.rc, ATr.size, if_pos hk2', ATr.ks]
          simp only [hk2]
          simp
          split <;> omega
        · have hco : s.cont = (s.rc.bytes.length + 63) / 64 := by
            obtain ⟨a, m, va, vb, r, ks⟩ := s
            have hk2' : ¬ r.kind = 2 := hk2
            simp only [ATr.cont, ATr.rc, ATr.size, if_neg hk2']
          simp [hk2]
          split <;> omega
    simp only [List.map_cons, List.sum_cons, muL_cons]
    have e1 : s.nd.rc = s.rc := rfl
    rw [e1]
    omega
end Go.Proofs.YtiedoocgbajjjaaGreatDoor

namespace Go.Proofs.YtiedoocgbajjjaaGreatDoor
open Go.RowKit Go.Maps
set_option maxRecDepth 100000

theorem tr_parts {t u : PTr} (h : t.core = u.core) : t.rc.core = u.rc.core ∧ t.ks.core = u.ks.core := by
  obtain ⟨r, k⟩ := t
  obtain ⟨r2, k2⟩ := u
  simp only [PTr.core] at h
  injection h with h1 h2
  exact ⟨h1, h2⟩
theorem rc_parts {r s : NRec} (h : r.core = s.core) : r.kind = s.kind ∧ r.mode = s.mode ∧ r.bytes = s.bytes := by
  unfold NRec.core at h
  injection h with h1 h2 h3
  exact ⟨h1, h2, h3⟩
theorem core_mk {r s : NRec} {k l : PKs} (h1 : r.core = s.core) (h2 : k.core = l.core) : (PTr.node r k).core = (PTr.node s l).core := by simp only [PTr.core, h1, h2]
theorem core_getE {k l : PKs} (h : k.core = l.core) (s : List UInt8) : (k.get s).map PTr.core = (l.get s).map PTr.core := by rw [← PKs.core_get, ← PKs.core_get, h]
theorem core_len {k l : PKs} (h : k.core = l.core) : k.len = l.len := by rw [← PKs.len_names, ← PKs.core_names k, h, PKs.core_names, PKs.len_names]
theorem core_set : ∀ (k : PKs) (s : List UInt8) (u : PTr), (k.set s u).core = k.core.set s u.core
  | .nil, _, _ => rfl
  | .cons s' t k, s, u => by
    simp only [PKs.set, PKs.core]
    split
    · rfl
    · simp only [PKs.core, core_set k s u]
theorem core_ins : ∀ (k : PKs) (s : List UInt8) (u : PTr), (k.ins s u).core = k.core.ins s u.core
  | .nil, _, _ => rfl
  | .cons s' t k, s, u => by
    simp only [PKs.ins, PKs.core]
    split
    · rfl
    · simp only [PKs.core, core_ins k s u]
theorem core_del : ∀ (k : PKs) (s : List UInt8), (k.del s).core = k.core.del s
  | .nil, _ => rfl
  | .cons s' t k, s => by
    simp only [PKs.del, PKs.core]
    split
    · exact core_del k s
    · simp only [PKs.core, core_del k s]
/-- Two answers that tell the same. -/
def SameA (a b : Int × PTr) : Prop := a.1 = b.1 ∧ a.2.core = b.2.core
theorem get_cases {k l : PKs} (h : k.core = l.core) (s : List UInt8) : (k.get s = none ∧ l.get s = none) ∨ ∃ u v, k.get s = some u ∧ l.get s = some v ∧ u.core = v.core := by
  have := core_getE h s
  cases hk : k.get s with
  | none =>
    rw [hk] at this
    cases hl : l.get s with
    | none => exact .inl ⟨rfl, rfl⟩
    | some v => rw [hl] at this; cases this
  | some u =>
    rw [hk] at this
    cases hl : l.get s with
    | none => rw [hl] at this; cases this
    | some v =>
      rw [hl] at this
      injection this with this
      exact .inr ⟨u, v, rfl, rfl, this⟩
theorem put_congr {p r : PTr} (h : p.core = r.core) (s : List UInt8) (kind mode : Int) (L : List UInt8) : SameA (p.put s kind mode L) (r.put s kind mode L) := by
  obtain ⟨h1, h2⟩ := tr_parts h
  unfold PTr.put
  rcases get_cases h2 s with ⟨e1, e2⟩ | ⟨u, v, e1, e2, e⟩
  · rw [e1, e2, core_len h2]
    simp only
    split
    · exact ⟨rfl, h⟩
    · refine ⟨rfl, core_mk ?_ ?_⟩
      · obtain ⟨a, b, c⟩ := rc_parts h1
        simp only [NRec.core, a, b, c]
      · rw [core_ins, core_ins, h2]
  · rw [e1, e2]
    obtain ⟨a, b⟩ := tr_parts e
    obtain ⟨a1, a2, a3⟩ := rc_parts a
    simp only [a1]
    split
    · refine ⟨rfl, core_mk h1 ?_⟩
      rw [core_set, core_set, h2]
      congr 1
      refine core_mk ?_ b
      simp only [NRec.core]
    · exact ⟨rfl, h⟩
theorem setM_congr {p r : PTr} (h : p.core = r.core) (s : List UInt8) (mode : Int) : SameA (p.setM s mode) (r.setM s mode) := by
  obtain ⟨h1, h2⟩ := tr_parts h
  unfold PTr.setM
  rcases get_cases h2 s with ⟨e1, e2⟩ | ⟨u, v, e1, e2, e⟩
  · rw [e1, e2]; exact ⟨rfl, h⟩
  · rw [e1, e2]
    obtain ⟨a, b⟩ := tr_parts e
    obtain ⟨a1, a2, a3⟩ := rc_parts a
    simp only [a1]
    split
    · exact ⟨rfl, h⟩
    · refine ⟨rfl, core_mk h1 ?_⟩
      rw [core_set, core_set, h2]
      congr 1
      refine core_mk ?_ b
      simp only [NRec.core, a3]
theorem dropP_congr {p r : PTr} (h : p.core = r.core) (s : List UInt8) : SameA (p.dropP s) (r.dropP s) := by
  obtain ⟨h1, h2⟩ := tr_parts h
  obtain ⟨a, b, c⟩ := rc_parts h1
  unfold PTr.dropP
  rcases get_cases h2 s with ⟨e1, e2⟩ | ⟨u, v, e1, e2, e⟩
  · rw [e1, e2]; exact ⟨rfl, h⟩
  · rw [e1, e2]
    refine ⟨rfl, core_mk ?_ ?_⟩
    · simp only [NRec.core, a, b, c]
    · rw [core_del, core_del, h2]
theorem editE_congr {p r : PTr} (h : p.core = r.core) (s : List UInt8) (kind mode : Int) (L : List UInt8) : SameA (p.editE s kind mode L) (r.editE s kind mode L) := by
  unfold PTr.editE
  split
  · exact put_congr h _ _ _ _
  split
  · exact put_congr h _ _ _ _
  split
  · split
    · exact ⟨rfl, h⟩
    · exact put_congr h _ _ _ _
  split
  · exact setM_congr h _ _
  · exact dropP_congr h _
theorem editR_congr {p r : PTr} (h : p.core = r.core) (kind mode : Int) : SameA (p.editR kind mode) (r.editR kind mode) := by
  obtain ⟨h1, h2⟩ := tr_parts h
  obtain ⟨a, b, c⟩ := rc_parts h1
  unfold PTr.editR
  split
  · exact ⟨rfl, h⟩
  split
  · exact ⟨rfl, h⟩
  · exact ⟨rfl, core_mk (by simp only [NRec.core, a, c]) h2⟩
theorem folP_congr : ∀ (ns : List (List UInt8)) {t u : PTr}, t.core = u.core → (folP t ns).1 = (folP u ns).1 ∧ (folP t ns).2.map PTr.core = (folP u ns).2.map PTr.core
  | [], t, u, h => ⟨rfl, by simp only [folP, Option.map_some, h]⟩
  | s :: l, t, u, h => by
    obtain ⟨h1, h2⟩ := tr_parts h
    simp only [folP, (rc_parts h1).1]
    split
    · rcases get_cases h2 s with ⟨e1, e2⟩ | ⟨x, y, e1, e2, e⟩
      · rw [e1, e2]; exact ⟨rfl, rfl⟩
      · rw [e1, e2]; exact folP_congr l e
    · exact ⟨rfl, rfl⟩
theorem putP_congr : ∀ (ns : List (List UInt8)) {t u x y : PTr}, t.core = u.core → x.core = y.core → (t.putP ns x).core = (u.putP ns y).core
  | [], _, _, _, _, _, h => h
  | s :: l, t, u, x, y, h, hx => by
    obtain ⟨h1, h2⟩ := tr_parts h
    simp only [PTr.putP]
    rcases get_cases h2 s with ⟨e1, e2⟩ | ⟨a, b, e1, e2, e⟩
    · rw [e1, e2]; exact h
    · rw [e1, e2]
      refine core_mk h1 ?_
      rw [core_set, core_set, h2, putP_congr l e hx]
theorem edit_congr {t u : PTr} (h : t.core = u.core) (kind mode : Int) (path L : List UInt8) : SameA (t.edit kind mode path L) (u.edit kind mode path L) := by
  unfold PTr.edit
  split
  · exact ⟨rfl, h⟩
  cases pathO path with
  | none => exact ⟨rfl, h⟩
  | some ns =>
    simp only
    cases ns.getLast? with
    | none => exact editR_congr h _ _
    | some s =>
      simp only
      obtain ⟨f1, f2⟩ := folP_congr ns.dropLast h
      obtain ⟨c1, o1, e1⟩ : ∃ c o, folP t ns.dropLast = (c, o) := ⟨_, _, rfl⟩
      obtain ⟨c2, o2, e2⟩ : ∃ c o, folP u ns.dropLast = (c, o) := ⟨_, _, rfl⟩
      rw [e1, e2] at f1 f2
      rw [e1, e2]
      cases o1 with
      | none =>
        cases o2 with
        | none => exact ⟨f1, h⟩
        | some _ => cases f2
      | some p =>
        cases o2 with
        | none => cases f2
        | some r =>
          injection f2 with f2
          simp only [(rc_parts (tr_parts f2).1).1]
          split
          · have he := editE_congr f2 s kind mode L
            exact ⟨he.1, putP_congr _ h he.2⟩
          · exact ⟨rfl, h⟩
theorem edits_congr : ∀ (l : List EdP) {t u : PTr}, t.core = u.core → SameA (t.edits l) (u.edits l)
  | [], _, _, h => ⟨rfl, h⟩
  | x :: l, t, u, h => by
    have he := edit_congr h x.kind x.mode x.path x.bytes
    simp only [PTr.edits, he.1]
    split
    · exact edits_congr l he.2
    · exact he
mutual
theorem plain_core (t : PTr) : t.plain.core = t.core := by
  match t with
  | .node r k => simp only [PTr.plain, PTr.core, plain_coreK k]; rfl
theorem plain_coreK (k : PKs) : k.plain.core = k.core := by
  match k with
  | .nil => rfl
  | .cons s t k => simp only [PKs.plain, PKs.core, plain_core t, plain_coreK k]
end
mutual
theorem core_core (t : PTr) : t.core.core = t.core := by
  match t with
  | .node r k => simp only [PTr.core, core_coreK k]; rfl
theorem core_coreK (k : PKs) : k.core.core = k.core := by
  match k with
  | .nil => rfl
  | .cons s t k => simp only [PKs.core, core_core t, core_coreK k]
end
mutual
/-- How many blocks a tree takes. -/
def PTr.costP : PTr → Int
  | .node r ks => costI r.kind ((if r.kind = 2 then ks.len else r.bytes.length : Nat) : Int) + ks.costP
def PKs.costP : PKs → Int
  | .nil => 0
  | .cons _ t k => t.costP + k.costP
end
mutual
theorem costP_core {t u : PTr} (h : t.core = u.core) : t.costP = u.costP := by
  match t, u, h with
  | .node r k, .node s l, h =>
    simp only [PTr.core] at h
    injection h with h1 h2
    obtain ⟨a, b, c⟩ := rc_parts h1
    simp only [PTr.costP, a, c, core_len h2, costP_coreK h2]
theorem costP_coreK {k l : PKs} (h : k.core = l.core) : k.costP = l.costP := by
  match k, l, h with
  | .nil, .nil, _ => rfl
  | .nil, .cons _ _ _, h => simp [PKs.core] at h
  | .cons _ _ _, .nil, h => simp [PKs.core] at h
  | .cons s t k, .cons s2 t2 l, h =>
    simp only [PKs.core] at h
    injection h with h1 h2 h3
    simp only [PKs.costP, costP_core h2, costP_coreK h3]
end
mutual
theorem recs_core {t u : PTr} (h : t.core = u.core) : t.recs.length = u.recs.length := by
  match t, u, h with
  | .node r k, .node s l, h =>
    simp only [PTr.core] at h
    injection h with h1 h2
    simp only [PTr.recs, List.length_cons, recs_coreK h2]
theorem recs_coreK {k l : PKs} (h : k.core = l.core) : k.recs.length = l.recs.length := by
  match k, l, h with
  | .nil, .nil, _ => rfl
  | .nil, .cons _ _ _, h => simp [PKs.core] at h
  | .cons _ _ _, .nil, h => simp [PKs.core] at h
  | .cons s t k, .cons s2 t2 l, h =>
    simp only [PKs.core] at h
    injection h with h1 h2 h3
    simp only [PKs.recs, List.length_append, recs_core h2, recs_coreK h3]
end
mutual
theorem cost_er (t : ATr) : costL t.all = t.er.costP := by
  match t with
  | .node a m va vb r ks =>
    have := cost_erK ks
    simp only [ATr.all, costL, ATr.er, PTr.costP, this]
    congr 1
    unfold ATr.cost ATr.size
    simp only [ATr.rc, er_len]
theorem cost_erK (k : AKs) : costL k.all = k.er.costP := by
  match k with
  | .nil => rfl
  | .cons s t k =>
    simp only [AKs.all, costL_append, AKs.er, PKs.costP, cost_er t, cost_erK k]
end
theorem recs_len (t : ATr) : t.er.recs.length = t.all.length := by
  rw [← nds_recs, List.length_map, nds_length]
/-- What Do makes of a tree. -/
def doP (N q : Nat) (t : PTr) (l : List EdP) : Int × PTr :=
  if 24 < l.length ∨ 2432 < edsB l then (5, t) else if (t.edits l).1 ≠ 0 then ((t.edits l).1, t) else if 64 < (t.edits l).2.recs.length then (44, t) else if (N : Int) - ((233 + q : Nat) : Int) < (t.edits l).2.costP then (3, t) else (0, (t.edits l).2)
theorem doP_congr {t u : PTr} (h : t.core = u.core) (N q : Nat) (l : List EdP) : SameA (doP N q t l) (doP N q u l) := by
  obtain ⟨h1, h2⟩ := edits_congr l h
  unfold doP
  rw [h1, recs_core h2, costP_core h2]
  split
  · exact ⟨rfl, h⟩
  split
  · exact ⟨rfl, h⟩
  split
  · exact ⟨rfl, h⟩
  split
  · exact ⟨rfl, h⟩
  · exact ⟨rfl, h2⟩
end Go.Proofs.YtiedoocgbajjjaaGreatDoor

namespace Go.Proofs.YtiedoocgbajjjaaGreatDoor
open Go.RowKit Go.Maps
set_option maxRecDepth 100000

theorem zeroB (w : World) : (zeroValue 77).run Tryz.prog w = .ok (.agg (bvA (zerosL 64))) w := by kernel_rfl
theorem sizeB : (Tryz.prog.info? 77).map (·.size) = some 64 := by kernel_rfl
theorem elemB : ElemOk Tryz.prog 79 77 (.agg (bvA (zerosL 64))) 64 64 := ⟨Tryz.underlying79, by kernel_rfl, rfl, by omega⟩
/-- How many blocks bytes fill; the bytes of these blocks. -/
def blkN (M : List UInt8) : Nat := (M.length + 63) / 64
def padL (M : List UInt8) : List UInt8 := M ++ zerosL (64 * blkN M - M.length)
theorem padL_length (M : List UInt8) : (padL M).length = 64 * blkN M := by
  have : M.length ≤ 64 * blkN M := by unfold blkN; omega
  simp [padL, zerosL]
  omega
/-- The j-th block's bytes: those that are left, as many as go in, and noughts. -/
theorem pad_at {M : List UInt8} {j : Nat} (hj : j < blkN M) : (padL M).take (64 * (j + 1)) = (padL M).take (64 * j) ++ ((M.drop (64 * j)).take 64 ++ zerosL (64 - min (M.length - 64 * j) 64)) := by
  have h1 : 64 * j < M.length := by unfold blkN at hj; omega
  rw [show 64 * (j + 1) = 64 * j + 64 by omega, List.take_add]
  congr 1
  unfold padL
  rw [List.drop_append_of_le_length (by omega), List.take_append, List.length_drop]
  congr 1
  simp only [zerosL, List.take_replicate]
  congr 1
  unfold blkN
  omega
/-- Behind j blocks. -/
structure CutSt (w : World) (M : List UInt8) (j : Nat) (v : Value) (wr : World) : Prop where
  own : wr.ownsRow w.heap.size 77 64 v j (bv ((padL M).take (64 * j)))
  kept : Kept [] w wr
theorem CutSt.next {w wr : World} {M : List UInt8} {j : Nat} {v : Value} (R : CutSt w M j v wr) (hj : j < blkN M) (hM : M.length ≤ 100000) {L : List UInt8} (hL : (M.drop (64 * j)).take 64 ++ zerosL (64 - min (M.length - 64 * j) 64) = L) :
    ∃ v' w7, (Builtin.append_ #[79, 79] 79 #[v, .slice (some ⟨wr.heap.size, 0, none⟩) 1 1]).run Tryz.prog (wr.alloc (.cells (bvA L) 77)) = .ok v' w7 ∧ CutSt w M (j + 1) v' w7 := by
  have hs0 : w.heap.size ≤ (wr.alloc (.cells (bvA L) 77)).heap.size := by rw [size_alloc]; have := R.kept.size; omega
  have hLl : L.length = 64 := by
    rw [← hL]
    simp [zerosL]
    omega
  have hjb : j ≤ 2000 := by unfold blkN at hj; omega
  obtain ⟨v', w7, hrun, hown, hk7, _⟩ := own_app elemB 79 (wr.alloc (.cells (bvA L) 77)) w.heap.size v j _ (World.ownsRow.alloc R.own _) ⟨wr.heap.size, 0, none⟩ 1 1 (bv L) (by rw [bv_length, hLl])
    (fun q u hu => by
      rw [Addr.add_mid, Nat.zero_add, cell_of_row _ _ q _ _ _ (heap_alloc_last wr _)]
      simpa [bvA] using hu) (bv_one L) (by unfold maxLen; omega) (by omega) hs0
  refine ⟨v', w7, hrun, ?_, (R.kept.trans (Kept.alloc _ _ _)).own (World.ownsRow.alloc R.own _) (Nat.le_refl _) hk7⟩
  rw [pad_at hj, hL, show bv ((padL M).take (64 * j) ++ L) = bv ((padL M).take (64 * j)) ++ bv L by simp [bv]]
  exact hown
theorem blkN_pos {M : List UInt8} {j : Nat} : j < blkN M ↔ 64 * j < M.length := by unfold blkN; omega

theorem fold_set : ∀ (l : List Value) (k : Nat) (z : Array Value), k + l.length ≤ z.size → ((l.zipIdx k).foldl (fun cs (x : Value × Nat) => cs.setIfInBounds x.2 x.1) z).toList = z.toList.take k ++ l ++ z.toList.drop (k + l.length)
  | [], k, z, _ => by simp
  | c :: l, k, z, h => by
    simp only [List.length_cons] at h
    simp only [List.zipIdx_cons, List.foldl_cons]
    rw [fold_set l (k + 1) _ (by simp; omega)]
    rw [Array.toList_setIfInBounds]
    have hk : k < z.toList.length := by simp; omega
    rw [List.take_set, List.take_succ_eq_append_getElem hk, List.set_append_right _ _ (by simp; omega)]
    have e1 : k - (List.take k z.toList).length = 0 := by simp; omega
    rw [e1, List.set_cons_zero, List.drop_set_of_lt (by omega), List.length_cons]
    simp [Nat.add_assoc, Nat.add_comm 1]
theorem fold_all (cells z : Array Value) (h : cells.size = z.size) : cells.zipIdx.foldl (fun cs (x : Value × Nat) => cs.setIfInBounds (0 + x.2) x.1) z = cells := by
  apply Array.toList_inj.1
  rw [← Array.foldl_toList, Array.toList_zipIdx]
  have := fold_set cells.toList 0 z (by simp; omega)
  simp only [Nat.zero_add]
  rw [this]
  simp [h]
/-- A slice of one value that is a whole row. -/
theorem run_buildOne {P : Program} (w : World) (t e : TypeId) (cells : Array Value) (ie : TypeInfo) (z : Value) (hu : P.underlying t = some (.slice e)) (hie : P.info? e = some ie) (hz : ie.zero = some z) (hn : cells.size = ie.size) (h0 : 0 < ie.size) (h1 : ie.size ≤ 2 ^ 24) :
    (Instr.buildSlice t 1 #[(0, .agg cells)]).run P w = .ok (.slice (some ⟨w.heap.size, 0, none⟩) 1 1) (w.alloc (.cells cells e)) := by
  refine run_buildSlice w t e 1 _ cells ie z hu hie hz (by omega) (by omega) ?_
  have hsz : ((Array.range (1 * ie.size)).map (z.cells[· % z.cells.size]!)).size = ie.size := by simp
  generalize ((Array.range (1 * ie.size)).map (z.cells[· % z.cells.size]!)) = zs at hsz
  have hb : ((Value.agg cells).cells.size ≠ ie.size || 0 * ie.size + (Value.agg cells).cells.size > zs.size) = false := by
    have e : (Value.agg cells).cells = cells := rfl
    rw [e]
    simp [hn, hsz]
  show (if ((Value.agg cells).cells.size ≠ ie.size || 0 * ie.size + (Value.agg cells).cells.size > zs.size) = true then none else Instr.fill (fun i => some (i * ie.size, ie.size)) ((Value.agg cells).cells.zipIdx.foldl (fun cs (c, j) => cs.setIfInBounds (0 * ie.size + j) c) zs) []) = some cells
  rw [hb]
  show some _ = some cells
  congr 1
  rw [Nat.zero_mul]
  exact fold_all cells zs (by rw [hsz, hn])
/-- A slice of one block. -/
theorem run_buildBlk (w : World) (L : List UInt8) (hL : L.length = 64) : (Instr.buildSlice 79 1 #[(0, .agg (bvA L))]).run Tryz.prog w = .ok (.slice (some ⟨w.heap.size, 0, none⟩) 1 1) (w.alloc (.cells (bvA L) 77)) := by
  obtain ⟨i, hi, hz, hs, hb⟩ := info_parts elemB.info
  exact run_buildOne w _ _ _ i _ Tryz.underlying79 hi hz (by rw [hs, bvA_size, hL]) (by rw [hs]; omega) (by rw [hs]; omega)
end Go.Proofs.YtiedoocgbajjjaaGreatDoor

/-
  Layer 4: a node of a tree is changed in its own row, other memory beside it: what that is for the whole tree.
  Conditions: those that each theorem states.
  Layer 4: fill: a node takes the blocks that it lacks.
  Conditions: those that each theorem states.
-/
import Derived.Test.YtiedoocgbajjjaaGreatDoorFPool
import Derived.Test.YtiedoocgbajjjaaGreatDoorFBlks
import Derived.Deep.LoopGhost
namespace Go.Proofs.YtiedoocgbajjjaaGreatDoor
open Go.RowKit Go.Maps
set_option maxRecDepth 100000

/-- A tree is changed in place, and the blocks ex beside it. -/
structure Placed (ex : List Nat) (base : Nat) (w w' : World) (t t' : ATr) : Prop where
  kept : Kept (ex ++ t.foot) w w'
  m : MTr base w' t'
  addr : t'.addr = t.addr
  foot : ∀ b ∈ t'.foot, b ∈ t.foot ∨ w.heap.size ≤ b
  core : t'.er.core = t.er.core
theorem Placed.still {ex : List Nat} {base : Nat} {w w' : World} {t : ATr} (h : MTr base w t) (hk : Kept ex w w') (hx : ∀ b ∈ ex, NoBytes w b ∧ b ∉ t.foot) : Placed ex base w w' t t :=
  ⟨hk.mono (fun _ hq _ => List.mem_append.2 (.inl hq)), ⟨(TrOk.frame hk (fun b hb => (hx b hb).1) h.ok h.own (fun b hb => (hx b hb).2)).1, (TrOk.frame hk (fun b hb => (hx b hb).1) h.ok h.own (fun b hb => (hx b hb).2)).2, h.nodup⟩, rfl, fun _ hb => .inl hb, rfl⟩
theorem Placed.trans {ex : List Nat} {base : Nat} {w w1 w2 : World} {t t1 t2 : ATr} (T : Placed ex base w w1 t t1) (U : Placed ex base w1 w2 t1 t2) : Placed ex base w w2 t t2 :=
  ⟨T.kept.andThen U.kept (fun i hi => by
    rcases List.mem_append.1 hi with h | h
    · exact .inl (List.mem_append.2 (.inl h))
    · exact (T.foot i h).imp (fun h => List.mem_append.2 (.inr h)) id), U.m, U.addr.trans T.addr, fun b hb => by
    rcases U.foot b hb with h | h
    · exact T.foot b h
    · exact .inr (Nat.le_trans T.kept.size h), U.core.trans T.core⟩
/-- A node's own row is written; its row of numbers is its old one or a new one. -/
theorem Placed.row {ex : List Nat} {base : Nat} {w w' : World} {a : Nat} {m : Option Nat} {va vb vb' : Value} {r r' : NRec} {ks : AKs} (h : MTr base w (.node a m va vb r ks)) (hx : ∀ b ∈ ex, NoBytes w b ∧ b ∉ (ATr.node a m va vb r ks).foot) (hk : Kept (ex ++ (a :: vb.ownBlock.toList)) w w')
    (hrow : w'.heap[a]? = some (.cells (nodeRow m va vb' r') 100)) (hkind : r'.kind = r.kind) (hby : r'.bytes = r.bytes) (hmode : r'.mode = r.mode) (hob : ∀ q, vb'.ownBlock = some q → vb.ownBlock = some q ∨ w.heap.size ≤ q)
    (hown : w'.ownsRow base 3 1 vb' r'.blocks.length (iv (natI r'.blocks))) (hl : r'.blocks.length ≤ 100000) : Placed ex base w w' (.node a m va vb r ks) (.node a m va vb' r' ks) := by
  have hmem : ∀ q ∈ ex ++ (a :: vb.ownBlock.toList), q ∈ ex ∨ q ∈ (ATr.node a m va vb r ks).foot := fun q hq => by
    simp only [List.mem_append, List.mem_cons] at hq
    rcases hq with hq | hq | hq
    · exact .inl hq
    · exact .inr (by simp [ATr.foot, hq])
    · exact .inr (by simp only [ATr.foot, List.mem_cons, List.mem_append]; exact .inr (.inr (.inl hq)))
  have hnb : ∀ q ∈ ex ++ (a :: vb.ownBlock.toList), NoBytes w q := fun q hq => (hmem q hq).elim (fun h => (hx q h).1) fun hh => (foot_mem h.ok h.own q hh).2.2
  have hfm := fun q hq => foot_mem h.ok h.own q hq
  obtain ⟨⟨h1, h2, h3, h4, h5⟩, ⟨o1, o2, o3, o4⟩, hnn⟩ := h
  have hnn0 := hnn
  simp only [ATr.foot] at hnn
  rw [List.nodup_cons] at hnn
  obtain ⟨na, hnn⟩ := hnn
  obtain ⟨nm, hnn, dm⟩ := nodup_app hnn
  obtain ⟨nv, nk, dv⟩ := nodup_app hnn
  have hxf : ∀ q ∈ ex, q ≠ a ∧ q ∉ m.toList ∧ q ∉ vb.ownBlock.toList ∧ q ∉ ks.foot := fun q hq => by
    have := (hx q hq).2
    simpa only [ATr.foot, List.mem_cons, List.mem_append, not_or] using this
  have hdis : ∀ q ∈ ex ++ (a :: vb.ownBlock.toList), q ∉ ks.foot := fun q hq hh => by
    simp only [List.mem_append, List.mem_cons] at hq
    rcases hq with hq | hq | hq
    · exact (hxf q hq).2.2.2 hh
    · subst hq
      exact na (by simp [hh])
    · exact dv q hq hh
  have hfr := KsOk.frame hk hnb h5 o4 hdis
  refine ⟨hk.mono (fun q hq _ => List.mem_append.2 (hmem q hq)), ⟨⟨hrow, ⟨by rw [hby]; exact h2.1.keptN hk hnb, by rw [hby]; exact h2.2⟩, nums_own hown hl, ?_, hfr.1⟩, ⟨o1, o2, hown, hfr.2⟩, ?_⟩, rfl, ?_, by simp only [ATr.er, PTr.core, NRec.core, hkind, hby, hmode]⟩
  · rw [hkind]
    cases m with
    | none => exact h4
    | some b => exact ⟨h4.1, h4.2.kept hk (fun hh => by
        simp only [List.mem_append, List.mem_cons] at hh
        rcases hh with hh | hh | hh
        · exact (hxf b hh).2.1 (by simp)
        · subst hh
          exact na (by simp)
        · exact dm b (by simp) (List.mem_append.2 (.inl hh)))⟩
  · simp only [ATr.foot]
    have hnew : ∀ q ∈ vb'.ownBlock.toList, q ∈ vb.ownBlock.toList ∨ w.heap.size ≤ q := fun q hq => (hob q (by simpa using hq)).imp (fun h => by simpa using h) id
    have hlt : ∀ q ∈ a :: (m.toList ++ (vb.ownBlock.toList ++ ks.foot)), q < w.heap.size := fun q hq => (hfm q (by simpa only [ATr.foot] using hq)).2.1
    rw [List.nodup_cons]
    refine ⟨fun hh => ?_, nodup_mk nm (nodup_mk (by cases vb'.ownBlock <;> simp) nk (fun b hb hr => ?_)) (fun b hb hr => ?_)⟩
    · simp only [List.mem_append] at hh
      rcases hh with hh | hh | hh
      · exact na (by simp only [List.mem_append]; exact .inl hh)
      · rcases hnew a hh with h' | h'
        · exact na (by simp only [List.mem_append]; exact .inr (.inl h'))
        · have := hlt a (by simp)
          omega
      · exact na (by simp only [List.mem_append]; exact .inr (.inr hh))
    · rcases hnew b hb with h' | h'
      · exact dv b h' hr
      · have := hlt b (by simp [hr])
        omega
    · rcases List.mem_append.1 hr with hr | hr
      · rcases hnew b hr with h' | h'
        · exact dm b hb (List.mem_append.2 (.inl h'))
        · have := hlt b (by simp only [List.mem_cons, List.mem_append]; exact .inr (.inl hb))
          omega
      · exact dm b hb (List.mem_append.2 (.inr hr))
  · intro b hb
    simp only [ATr.foot, List.mem_cons, List.mem_append] at hb ⊢
    rcases hb with hb | hb | hb | hb
    · exact .inl (.inl hb)
    · exact .inl (.inr (.inl hb))
    · rcases hob b (by simpa using hb) with h' | h'
      · exact .inl (.inr (.inr (.inl (by simpa using h'))))
      · exact .inr h'
    · exact .inl (.inr (.inr (.inr hb)))

mutual
/-- The tree, the node at an address with another row of numbers and another record. -/
def ATr.upd (a : Nat) (vb : Value) (r : NRec) : ATr → ATr
  | .node b m va vb0 r0 ks => .node b m va (if b = a then vb else vb0) (if b = a then r else r0) (ks.upd a vb r)
def AKs.upd (a : Nat) (vb : Value) (r : NRec) : AKs → AKs
  | .nil => .nil
  | .cons s t k => .cons s (t.upd a vb r) (k.upd a vb r)
end
theorem ATr.upd_addr (a : Nat) (vb : Value) (r : NRec) (t : ATr) : (t.upd a vb r).addr = t.addr := by cases t; simp [ATr.upd, ATr.addr]
theorem AKs.upd_kids (a : Nat) (vb : Value) (r : NRec) : ∀ k : AKs, (k.upd a vb r).kids = k.kids
  | .nil => rfl
  | .cons s t k => by simp [AKs.upd, AKs.kids, ATr.upd_addr, AKs.upd_kids a vb r k]
mutual
theorem ATr.upd_none {a : Nat} (vb : Value) (r : NRec) : ∀ {t : ATr}, a ∉ t.foot → t.upd a vb r = t
  | .node b m va vb0 r0 ks, h => by
    simp only [ATr.foot, List.mem_cons, List.mem_append, not_or] at h
    have hb : ¬ b = a := fun e => h.1 e.symm
    simp only [ATr.upd, if_neg hb, AKs.upd_none vb r h.2.2.2]
theorem AKs.upd_none {a : Nat} (vb : Value) (r : NRec) : ∀ {k : AKs}, a ∉ k.foot → k.upd a vb r = k
  | .nil, _ => rfl
  | .cons s t k, h => by
    simp only [AKs.foot, List.mem_append, not_or] at h
    simp only [AKs.upd, ATr.upd_none vb r h.1, AKs.upd_none vb r h.2]
end
mutual
theorem ATr.all_foot {s : ATr} : ∀ {t : ATr}, s ∈ t.all → ∀ b ∈ s.foot, b ∈ t.foot
  | .node a m va vb r ks, h, b, hb => by
    simp only [ATr.all, List.mem_cons] at h
    rcases h with rfl | h
    · exact hb
    · simp only [ATr.foot, List.mem_cons, List.mem_append]
      exact .inr (.inr (.inr (AKs.all_foot h b hb)))
theorem AKs.all_foot {s : ATr} : ∀ {k : AKs}, s ∈ k.all → ∀ b ∈ s.foot, b ∈ k.foot
  | .nil, h, _, _ => by cases h
  | .cons x t k, h, b, hb => by
    simp only [AKs.all, List.mem_append] at h
    simp only [AKs.foot, List.mem_append]
    exact h.imp (fun h => ATr.all_foot h b hb) fun h => AKs.all_foot h b hb
end
theorem ATr.addr_foot (t : ATr) : t.addr ∈ t.foot := by cases t; simp [ATr.addr, ATr.foot]

mutual
/-- A change of a node in its own row is a change of the tree. -/
theorem Placed.up {ex : List Nat} {base : Nat} {w w' : World} {s : ATr} {vb' : Value} {r' : NRec} (hs : MTr base w s) (T : Placed ex base w w' s (s.upd s.addr vb' r')) : ∀ {t : ATr}, MTr base w t → s ∈ t.all → (∀ b ∈ ex, NoBytes w b ∧ b ∉ t.foot) → Placed ex base w w' t (t.upd s.addr vb' r')
  | .node a m va vb r ks, h, hm, hx => by
    simp only [ATr.all, List.mem_cons] at hm
    rcases hm with e | hm
    · rw [← e]
      exact T
    have hfm := fun q hq => foot_mem h.ok h.own q hq
    obtain ⟨⟨h1, h2, h3, h4, h5⟩, ⟨o1, o2, o3, o4⟩, hn⟩ := h
    simp only [ATr.foot] at hn
    rw [List.nodup_cons] at hn
    obtain ⟨na, hn⟩ := hn
    obtain ⟨nm, hn, dm⟩ := nodup_app hn
    obtain ⟨nv, nk, dv⟩ := nodup_app hn
    have hxf : ∀ q ∈ ex, q ≠ a ∧ q ∉ m.toList ∧ q ∉ vb.ownBlock.toList ∧ q ∉ ks.foot := fun q hq => by
      have := (hx q hq).2
      simpa only [ATr.foot, List.mem_cons, List.mem_append, not_or] using this
    have i5 := AKs.all_foot hm
    obtain ⟨i1, i2, i3, i4, i6⟩ := Placed.upK hs T h5 o4 nk hm (fun b hb => ⟨(hx b hb).1, (hxf b hb).2.2.2⟩)
    have hxb : ∀ b ∈ ex ++ s.foot, NoBytes w b := fun b hb => (List.mem_append.1 hb).elim (fun h => (hx b h).1) fun h => (foot_mem hs.ok hs.own b h).2.2
    have hno : ∀ b, b ∈ a :: (m.toList ++ vb.ownBlock.toList) → b ∉ ex ++ s.foot := fun b hb hh => by
      simp only [List.mem_cons, List.mem_append] at hb
      rcases List.mem_append.1 hh with hh | hh
      · have := hxf b hh
        rcases hb with hb | hb | hb
        · exact this.1 hb
        · exact this.2.1 hb
        · exact this.2.2.1 hb
      · have := i5 b hh
        rcases hb with hb | hb | hb
        · subst hb
          exact na (by simp [this])
        · exact dm b hb (by simp [this])
        · exact dv b hb this
    have ha := hno a (by simp)
    have hsa : ¬ a = s.addr := fun e => ha (List.mem_append.2 (.inr (e ▸ s.addr_foot)))
    have hvb : ∀ q, vb.ownBlock = some q → q ∉ ex ++ s.foot := fun q hq => hno q (by simp [hq])
    simp only [ATr.upd, if_neg hsa]
    refine ⟨T.kept.mono (fun q hq _ => ?_), ⟨⟨T.kept.heap ha h1, ⟨h2.1.keptN T.kept hxb, h2.2⟩, ?_, ?_, i1⟩, ⟨o1, o2, owns_kept o3 T.kept hvb, i2⟩, ?_⟩, rfl, ?_, by simp only [ATr.er, PTr.core, i6]⟩
    · simp only [ATr.foot, List.mem_append, List.mem_cons] at hq ⊢
      exact hq.imp id fun h => .inr (.inr (.inr (i5 q h)))
    · obtain ⟨ao, cap, rfl, q1, q2, q3⟩ := h3
      exact ⟨ao, cap, rfl, q1, q2, q3.keptEx T.kept fun b o e => hvb b (by rw [e]; rfl)⟩
    · cases m with
      | none => rw [h4.2] at hm; cases hm
      | some b =>
        refine ⟨h4.1, ?_⟩
        rw [AKs.upd_kids]
        exact h4.2.kept T.kept (hno b (by simp))
    · simp only [ATr.foot]
      have hlt : ∀ q ∈ a :: (m.toList ++ (vb.ownBlock.toList ++ ks.foot)), q < w.heap.size := fun q hq => (hfm q (by simpa only [ATr.foot] using hq)).2.1
      rw [List.nodup_cons]
      refine ⟨fun hh => ?_, nodup_mk nm (nodup_mk nv i3 (fun b hb hr => ?_)) (fun b hb hr => ?_)⟩
      · simp only [List.mem_append] at hh na
        rcases hh with hh | hh | hh
        · exact na (.inl hh)
        · exact na (.inr (.inl hh))
        · rcases i4 a hh with h' | h'
          · exact na (.inr (.inr h'))
          · have := hlt a (by simp)
            omega
      · rcases i4 b hr with h' | h'
        · exact dv b hb h'
        · have := hlt b (by simp only [List.mem_cons, List.mem_append]; exact .inr (.inr (.inl hb)))
          omega
      · simp only [List.mem_append] at hr
        rcases hr with hr | hr
        · exact dm b hb (List.mem_append.2 (.inl hr))
        · rcases i4 b hr with h' | h'
          · exact dm b hb (List.mem_append.2 (.inr h'))
          · have := hlt b (by simp only [List.mem_cons, List.mem_append]; exact .inr (.inl hb))
            omega
    · intro b hb
      simp only [ATr.foot, List.mem_cons, List.mem_append] at hb ⊢
      rcases hb with hb | hb | hb | hb
      · exact .inl (.inl hb)
      · exact .inl (.inr (.inl hb))
      · exact .inl (.inr (.inr (.inl hb)))
      · exact (i4 b hb).imp (fun h => .inr (.inr (.inr h))) id
theorem Placed.upK {ex : List Nat} {base : Nat} {w w' : World} {s : ATr} {vb' : Value} {r' : NRec} (hs : MTr base w s) (T : Placed ex base w w' s (s.upd s.addr vb' r')) : ∀ {k : AKs}, KsOk w k → OwnK base w k → k.foot.Nodup → s ∈ k.all → (∀ b ∈ ex, NoBytes w b ∧ b ∉ k.foot) →
    KsOk w' (k.upd s.addr vb' r') ∧ OwnK base w' (k.upd s.addr vb' r') ∧ (k.upd s.addr vb' r').foot.Nodup ∧ (∀ b ∈ (k.upd s.addr vb' r').foot, b ∈ k.foot ∨ w.heap.size ≤ b) ∧ (k.upd s.addr vb' r').er.core = k.er.core
  | .nil, _, _, _, hm, _ => by cases hm
  | .cons x t k, hk, ho, hn, hm, hx => by
    simp only [AKs.foot] at hn
    obtain ⟨n1, n2, n3⟩ := nodup_app hn
    have hxf : ∀ b ∈ ex, b ∉ t.foot ∧ b ∉ k.foot := fun b hb => by
      have := (hx b hb).2
      simpa only [AKs.foot, List.mem_append, not_or] using this
    have hxb : ∀ b ∈ ex ++ s.foot, NoBytes w b := fun b hb => (List.mem_append.1 hb).elim (fun h => (hx b h).1) fun h => (foot_mem hs.ok hs.own b h).2.2
    simp only [AKs.all, List.mem_append] at hm
    simp only [AKs.upd, AKs.foot]
    rcases hm with hm | hm
    · have i5 := ATr.all_foot hm
      have P := Placed.up hs T (t := t) ⟨hk.2.1, ho.1, n1⟩ hm (fun b hb => ⟨(hx b hb).1, (hxf b hb).1⟩)
      have hnk : ∀ b ∈ ex ++ s.foot, b ∉ k.foot := fun b hb hr => (List.mem_append.1 hb).elim (fun h => (hxf b h).2 hr) fun h => n3 b (i5 b h) hr
      have hf := KsOk.frame T.kept hxb hk.2.2 ho.2 hnk
      rw [AKs.upd_none vb' r' (hnk _ (List.mem_append.2 (.inr s.addr_foot)))]
      refine ⟨⟨hk.1, P.m.ok, hf.1⟩, ⟨P.m.own, hf.2⟩, nodup_mk P.m.nodup n2 (fun b hb hr => ?_), fun b hb => ?_, by simp only [AKs.er, PKs.core, P.core]⟩
      · rcases P.foot b hb with h1 | h1
        · exact n3 b h1 hr
        · have := (foot_memK hk.2.2 ho.2 b hr).2.1
          omega
      · rcases List.mem_append.1 hb with h1 | h1
        · exact (P.foot b h1).imp (fun h => List.mem_append.2 (.inl h)) id
        · exact .inl (List.mem_append.2 (.inr h1))
    · have i5 := AKs.all_foot hm
      obtain ⟨i1, i2, i3, i4, i6⟩ := Placed.upK hs T hk.2.2 ho.2 n2 hm (fun b hb => ⟨(hx b hb).1, (hxf b hb).2⟩)
      have hnt : ∀ b ∈ ex ++ s.foot, b ∉ t.foot := fun b hb hr => (List.mem_append.1 hb).elim (fun h => (hxf b h).1 hr) fun h => n3 b hr (i5 b h)
      have hf := TrOk.frame T.kept hxb hk.2.1 ho.1 hnt
      rw [ATr.upd_none vb' r' (hnt _ (List.mem_append.2 (.inr s.addr_foot)))]
      refine ⟨⟨hk.1, hf.1, i1⟩, ⟨hf.2, i2⟩, nodup_mk n1 i3 (fun b hb hr => ?_), fun b hb => ?_, by simp only [AKs.er, PKs.core, i6]⟩
      · rcases i4 b hr with h1 | h1
        · exact n3 b hb h1
        · have := (foot_mem hk.2.1 ho.1 b hb).2.1
          omega
      · rcases List.mem_append.1 hb with h1 | h1
        · exact .inl (List.mem_append.2 (.inl h1))
        · exact (i4 b h1).imp (fun h => List.mem_append.2 (.inr h)) id
end

/-- The nodes of a tree, one behind the other: each one's address and record. -/
def ATr.pr (s : ATr) : Nat × NRec := (s.addr, s.rc)
def ATr.flat (t : ATr) : List (Nat × NRec) := t.all.map ATr.pr
def AKs.flat (k : AKs) : List (Nat × NRec) := k.all.map ATr.pr
mutual
theorem ATr.flat_upd (a : Nat) (vb : Value) (r : NRec) : ∀ t : ATr, (t.upd a vb r).flat = t.flat.map fun p => (p.1, if p.1 = a then r else p.2)
  | .node b m va vb0 r0 ks => by
    have := AKs.flat_upd a vb r ks
    unfold AKs.flat at this
    simp only [ATr.upd, ATr.flat, ATr.all, List.map_cons, this]
    rfl
theorem AKs.flat_upd (a : Nat) (vb : Value) (r : NRec) : ∀ k : AKs, (k.upd a vb r).flat = k.flat.map fun p => (p.1, if p.1 = a then r else p.2)
  | .nil => rfl
  | .cons s t k => by
    have h1 := ATr.flat_upd a vb r t
    have h2 := AKs.flat_upd a vb r k
    unfold ATr.flat at h1
    unfold AKs.flat at h2
    simp only [AKs.upd, AKs.flat, AKs.all, List.map_append, h1, h2]
end
mutual
theorem ATr.addrs_sub : ∀ t : ATr, (t.flat.map (·.1)).Sublist t.foot
  | .node a m va vb r ks => by
    have := AKs.addrs_sub ks
    unfold AKs.flat at this
    simp only [ATr.flat, ATr.all, ATr.foot, List.map_cons]
    exact (this.trans (by simp)).cons_cons _
theorem AKs.addrs_sub : ∀ k : AKs, (k.flat.map (·.1)).Sublist k.foot
  | .nil => List.Sublist.refl _
  | .cons s t k => by
    have h1 := ATr.addrs_sub t
    have h2 := AKs.addrs_sub k
    unfold ATr.flat at h1
    unfold AKs.flat at h2
    simp only [AKs.flat, AKs.all, AKs.foot, List.map_append]
    exact h1.append h2
end
/-- No address stands twice. -/
theorem MTr.addrs {base : Nat} {w : World} {t : ATr} (h : MTr base w t) : (t.flat.map (·.1)).Nodup := t.addrs_sub.nodup h.nodup
mutual
theorem MTr.mem {base : Nat} {w : World} {s : ATr} : ∀ {t : ATr}, MTr base w t → s ∈ t.all → MTr base w s
  | .node a m va vb r ks, h, hm => by
    simp only [ATr.all, List.mem_cons] at hm
    rcases hm with rfl | hm
    · exact h
    · obtain ⟨hd, hf⟩ := (ATr.node a m va vb r ks).foot_ks
      have hn := h.nodup
      rw [hf] at hn
      exact MTr.memK h.ok.2.2.2.2 h.own.2.2.2 (nodup_app hn).2.1 hm
theorem MTr.memK {base : Nat} {w : World} {s : ATr} : ∀ {k : AKs}, KsOk w k → OwnK base w k → k.foot.Nodup → s ∈ k.all → MTr base w s
  | .nil, _, _, _, hm => by cases hm
  | .cons x t k, h, ho, hn, hm => by
    simp only [AKs.foot] at hn
    simp only [AKs.all, List.mem_append] at hm
    obtain ⟨n1, n2, _⟩ := nodup_app hn
    rcases hm with hm | hm
    · exact MTr.mem ⟨h.2.1, ho.1, n1⟩ hm
    · exact MTr.memK h.2.2 ho.2 n2 hm
end
end Go.Proofs.YtiedoocgbajjjaaGreatDoor

namespace Go.Proofs.YtiedoocgbajjjaaGreatDoor
open Go.RowKit Go.Maps
set_option maxRecDepth 100000

/-- How many blocks a node lacks, and whether the further one. -/
def ATr.lack (t : ATr) : Nat := t.cont - t.rc.blocks.length
def ATr.lackM (t : ATr) : Nat := if t.far = true ∧ t.rc.more = 0 then 1 else 0
/-- A node's record behind fill. -/
def ATr.fillR (t : ATr) (L : List Nat) : NRec := { t.rc with blocks := t.rc.blocks ++ L.take t.lack, more := if t.lackM = 1 then L.getD t.lack 0 else t.rc.more }
theorem ATr.upd_self {base : Nat} {w : World} {a : Nat} {m : Option Nat} {va vb : Value} {r : NRec} {ks : AKs} (h : MTr base w (.node a m va vb r ks)) (v : Value) (r' : NRec) : (ATr.node a m va vb r ks).upd a v r' = .node a m va v r' ks := by
  have hn := h.nodup
  simp only [ATr.foot] at hn
  rw [List.nodup_cons] at hn
  simp only [List.mem_append, not_or] at hn
  simp only [ATr.upd, if_pos, AKs.upd_none v r' hn.1.2.2]
/-- How far fill has come. -/
structure FillSt (base p g : Nat) (w : World) (a : Nat) (m : Option Nat) (va vb : Value) (r : NRec) (ks : AKs) (L : List Nat) (j : Nat) (v : Value) (wr : World) : Prop where
  pl : Placed [p] base w wr (.node a m va vb r ks) (.node a m va v { r with blocks := r.blocks ++ L.take j } ks)
  pool : PoolIs wr p g (L.drop j)
theorem FillSt.row {base p g : Nat} {w wr : World} {a : Nat} {m : Option Nat} {va vb v : Value} {r : NRec} {ks : AKs} {L : List Nat} {j : Nat} (h : FillSt base p g w a m va vb r ks L j v wr) : wr.heap[a]? = some (.cells (nodeRow m va v { r with blocks := r.blocks ++ L.take j }) 100) := h.pl.m.ok.1
theorem FillSt.out {base p g : Nat} {w wr : World} {a : Nat} {m : Option Nat} {va vb v : Value} {r : NRec} {ks : AKs} {L : List Nat} {j : Nat} (h : FillSt base p g w a m va vb r ks L j v wr) (hx : ∀ q, q = p ∨ q = g → q < w.heap.size ∧ q ∉ (ATr.node a m va vb r ks).foot) :
    ∀ q, q = p ∨ q = g → q ∉ (ATr.node a m va v { r with blocks := r.blocks ++ L.take j } ks).foot := fun q hq hh => by
  rcases h.pl.foot q hh with h1 | h1
  · exact (hx q hq).2 h1
  · have := (hx q hq).1
    omega
/-- A step: what has been taken is put behind the row. -/
theorem FillSt.step {base p g : Nat} {w wr w1 w8 : World} {a : Nat} {m : Option Nat} {va vb v v' : Value} {r : NRec} {ks : AKs} {L : List Nat} {j : Nat} (h : FillSt base p g w a m va vb r ks L j v wr) (hx : ∀ q, q = p ∨ q = g → q < w.heap.size ∧ q ∉ (ATr.node a m va vb r ks).foot)
    (hk1 : Kept [p] wr w1) (hp1 : PoolIs w1 p g (L.drop (j + 1))) (hk : Kept (a :: v.ownBlock.toList) w1 w8) (hrow : w8.heap[a]? = some (.cells (nodeRow m va v' { r with blocks := r.blocks ++ L.take (j + 1) }) 100))
    (hob : ∀ q, v'.ownBlock = some q → v.ownBlock = some q ∨ w1.heap.size ≤ q) (hown : w8.ownsRow base 3 1 v' (r.blocks ++ L.take (j + 1)).length (iv (natI (r.blocks ++ L.take (j + 1))))) (hl : (r.blocks ++ L.take (j + 1)).length ≤ 100000) :
    FillSt base p g w a m va vb r ks L (j + 1) v' w8 := by
  have ho := h.out hx
  have P1 : Placed [p] base wr w1 _ _ := Placed.still h.pl.m hk1 (fun b hb => by
    obtain rfl : b = p := by simpa using hb
    exact ⟨h.pool.nob, ho b (.inl rfl)⟩)
  have hna : ∀ q, q = p ∨ q = g → q ∉ a :: v.ownBlock.toList := fun q hq hh => ho q hq (by
    simp only [ATr.foot, List.mem_cons, List.mem_append] at hh ⊢
    exact hh.imp id fun h => .inr (.inl h))
  have P2 := Placed.row (ex := [p]) (vb' := v') (r' := { r with blocks := r.blocks ++ L.take (j + 1) }) P1.m (fun b hb => by
    obtain rfl : b = p := by simpa using hb
    exact ⟨hp1.nob, ho b (.inl rfl)⟩) (hk.mono (fun q hq _ => List.mem_append.2 (.inr hq))) hrow rfl rfl rfl hob hown hl
  exact ⟨(h.pl.trans P1).trans P2, hp1.keptX hk (hna p (.inl rfl)) (hna g (.inr rfl))⟩

set_option maxRecDepth 100000 in
set_option maxHeartbeats 2000000 in
theorem nfill_any (base p g : Nat) (t : ATr) (L : List Nat) (w : World) (h : MTr base w t) (hl : t.ks.kids.length ≤ 1000) (hb : t.rc.blocks.length ≤ 1000) (hbase : base ≤ w.heap.size) (hP : PoolIs w p g L) (hLl : L.length ≤ 50000)
    (hx : ∀ q, q = p ∨ q = g → q < w.heap.size ∧ q ∉ t.foot) (hL : t.lack + t.lackM ≤ L.length) :
    Calls Tryz.prog 105 #[.pointer (some ⟨t.addr, 0, none⟩), .pointer (some ⟨p, 0, none⟩)] w fun e w' => e = .returned (.tuple #[]) ∧ Hid (PoolIs w' p g (L.drop (t.lack + t.lackM)) ∧ ∃ v, Placed [p] base w w' t (t.upd t.addr v (t.fillR L))) := by
  obtain ⟨a, m, va, vb, r, ks⟩ := t
  obtain ⟨t, ht⟩ : ∃ t, ATr.node a m va vb r ks = t := ⟨_, rfl⟩
  have HN := Lib.hid (nneed_any _ w h.ok hl)
  have HC : Hid ((ATr.node a m va vb r ks).lack = (ATr.node a m va vb r ks).cont - r.blocks.length) := rfl
  obtain ⟨C, hC⟩ : ∃ C, (ATr.node a m va vb r ks).cont = C := ⟨_, rfl⟩
  obtain ⟨f, hf⟩ : ∃ f, (ATr.node a m va vb r ks).far = f := ⟨_, rfl⟩
  obtain ⟨E, hE⟩ : ∃ E, (ATr.node a m va vb r ks).lack = E := ⟨_, rfl⟩
  obtain ⟨M, hM⟩ : ∃ M, (ATr.node a m va vb r ks).lackM = M := ⟨_, rfl⟩
  have HMM : Hid (M = if f = true ∧ r.more = 0 then 1 else 0) := by show _ = _; rw [← hM, ← hf]; rfl
  obtain ⟨RR, hRR⟩ : ∃ RR, (ATr.node a m va vb r ks).fillR L = RR := ⟨_, rfl⟩
  have HR : Hid (RR = { r with blocks := r.blocks ++ L.take E, more := if M = 1 then L.getD E 0 else r.more }) := by show _ = _; rw [← hRR, ← hE, ← hM]; rfl
  obtain ⟨T, hT⟩ : ∃ T, E + M = T := ⟨_, rfl⟩
  have HTT := Lib.hid hT
  have HU : Hid (∀ v r', (ATr.node a m va vb r ks).upd (ATr.node a m va vb r ks).addr v r' = .node a m va v r' ks) := fun v r' => ATr.upd_self h v r'
  have hCb : C ≤ 100000 := by
    have h2 := h.ok.2.1.2
    simp only [ATr.ks] at hl
    rw [← hC]
    simp only [ATr.cont, ATr.size, ATr.rc]
    split <;> omega
  rw [hC, hf] at HN
  rw [hC, hE] at HC
  rw [hE, hM] at hL ⊢
  rw [hRR, hT]
  have HX := Lib.hid hx
  have HH := Lib.hid (And.intro h (And.intro hbase hP))
  have HLL : Hid (E + M ≤ L.length ∧ L.length ≤ 50000 ∧ r.blocks.length ≤ 1000) := ⟨hL, hLl, hb⟩
  clear h hbase hP hL hLl hl hb hx hC hf hE hM hRR hT ht t
  show Calls Tryz.prog 105 #[.pointer (some ⟨a, 0, none⟩), .pointer (some ⟨p, 0, none⟩)] w _
  go_enter Tryz.func105, Tryz.ntmps105
  go_wp2_with fail
  refine HN.out.mono ?_
  rintro e w1 ⟨rfl, hd⟩
  clear HN
  have H1 : Hid (∃ v, FillSt base p g w a m va vb r ks L 0 v w1) := by
    refine ⟨vb, ?_, ?_⟩
    · have := Placed.still (ex := [p]) HH.out.1 (hd.kept.mono (fun _ h _ => by cases h)) (fun b hb => by
        obtain rfl : b = p := by simpa using hb
        exact ⟨HH.out.2.2.nob, (HX.out b (.inl rfl)).2⟩)
      simpa using this
    · exact HH.out.2.2.keptX hd.kept (by simp) (by simp)
  clear hd
  go_wp2_with fail
  go_loopg [11] E (fun gk s11 wr => ∃ j : Nat, j ≤ E ∧ gk = E - j ∧ Hid (∃ v, FillSt base p g w a m va vb r ks L j v wr))
  case atStart => exact ⟨0, by omega, by omega, H1.out⟩
  case round =>
    clear H1
    obtain ⟨j, hj, hgk, HS⟩ := hrel
    obtain ⟨v, hS⟩ := HS.out
    have HT := Lib.hid hS
    have hown := hS.pl.m.own.2.2.1
    obtain ⟨n, hn⟩ : ∃ n, r.blocks.length + j = n := ⟨_, rfl⟩
    have hlen : (r.blocks ++ L.take j).length = n := by
      have := HLL.out.1
      rw [List.length_append, List.length_take]
      omega
    simp only [hlen] at hown
    have hnb : n ≤ 51000 := by have := HLL.out; omega
    obtain ⟨ao, cap, rfl, hcc, hcm, _⟩ := own_ints hown (by omega)
    have c5 : wr.cell? ⟨a, 5, none⟩ = some (.slice ao n cap) := cell_of_row _ _ 5 _ _ _ hS.row
    have hEC : E = C - r.blocks.length := HC.out
    obtain ⟨Z, hZ⟩ : ∃ Z, (Value.slice ao n cap).ownBlock.toList = Z := ⟨_, rfl⟩
    have hnod := hS.pl.m.nodup
    simp only [ATr.foot] at hnod
    rw [List.nodup_cons] at hnod
    simp only [List.mem_append, not_or] at hnod
    rw [hZ] at hnod
    have haZ : a ∉ Z := hnod.1.2.1
    have hap : a ≠ p := fun e => hS.out HX.out p (.inl rfl) (by rw [← e]; simp [ATr.foot])
    have hbw : base ≤ wr.heap.size := Nat.le_trans HH.out.2.1 hS.pl.kept.size
    by_cases hlt : j < E
    · have hlc : (n : Int) < (C : Int) := by omega
      have hjL : j < L.length := by have := HLL.out.1; omega
      obtain ⟨x, hxe⟩ : ∃ x, L[j] = x := ⟨_, rfl⟩
      have hdrop : L.drop j = x :: L.drop (j + 1) := by rw [← hxe]; exact List.drop_eq_getElem_cons hjL
      have HTK : Hid (L.take (j + 1) = L.take j ++ [x]) := by show _ = _; rw [List.take_succ_eq_append_getElem hjL, hxe]
      have HPT := hS.pool
      rw [hdrop] at HPT
      have HPC := Lib.hid (ptake_any p g x (L.drop (j + 1)) wr.drew (HPT.keptX (Kept.drew [] _) (by simp) (by simp)))
      have HROW := Lib.hid hS.row
      have q5 : ∀ w', Kept (p :: Z) wr.drew w' → w'.cell? ⟨a, 5, none⟩ = some (.slice ao n cap) := fun w' hk =>
        cell_of_row _ _ 5 _ _ _ (hk.heap (fun hh => (List.mem_cons.1 hh).elim hap haZ) (show wr.drew.heap[a]? = _ from HROW.out))
      have HOWN := Lib.hid hown
      have HLEN := Lib.hid hlen
      have HZ := Lib.hid (And.intro hZ (And.intro haZ (And.intro hap hbw)))
      have HZP : Hid (p ∉ Z) := fun hh => hS.out HX.out p (.inl rfl) (by
        simp only [ATr.foot, List.mem_cons, List.mem_append]
        rw [hZ]
        exact .inr (.inr (.inl hh)))
      have HN2 := Lib.hid hn
      clear hS hown HS HPT hdrop hxe hnod hlen hZ haZ hap hbw hn
      go_wp2_with fail
      refine wp_region_ordZ (R := (Kept (p :: Z))) 11 [(true, 0), (true, 1), (true, 2), (true, 3), (true, 4), (true, 5), (false, 6), (false, 7), (false, 8), (false, 9), (true, 10)] (fun _ => Kept.refl _ _) (fun _ _ _ h k => h.trans k) (by kernel_rfl) (fun _ _ d _ _ h => by cases d <;> exact h) (by kernel_rfl) rfl (by decide) (by kernel_rfl) (by kernel_rfl) ?_
      simp only [named, List.getD_cons_zero, List.getD_cons_succ]
      repeat (first | (apply wpR_take; (case hw => rfl); (case hv => intro w' hk; go_simp; with_reducible rfl); simp only [Act.put, List.setIfInBounds_toArray, List.set_cons_zero, List.set_cons_succ]) | (refine wpR_pass (by rfl) ?_; simp only [Act.put, List.setIfInBounds_toArray, List.set_cons_zero, List.set_cons_succ]))
      clear q5 c5
      refine wpR_force (by rfl) (fun K hK => ?_)
      go_simp
      refine HPC.out.mono ?_
      rintro e w3 ⟨rfl, H3⟩
      refine hK _ _ (H3.out.2.mono (fun q hq _ => by simp at hq; simp [hq])) ?_
      clear hK K
      have HO3 : Hid (w3.ownsRow base 3 1 (.slice ao n cap) n (iv (natI (r.blocks ++ L.take j)))) := owns_kept (owns_kept HOWN.out (Kept.drew [] wr) (by simp)) H3.out.2 (fun q hq hh => HZP.out (by
        rw [← HZ.out.1]
        simp at hh
        subst hh
        simpa using hq))
      obtain ⟨v7, w7, hrun, hown7, hk7, hob7⟩ := own_app elemInt 56 (w3.alloc (.cells #[.int .i64 (x : Int)] 3)) base _ _ _ (World.ownsRow.alloc HO3.out _) ⟨w3.heap.size, 0, none⟩ 1 1 (iv (natI [x])) rfl
          (fun q u hu => by
            rw [Addr.add_mid, Nat.zero_add, cell_of_row _ _ q _ _ _ (heap_alloc_last w3 _)]
            simpa [iv, natI] using hu) (iv_one _) (by unfold maxLen; omega) (by omega) (by
            rw [size_alloc]
            have h1 := HZ.out.2.2.2
            have h2 : wr.heap.size ≤ w3.heap.size := H3.out.2.size
            omega)
      have eL : iv (natI (r.blocks ++ L.take j)) ++ iv (natI [x]) = iv (natI (r.blocks ++ L.take (j + 1))) := by rw [HTK.out]; simp [iv, natI]
      have eN : (r.blocks ++ L.take (j + 1)).length = n + 1 := by rw [HTK.out, ← List.append_assoc, List.length_append, HLEN.out]; rfl
      rw [eL] at hown7
      rw [HZ.out.1] at hk7
      obtain ⟨ao7, cap7, rfl, _⟩ := own_ints hown7 (by omega)
      have HRUN := Lib.hid hrun
      have HK7 := Lib.hid (show Kept (p :: Z) _ w7 from hk7.mono (fun q hq _ => List.mem_cons_of_mem _ hq))
      have HKA : Hid (Kept (p :: Z) w3 (w3.alloc (.cells #[.int .i64 (x : Int)] 3))) := Kept.alloc _ _ _
      have HR7 : Hid (w7.heap[a]? = some (.cells (nodeRow m va (.slice ao n cap) { r with blocks := r.blocks ++ L.take j }) 100)) :=
        hk7.heap HZ.out.2.1 ((Kept.alloc [] _ _).heap (by simp) (H3.out.2.heap (by simpa using HZ.out.2.2.1) (show wr.drew.heap[a]? = _ from HROW.out)))
      have HFIN : Hid (FillSt base p g w a m va vb r ks L (j + 1) (.slice ao7 (n + 1) cap7) (w7.setCell ⟨a, 5, none⟩ (.slice ao7 (n + 1) cap7))) := by
        have hk13 : Kept [] w3 (w3.alloc (.cells #[.int .i64 (x : Int)] 3)) := Kept.alloc _ _ _
        have hks : Kept [a] w7 (w7.setCell ⟨a, 5, none⟩ (.slice ao7 (n + 1) cap7)) := Kept.setCell _ _ _ _ (by simp)
        have hob' : ∀ q, (Value.slice ao7 (n + 1) cap7).ownBlock = some q → (Value.slice ao n cap).ownBlock = some q ∨ w3.heap.size ≤ q := fun q hq => by
          rcases hob7 with e | e
          · exact .inl (by rw [← e]; exact hq)
          · rw [e] at hq
            injection hq with hq
            rw [size_alloc] at hq
            right
            omega
        refine HT.out.step HX.out ((Kept.drew [p] wr).trans H3.out.2) H3.out.1 (((hk13.mono (fun _ h _ => by cases h)).trans (hk7.mono (fun q hq _ => ?_))).trans (hks.mono (fun q hq _ => by simp at hq; simp [hq]))) ?_ hob' ?_ ?_
        · rw [HZ.out.1]; exact List.mem_cons_of_mem _ hq
        · exact heap_setCell_same _ _ _ _ _ _ HR7.out
        · rw [eN]
          refine owns_kept hown7 hks (fun q hq hh => ?_)
          obtain rfl : q = a := by simpa using hh
          rcases hob' q hq with h1 | h1
          · exact HZ.out.2.1 (by rw [← HZ.out.1]; simpa using h1)
          · have := (Array.getElem?_eq_some_iff.1 (H3.out.2.heap (by simpa using HZ.out.2.2.1) (show wr.drew.heap[q]? = _ from HROW.out))).1
            omega
        · rw [eN]; omega
      clear hrun hown7 hk7 hob7 eL eN HO3
      refine wpR_force (by rfl) (fun K hK => ?_)
      go_simp
      refine hK _ _ HKA.out ?_
      clear hK K
      refine wpR_force (by rfl) (fun K hK => ?_)
      refine wp_append_run _ _ _ rfl _ _ _ rfl rfl HRUN.out ?_
      refine hK _ _ HK7.out ?_
      clear hK K
      refine wpR_force (by rfl) (fun K hK => ?_)
      go_simp
      refine hK _ _ (Kept.refl _ _) ?_
      clear hK K
      repeat (first | (apply wpR_take; (case hw => rfl); (case hv => intro w' hk; go_simp; with_reducible rfl); simp only [Act.put, List.setIfInBounds_toArray, List.set_cons_zero, List.set_cons_succ]) | (refine wpR_pass (by rfl) ?_; simp only [Act.put, List.setIfInBounds_toArray, List.set_cons_zero, List.set_cons_succ]))
      refine wpR_nil ?_; refine lastQ_go rfl ?_
      have z5 : w7.cell? ⟨a, 5, none⟩ = some (.slice ao n cap) := cell_of_row _ _ 5 _ _ _ HR7.out
      have fy : ∀ q, w7.frozen? ⟨a, q, none⟩ = false := fun q => frozen_of_row _ _ q _ _ HR7.out
      go_simp
      clear z5 fy
      go_wp2_with fail
      go_roundg (E - (j + 1))
      case measure => omega
      case rel => exact ⟨j + 1, by omega, rfl, _, HFIN.out⟩
    · obtain rfl : j = E := by omega
      have hlc : ¬ (n : Int) < (C : Int) := by omega
      have c6 : wr.cell? ⟨a, 6, none⟩ = some (.int .i64 r.more) := cell_of_row _ _ 6 _ _ _ hS.row
      have HZ := Lib.hid (And.intro hZ (And.intro haZ hap))
      have HLEN := Lib.hid hlen
      have HOWN := Lib.hid hown
      have HN2 := Lib.hid hn
      have HS := Lib.hid hS.row
      clear hS hown hnod hlen hZ haZ hap hbw hn hEC hlt hgk hj
      by_cases hM : M = 1
      · have hff : f = true ∧ r.more = 0 := by
          have := HMM.out
          rw [hM] at this
          by_cases h0 : f = true ∧ r.more = 0
          · exact h0
          · rw [if_neg h0] at this; omega
        obtain ⟨rfl, hm0⟩ := hff
        have hjL : j < L.length := by have := HLL.out.1; omega
        obtain ⟨x, hxe⟩ : ∃ x, L[j] = x := ⟨_, rfl⟩
        have hdrop : L.drop j = x :: L.drop (j + 1) := by rw [← hxe]; exact List.drop_eq_getElem_cons hjL
        have HD : Hid (L.getD j 0 = x) := by show _ = _; rw [← hxe]; simp [hjL]
        have HPT := HT.out.pool
        rw [hdrop] at HPT
        have HPC := Lib.hid (ptake_any p g x (L.drop (j + 1)) wr HPT)
        rw [hm0] at c6
        have HM1 := Lib.hid hM
        clear hM hxe hdrop HPT hm0
        go_wp2_with fail
        refine HPC.out.mono ?_
        rintro e w3 ⟨rfl, H3⟩
        have hr3 := H3.out.2.heap (by simpa using HZ.out.2.2) HS.out
        have z6 : w3.cell? ⟨a, 6, none⟩ = some (.int .i64 r.more) := cell_of_row _ _ 6 _ _ _ hr3
        have HFIN : Hid ((∃ v, Placed [p] base w (w3.setCell ⟨a, 6, none⟩ (.int .i64 (x : Int))) (.node a m va vb r ks) ((ATr.node a m va vb r ks).upd (ATr.node a m va vb r ks).addr v RR)) ∧ PoolIs (w3.setCell ⟨a, 6, none⟩ (.int .i64 (x : Int))) p g (L.drop T)) := by
          have hks : Kept [a] w3 (w3.setCell ⟨a, 6, none⟩ (.int .i64 (x : Int))) := Kept.setCell _ _ _ _ (by simp)
          have ho := HT.out.out HX.out
          have P1 : Placed [p] base wr w3 _ _ := Placed.still HT.out.pl.m H3.out.2 (fun b hb => by
            obtain rfl : b = p := by simpa using hb
            exact ⟨HT.out.pool.nob, ho b (.inl rfl)⟩)
          refine ⟨⟨.slice ao n cap, ?_⟩, ?_⟩
          · rw [HU.out, HR.out, if_pos HM1.out, HD.out]
            refine (HT.out.pl.trans P1).trans (Placed.row P1.m (fun b hb => ?_) (hks.mono (fun q hq _ => by simp at hq; simp [hq])) (heap_setCell_same _ _ _ _ _ _ hr3) rfl rfl rfl (fun q hq => .inl hq) ?_ ?_)
            · obtain rfl : b = p := by simpa using hb
              exact ⟨H3.out.1.nob, ho b (.inl rfl)⟩
            · show World.ownsRow _ _ _ _ _ (r.blocks ++ L.take j).length _
              rw [HLEN.out]
              refine owns_kept (owns_kept HOWN.out H3.out.2 (fun q hq hh => ?_)) hks (fun q hq hh => ?_)
              · refine ho p (.inl rfl) ?_
                simp only [ATr.foot, List.mem_cons, List.mem_append]
                obtain rfl : q = p := by simpa using hh
                exact .inr (.inr (.inl (by simp [hq])))
              · obtain rfl : q = a := by simpa using hh
                exact HZ.out.2.1 (by rw [← HZ.out.1]; simp [hq])
            · show (r.blocks ++ L.take j).length ≤ _
              rw [HLEN.out]
              exact Nat.le_trans hnb (by decide)
          · rw [← HTT.out, HM1.out]
            exact H3.out.1.keptX hks (by have := HZ.out.2.2; simp; exact fun e => this e.symm) (by
              simp
              intro e
              exact ho g (.inr rfl) (by rw [e]; simp [ATr.foot]))
        have fy : ∀ q, w3.frozen? ⟨a, q, none⟩ = false := fun q => frozen_of_row _ _ q _ _ hr3
        have HR3 := Lib.hid hr3
        clear hr3
        go_wp2_with fail
        go_end0
        exact ⟨rfl, HFIN.out.2, HFIN.out.1⟩
      · have HM0 : Hid (M = 0) := by
          show _ = _
          have := HMM.out
          split at this <;> omega
        have hnf : f = false ∨ r.more ≠ 0 := by
          rcases Bool.eq_false_or_eq_true f with h | h
          · right
            intro h0
            exact hM (by have := HMM.out; rw [if_pos ⟨h, h0⟩] at this; exact this)
          · exact .inl h
        have HF : Hid ((∃ v, Placed [p] base w wr (.node a m va vb r ks) ((ATr.node a m va vb r ks).upd (ATr.node a m va vb r ks).addr v RR)) ∧ PoolIs wr p g (L.drop T)) := by
          refine ⟨⟨.slice ao n cap, ?_⟩, ?_⟩
          · rw [HU.out, HR.out, if_neg hM]
            exact HT.out.pl
          · rw [← HTT.out, HM0.out]
            exact HT.out.pool
        clear hM
        rcases hnf with rfl | hnz
        · go_wp2_with fail
          go_end0
          exact ⟨rfl, HF.out.2, HF.out.1⟩
        · have hnz2 : ((r.more : Int) == 0) = false := by rw [beq_eq_false_iff_ne]; omega
          cases f
          · go_wp2_with fail
            go_end0
            exact ⟨rfl, HF.out.2, HF.out.1⟩
          · go_wp2_with fail
            go_end0
            exact ⟨rfl, HF.out.2, HF.out.1⟩
end Go.Proofs.YtiedoocgbajjjaaGreatDoor

/-
  Layer 4: the nodes of a tree one behind the other, with what each needs; a change of one of them.
  Conditions: those that each theorem states.
  Layer 4: place: what its two loops have come to behind each round.
  Conditions: those that each theorem states.
-/
import Derived.Test.YtiedoocgbajjjaaGreatDoorFFill
namespace Go.Proofs.YtiedoocgbajjjaaGreatDoor
open Go.RowKit Go.Maps
set_option maxRecDepth 100000

/-- A node: where it stands in memory, how many blocks it needs, whether a further one, how many entries it has, its record. -/
structure Nd where
  addr : Nat
  cont : Nat
  far : Bool
  kn : Nat
  rc : NRec
def ATr.nd (s : ATr) : Nd := ⟨s.addr, s.cont, s.far, s.ks.kids.length, s.rc⟩
def ATr.nds (t : ATr) : List Nd := t.all.map ATr.nd
def AKs.nds (k : AKs) : List Nd := k.all.map ATr.nd
theorem nds_length (t : ATr) : t.nds.length = t.all.length := by simp [ATr.nds]
theorem nd_turn {b : Nat} {m : Option Nat} {va vb vb0 : Value} {r r0 : NRec} {ks ks0 : AKs} (hk : r.kind = r0.kind) (hb : r.bytes = r0.bytes) (hs : ks.kids = ks0.kids) : (ATr.node b m va vb r ks).nd = { (ATr.node b m va vb0 r0 ks0).nd with rc := r } := by
  have e : (ATr.node b m va vb r ks).size = (ATr.node b m va vb0 r0 ks0).size := by simp only [ATr.size, hk, hb, hs]
  have c : (ATr.node b m va vb r ks).cont = (ATr.node b m va vb0 r0 ks0).cont := by
    unfold ATr.cont
    by_cases h2 : r0.kind = 2
    · rw [if_pos (show (ATr.node b m va vb r ks).rc.kind = 2 from hk.trans h2), if_pos (show (ATr.node b m va vb0 r0 ks0).rc.kind = 2 from h2), e]
    · rw [if_neg (show ¬ (ATr.node b m va vb r ks).rc.kind = 2 from fun h => h2 (hk.symm.trans h)), if_neg (show ¬ (ATr.node b m va vb0 r0 ks0).rc.kind = 2 from h2), e]
  have f : (ATr.node b m va vb r ks).far = (ATr.node b m va vb0 r0 ks0).far := by
    have : (ATr.node b m va vb r ks).cost = (ATr.node b m va vb0 r0 ks0).cost := by unfold ATr.cost; rw [e]; simp only [ATr.rc, hk]
    unfold ATr.far
    rw [c, this]
  simp only [ATr.nd, c, f, ATr.ks, hs]
  rfl
mutual
theorem nds_upd {a : Nat} (vb : Value) {r : NRec} : ∀ {t : ATr}, (∀ s ∈ t.all, s.addr = a → r.kind = s.rc.kind ∧ r.bytes = s.rc.bytes) → (t.upd a vb r).nds = t.nds.map fun n => if n.addr = a then { n with rc := r } else n
  | .node b m va vb0 r0 ks, h => by
    have ih := ndsK_upd vb (k := ks) (r := r) (a := a) (fun s hs => h s (by simp [ATr.all, hs]))
    unfold AKs.nds at ih
    simp only [ATr.upd, ATr.nds, ATr.all, List.map_cons, ih]
    congr 1
    by_cases e : b = a
    · obtain ⟨h1, h2⟩ := h (.node b m va vb0 r0 ks) (by simp [ATr.all]) e
      simp only [if_pos e]
      rw [nd_turn (vb0 := vb0) (r0 := r0) (ks0 := ks) h1 h2 (AKs.upd_kids a vb r ks)]
      have : ((ATr.node b m va vb0 r0 ks).nd).addr = a := e
      rw [if_pos this]
    · simp only [if_neg e]
      have : ¬ ((ATr.node b m va vb0 r0 ks).nd).addr = a := e
      rw [if_neg this, nd_turn (vb0 := vb0) (r0 := r0) (ks0 := ks) rfl rfl (AKs.upd_kids a vb r ks)]
      rfl
theorem ndsK_upd {a : Nat} (vb : Value) {r : NRec} : ∀ {k : AKs}, (∀ s ∈ k.all, s.addr = a → r.kind = s.rc.kind ∧ r.bytes = s.rc.bytes) → (k.upd a vb r).nds = k.nds.map fun n => if n.addr = a then { n with rc := r } else n
  | .nil, _ => rfl
  | .cons x t k, h => by
    have h1 := nds_upd vb (t := t) (r := r) (a := a) (fun s hs => h s (by simp [AKs.all, hs]))
    have h2 := ndsK_upd vb (k := k) (r := r) (a := a) (fun s hs => h s (by simp [AKs.all, hs]))
    unfold ATr.nds at h1
    unfold AKs.nds at h2
    simp only [AKs.upd, AKs.nds, AKs.all, List.map_append, h1, h2]
end
theorem map_set {f : Nd → Nd} : ∀ {l : List Nd} {j : Nat} (hj : j < l.length), (l.map Nd.addr).Nodup → (l.map fun n => if n.addr = l[j].addr then f n else n) = l.set j (f l[j])
  | n :: l, 0, _, h => by
    simp only [List.map_cons, List.nodup_cons] at h
    simp only [List.map_cons, List.getElem_cons_zero, if_pos, List.set_cons_zero]
    congr 1
    have : ∀ x ∈ l, (if x.addr = n.addr then f x else x) = x := fun x hx => if_neg fun e => h.1 (List.mem_map.2 ⟨x, hx, e⟩)
    rw [List.map_congr_left this, List.map_id']
  | n :: l, j + 1, hj, h => by
    simp only [List.map_cons, List.nodup_cons] at h
    have hj' : j < l.length := by simpa using hj
    simp only [List.map_cons, List.getElem_cons_succ, List.set_cons_succ]
    rw [if_neg (fun e => h.1 (List.mem_map.2 ⟨_, List.getElem_mem hj', e.symm⟩)), map_set hj' h.2]
theorem nds_addr (t : ATr) : t.nds.map Nd.addr = t.flat.map (·.1) := by
  simp only [ATr.nds, ATr.flat, List.map_map]
  rfl
/-- A change of the j-th node is a change of the tree. -/
theorem Placed.at {ex : List Nat} {base : Nat} {w w' : World} {t : ATr} (h : MTr base w t) {j : Nat} (hj : j < t.all.length) {v : Value} {r' : NRec} (hk : r'.kind = t.all[j].rc.kind) (hb : r'.bytes = t.all[j].rc.bytes) (T : Placed ex base w w' t.all[j] (t.all[j].upd t.all[j].addr v r')) (hx : ∀ b ∈ ex, NoBytes w b ∧ b ∉ t.foot) :
    Placed ex base w w' t (t.upd t.all[j].addr v r') ∧ (t.upd t.all[j].addr v r').nds = t.nds.set j { t.all[j].nd with rc := r' } := by
  have hn : (t.nds.map Nd.addr).Nodup := by rw [nds_addr]; exact h.addrs
  have hj' : j < t.nds.length := by rw [nds_length]; exact hj
  have ej : t.nds[j] = t.all[j].nd := by simp [ATr.nds]
  refine ⟨Placed.up (h.mem (List.getElem_mem hj)) T h (List.getElem_mem hj) hx, ?_⟩
  rw [nds_upd v (fun s hs e => ?_)]
  · have := map_set (f := fun n => { n with rc := r' }) hj' hn
    rw [ej] at this
    exact this
  · obtain ⟨i, hi, rfl⟩ := List.getElem_of_mem hs
    have hi' : i < t.nds.length := by rw [nds_length]; exact hi
    have : i = j := by
      have e1 : (t.nds.map Nd.addr)[i]'(by simpa using hi') = (t.nds.map Nd.addr)[j]'(by simpa using hj') := by simpa [ATr.nds, ATr.nd] using e
      have hp := List.pairwise_iff_getElem.1 hn
      rcases Nat.lt_trichotomy i j with h | h | h
      · exact absurd e1 (hp i j _ _ h)
      · exact h
      · exact absurd e1.symm (hp j i _ _ h)
    subst this
    exact ⟨hk, hb⟩
theorem Placed.ofTurned {base : Nat} {w w' : World} {t t' : ATr} (T : Turned base w w' t t') (hc : t'.er.core = t.er.core) : Placed [] base w w' t t' := ⟨by simpa using T.kept, T.m, T.addr, T.foot, hc⟩

/-- What trim leaves of a node. -/
def Nd.trim (n : Nd) : Nd := { n with rc := { n.rc with blocks := n.rc.blocks.take n.cont, more := if n.far then n.rc.more else 0 } }
theorem trim_upd {base : Nat} {w : World} {t : ATr} (h : MTr base w t) : ∃ v, t.trimT = t.upd t.addr v t.nd.trim.rc := by
  obtain ⟨a, m, va, vb, r, ks⟩ := t
  exact ⟨cutV vb (min (ATr.node a m va vb r ks).cont r.blocks.length), by
    rw [show (ATr.node a m va vb r ks).addr = a from rfl, ATr.upd_self h]
    rfl⟩
def Nd.lack (n : Nd) : Nat := n.cont - n.rc.blocks.length
def Nd.lackM (n : Nd) : Nat := if n.far = true ∧ n.rc.more = 0 then 1 else 0
def Nd.fill (n : Nd) (L : List Nat) : Nd := { n with rc := { n.rc with blocks := n.rc.blocks ++ L.take n.lack, more := if n.lackM = 1 then L.getD n.lack 0 else n.rc.more } }
/-- Whether a node lacks a slot, the root's being at a0. -/
def Nd.bare (a0 : Nat) (n : Nd) : Bool := decide (n.rc.slot = 0 ∧ n.addr ≠ a0)
def Nd.slotR (a0 : Nat) (n : Nd) (S : List Nat) : Nd := if n.bare a0 then { n with rc := { n.rc with slot := S.headD 0 } } else n
/-- What place makes of the nodes: the numbers of S go to those without a slot, the blocks of B to those that lack some. -/
def plc (a0 : Nat) : List Nd → List Nat → List Nat → List Nd
  | [], _, _ => []
  | n :: l, S, B => ((n.slotR a0 S).fill B) :: plc a0 l (if n.bare a0 then S.tail else S) (B.drop (n.lack + n.lackM))
def bares (a0 : Nat) (l : List Nd) : Nat := (l.map fun n => if n.bare a0 then 1 else 0).sum
def lacks (l : List Nd) : Nat := (l.map fun n => n.lack + n.lackM).sum
end Go.Proofs.YtiedoocgbajjjaaGreatDoor

namespace Go.Proofs.YtiedoocgbajjjaaGreatDoor
open Go.RowKit Go.Maps
set_option maxRecDepth 100000

theorem Placed.wide {ex ex' : List Nat} {base : Nat} {w w' : World} {t t' : ATr} (T : Placed ex base w w' t t') (h : ∀ b ∈ ex, b ∈ ex') : Placed ex' base w w' t t' :=
  ⟨T.kept.mono (fun q hq _ => by
    rcases List.mem_append.1 hq with h1 | h1
    · exact List.mem_append.2 (.inl (h q h1))
    · exact List.mem_append.2 (.inr h1)), T.m, T.addr, T.foot, T.core⟩
theorem set_mid {α : Type} (A : List α) (x y : α) (B : List α) {j : Nat} (hj : A.length = j) : (A ++ x :: B).set j y = A ++ y :: B := by
  subst hj
  simp
/-- A tree's j-th node, by what is known of its nodes. -/
theorem nds_at {t : ATr} {A B : List Nd} {n : Nd} {j : Nat} (h : t.nds = A ++ n :: B) (hA : A.length = j) : ∃ hj : j < t.all.length, t.all[j].nd = n := by
  have hj : j < t.nds.length := by rw [h, ← hA]; simp
  refine ⟨by rw [← nds_length]; exact hj, ?_⟩
  have e1 : t.nds[j]? = some n := by rw [h, ← hA]; simp
  have e2 : t.nds[j]? = some (t.all[j]'(by rw [← nds_length]; exact hj)).nd := by
    rw [List.getElem?_eq_getElem hj]
    simp [ATr.nds]
  rw [e2] at e1
  injection e1
/-- Pointers to a tree's nodes hang on their addresses alone. -/
theorem pv_nds {t t' : ATr} (h : t'.nds.map Nd.addr = t.nds.map Nd.addr) : pv t'.all = pv t.all := by
  have e : ∀ t : ATr, pv t.all = (t.nds.map Nd.addr).map fun a => Value.pointer (some ⟨a, 0, none⟩) := fun t => by
    simp only [pv, ATr.nds, List.map_map]
    rfl
  rw [e, e, h]

def TrimSt (base : Nat) (w : World) (t : ATr) (j : Nat) (wr : World) : Prop := ∃ t', Placed [] base w wr t t' ∧ t'.nds = (t.nds.take j).map Nd.trim ++ t.nds.drop j
theorem trim_step {base : Nat} {w wr w' : World} {t t' : ATr} (T : Placed [] base w wr t t') {j : Nat} (hj : j < t.nds.length) (hn : t'.nds = (t.nds.take j).map Nd.trim ++ t.nds.drop j) (hj' : j < t'.all.length) (U : Turned base wr w' t'.all[j] t'.all[j].trimT) : TrimSt base w t (j + 1) w' := by
  have hd : t.nds.drop j = t.nds[j] :: t.nds.drop (j + 1) := List.drop_eq_getElem_cons hj
  have hl : ((t.nds.take j).map Nd.trim).length = j := by rw [List.length_map, List.length_take]; omega
  rw [hd] at hn
  obtain ⟨_, e⟩ := nds_at hn hl
  have M := T.m
  have Ms := M.mem (List.getElem_mem hj')
  obtain ⟨v, hv⟩ := trim_upd Ms
  have hc : t'.all[j].trimT.er.core = t'.all[j].er.core := by cases t'.all[j]; rfl
  rw [hv] at U hc
  obtain ⟨P, hP⟩ := Placed.at M hj' (v := v) (r' := t'.all[j].nd.trim.rc) rfl rfl (Placed.ofTurned U hc) (fun b hb => by cases hb)
  refine ⟨_, T.trans P, ?_⟩
  rw [hP, hn, set_mid _ _ _ _ hl, e, List.take_succ_eq_append_getElem hj, List.map_append, List.append_assoc]
  rfl

/-- Behind j rounds of place's second loop. -/
def PlSt (base ps gs pb gb a0 : Nat) (w : World) (t : ATr) (N0 : List Nd) (S0 B0 : List Nat) (j : Nat) (wr : World) : Prop :=
  ∃ (t' : ATr) (D : List Nd) (S B : List Nat), Placed [ps, pb] base w wr t t' ∧ t'.nds = D ++ N0.drop j ∧ D.length = j ∧ plc a0 N0 S0 B0 = D ++ plc a0 (N0.drop j) S B ∧ PoolIs wr ps gs S ∧ PoolIs wr pb gb B ∧
    bares a0 (N0.drop j) ≤ S.length ∧ lacks (N0.drop j) ≤ B.length ∧ S.length ≤ S0.length ∧ B.length ≤ B0.length
/-- What two pools have to be apart from. -/
structure Apart4 (ps gs pb gb : Nat) (w : World) (t : ATr) : Prop where
  lt : ∀ q ∈ [ps, gs, pb, gb], q < w.heap.size ∧ q ∉ t.foot
  ne : ps ≠ pb ∧ ps ≠ gb ∧ gs ≠ pb
theorem Apart4.out {ps gs pb gb base : Nat} {w w' : World} {t t' : ATr} {ex : List Nat} (h : Apart4 ps gs pb gb w t) (P : Placed ex base w w' t t') : Apart4 ps gs pb gb w' t' :=
  ⟨fun q hq => ⟨Nat.lt_of_lt_of_le (h.lt q hq).1 P.kept.size, fun hh => (P.foot q hh).elim (h.lt q hq).2 fun h2 => by have := (h.lt q hq).1; omega⟩, h.ne⟩
/-- A slot is taken and stored. -/
theorem PlSt.slot {base ps gs pb gb : Nat} {wr w1 w2 : World} {t' : ATr} {D R : List Nd} {n : Nd} {x : Nat} {S B : List Nat} (M : MTr base wr t') (hA : Apart4 ps gs pb gb wr t') (hn : t'.nds = D ++ n :: R) {j : Nat} (hD : D.length = j) (hj : j < t'.all.length) (hb : n.rc.blocks.length ≤ 1000)
    (hk1 : Kept [ps] wr w1) (hS : PoolIs w1 ps gs S) (hps : PoolIs wr ps gs (x :: S)) (hB : PoolIs wr pb gb B) (e : w2 = w1.setCell ⟨t'.all[j].addr, 4, none⟩ (.int .i64 (x : Int))) :
    ∃ t'', Placed [ps, pb] base wr w2 t' t'' ∧ t''.nds = D ++ { n with rc := { n.rc with slot := x } } :: R ∧ PoolIs w2 ps gs S ∧ PoolIs w2 pb gb B := by
  obtain ⟨_, en⟩ := nds_at hn hD
  have hps1 : ps ∈ [ps, gs, pb, gb] := by simp
  have P1 : Placed [ps] base wr w1 t' t' := Placed.still M hk1 (fun b hb => by
    obtain rfl : b = ps := by simpa using hb
    exact ⟨hps.nob, (hA.lt _ hps1).2⟩)
  have M1 := P1.m
  have Ms := M1.mem (List.getElem_mem hj)
  obtain ⟨s, hs⟩ : ∃ s, t'.all[j] = s := ⟨_, rfl⟩
  have hsf : ∀ b ∈ s.foot, b ∈ t'.foot := by rw [← hs]; exact ATr.all_foot (List.getElem_mem hj)
  rw [hs] at e en Ms
  obtain ⟨a, m, va, vb, r, ks⟩ := s
  have hk2 : Kept [a] w1 w2 := by rw [e]; exact Kept.setCell _ _ _ _ (by simp [ATr.addr])
  have hr1 := Ms.ok.1
  have hown := Ms.own.2.2.1
  have haf : a ∈ t'.foot := hsf a (by simp [ATr.foot])
  have hnod := Ms.nodup
  simp only [ATr.foot] at hnod
  rw [List.nodup_cons] at hnod
  have hrn : n.rc = r := by rw [← en]; rfl
  have P2 : Placed [ps] base w1 w2 (.node a m va vb r ks) ((ATr.node a m va vb r ks).upd (ATr.node a m va vb r ks).addr vb { r with slot := x }) := by
    rw [show (ATr.node a m va vb r ks).addr = a from rfl, ATr.upd_self Ms]
    refine Placed.row Ms (fun b hb => ?_) (hk2.mono (fun q hq _ => by simp at hq; simp [hq])) ?_ rfl rfl rfl (fun q hq => .inl hq) ?_ ?_
    · obtain rfl : b = ps := by simpa using hb
      exact ⟨hS.nob, fun hh => (hA.lt _ hps1).2 (hsf _ hh)⟩
    · rw [e]
      exact heap_setCell_same _ _ _ _ _ _ hr1
    · refine owns_kept hown hk2 (fun q hq hh => ?_)
      obtain rfl : q = a := by simpa using hh
      exact hnod.1 (by simp [hq])
    · rw [← hrn]
      exact Nat.le_trans hb (by decide)
  rw [← hs] at P2
  obtain ⟨P3, hP3⟩ := Placed.at M1 hj (v := vb) (r' := { r with slot := x }) (by rw [hs]; rfl) (by rw [hs]; rfl) P2 (fun b hb => by
    obtain rfl : b = ps := by simpa using hb
    exact ⟨hS.nob, (hA.lt _ hps1).2⟩)
  refine ⟨_, (P1.trans P3).wide (fun b hb => by simp at hb; simp [hb]), ?_, hS.keptX hk2 ?_ ?_, (hB.keptX hk1 ?_ ?_).keptX hk2 ?_ ?_⟩
  · rw [hP3, hn, set_mid _ _ _ _ hD, hs, en, hrn]
  · simp; intro h; exact (hA.lt ps (by simp)).2 (h ▸ haf)
  · simp; intro h; exact (hA.lt gs (by simp)).2 (h ▸ haf)
  · simp; exact fun h => hA.ne.1 h.symm
  · simp; exact fun h => hA.ne.2.1 h.symm
  · simp; intro h; exact (hA.lt pb (by simp)).2 (h ▸ haf)
  · simp; intro h; exact (hA.lt gb (by simp)).2 (h ▸ haf)
/-- The node takes its blocks. -/
theorem PlSt.fill {base ps gs pb gb : Nat} {wr : World} {t' : ATr} {D R : List Nd} {n : Nd} {S B : List Nat} (M : MTr base wr t') (hbase : base ≤ wr.heap.size) (hA : Apart4 ps gs pb gb wr t') (hn : t'.nds = D ++ n :: R) {j : Nat} (hD : D.length = j) (hj : j < t'.all.length) (hb : n.rc.blocks.length ≤ 1000) (hkn : n.kn ≤ 1000)
    (hS : PoolIs wr ps gs S) (hB : PoolIs wr pb gb B) (hBl : B.length ≤ 50000) (hL : n.lack + n.lackM ≤ B.length) :
    Calls Tryz.prog 105 #[.pointer (some ⟨t'.all[j].addr, 0, none⟩), .pointer (some ⟨pb, 0, none⟩)] wr fun e w' => e = .returned (.tuple #[]) ∧
      ∃ t'', Placed [ps, pb] base wr w' t' t'' ∧ t''.nds = D ++ n.fill B :: R ∧ PoolIs w' ps gs S ∧ PoolIs w' pb gb (B.drop (n.lack + n.lackM)) := by
  obtain ⟨_, en⟩ := nds_at hn hD
  have Ms := M.mem (List.getElem_mem hj)
  have hsf := ATr.all_foot (List.getElem_mem hj)
  have e1 : t'.all[j].ks.kids.length = n.kn := by rw [← en]; rfl
  have e2 : t'.all[j].rc = n.rc := by rw [← en]; rfl
  have e3 : t'.all[j].lack = n.lack := by rw [← en]; rfl
  have e4 : t'.all[j].lackM = n.lackM := by rw [← en]; rfl
  have e5 : t'.all[j].fillR B = (n.fill B).rc := by rw [← en]; rfl
  have := nfill_any base pb gb t'.all[j] B wr Ms (by rw [e1]; exact hkn) (by rw [e2]; exact hb) hbase hB hBl (fun q hq => by
    have h1 : q ∈ [ps, gs, pb, gb] := by rcases hq with rfl | rfl <;> simp
    exact ⟨(hA.lt q h1).1, fun hh => (hA.lt q h1).2 (hsf q hh)⟩) (by rw [e3, e4]; exact hL)
  refine this.mono ?_
  rintro e w' ⟨rfl, H⟩
  refine ⟨rfl, ?_⟩
  obtain ⟨hp, v, P⟩ := H.out
  rw [e3, e4] at hp
  rw [e5] at P
  obtain ⟨P3, hP3⟩ := Placed.at M hj (v := v) (r' := (n.fill B).rc) (by rw [e2]; rfl) (by rw [e2]; rfl) P (fun b hb => by
    obtain rfl : b = pb := by simpa using hb
    exact ⟨hB.nob, (hA.lt _ (by simp)).2⟩)
  refine ⟨_, P3.wide (fun b hb => by simp at hb; simp [hb]), ?_, hS.keptX P3.kept ?_ ?_, hp⟩
  · rw [hP3, hn, set_mid _ _ _ _ hD, en]
    rfl
  · simp only [List.cons_append, List.nil_append, List.mem_cons, not_or]
    exact ⟨hA.ne.1, (hA.lt ps (by simp)).2⟩
  · simp only [List.cons_append, List.nil_append, List.mem_cons, not_or]
    exact ⟨hA.ne.2.2, (hA.lt gs (by simp)).2⟩
theorem slotR_keep (a0 : Nat) (n : Nd) (S : List Nat) : (n.slotR a0 S).addr = n.addr ∧ (n.slotR a0 S).lack = n.lack ∧ (n.slotR a0 S).lackM = n.lackM ∧ (n.slotR a0 S).rc.blocks = n.rc.blocks ∧ (n.slotR a0 S).kn = n.kn := by
  unfold Nd.slotR
  split <;> exact ⟨rfl, rfl, rfl, rfl, rfl⟩
theorem plc_addr (a0 : Nat) : ∀ (l : List Nd) (S B : List Nat), (plc a0 l S B).map Nd.addr = l.map Nd.addr
  | [], _, _ => rfl
  | n :: l, S, B => by
    simp only [plc, List.map_cons, plc_addr a0 l]
    congr 1
    exact (slotR_keep a0 n S).1
theorem Placed.dropEx {ex : List Nat} {base : Nat} {w w1 w2 : World} {t t1 t2 : ATr} (T : Placed [] base w w1 t t1) (P : Placed ex base w1 w2 t1 t2) (h : ∀ b ∈ ex, w.heap.size ≤ b) : Placed [] base w w2 t t2 :=
  ⟨T.kept.andThen P.kept (fun i hi => by
    rcases List.mem_append.1 hi with h1 | h1
    · exact .inr (h i h1)
    · exact (T.foot i h1).imp (fun h2 => by simpa using h2) id), P.m, P.addr.trans T.addr, fun b hb => by
    rcases P.foot b hb with h1 | h1
    · exact T.foot b h1
    · exact .inr (Nat.le_trans T.kept.size h1), P.core.trans T.core⟩
/-- The round's end: the node has its slot, and takes its blocks. -/
theorem place_fill {base ps gs pb gb a0 : Nat} {w7 wx wq : World} {t1 t2 t3 : ATr} {N0 D : List Nd} {S0 B0 S B : List Nat} {n : Nd} {j a : Nat} (hA : Apart4 ps gs pb gb w7 t1) (hbase : base ≤ w7.heap.size) (P : Placed [ps, pb] base w7 wx t1 t2) (hD : D.length = j) (hR : N0.drop j = n :: N0.drop (j + 1))
    (hplc : plc a0 N0 S0 B0 = D ++ plc a0 (N0.drop j) S B) (hbs : bares a0 (N0.drop j) ≤ S.length) (hls : lacks (N0.drop j) ≤ B.length) (hSl : S.length ≤ S0.length) (hBl : B.length ≤ B0.length) (hB0 : B0.length ≤ 50000) (hb : n.rc.blocks.length ≤ 1000) (hkn : n.kn ≤ 1000)
    (Q : Placed [ps, pb] base wx wq t2 t3) (hn3 : t3.nds = D ++ n.slotR a0 S :: N0.drop (j + 1)) (pS : PoolIs wq ps gs (if n.bare a0 then S.tail else S)) (pB : PoolIs wq pb gb B) (ha : n.addr = a) :
    Calls Tryz.prog 105 #[.pointer (some ⟨a, 0, none⟩), .pointer (some ⟨pb, 0, none⟩)] wq fun e w' => e = .returned (.tuple #[]) ∧ Hid (PlSt base ps gs pb gb a0 w7 t1 N0 S0 B0 (j + 1) w') := by
  obtain ⟨k1, k2, k3, k4, k5⟩ := slotR_keep a0 n S
  obtain ⟨hj, en⟩ := nds_at hn3 hD
  have e1 : t3.all[j].addr = a := by rw [← ha, ← k1, ← en]; rfl
  have hlk : lacks (N0.drop j) = n.lack + n.lackM + lacks (N0.drop (j + 1)) := by rw [hR]; simp [lacks]
  have hbk : bares a0 (N0.drop j) = (if n.bare a0 then 1 else 0) + bares a0 (N0.drop (j + 1)) := by rw [hR]; simp [bares]
  have PQ := P.trans Q
  have := PlSt.fill Q.m (Nat.le_trans hbase PQ.kept.size) (hA.out PQ) hn3 hD hj (by rw [k4]; exact hb) (by rw [k5]; exact hkn) pS pB (Nat.le_trans hBl hB0) (by rw [k2, k3]; omega)
  rw [e1] at this
  refine this.mono ?_
  rintro e w' ⟨rfl, t4, P4, hn4, pS4, pB4⟩
  rw [k2, k3] at pB4
  refine ⟨rfl, t4, D ++ [(n.slotR a0 S).fill B], _, _, PQ.trans P4, by rw [hn4]; simp, by simp [hD], ?_, pS4, pB4, ?_, ?_, ?_, ?_⟩
  · rw [hplc, hR]
    simp [plc]
  · split
    · rename_i h1
      rw [if_pos h1] at hbk
      rw [List.length_tail]
      omega
    · rename_i h1
      rw [if_neg h1] at hbk
      omega
  · rw [List.length_drop]
    omega
  · split
    · rw [List.length_tail]
      omega
    · exact hSl
  · rw [List.length_drop]
    omega
end Go.Proofs.YtiedoocgbajjjaaGreatDoor

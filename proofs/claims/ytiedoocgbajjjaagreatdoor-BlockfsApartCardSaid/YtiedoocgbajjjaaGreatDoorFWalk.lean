/-
  Layer 4: a directory's map of entries, and a tree of nodes in memory.
  Conditions: those that each theorem states.
  Layer 4: a tree of nodes in memory: what it is, and the calls that only read one node (newNode, size, names).
  Conditions: those that each theorem states.
  Layer 4: a tree in memory: a path is followed; all nodes are told.
  Conditions: those that each theorem states.
-/
import Derived.Test.YtiedoocgbajjjaaGreatDoorLTakeE
import Derived.Maps.Ext
import Derived.Maps.OwnSet
import Derived.StringKeys
import Derived.Test.YtiedoocgbajjjaaGreatDoorIter
namespace Go.Proofs.YtiedoocgbajjjaaGreatDoor
open Go.RowKit Go.Maps
set_option maxRecDepth 100000

/-- How an entry of the map reads: a pointer to a whole block. -/
def ptrR (v : Value) : Option (DataW Unit × List MemPlace) :=
  match v with
  | .pointer (some ⟨a, 0, none⟩) => some (.lit (.int .i64 (a : Int)), [])
  | .pointer none => some (.nil, [])
  | _ => none
theorem ptrR_inv {v : Value} {a : Nat} {ps : List MemPlace} (h : ptrR v = some (.lit (.int .i64 (a : Int)), ps)) : v = .pointer (some ⟨a, 0, none⟩) := by
  unfold ptrR at h
  split at h
  · simp only [Option.some.injEq, Prod.mk.injEq, DataW.lit.injEq, Lit.int.injEq, true_and] at h
    have : (‹Nat› : Nat) = a := by omega
    rw [this]
  · cases h
  · cases h
theorem ptrR_nil {v : Value} {ps : List MemPlace} (h : ptrR v = some (.nil, ps)) : v = .pointer none := by
  unfold ptrR at h
  split at h
  · cases h
  · rfl
  · cases h

abbrev Kid := List UInt8 × Nat
def kidE (p : Kid) : Lit × DataW Unit := (.string p.1, .lit (.int .i64 (p.2 : Int)))
def kget (l : List Kid) (s : List UInt8) : Option Nat := (l.find? fun p => p.1 == s).map (·.2)
def kins (x : Kid) : List Kid → List Kid
  | [] => [x]
  | y :: r => if bytesBefore x.1 y.1 then x :: y :: r else y :: kins x r
def kdel (l : List Kid) (s : List UInt8) : List Kid := l.filter fun p => !(p.1 == s)
def kput (l : List Kid) (s : List UInt8) (a : Nat) : List Kid := kins (s, a) (kdel l s)
theorem kidE_ins (x : Kid) : ∀ l : List Kid, DataW.insert (kidE x) (l.map kidE) = (kins x l).map kidE
  | [] => rfl
  | y :: r => by
    simp only [List.map_cons, DataW.insert, kins]
    have e : (kidE x).1.before (kidE y).1 = bytesBefore x.1 y.1 := rfl
    rw [e]
    split
    · rfl
    · rw [kidE_ins x r]; rfl
theorem kidE_del (l : List Kid) (s : List UInt8) : ((l.map kidE).filter fun p => !p.1.sameKey (.string s)) = (kdel l s).map kidE := by
  unfold kdel
  rw [List.filter_map]
  rfl
theorem kid_put (l : List Kid) (s : List UInt8) (a : Nat) : (DataW.map (l.map kidE)).put (.string s) (.lit (.int .i64 (a : Int))) = .map ((kput l s a).map kidE) := by
  show DataW.map (DataW.insert (kidE (s, a)) ((l.map kidE).filter fun p => !p.1.sameKey (.string s))) = _
  rw [kidE_del, kidE_ins]
  rfl
theorem kid_del (l : List Kid) (s : List UInt8) : (DataW.map (l.map kidE)).del (.string s) = .map ((kdel l s).map kidE) := by
  show DataW.map ((l.map kidE).filter fun p => !p.1.sameKey (.string s)) = _
  rw [kidE_del]
theorem kid_at (l : List Kid) (s : List UInt8) : (DataW.map (l.map kidE)).atKey (.string s) .nil = match kget l s with | some a => .lit (.int .i64 (a : Int)) | none => .nil := by
  unfold DataW.atKey
  simp only
  have : (l.map kidE).find? (fun p => p.1.sameKey (.string s)) = (l.find? fun p => p.1 == s).map kidE := by
    rw [List.find?_map]
    rfl
  rw [this]
  unfold kget
  cases l.find? fun p => p.1 == s <;> rfl

/-- BLOCK m OF w IS A DIRECTORY's MAP. -/
def KMap (w : World) (m : Nat) (l : List Kid) : Prop := ∃ n, n ≤ 1000000 ∧ w.ownsMap Tryz.prog 9 ptrR m n (.map (l.map kidE))
theorem KMap.lt {w : World} {m : Nat} {l : List Kid} (h : KMap w m l) : m < w.heap.size := by
  obtain ⟨n, _, h1⟩ := h
  exact h1.lt
theorem KMap.kept {w w' : World} {m : Nat} {l : List Kid} {ex : List Nat} (h : KMap w m l) (hk : Kept ex w w') (hm : m ∉ ex) : KMap w' m l := by
  obtain ⟨n, h1, es, clock, hb, r⟩ := h
  exact ⟨n, h1, es, clock, hk.heap hm hb, r⟩
theorem KMap.made (w : World) : KMap (w.alloc (.map #[] 0)) w.heap.size [] := ⟨0, by omega, World.ownsMap_made w _ _ _⟩
theorem strKeyed : Keyed Tryz.prog 9 := string_keyed Tryz.underlying9
theorem zeroPtr (w : World) : (zeroValue 81).run Tryz.prog w = .ok (.pointer none) w := by kernel_rfl
theorem KMap.canon {w : World} {m : Nat} {l : List Kid} (h : KMap w m l) : l.Pairwise fun p q => bytesBefore p.1 q.1 = true := by
  obtain ⟨n, _, h1⟩ := h
  obtain ⟨es, he, hp, _⟩ := h1.canon strKeyed
  injection he with he
  rw [← he, List.pairwise_map] at hp
  exact hp
theorem KMap.look {w : World} {m : Nat} {l : List Kid} (h : KMap w m l) (s : List UInt8) (hs : s.length ≤ 9223372036854775807) :
    (Instr.lookup 98 (.map (some m)) (.string (strL s)) false).run Tryz.prog w = .ok (.pointer ((kget l s).map fun a => ⟨a, 0, none⟩)) w := by
  obtain ⟨n, _, h1⟩ := h
  obtain ⟨v, ps, hrun, hv⟩ := h1.lookup strKeyed Tryz.underlying98 (zeroPtr w) (zd := .nil) (zp := []) rfl (key := .string (strL s)) (kl := .string s) (WideMaps.keyOf_string_mk Tryz.underlying9 (by rw [strL_size]; unfold maxLen; omega))
  rw [kid_at] at hv
  rw [hrun]
  cases hg : kget l s with
  | none =>
    rw [hg] at hv
    rw [ptrR_nil hv]
    rfl
  | some a =>
    rw [hg] at hv
    rw [ptrR_inv hv]
    rfl
theorem KMap.len {w : World} {m : Nat} {l : List Kid} (h : KMap w m l) (ty : TypeId) : (Builtin.len_ #[98] ty #[.map (some m)]).run Tryz.prog w = .ok (.int .i64 (l.length : Int)) w := by
  obtain ⟨n, _, h1⟩ := h
  have := h1.len Tryz.underlying98 ty
  rw [this]
  simp [Maps.size]
theorem KMap.upd {w : World} {m : Nat} {l : List Kid} (h : KMap w m l) (hl : l.length ≤ 1000) (s : List UInt8) (hs : s.length ≤ 9223372036854775807) (a : Nat) :
    ∃ w', (Instr.mapUpdate 98 (.map (some m)) (.string (strL s)) (.pointer (some ⟨a, 0, none⟩))).run Tryz.prog w = .ok () w' ∧ KMap w' m (kput l s a) ∧ Kept [m] w w' := by
  obtain ⟨n, hn, es, clock, hb, F, hsz, hD⟩ := h
  have hsz' : es.size ≤ 1000 := by
    have := congrArg Maps.size hD
    simp [Maps.size, length_sorted] at this
    omega
  have h1 : w.ownsMap Tryz.prog 9 ptrR m 1000 (.map (l.map kidE)) := ⟨es, clock, hb, F, hsz', hD⟩
  obtain ⟨w', hrun, ho, hg⟩ := h1.update strKeyed Tryz.underlying98 (by unfold maxLen; omega) (WideMaps.keyOf_string_mk (s := strL s) Tryz.underlying9 (by rw [strL_size]; unfold maxLen; omega)) (val := .pointer (some ⟨a, 0, none⟩)) (d := .lit (.int .i64 (a : Int))) (ps := []) rfl
  refine ⟨w', hrun, ⟨1001, by omega, ?_⟩, Kept.grown hg (fun k hk => by injection hk with hk; simp [hk])⟩
  rw [← kid_put]
  exact ho
theorem KMap.drop {w : World} {m : Nat} {l : List Kid} (h : KMap w m l) (s : List UInt8) (hs : s.length ≤ 9223372036854775807) (ty : TypeId) :
    ∃ w', (Builtin.delete_ #[98, 9] ty #[.map (some m), .string (strL s)]).run Tryz.prog w = .ok (.tuple #[]) w' ∧ KMap w' m (kdel l s) ∧ Kept [m] w w' := by
  obtain ⟨n, hn, h1⟩ := h
  obtain ⟨w', hrun, ho, hg⟩ := h1.drop strKeyed Tryz.underlying98 (WideMaps.keyOf_string_mk (s := strL s) Tryz.underlying9 (by rw [strL_size]; unfold maxLen; omega)) ty
  refine ⟨w', hrun, ⟨n, hn, ?_⟩, Kept.grown hg.grown (fun k hk => by injection hk with hk; simp [hk])⟩
  rw [← kid_del]
  exact ho
end Go.Proofs.YtiedoocgbajjjaaGreatDoor

namespace Go.Proofs.YtiedoocgbajjjaaGreatDoor
open Go.RowKit Go.Maps
set_option maxRecDepth 100000

/-- What a node holds, beside its entries. -/
structure NRec where
  kind : Int
  mode : Int
  bytes : List UInt8
  slot : Nat
  blocks : List Nat
  more : Nat
  fresh : Bool

mutual
/-- A tree with the blocks of memory in which it stands: a: the node's; m: its map's; va, vb: the values of its rows of bytes and of numbers. -/
inductive ATr where
  | node (a : Nat) (m : Option Nat) (va vb : Value) (r : NRec) (ks : AKs)
inductive AKs where
  | nil
  | cons (s : List UInt8) (t : ATr) (k : AKs)
end
def ATr.addr : ATr → Nat
  | .node a _ _ _ _ _ => a
def ATr.rc : ATr → NRec
  | .node _ _ _ _ r _ => r
def ATr.ks : ATr → AKs
  | .node _ _ _ _ _ k => k
def AKs.kids : AKs → List Kid
  | .nil => []
  | .cons s t k => (s, t.addr) :: k.kids
def AKs.names : AKs → List (List UInt8)
  | .nil => []
  | .cons s _ k => s :: k.names
theorem AKs.names_kids : ∀ k : AKs, k.kids.map (·.1) = k.names
  | .nil => rfl
  | .cons s t k => by simp [AKs.kids, AKs.names, AKs.names_kids k]
def AKs.get : AKs → List UInt8 → Option ATr
  | .nil, _ => none
  | .cons s t k, x => if s = x then some t else k.get x
theorem AKs.kget : ∀ (k : AKs) (x : List UInt8), Go.Proofs.YtiedoocgbajjjaaGreatDoor.kget k.kids x = (k.get x).map ATr.addr
  | .nil, _ => rfl
  | .cons s t k, x => by
    have ih := AKs.kget k x
    unfold Go.Proofs.YtiedoocgbajjjaaGreatDoor.kget at ih ⊢
    simp only [AKs.kids, AKs.get, List.find?_cons]
    by_cases h : s = x
    · simp [h]
    · have : (s == x) = false := by simpa using h
      rw [this, if_neg h]
      exact ih

def nodeRow (m : Option Nat) (va vb : Value) (r : NRec) : Array Value :=
  #[.int .i64 r.kind, .int .i64 r.mode, va, .map m, .int .i64 r.slot, vb, .int .i64 r.more, .bool r.fresh]
/-- A row of numbers as a value. -/
def NumsIs (w : World) (v : Value) (l : List Nat) : Prop := ∃ ao cap, v = .slice ao l.length cap ∧ l.length ≤ cap ∧ cap ≤ 9223372036854775807 ∧ IntsIs w ao l.length (natI l)
theorem NumsIs.kept {w w' : World} {v : Value} {l : List Nat} (h : NumsIs w v l) (hk : Kept [] w w') : NumsIs w' v l := by
  obtain ⟨ao, cap, e, h1, h2, h3⟩ := h
  exact ⟨ao, cap, e, h1, h2, h3.kept hk⟩
/-- A node's row of bytes: in a block of bytes. -/
def BytesIs (w : World) (v : Value) (l : List UInt8) : Prop := SlIs w v l ∧ (∀ g, v.ownBlock = some g → ∃ cs fr, w.heap[g]? = some (.cells cs 5 fr)) ∧ CapOk v
theorem BytesIs.kept {w w' : World} {v : Value} {l : List UInt8} (h : BytesIs w v l) (hk : Kept [] w w') : BytesIs w' v l :=
  ⟨h.1.kept hk, fun g hg => by obtain ⟨cs, fr, hh⟩ := h.2.1 g hg; exact ⟨cs, fr, hk.heap (by simp) hh⟩, h.2.2⟩
mutual
def TrOk (w : World) : ATr → Prop
  | .node a m va vb r ks => w.heap[a]? = some (.cells (nodeRow m va vb r) 100) ∧ (BytesIs w va r.bytes ∧ r.bytes.length ≤ 2432) ∧ NumsIs w vb r.blocks ∧
      (match m with | some b => r.kind = 2 ∧ KMap w b ks.kids | none => r.kind ≠ 2 ∧ ks = .nil) ∧ KsOk w ks
def KsOk (w : World) : AKs → Prop
  | .nil => True
  | .cons s t k => s.length ≤ 28 ∧ TrOk w t ∧ KsOk w k
end
mutual
theorem TrOk.kept {w w' : World} (hk : Kept [] w w') : ∀ {t : ATr}, TrOk w t → TrOk w' t
  | .node a m va vb r ks, h => by
    obtain ⟨h1, h2, h3, h4, h5⟩ := h
    refine ⟨hk.heap (by simp) h1, ⟨h2.1.kept hk, h2.2⟩, h3.kept hk, ?_, KsOk.kept hk h5⟩
    cases m with
    | none => exact h4
    | some b => exact ⟨h4.1, h4.2.kept hk (by simp)⟩
theorem KsOk.kept {w w' : World} (hk : Kept [] w w') : ∀ {k : AKs}, KsOk w k → KsOk w' k
  | .nil, _ => trivial
  | .cons _ _ _, h => ⟨h.1, TrOk.kept hk h.2.1, KsOk.kept hk h.2.2⟩
end
theorem KsOk.get {w : World} : ∀ {k : AKs} {x : List UInt8} {t : ATr}, KsOk w k → k.get x = some t → TrOk w t
  | .nil, _, _, _, h => by cases h
  | .cons s t k, x, t', hk, h => by
    simp only [AKs.get] at h
    split at h
    · injection h with h
      rw [← h]
      exact hk.2.1
    · exact KsOk.get hk.2.2 h

def ATr.size : ATr → Nat
  | .node _ _ _ _ r ks => if r.kind = 2 then ks.kids.length else r.bytes.length
theorem nsize_any (t : ATr) (w : World) (h : TrOk w t) (hl : t.ks.kids.length ≤ 1000) : Calls Tryz.prog 56 #[.pointer (some ⟨t.addr, 0, none⟩)] w fun e w' => e = .returned (.int .i64 (t.size : Int)) ∧ w = w' := by
  obtain ⟨a, m, va, vb, r, ks⟩ := t
  obtain ⟨h1, ⟨⟨h2, _⟩, _⟩, h3, h4, h5⟩ := h
  have c0 : w.cell? ⟨a, 0, none⟩ = some (.int .i64 r.kind) := cell_of_row _ _ 0 _ _ _ h1
  have c2 : w.cell? ⟨a, 2, none⟩ = some va := cell_of_row _ _ 2 _ _ _ h1
  have c3 : w.cell? ⟨a, 3, none⟩ = some (.map m) := cell_of_row _ _ 3 _ _ _ h1
  by_cases hk : r.kind = 2
  · obtain ⟨b, rfl, hm⟩ : ∃ b, m = some b ∧ KMap w b ks.kids := by
      cases m with
      | none => exact absurd hk h4.1
      | some b => exact ⟨b, rfl, h4.2⟩
    have hlen := hm.len 3
    have HS : Hid (((ATr.node a (some b) va vb r ks).size : Int) = (ks.kids.length : Int)) := by show _ = _; simp [ATr.size, hk]
    have hkb : (r.kind == 2) = true := by simpa using hk
    clear h1 h2 h3 h4 h5 hm hl
    show Calls Tryz.prog 56 #[.pointer (some ⟨a, 0, none⟩)] w _
    go_enter Tryz.func56, Tryz.ntmps56
    go_wp2_with fail
    go_ret
    exact ⟨ret1 HS.out.symm, rfl⟩
  · have hkb : (r.kind == 2) = false := by simpa using hk
    have HS : Hid (((ATr.node a m va vb r ks).size : Int) = (r.bytes.length : Int)) := by show _ = _; simp [ATr.size, hk]
    obtain ⟨ao, cap, hva⟩ : ∃ ao cap, va = .slice ao r.bytes.length cap := by
      rcases h2 with ⟨b, o, cap, rfl, _⟩ | ⟨rfl, e⟩
      · exact ⟨_, _, rfl⟩
      · exact ⟨none, 0, by rw [e]; rfl⟩
    subst hva
    clear h1 h2 h3 h4 h5 hl
    show Calls Tryz.prog 56 #[.pointer (some ⟨a, 0, none⟩)] w _
    go_enter Tryz.func56, Tryz.ntmps56
    go_wp2_with fail
    go_ret
    exact ⟨ret1 HS.out.symm, rfl⟩

theorem before_lt : ∀ {p q : List UInt8}, bytesBefore p q = true → p < q
  | [], [], h => by cases h
  | [], _ :: _, _ => List.nil_lt_cons _ _
  | _ :: _, [], h => by cases h
  | a :: x, b :: y, h => by
    simp only [bytesBefore, Bool.or_eq_true, Bool.and_eq_true, decide_eq_true_eq, beq_iff_eq] at h
    rcases h with h | ⟨rfl, h⟩
    · exact List.Lex.rel h
    · exact List.Lex.cons (before_lt h)
theorem sorted_names {l : List Kid} {ss : List (List UInt8)} (hp : l.Pairwise fun p q => bytesBefore p.1 q.1 = true) (h : ss.Perm (l.map (·.1))) : ss.mergeSort (fun x y => decide (x ≤ y)) = l.map (·.1) := by
  have hs : (l.map (·.1)).Pairwise (fun x y => x ≤ y) := by
    rw [List.pairwise_map]
    exact hp.imp fun h => List.le_of_lt (before_lt h)
  have h1 : (ss.mergeSort (fun x y => decide (x ≤ y))).Perm (l.map (·.1)) := (List.mergeSort_perm ss _).trans h
  refine h1.eq_of_pairwise (le := fun x y => x ≤ y) (fun a b _ _ h1 h2 => List.le_antisymm h1 h2) ?_ hs
  have := List.pairwise_mergeSort (le := fun x y : List UInt8 => decide (x ≤ y)) (fun a b c h1 h2 => by
    simp only [decide_eq_true_eq] at h1 h2 ⊢
    exact List.le_trans h1 h2) (fun a b => by
    simp only [Bool.or_eq_true, decide_eq_true_eq]
    exact List.le_total a b) ss
  exact this.imp fun h => by simpa using h
theorem strKeys_kids (l : List Kid) : strKeys (DataW.map (l.map kidE)) = l.map (·.1) := by
  simp only [strKeys, List.map_map]
  rfl
theorem StrsIs.own {w : World} {base : Nat} {v : Value} {l : List (List UInt8)} (h : w.ownsRow base 9 1 v l.length (sv l)) : StrsIs w v l := by
  rcases owns_range h with ⟨g, cap, rfl, _, hg, _, _, hr⟩ | ⟨rfl, hn, _⟩
  · exact .inl ⟨g, 0, cap, rfl, hg, hr⟩
  · exact .inr ⟨rfl, List.eq_nil_of_length_eq_zero hn⟩
theorem Below.kept0 {w w' : World} (h : Below w.heap.size w w') : Kept [] w w' := ⟨h.os, h.tape, h.output, h.size, fun k hk _ => h.block k hk⟩

set_option maxHeartbeats 1000000 in
theorem nnames_any (t : ATr) (w : World) (h : TrOk w t) (hl : t.ks.kids.length ≤ 1000) : Calls Tryz.prog 54 #[.pointer (some ⟨t.addr, 0, none⟩)] w fun e w' => ∃ v, e = .returned v ∧ Hid (Kept [] w w' ∧ StrsIs w' v t.ks.names ∧ ∀ g, v.ownBlock = some g → w.heap.size ≤ g) := by
  obtain ⟨a, m, va, vb, r, ks⟩ := t
  obtain ⟨h1, _, h3, h4, h5⟩ := h
  have c3 : w.cell? ⟨a, 3, none⟩ = some (.map m) := cell_of_row _ _ 3 _ _ _ h1
  show Calls Tryz.prog 54 #[.pointer (some ⟨a, 0, none⟩)] w fun e w' => ∃ v, e = .returned v ∧ Hid (Kept [] w w' ∧ StrsIs w' v ks.names ∧ ∀ g, v.ownBlock = some g → w.heap.size ≤ g)
  have hl' : ks.kids.length ≤ 1000 := hl
  cases m with
  | none =>
    have HN : Hid (ks.names = []) := by show _ = _; rw [h4.2]; rfl
    clear h1 h3 h4 h5 hl hl'
    go_enter Tryz.func54, Tryz.ntmps54
    go_wp2_with fail
    refine (callsIn_wide.1 (Tryz.maps_Keys_85 none w)).mono ?_
    rintro e w1 ⟨rfl, rfl⟩
    go_wp2_with fail
    refine (callsIn_wide.1 (Tryz.slices_Sorted_keys_nil_84_85 w)).mono ?_
    rintro e w2 ⟨v, ss, rfl, rfl, hrow, hnil, hb⟩
    have HB := Lib.hid ((Kept.alloc [] w _).trans (Below.kept0 hb))
    have HV : Hid (v = .slice none 0 0) := hnil.2 rfl
    clear hrow hnil hb
    go_wp2_with fail
    go_ret
    exact ⟨v, rfl, HB.out, .inr ⟨HV.out, HN.out⟩, fun g hg => by rw [HV.out] at hg; cases hg⟩
  | some b =>
    obtain ⟨n, hn, hown⟩ := h4.2
    have HC := Lib.hid h4.2.canon
    have hmx : Maps.size (DataW.map (ks.kids.map kidE)) = ks.kids.length := by simp [Maps.size]
    clear h1 h3 h4 h5 hl
    go_enter Tryz.func54, Tryz.ntmps54
    go_wp2_with fail
    refine (callsIn_wide.1 (Tryz.maps_Keys_85 (some b) w)).mono ?_
    rintro e w1 ⟨rfl, rfl⟩
    go_wp2_with fail
    refine (callsIn_wide.1 (Tryz.slices_Sorted_keys_84_85 b n _ ptrR w hown (by rw [hmx]; unfold maxLen; omega) (by rw [hmx]; omega))).mono ?_
    rintro e w2 ⟨v, ss, rfl, hS, hrow, hnil, hb⟩
    have HB := Lib.hid ((Kept.alloc [] w _).trans (Below.kept0 hb))
    have HV : Hid (StrsIs w2 v ks.names) := by
      rw [strKeys_kids] at hS
      have hlen : ss.length = ks.names.length := by rw [hS.length_eq, AKs.names_kids]
      rw [sorted_names HC.out hS, AKs.names_kids, hlen] at hrow
      exact StrsIs.own hrow
    have HG : Hid (∀ g, v.ownBlock = some g → w.heap.size ≤ g) := fun g hg => by
      have := (World.ownsRow.lt hrow g hg).1
      rw [size_alloc] at this
      omega
    clear hrow hnil hb hS hown hmx
    go_wp2_with fail
    go_ret
    exact ⟨v, rfl, HB.out, HV.out, HG.out⟩
end Go.Proofs.YtiedoocgbajjjaaGreatDoor

namespace Go.Proofs.YtiedoocgbajjjaaGreatDoor
open Go.RowKit Go.Maps
set_option maxRecDepth 100000

/-- Names are followed from a node on: an error, or the node. -/
def fol (t : ATr) : List (List UInt8) → Int × Option ATr
  | [] => (0, some t)
  | s :: l => if t.rc.kind = 2 then (match t.ks.get s with | some u => fol u l | none => (41, none)) else (42, none)
def ptrO (o : Option ATr) : Value := .pointer (o.map fun t => ⟨t.addr, 0, none⟩)

theorem TrOk.row {w : World} {t : ATr} (h : TrOk w t) : ∃ m va vb, w.heap[t.addr]? = some (.cells (nodeRow m va vb t.rc) 100) ∧ (t.rc.kind = 2 → ∃ b, m = some b ∧ KMap w b t.ks.kids) ∧ (t.rc.kind ≠ 2 → m = none ∧ t.ks = .nil) ∧ BytesIs w va t.rc.bytes ∧ NumsIs w vb t.rc.blocks := by
  obtain ⟨a, m, va, vb, r, ks⟩ := t
  obtain ⟨h1, h2, h3, h4, h5⟩ := h
  refine ⟨m, va, vb, h1, ?_, ?_, h2.1, h3⟩
  · intro hk
    cases m with
    | none => exact absurd hk h4.1
    | some b => exact ⟨b, rfl, h4.2⟩
  · intro hk
    cases m with
    | none => exact ⟨rfl, h4.2⟩
    | some b => exact absurd h4.1 hk
theorem TrOk.kids {w : World} {t : ATr} (h : TrOk w t) : KsOk w t.ks := by
  obtain ⟨a, m, va, vb, r, ks⟩ := t
  exact h.2.2.2.2

set_option maxRecDepth 100000 in
set_option maxHeartbeats 2000000 in
theorem nfollow_any (t : ATr) (ns : List (List UInt8)) (b o len cap : Nat) (ao : Option Addr) (w : World) (h : TrOk w t) (hlen : ns.length = len) (hs : len = 0 ∨ (ao = some ⟨b, o, none⟩ ∧ w.rangeAt b o (sv ns))) (hl : ∀ p ∈ ns, p.length ≤ 28) (h63 : len ≤ 1000000) :
    Calls Tryz.prog 77 #[.pointer (some ⟨t.addr, 0, none⟩), .slice ao len cap] w fun e w' => e = .returned (.tuple #[ptrO (fol t ns).2, .int .i64 (fol t ns).1]) ∧ w = w' := by
  have HT := Lib.hid h
  have HS := Lib.hid hs
  have HL := Lib.hid hl
  have HLEN := Lib.hid hlen
  clear h hs hl hlen
  go_enter Tryz.func77, Tryz.ntmps77
  go_wp2_with fail
  go_loopw [0, 11] (fun n i wr => ∃ (j : Nat) (u : ATr), j ≤ len ∧ i = .int .i64 j ∧ n = .pointer (some ⟨u.addr, 0, none⟩) ∧ w = wr ∧ Hid (TrOk w u ∧ fol t ns = fol u (ns.drop j))) (fun _ i _ => len - (intOf i).toNat)
  case atStart => exact ⟨0, t, by omega, rfl, rfl, rfl, HT.out, by simp⟩
  case round =>
    obtain ⟨j, u, hj, rfl, rfl, rfl, HU⟩ := hrel
    obtain ⟨m, va, vb, hrow, hd, hnd, _, _⟩ := HU.out.1.row
    have c0 : w.cell? ⟨u.addr, 0, none⟩ = some (.int .i64 u.rc.kind) := cell_of_row _ _ 0 _ _ _ hrow
    have c3 : w.cell? ⟨u.addr, 3, none⟩ = some (.map m) := cell_of_row _ _ 3 _ _ _ hrow
    by_cases hlt : j < len
    · obtain ⟨rfl, hr⟩ : ao = some ⟨b, o, none⟩ ∧ w.rangeAt b o (sv ns) := by
        rcases HS.out with h0 | h0
        · omega
        · exact h0
      have hjn : j < ns.length := by rw [HLEN.out]; exact hlt
      obtain ⟨s, hs⟩ : ∃ s, ns[j] = s := ⟨_, rfl⟩
      have cs : w.cell? ⟨b, o + j, none⟩ = some (.string (strL s)) := hr j _ (by simp [sv, hjn, hs])
      have hsl : s.length ≤ 28 := by rw [← hs]; exact HL.out _ (List.getElem_mem hjn)
      have HF : Hid (fol t ns = if u.rc.kind = 2 then (match u.ks.get s with | some x => fol x (ns.drop (j + 1)) | none => (41, none)) else (42, none)) := by
        show _ = _
        rw [HU.out.2, List.drop_eq_getElem_cons hjn, hs]
        rfl
      have hltI : (j : Int) < (len : Int) := by omega
      clear hr hs
      by_cases hk : u.rc.kind = 2
      · obtain ⟨mb, rfl, hm⟩ := hd hk
        have hkb : (u.rc.kind != 2) = false := by simpa using hk
        have hlook := hm.look s (by omega)
        rw [AKs.kget] at hlook
        cases hg : u.ks.get s with
        | none =>
          rw [hg] at hlook
          have HE : Hid (fol t ns = (41, none)) := by show _ = _; rw [HF.out, if_pos hk, hg]
          clear hg hm hd hnd hrow HF
          simp only [Option.map_none] at hlook
          go_wp2_with fail
          go_ret2
          exact ⟨by rw [HE.out]; rfl, rfl⟩
        | some x =>
          rw [hg] at hlook
          have HE : Hid (TrOk w x ∧ fol t ns = fol x (ns.drop (j + 1))) := ⟨HU.out.1.kids.get hg, by rw [HF.out, if_pos hk, hg]⟩
          clear hg hm hd hnd hrow HF
          simp only [Option.map_some] at hlook
          go_wp2_with fail
          go_roundw
          case rel => exact ⟨j + 1, x, by omega, by go_num, by first | rfl | trivial, by first | rfl | trivial, HE⟩
          case measure => simp [intOf]; omega
      · have hkb : (u.rc.kind != 2) = true := by simpa using hk
        have HE : Hid (fol t ns = (42, none)) := by show _ = _; rw [HF.out, if_neg hk]
        clear hd hnd hrow HF
        go_wp2_with fail
        go_ret2
        exact ⟨by rw [HE.out]; rfl, rfl⟩
    · have HE : Hid (fol t ns = (0, some u)) := by
        show _ = _
        rw [HU.out.2, List.drop_of_length_le (by rw [HLEN.out]; omega)]
        rfl
      clear hd hnd hrow
      go_wp2_with fail
      go_ret2
      exact ⟨by rw [HE.out]; rfl, rfl⟩

theorem StrsIs.keptEx {w w' : World} {v : Value} {l : List (List UInt8)} {ex : List Nat} (h : StrsIs w v l) (hk : Kept ex w w') (hne : ∀ b, v.ownBlock = some b → b ∉ ex) : StrsIs w' v l := by
  rcases h with ⟨b, o, cap, rfl, hb, hr⟩ | h
  · exact .inl ⟨b, o, cap, rfl, Nat.lt_of_lt_of_le hb hk.size, hk.range hb (hne b rfl) hr⟩
  · exact .inr h
def AKs.toList : AKs → List (List UInt8 × ATr)
  | .nil => []
  | .cons s t k => (s, t) :: k.toList
theorem AKs.kids_list : ∀ k : AKs, k.kids = k.toList.map fun p => (p.1, p.2.addr)
  | .nil => rfl
  | .cons s t k => by simp [AKs.kids, AKs.toList, AKs.kids_list k]
theorem AKs.names_list : ∀ k : AKs, k.names = k.toList.map (·.1)
  | .nil => rfl
  | .cons s t k => by simp [AKs.names, AKs.toList, AKs.names_list k]
mutual
def ATr.ht : ATr → Nat
  | .node _ _ _ _ _ ks => ks.ht + 1
def AKs.ht : AKs → Nat
  | .nil => 0
  | .cons _ t k => max t.ht k.ht
end
mutual
def ATr.all : ATr → List ATr
  | .node a m va vb r ks => .node a m va vb r ks :: ks.all
def AKs.all : AKs → List ATr
  | .nil => []
  | .cons _ t k => t.all ++ k.all
end
theorem AKs.all_list : ∀ k : AKs, k.all = k.toList.flatMap fun p => p.2.all
  | .nil => rfl
  | .cons s t k => by simp [AKs.all, AKs.toList, AKs.all_list k]
theorem AKs.ht_get : ∀ {k : AKs} {j : Nat} (hj : j < k.toList.length), k.toList[j].2.ht ≤ k.ht
  | .cons s t k, 0, _ => by simp [AKs.toList, AKs.ht]; omega
  | .cons s t k, j + 1, h => by
    have := AKs.ht_get (k := k) (j := j) (by simpa [AKs.toList] using h)
    simp [AKs.toList, AKs.ht]
    omega
theorem AKs.get_at : ∀ {k : AKs}, k.names.Pairwise (· ≠ ·) → ∀ {j : Nat} (hj : j < k.toList.length), k.get k.toList[j].1 = some k.toList[j].2
  | .cons s t k, hp, 0, _ => by simp [AKs.toList, AKs.get]
  | .cons s t k, hp, j + 1, h => by
    simp only [AKs.names, List.pairwise_cons] at hp
    have hj : j < k.toList.length := by simpa [AKs.toList] using h
    have := AKs.get_at hp.2 hj
    have hne : s ≠ (k.toList[j]'hj).1 := hp.1 _ (by
      rw [AKs.names_list]
      exact List.mem_map.2 ⟨_, List.getElem_mem hj, rfl⟩)
    show (if s = (k.toList[j]'hj).1 then some t else k.get (k.toList[j]'hj).1) = some (k.toList[j]'hj).2
    rw [if_neg hne]
    exact this
theorem KsOk.at {w : World} : ∀ {k : AKs}, KsOk w k → ∀ {j : Nat} (hj : j < k.toList.length), TrOk w k.toList[j].2 ∧ k.toList[j].1.length ≤ 28
  | .cons s t k, h, 0, _ => ⟨h.2.1, h.1⟩
  | .cons s t k, h, j + 1, hj => KsOk.at h.2.2 (by simpa [AKs.toList] using hj)
theorem before_ne {p q : List UInt8} (h : bytesBefore p q = true) : p ≠ q := fun e => by
  subst e
  exact absurd (before_lt h) (List.lt_irrefl p)
theorem TrOk.apart {w : World} {t : ATr} (h : TrOk w t) : t.ks.names.Pairwise (· ≠ ·) := by
  obtain ⟨m, va, vb, hrow, hd, hnd, _⟩ := h.row
  by_cases hk : t.rc.kind = 2
  · obtain ⟨b, _, hm⟩ := hd hk
    rw [← AKs.names_kids, List.pairwise_map]
    exact hm.canon.imp before_ne
  · rw [(hnd hk).2]
    exact List.Pairwise.nil

/-- Pointers to nodes, as cells. -/
def pv (l : List ATr) : List Value := l.map fun t => Value.pointer (some ⟨t.addr, 0, none⟩)
theorem pv_length (l : List ATr) : (pv l).length = l.length := by simp [pv]
theorem pv_one (l : List ATr) : ∀ v ∈ pv l, v.oneCell' = true := by
  intro v hv
  simp only [pv, List.mem_map] at hv
  obtain ⟨c, _, rfl⟩ := hv
  rfl
theorem elemPtr : ElemOk Tryz.prog 93 81 (.pointer none) 1 8 := ⟨Tryz.underlying93, by kernel_rfl, rfl, by omega⟩
/-- A row of nodes of the call's own. -/
def OwnN (base : Nat) (w : World) (v : Value) (l : List ATr) : Prop := w.ownsRow base 81 1 v l.length (pv l)
mutual
def ATr.small : ATr → Prop
  | .node _ _ _ _ _ ks => ks.kids.length ≤ 16 ∧ ks.small
def AKs.small : AKs → Prop
  | .nil => True
  | .cons _ t k => t.small ∧ k.small
end
theorem AKs.small_at : ∀ {k : AKs}, k.small → ∀ {j : Nat} (hj : j < k.toList.length), k.toList[j].2.small
  | .cons s t k, h, 0, _ => h.1
  | .cons s t k, h, j + 1, hj => AKs.small_at h.2 (by simpa [AKs.toList] using hj)
theorem ATr.all_ks (t : ATr) : t.all = t :: t.ks.all := by cases t; rfl
theorem ATr.ht_ks (t : ATr) : t.ht = t.ks.ht + 1 := by cases t; rfl
theorem ATr.small_ks {t : ATr} (h : t.small) : t.ks.kids.length ≤ 16 ∧ t.ks.small := by cases t; exact h
theorem ATr.all_pos (t : ATr) : 0 < t.all.length := by rw [t.all_ks]; simp

theorem OwnN.app {base : Nat} {w : World} {v v2 : Value} {l l2 : List ATr} (h : OwnN base w v l) (h2 : OwnN w.heap.size w v2 l2 ∨ ∃ B, OwnN B w v2 l2) (h0 : 0 < l2.length) (hb : base ≤ w.heap.size) (hn : l.length + l2.length ≤ 1000000) :
    ∃ v' w', (Builtin.append_ #[93, 93] 93 #[v, v2]).run Tryz.prog w = .ok v' w' ∧ OwnN base w' v' (l ++ l2) ∧ Kept v.ownBlock.toList w w' ∧ (v'.ownBlock = v.ownBlock ∨ v'.ownBlock = some w.heap.size) := by
  obtain ⟨B, h2⟩ : ∃ B, OwnN B w v2 l2 := h2.elim (fun h => ⟨_, h⟩) id
  rcases owns_range h2 with ⟨g, cap, rfl, _, hg, _, _, hr⟩ | ⟨rfl, hz, _⟩
  · obtain ⟨v', w', hrun, hown, hk, hor⟩ := own_app elemPtr 93 w base v l.length (pv l) h ⟨g, 0, none⟩ l2.length cap (pv l2) (by rw [pv_length]; omega)
      (fun j u hu => by rw [Addr.add_mid]; exact hr j u hu) (pv_one _) (by unfold maxLen; omega) (by omega) hb
    refine ⟨v', w', hrun, ?_, hk, hor⟩
    unfold OwnN
    rw [List.length_append, show pv (l ++ l2) = pv l ++ pv l2 by simp [pv]]
    exact hown
  · omega

set_option maxRecDepth 100000 in
set_option maxHeartbeats 4000000 in
theorem nall_any : ∀ (n : Nat) (t : ATr) (w : World), t.ht ≤ n → TrOk w t → t.small → t.all.length ≤ 100000 →
    Calls Tryz.prog 50 #[.pointer (some ⟨t.addr, 0, none⟩)] w fun e w' => ∃ v, e = .returned v ∧ Hid (Kept [] w w' ∧ OwnN w.heap.size w' v t.all)
  | 0, t, _, h, _, _, _ => by rw [t.ht_ks] at h; omega
  | n + 1, t, w, hht, hT, hsm, hal => by
    have HT := Lib.hid hT
    have HSM := Lib.hid (ATr.small_ks hsm)
    have HHT : Hid (t.ks.ht ≤ n) := by show _ ≤ _; rw [t.ht_ks] at hht; omega
    obtain ⟨m, va, vb, hrow, hd, hnd, _⟩ := hT.row
    have HROW := Lib.hid hrow
    have HM : Hid (t.ks.toList ≠ [] → ∃ b, m = some b ∧ KMap w b t.ks.kids) := fun hne => by
      by_cases hk : t.rc.kind = 2
      · exact hd hk
      · exact absurd (by rw [(hnd hk).2]; rfl) hne
    have HAP := Lib.hid hT.apart
    have HAL : Hid (1 + t.ks.all.length ≤ 100000) := by show _ ≤ _; rw [t.all_ks, List.length_cons] at hal; omega
    have HA : Hid (t.all = t :: t.ks.toList.flatMap fun p => p.2.all) := by show _ = _; rw [t.all_ks, AKs.all_list]
    have hl1000 : t.ks.toList.length ≤ 1000 := by have := HSM.out.1; rw [AKs.kids_list, List.length_map] at this; omega
    clear hT hsm hht hrow hd hnd hal
    go_enter Tryz.func50, Tryz.ntmps50
    go_wp2_with fail
    generalize hw1 : World.alloc w _ = w1
    have H1 : Hid (Kept [] w w1 ∧ OwnN w.heap.size w1 (.slice (some ⟨w.heap.size, 0, none⟩) 1 1) [t]) := by
      rw [← hw1]
      exact ⟨Kept.alloc _ _ _, by simp [pv], .inr ⟨w.heap.size, 1, #[.pointer (some ⟨t.addr, 0, none⟩)], rfl, Nat.le_refl _, heap_alloc_last _ _, Nat.le_refl _, by unfold maxLen; omega, rfl, rfl⟩⟩
    clear hw1
    refine (nnames_any t w1 (HT.out.kept H1.out.1) (by have := HSM.out.1; omega)).mono ?_
    rintro e w2 ⟨nv, rfl, H2⟩
    have HK2 := Lib.hid (H1.out.1.trans H2.out.1)
    have HO2 : Hid (OwnN w.heap.size w2 (.slice (some ⟨w.heap.size, 0, none⟩) 1 1) [t]) := owns_kept H1.out.2 H2.out.1 (by simp)
    have HG2 : Hid (∀ g, nv.ownBlock = some g → w.heap.size < g) := fun g hg => by
      have := H2.out.2.2 g hg
      have := (World.ownsRow.lt H1.out.2 w.heap.size rfl).2
      omega
    obtain ⟨ao, cap, hnv⟩ : ∃ ao cap, nv = .slice ao t.ks.toList.length cap := by
      have hl : t.ks.names.length = t.ks.toList.length := by rw [AKs.names_list, List.length_map]
      rcases H2.out.2.1 with ⟨b, o, cap, rfl, _⟩ | ⟨rfl, e⟩
      · exact ⟨_, _, by rw [hl]⟩
      · exact ⟨none, 0, by rw [← hl, e]; rfl⟩
    subst hnv
    have HN2 := Lib.hid H2.out.2.1
    have HLT : Hid (t.addr < w.heap.size) := (Array.getElem?_eq_some_iff.1 HROW.out).1
    obtain ⟨K, hK⟩ : ∃ K, t.ks.toList.length = K := ⟨_, rfl⟩
    rw [hK] at hl1000 HN2 HG2 ⊢
    have HKK := Lib.hid hK
    clear H1 H2 hK
    go_wp2_with fail
    go_loopw [3, 13] (fun l i wr => ∃ j : Nat, j ≤ K ∧ i = .int .i64 j ∧ Hid (Kept [] w wr ∧ OwnN w.heap.size wr l (t :: (t.ks.toList.take j).flatMap fun p => p.2.all) ∧ StrsIs wr (.slice ao K cap) t.ks.names ∧ ∀ g, l.ownBlock = some g → (Value.slice ao K cap).ownBlock ≠ some g)) (fun _ i _ => K - (intOf i).toNat)
    case atStart => exact ⟨0, by omega, rfl, HK2.out, by simpa using HO2.out, HN2.out, fun g hg h2 => by
      have := HG2.out g h2
      have hg' : w.heap.size = g := by simpa [Value.ownBlock] using hg
      omega⟩
    case round =>
      clear HK2 HO2 HN2
      obtain ⟨j, hj, rfl, HS⟩ := hrel
      by_cases hlt : j < K
      · have hjt : j < t.ks.toList.length := by rw [HKK.out]; exact hlt
        obtain ⟨s, hs⟩ : ∃ s, t.ks.toList[j].1 = s := ⟨_, rfl⟩
        obtain ⟨x, hx⟩ : ∃ x, t.ks.toList[j].2 = x := ⟨_, rfl⟩
        have hget := AKs.get_at HAP.out hjt
        rw [hs, hx] at hget
        obtain ⟨hxt, hs28⟩ := (HT.out.kept HS.out.1).kids.at hjt
        rw [hx] at hxt
        rw [hs] at hs28
        obtain ⟨mb, rfl, hm⟩ := HM.out (fun e => by rw [e] at hjt; cases hjt)
        have hlook := (hm.kept HS.out.1 (by simp)).look s (by omega)
        rw [AKs.kget, hget, Option.map_some, Option.map_some] at hlook
        have c3 : wr.cell? ⟨t.addr, 3, none⟩ = some (.map (some mb)) := cell_of_row _ _ 3 _ _ _ (HS.out.1.heap (by simp) HROW.out)
        obtain ⟨nb, no, rfl, cn⟩ : ∃ nb no, ao = some ⟨nb, no, none⟩ ∧ wr.cell? ⟨nb, no + j, none⟩ = some (.string (strL s)) := by
          rcases HS.out.2.2.1 with ⟨b', o', c', e, hb', hr'⟩ | ⟨e, e2⟩
          · injection e with e1 e2 e3
            refine ⟨b', o', e1, hr' j _ ?_⟩
            rw [AKs.names_list]
            simp [sv, hjt, hs]
          · rw [AKs.names_list] at e2
            have := congrArg List.length e2
            simp at this
            rw [this] at hjt
            cases hjt
        have hxh : x.ht ≤ n := by have := AKs.ht_get hjt; rw [hx] at this; have := HHT.out; omega
        have hxs : x.small := by have := AKs.small_at HSM.out.2 hjt; rwa [hx] at this
        have htk : t.ks.toList.take (j + 1) = t.ks.toList.take j ++ [(s, x)] := by
          rw [List.take_succ_eq_append_getElem hjt, ← hs, ← hx]
        have hfl : ((t.ks.toList.take (j + 1)).flatMap fun p => p.2.all).length ≤ t.ks.all.length := by
          rw [AKs.all_list]
          conv => rhs; rw [← List.take_append_drop (j + 1) t.ks.toList, List.flatMap_append, List.length_append]
          omega
        have hfe : ((t.ks.toList.take (j + 1)).flatMap fun p => p.2.all) = ((t.ks.toList.take j).flatMap fun p => p.2.all) ++ x.all := by rw [htk]; simp
        have HX := Lib.hid (And.intro hxt (And.intro hxh hxs))
        have HF := Lib.hid (And.intro hfl hfe)
        clear hs hx hget hxt hm hxh hxs htk hfl hfe
        go_wp2_with fail
        refine (nall_any n x wr HX.out.2.1 HX.out.1 HX.out.2.2 (by have := HF.out.1; rw [HF.out.2, List.length_append] at this; have := HAL.out; omega)).mono ?_
        rintro e w3 ⟨v3, rfl, H3⟩
        have ho3 : OwnN w.heap.size w3 u3 (t :: (t.ks.toList.take j).flatMap fun p => p.2.all) := owns_kept HS.out.2.1 H3.out.1 (by simp)
        have hsz3 : w.heap.size ≤ w3.heap.size := Nat.le_trans HS.out.1.size H3.out.1.size
        obtain ⟨v4, w4, hrun, ho4, hk4, hor4⟩ := OwnN.app ho3 (.inr ⟨_, H3.out.2⟩) x.all_pos hsz3 (by have := HF.out.1; rw [HF.out.2, List.length_append] at this; have := HAL.out; simp only [List.length_cons]; omega)
        have HRUN := Lib.hid hrun
        have H4 : Hid (Kept [] w w4 ∧ OwnN w.heap.size w4 v4 (t :: (t.ks.toList.take (j + 1)).flatMap fun p => p.2.all) ∧ StrsIs w4 (.slice (some ⟨nb, no, none⟩) K cap) t.ks.names ∧ ∀ g, v4.ownBlock = some g → (Value.slice (some ⟨nb, no, none⟩) K cap).ownBlock ≠ some g) := by
          refine ⟨(HS.out.1.trans H3.out.1).own ho3 (Nat.le_refl _) hk4, by rw [HF.out.2]; exact ho4, (HS.out.2.2.1.kept H3.out.1).keptEx hk4 (fun b hb hq => HS.out.2.2.2 b (by simpa using hq) hb), fun g hg h2 => ?_⟩
          rcases hor4 with e | e
          · rw [e] at hg
            exact HS.out.2.2.2 g hg h2
          · rw [e] at hg
            injection hg with hg
            rcases (HS.out.2.2.1.kept H3.out.1) with ⟨b', o', c', e', hb', _⟩ | ⟨e', _⟩
            · injection e' with e1 e2 e3
              injection e1 with e1
              injection e1 with e1 e4
              have h2' : nb = g := by simpa [Value.ownBlock] using h2
              omega
            · cases e'
        clear hrun ho4 hk4 hor4 ho3 H3
        go_wp2_with (at_builtin; refine wpList_append_run rfl _ _ 93 rfl _ _ _ rfl rfl HRUN.out ?_)
        go_roundw
        case rel => exact ⟨j + 1, by omega, by go_num, H4⟩
        case measure => simp [intOf]; omega
      · have HE : Hid (OwnN w.heap.size wr u3 t.all) := by
          have := HS.out.2.1
          rw [List.take_of_length_le (by rw [HKK.out]; omega), ← HA.out] at this
          exact this
        go_wp2_with fail
        go_ret
        exact ⟨u3, rfl, HS.out.1, HE.out⟩
end Go.Proofs.YtiedoocgbajjjaaGreatDoor

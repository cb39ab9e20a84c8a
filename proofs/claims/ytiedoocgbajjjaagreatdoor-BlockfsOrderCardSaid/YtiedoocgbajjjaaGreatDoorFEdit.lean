/-
  Layer 4: a tree whose memory is the call's own: what it takes, and what is left of it when other memory is written.
  Conditions: those that each theorem states.
  Layer 4: nodes are made, and a node's entries edited.
  Conditions: those that each theorem states.
-/
import Derived.Test.YtiedoocgbajjjaaGreatDoorFWalk
namespace Go.Proofs.YtiedoocgbajjjaaGreatDoor
open Go.RowKit Go.Maps
set_option maxRecDepth 100000

/-- Block b is no block of bytes. -/
def NoBytes (w : World) (b : Nat) : Prop := ∀ (cs : Array Value) (fr : Nat × Nat), w.heap[b]? ≠ some (.cells cs 5 fr)
theorem BytesIs.keptN {w w' : World} {v : Value} {l : List UInt8} {ex : List Nat} (h : BytesIs w v l) (hk : Kept ex w w') (hx : ∀ b ∈ ex, NoBytes w b) : BytesIs w' v l := by
  have hne : ∀ g, v.ownBlock = some g → g ∉ ex := fun g hg hm => by
    obtain ⟨cs, fr, hh⟩ := h.2.1 g hg
    exact hx g hm cs fr hh
  refine ⟨?_, fun g hg => by obtain ⟨cs, fr, hh⟩ := h.2.1 g hg; exact ⟨cs, fr, hk.heap (hne g hg) hh⟩, h.2.2⟩
  rcases h.1 with ⟨b, o, cap, rfl, hb, hr⟩ | h
  · exact .inl ⟨b, o, cap, rfl, Nat.lt_of_lt_of_le hb hk.size, hk.range hb (hne b rfl) hr⟩
  · exact .inr h
theorem noBytes_map {w : World} {m : Nat} {l : List Kid} (h : KMap w m l) : NoBytes w m := fun cs fr hh => by
  obtain ⟨n, _, es, clock, hb, _⟩ := h
  rw [hb] at hh
  cases hh

mutual
/-- All of a tree's memory: its nodes, its maps, its rows of numbers. -/
def ATr.foot : ATr → List Nat
  | .node a m _ vb _ ks => a :: (m.toList ++ (vb.ownBlock.toList ++ ks.foot))
def AKs.foot : AKs → List Nat
  | .nil => []
  | .cons _ t k => t.foot ++ k.foot
end
mutual
def OwnT (base : Nat) (w : World) : ATr → Prop
  | .node a m _ vb r ks => base ≤ a ∧ (∀ b, m = some b → base ≤ b) ∧ w.ownsRow base 3 1 vb r.blocks.length (iv (natI r.blocks)) ∧ OwnK base w ks
def OwnK (base : Nat) (w : World) : AKs → Prop
  | .nil => True
  | .cons _ t k => OwnT base w t ∧ OwnK base w k
end
/-- A tree of the call's own. -/
structure MTr (base : Nat) (w : World) (t : ATr) : Prop where
  ok : TrOk w t
  own : OwnT base w t
  nodup : t.foot.Nodup

mutual
theorem TrOk.frame {base : Nat} {w w' : World} {ex : List Nat} (hk : Kept ex w w') (hx : ∀ b ∈ ex, NoBytes w b) : ∀ {t : ATr}, TrOk w t → OwnT base w t → (∀ b ∈ ex, b ∉ t.foot) → TrOk w' t ∧ OwnT base w' t
  | .node a m va vb r ks, h, ho, hd => by
    obtain ⟨h1, h2, h3, h4, h5⟩ := h
    obtain ⟨o1, o2, o3, o4⟩ := ho
    simp only [ATr.foot, List.mem_cons, List.mem_append, not_or] at hd
    have ha : a ∉ ex := fun hh => (hd a hh).1 rfl
    have hvb : ∀ q, vb.ownBlock = some q → q ∉ ex := fun q hq hh => (hd q hh).2.2.1 (by simp [hq])
    have o3' := owns_kept o3 hk hvb
    have ih := KsOk.frame hk hx h5 o4 (fun b hb => (hd b hb).2.2.2)
    refine ⟨⟨hk.heap ha h1, ⟨h2.1.keptN hk hx, h2.2⟩, ?_, ?_, ih.1⟩, o1, o2, o3', ih.2⟩
    · obtain ⟨ao, cap, rfl, q1, q2, q3⟩ := h3
      refine ⟨ao, cap, rfl, q1, q2, q3.keptEx hk fun b o e => hvb b (by rw [e]; rfl)⟩
    · cases m with
      | none => exact h4
      | some b => exact ⟨h4.1, h4.2.kept hk (fun hh => (hd b hh).2.1 (by simp))⟩
theorem KsOk.frame {base : Nat} {w w' : World} {ex : List Nat} (hk : Kept ex w w') (hx : ∀ b ∈ ex, NoBytes w b) : ∀ {k : AKs}, KsOk w k → OwnK base w k → (∀ b ∈ ex, b ∉ k.foot) → KsOk w' k ∧ OwnK base w' k
  | .nil, _, _, _ => ⟨trivial, trivial⟩
  | .cons s t k, h, ho, hd => by
    simp only [AKs.foot, List.mem_append, not_or] at hd
    have h1 := TrOk.frame hk hx h.2.1 ho.1 (fun b hb => (hd b hb).1)
    have h2 := KsOk.frame hk hx h.2.2 ho.2 (fun b hb => (hd b hb).2)
    exact ⟨⟨h.1, h1.1, h2.1⟩, h1.2, h2.2⟩
end
mutual
theorem foot_mem {base : Nat} {w : World} : ∀ {t : ATr}, TrOk w t → OwnT base w t → ∀ b ∈ t.foot, base ≤ b ∧ b < w.heap.size ∧ NoBytes w b
  | .node a m va vb r ks, h, ho, b, hb => by
    obtain ⟨h1, h2, h3, h4, h5⟩ := h
    obtain ⟨o1, o2, o3, o4⟩ := ho
    simp only [ATr.foot, List.mem_cons, List.mem_append] at hb
    rcases hb with rfl | hb | hb | hb
    · exact ⟨o1, (Array.getElem?_eq_some_iff.1 h1).1, fun cs fr hh => by
        rw [h1] at hh
        simp at hh⟩
    · cases m with
      | none => cases hb
      | some q =>
        obtain rfl : b = q := by simpa using hb
        exact ⟨o2 _ rfl, h4.2.lt, noBytes_map h4.2⟩
    · have hq : vb.ownBlock = some b := by simpa using hb
      have := World.ownsRow.lt o3 b hq
      refine ⟨this.1, this.2, fun cs fr hh => ?_⟩
      rcases o3.2 with ⟨e, _⟩ | ⟨g, cap, cur, e, _, hg, _⟩
      · rw [e] at hq; cases hq
      · rw [e] at hq
        have : g = b := by simpa [Value.ownBlock] using hq
        rw [this, hh] at hg
        simp at hg
    · exact foot_memK h5 o4 b hb
theorem foot_memK {base : Nat} {w : World} : ∀ {k : AKs}, KsOk w k → OwnK base w k → ∀ b ∈ k.foot, base ≤ b ∧ b < w.heap.size ∧ NoBytes w b
  | .nil, _, _, _, hb => by cases hb
  | .cons s t k, h, ho, b, hb => by
    simp only [AKs.foot, List.mem_append] at hb
    rcases hb with hb | hb
    · exact foot_mem h.2.1 ho.1 b hb
    · exact foot_memK h.2.2 ho.2 b hb
end
end Go.Proofs.YtiedoocgbajjjaaGreatDoor

namespace Go.Proofs.YtiedoocgbajjjaaGreatDoor
open Go.RowKit Go.Maps
set_option maxRecDepth 100000

def newT (kind mode : Int) (g : Nat) : ATr := .node g (if kind = 2 then some (g + 1) else none) (.slice none 0 0) (.slice none 0 0) ⟨kind, mode, [], 0, [], 0, false⟩ .nil
theorem nums_nil (w : World) : NumsIs w (.slice none 0 0) [] := ⟨none, 0, rfl, Nat.le_refl _, by omega, rfl, by simp, .inl rfl⟩
theorem bytes_nil (w : World) : BytesIs w (.slice none 0 0) [] := ⟨.inr ⟨rfl, rfl⟩, fun g hg => (by cases hg), ⟨none, 0, 0, rfl, Nat.le_refl _, by omega⟩⟩
theorem newT_dir (mode : Int) (w : World) : MTr w.heap.size ((w.alloc (.cells (nodeRow (some (w.heap.size + 1)) (.slice none 0 0) (.slice none 0 0) ⟨2, mode, [], 0, [], 0, false⟩) 100)).alloc (.map #[] 0)) (newT 2 mode w.heap.size) := by
  have hm := KMap.made (w.alloc (.cells (nodeRow (some (w.heap.size + 1)) (.slice none 0 0) (.slice none 0 0) ⟨2, mode, [], 0, [], 0, false⟩) 100))
  rw [size_alloc] at hm
  refine ⟨⟨(Kept.alloc [] _ _).heap (by simp) (heap_alloc_last w _), ⟨bytes_nil _, by simp⟩, nums_nil _, ⟨rfl, hm⟩, trivial⟩, ⟨Nat.le_refl _, fun b hb => ?_, World.ownsRow_nil _ _ _ _, trivial⟩, ?_⟩
  · simp at hb
    omega
  · simp [newT, ATr.foot, AKs.foot, Value.ownBlock]
theorem newT_file (kind mode : Int) (hk : kind ≠ 2) (w : World) : MTr w.heap.size (w.alloc (.cells (nodeRow none (.slice none 0 0) (.slice none 0 0) ⟨kind, mode, [], 0, [], 0, false⟩) 100)) (newT kind mode w.heap.size) := by
  unfold newT
  rw [if_neg hk]
  exact ⟨⟨heap_alloc_last w _, ⟨bytes_nil _, by simp⟩, nums_nil _, ⟨hk, rfl⟩, trivial⟩, ⟨Nat.le_refl _, fun b hb => (by cases hb), World.ownsRow_nil _ _ _ _, trivial⟩, by simp [ATr.foot, AKs.foot, Value.ownBlock]⟩
set_option maxHeartbeats 1000000 in
theorem newNode_any (kind mode : Int) (w : World) : Calls Tryz.prog 40 #[.int .i64 kind, .int .i64 mode] w fun e w' => e = .returned (.pointer (some ⟨w.heap.size, 0, none⟩)) ∧ Hid (Kept [] w w' ∧ MTr w.heap.size w' (newT kind mode w.heap.size)) := by
  have hmm := @run_makeMap Tryz.prog
  by_cases hk : kind = 2
  · subst hk
    go_enter Tryz.func40, Tryz.ntmps40
    go_wp2_with fail
    go_ret
    exact ⟨rfl, (Kept.alloc [] _ _).trans (Kept.alloc _ _ _), newT_dir mode w⟩
  · have hkb : (kind == 2) = false := by simpa using hk
    go_enter Tryz.func40, Tryz.ntmps40
    go_wp2_with fail
    go_ret
    exact ⟨rfl, Kept.alloc [] _ _, newT_file kind mode hk w⟩

/-- The node at a name, another one in its place. -/
def AKs.set : AKs → List UInt8 → ATr → AKs
  | .nil, _, _ => .nil
  | .cons s t k, x, u => if s = x then .cons s u k else .cons s t (k.set x u)
/-- The tree with another subtree at the end of names. -/
def ATr.putAt : ATr → List (List UInt8) → ATr → ATr
  | _, [], u => u
  | .node a m va vb r ks, s :: l, u => match ks.get s with
    | some t => .node a m va vb r (ks.set s (t.putAt l u))
    | none => .node a m va vb r ks
theorem AKs.kids_set : ∀ {k : AKs} {x : List UInt8} {t u : ATr}, k.get x = some t → u.addr = t.addr → (k.set x u).kids = k.kids
  | .cons s t k, x, t', u, hg, ha => by
    simp only [AKs.get, AKs.set] at hg ⊢
    split
    · rename_i h
      rw [if_pos h] at hg
      injection hg with hg
      simp only [AKs.kids]
      rw [ha, hg]
    · rename_i h
      rw [if_neg h] at hg
      simp only [AKs.kids]
      rw [AKs.kids_set hg ha]
/-- What of other memory a change of a subtree leaves. -/
structure Turned (base : Nat) (w w' : World) (p p' : ATr) : Prop where
  kept : Kept p.foot w w'
  m : MTr base w' p'
  addr : p'.addr = p.addr
  foot : ∀ b ∈ p'.foot, b ∈ p.foot ∨ w.heap.size ≤ b

theorem nodup_app {l r : List Nat} (h : (l ++ r).Nodup) : l.Nodup ∧ r.Nodup ∧ ∀ b ∈ l, b ∉ r := by
  rw [List.nodup_append] at h
  exact ⟨h.1, h.2.1, fun b hb hr => h.2.2 b hb b hr rfl⟩
theorem nodup_mk {l r : List Nat} (h1 : l.Nodup) (h2 : r.Nodup) (h : ∀ b ∈ l, b ∉ r) : (l ++ r).Nodup := by
  rw [List.nodup_append]
  exact ⟨h1, h2, fun a ha b hb e => h a ha (e ▸ hb)⟩

theorem Turned.kids {base : Nat} {w w' : World} {p p' : ATr} (hp : MTr base w p) (T : Turned base w w' p p') : ∀ {k : AKs} {x : List UInt8}, KsOk w k → OwnK base w k → k.foot.Nodup → k.get x = some p →
    KsOk w' (k.set x p') ∧ OwnK base w' (k.set x p') ∧ (k.set x p').foot.Nodup ∧ (∀ b ∈ (k.set x p').foot, b ∈ k.foot ∨ w.heap.size ≤ b) ∧ (∀ b ∈ p.foot, b ∈ k.foot)
  | .cons s t k, x, hk, ho, hn, hg => by
    simp only [AKs.get, AKs.set, AKs.foot] at hg hn ⊢
    obtain ⟨n1, n2, n3⟩ := nodup_app hn
    have hxb : ∀ b ∈ p.foot, NoBytes w b := fun b hb => (foot_mem hp.ok hp.own b hb).2.2
    by_cases h : s = x
    · rw [if_pos h] at hg ⊢
      injection hg with hg
      subst hg
      have hf := KsOk.frame T.kept hxb hk.2.2 ho.2 n3
      refine ⟨⟨hk.1, T.m.ok, hf.1⟩, ⟨T.m.own, hf.2⟩, nodup_mk T.m.nodup n2 (fun b hb hr => ?_), fun b hb => ?_, fun b hb => List.mem_append.2 (.inl hb)⟩
      · rcases T.foot b hb with h1 | h1
        · exact n3 b h1 hr
        · have := (foot_memK hk.2.2 ho.2 b hr).2.1
          omega
      · rcases List.mem_append.1 hb with h1 | h1
        · exact (T.foot b h1).imp (fun h => List.mem_append.2 (.inl h)) id
        · exact .inl (List.mem_append.2 (.inr h1))
    · rw [if_neg h] at hg ⊢
      obtain ⟨i1, i2, i3, i4, i5⟩ := Turned.kids hp T hk.2.2 ho.2 n2 hg
      have hf := TrOk.frame T.kept hxb hk.2.1 ho.1 (fun b hb hr => n3 b hr (i5 b hb))
      refine ⟨⟨hk.1, hf.1, i1⟩, ⟨hf.2, i2⟩, nodup_mk n1 i3 (fun b hb hr => ?_), fun b hb => ?_, fun b hb => List.mem_append.2 (.inr (i5 b hb))⟩
      · rcases i4 b hr with h1 | h1
        · exact n3 b hb h1
        · have := (foot_mem hk.2.1 ho.1 b hb).2.1
          omega
      · rcases List.mem_append.1 hb with h1 | h1
        · exact .inl (List.mem_append.2 (.inl h1))
        · exact (i4 b h1).imp (fun h => List.mem_append.2 (.inr h)) id

theorem OwnK.get {base : Nat} {w : World} : ∀ {k : AKs} {x : List UInt8} {t : ATr}, OwnK base w k → k.get x = some t → OwnT base w t
  | .cons s t k, x, t', ho, h => by
    simp only [AKs.get] at h
    split at h
    · injection h with h
      rw [← h]
      exact ho.1
    · exact OwnK.get ho.2 h
theorem AKs.get_foot : ∀ {k : AKs} {x : List UInt8} {t : ATr}, k.get x = some t → (∀ b ∈ t.foot, b ∈ k.foot) ∧ (k.foot.Nodup → t.foot.Nodup)
  | .cons s t k, x, t', h => by
    simp only [AKs.get] at h
    simp only [AKs.foot]
    split at h
    · injection h with h
      subst h
      exact ⟨fun b hb => List.mem_append.2 (.inl hb), fun hn => (nodup_app hn).1⟩
    · have ih := AKs.get_foot h
      exact ⟨fun b hb => List.mem_append.2 (.inr (ih.1 b hb)), fun hn => ih.2 (nodup_app hn).2.1⟩
theorem ATr.foot_ks (t : ATr) : ∃ hd : List Nat, t.foot = hd ++ t.ks.foot := by
  obtain ⟨a, m, va, vb, r, ks⟩ := t
  exact ⟨a :: (m.toList ++ vb.ownBlock.toList), by simp [ATr.foot, ATr.ks]⟩
theorem MTr.sub {base : Nat} {w : World} {t u : ATr} {x : List UInt8} (h : MTr base w t) (hg : t.ks.get x = some u) : MTr base w u := by
  obtain ⟨hd, hf⟩ := t.foot_ks
  have hn := h.nodup
  rw [hf] at hn
  refine ⟨h.ok.kids.get hg, ?_, (AKs.get_foot hg).2 (nodup_app hn).2.1⟩
  obtain ⟨a, m, va, vb, r, ks⟩ := t
  exact OwnK.get h.own.2.2.2 hg

theorem Turned.one {base : Nat} {w w' : World} {t u u' : ATr} {x : List UInt8} (h : MTr base w t) (hg : t.ks.get x = some u) (T : Turned base w w' u u') : Turned base w w' t (t.putAt [x] u') := by
  have hu := h.sub hg
  obtain ⟨a, m, va, vb, r, ks⟩ := t
  have hg' : ks.get x = some u := hg
  obtain ⟨⟨h1, h2, h3, h4, h5⟩, ⟨o1, o2, o3, o4⟩, hn⟩ := h
  simp only [ATr.foot] at hn
  rw [List.nodup_cons] at hn
  obtain ⟨na, hn⟩ := hn
  obtain ⟨nm, hn, dm⟩ := nodup_app hn
  obtain ⟨nv, nk, dv⟩ := nodup_app hn
  obtain ⟨i1, i2, i3, i4, i5⟩ := Turned.kids hu T h5 o4 nk hg'
  have hxb : ∀ b ∈ u.foot, NoBytes w b := fun b hb => (foot_mem hu.ok hu.own b hb).2.2
  have ha : a ∉ u.foot := fun hh => na (by simp [i5 a hh])
  have hlt : ∀ b ∈ ks.foot, b < w.heap.size := fun b hb => (foot_memK h5 o4 b hb).2.1
  have hvb : ∀ q, vb.ownBlock = some q → q ∉ u.foot := fun q hq hh => dv q (by simp [hq]) (i5 q hh)
  have hput : (ATr.node a m va vb r ks).putAt [x] u' = .node a m va vb r (ks.set x u') := by simp [ATr.putAt, hg']
  rw [hput]
  have halt : a < w.heap.size := (Array.getElem?_eq_some_iff.1 h1).1
  refine ⟨⟨T.kept.os, T.kept.tape, T.kept.output, T.kept.size, fun k hk hh => T.kept.block k hk (fun hm => hh (by simp [ATr.foot, i5 k hm]))⟩, ⟨⟨T.kept.heap ha h1, ⟨h2.1.keptN T.kept hxb, h2.2⟩, ?_, ?_, i1⟩, ⟨o1, o2, owns_kept o3 T.kept hvb, i2⟩, ?_⟩, rfl, ?_⟩
  · obtain ⟨ao, cap, rfl, q1, q2, q3⟩ := h3
    exact ⟨ao, cap, rfl, q1, q2, q3.keptEx T.kept fun b o e => hvb b (by rw [e]; rfl)⟩
  · cases m with
    | none => rw [h4.2] at hg'; cases hg'
    | some b =>
      refine ⟨h4.1, ?_⟩
      rw [AKs.kids_set hg' T.addr]
      exact h4.2.kept T.kept (fun hh => dm b (by simp) (by simp [i5 b hh]))
  · simp only [ATr.foot]
    rw [List.nodup_cons]
    refine ⟨fun hh => ?_, nodup_mk nm (nodup_mk nv i3 (fun b hb hr => ?_)) (fun b hb hr => ?_)⟩
    · simp only [List.mem_append] at hh na
      rcases hh with hh | hh | hh
      · exact na (.inl hh)
      · exact na (.inr (.inl hh))
      · rcases i4 a hh with h' | h'
        · exact na (.inr (.inr h'))
        · omega
    · rcases i4 b hr with h' | h'
      · exact dv b hb h'
      · have := (World.ownsRow.lt o3 b (by simpa using hb)).2
        omega
    · simp only [List.mem_append] at hr
      rcases hr with hr | hr
      · exact dm b hb (List.mem_append.2 (.inl hr))
      · rcases i4 b hr with h' | h'
        · exact dm b hb (List.mem_append.2 (.inr h'))
        · cases m with
          | none => cases hb
          | some q =>
            have : b = q := by simpa using hb
            have := h4.2.lt
            omega
  · intro b hb
    simp only [ATr.foot, List.mem_cons, List.mem_append] at hb ⊢
    rcases hb with hb | hb | hb | hb
    · exact .inl (.inl hb)
    · exact .inl (.inr (.inl hb))
    · exact .inl (.inr (.inr (.inl hb)))
    · exact (i4 b hb).imp (fun h => .inr (.inr (.inr h))) id

/-- A change of the subtree at the end of names is a change of the tree. -/
theorem Turned.path {base : Nat} {w w' : World} {p p' : ATr} (T : Turned base w w' p p') : ∀ (ns : List (List UInt8)) (t : ATr), MTr base w t → fol t ns = (0, some p) → Turned base w w' t (t.putAt ns p')
  | [], t, _, hf => by
    simp only [fol, Prod.mk.injEq, Option.some.injEq, true_and] at hf
    subst hf
    have : t.putAt [] p' = p' := by cases t; rfl
    rw [this]
    exact T
  | s :: l, t, h, hf => by
    simp only [fol] at hf
    split at hf
    · cases hg : t.ks.get s with
      | none => rw [hg] at hf; cases hf
      | some u =>
        rw [hg] at hf
        have T1 := Turned.path T l u (h.sub hg) hf
        have T2 := Turned.one h hg T1
        have e : t.putAt (s :: l) p' = t.putAt [s] (u.putAt l p') := by
          obtain ⟨a, m, va, vb, r, ks⟩ := t
          have hg' : ks.get s = some u := hg
          simp [ATr.putAt, hg']
        rw [e]
        exact T2
    · cases hf
end Go.Proofs.YtiedoocgbajjjaaGreatDoor

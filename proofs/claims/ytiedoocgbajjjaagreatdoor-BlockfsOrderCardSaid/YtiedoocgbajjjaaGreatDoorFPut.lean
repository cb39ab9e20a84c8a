/-
  Layer 4: an entry of a directory is dropped, its mode set.
  Conditions: those that each theorem states.
  A slice of bytes that came in, and what it is as a text.
  Conditions: none.
  Layer 4: an entry of a directory is put.
  Conditions: those that each theorem states.
-/
import Derived.Test.YtiedoocgbajjjaaGreatDoorFEdit
import Derived.Test.YtiedoocgbajjjaaGreatDoorLTakeE
import Derived.Laws.AppendOwnNone
namespace Go.Proofs.YtiedoocgbajjjaaGreatDoor
open Go.RowKit Go.Maps
set_option maxRecDepth 100000

def AKs.del : AKs → List UInt8 → AKs
  | .nil, _ => .nil
  | .cons s t k, x => if s = x then k.del x else .cons s t (k.del x)
theorem AKs.kids_del : ∀ (k : AKs) (x : List UInt8), (k.del x).kids = kdel k.kids x
  | .nil, _ => rfl
  | .cons s t k, x => by
    have ih := AKs.kids_del k x
    simp only [AKs.del, AKs.kids]
    unfold kdel at ih ⊢
    by_cases h : s = x
    · rw [if_pos h, ih, List.filter_cons_of_neg (by simp [h])]
    · rw [if_neg h, List.filter_cons_of_pos (by simp [h])]
      simp only [AKs.kids, ih]
theorem AKs.foot_del : ∀ (k : AKs) (x : List UInt8), (∀ b ∈ (k.del x).foot, b ∈ k.foot) ∧ (k.foot.Nodup → (k.del x).foot.Nodup)
  | .nil, _ => ⟨fun _ h => h, fun h => h⟩
  | .cons s t k, x => by
    have ih := AKs.foot_del k x
    simp only [AKs.del]
    split
    · simp only [AKs.foot]
      exact ⟨fun b hb => List.mem_append.2 (.inr (ih.1 b hb)), fun hn => ih.2 (nodup_app hn).2.1⟩
    · simp only [AKs.foot]
      refine ⟨fun b hb => ?_, fun hn => ?_⟩
      · rcases List.mem_append.1 hb with h | h
        · exact List.mem_append.2 (.inl h)
        · exact List.mem_append.2 (.inr (ih.1 b h))
      · obtain ⟨n1, n2, n3⟩ := nodup_app hn
        exact nodup_mk n1 (ih.2 n2) (fun b hb hr => n3 b hb (ih.1 b hr))
theorem KsOk.del {w : World} : ∀ {k : AKs} (x : List UInt8), KsOk w k → KsOk w (k.del x)
  | .nil, _, _ => trivial
  | .cons s t k, x, h => by
    simp only [AKs.del]
    split
    · exact KsOk.del x h.2.2
    · exact ⟨h.1, h.2.1, KsOk.del x h.2.2⟩
theorem OwnK.del {base : Nat} {w : World} : ∀ {k : AKs} (x : List UInt8), OwnK base w k → OwnK base w (k.del x)
  | .nil, _, _ => trivial
  | .cons s t k, x, h => by
    simp only [AKs.del]
    split
    · exact OwnK.del x h.2
    · exact ⟨h.1, OwnK.del x h.2⟩

/-- A node whose own cells and map are written anew, with other entries out of memory of its own. -/
theorem Turned.node {base : Nat} {w w' : World} {a b : Nat} {va va' vb : Value} {r r' : NRec} {ks ks' : AKs} (h : MTr base w (.node a (some b) va vb r ks)) (hk : Kept [a, b] w w') (hrow : w'.heap[a]? = some (.cells (nodeRow (some b) va' vb r') 100)) (hkind : r'.kind = 2) (hblocks : r'.blocks = r.blocks)
    (hbytes : BytesIs w' va' r'.bytes ∧ r'.bytes.length ≤ 2432) (hm : KMap w' b ks'.kids) (hks : KsOk w' ks') (hok : OwnK base w' ks') (hn : ks'.foot.Nodup) (hf : ∀ q ∈ ks'.foot, q ∈ ks.foot ∨ w.heap.size ≤ q) :
    Turned base w w' (.node a (some b) va vb r ks) (.node a (some b) va' vb r' ks') := by
  obtain ⟨⟨h1, h2, h3, h4, h5⟩, ⟨o1, o2, o3, o4⟩, hnn⟩ := h
  simp only [ATr.foot] at hnn
  rw [List.nodup_cons] at hnn
  obtain ⟨na, hnn⟩ := hnn
  obtain ⟨nm, hnn, dm⟩ := nodup_app hnn
  obtain ⟨nv, nk, dv⟩ := nodup_app hnn
  have halt : a < w.heap.size := (Array.getElem?_eq_some_iff.1 h1).1
  have hblt := h4.2.lt
  have hvb : ∀ q, vb.ownBlock = some q → q ∉ [a, b] := fun q hq hh => by
    simp only [List.mem_cons, List.not_mem_nil, or_false] at hh
    rcases hh with rfl | rfl
    · exact na (by simp [hq])
    · exact dm q (by simp) (by simp [hq])
  refine ⟨hk.mono (fun q hq _ => ?_), ⟨⟨hrow, hbytes, ?_, ⟨hkind, hm⟩, hks⟩, ⟨o1, o2, ?_, hok⟩, ?_⟩, rfl, ?_⟩
  · simp only [List.mem_cons, List.not_mem_nil, or_false] at hq
    rcases hq with rfl | rfl <;> simp [ATr.foot]
  · obtain ⟨ao, cap, rfl, q1, q2, q3⟩ := h3
    rw [hblocks]
    exact ⟨ao, cap, rfl, q1, q2, q3.keptEx hk fun b' o e => hvb b' (by rw [e]; rfl)⟩
  · rw [hblocks]
    exact owns_kept o3 hk hvb
  · simp only [ATr.foot]
    rw [List.nodup_cons]
    refine ⟨fun hh => ?_, nodup_mk nm (nodup_mk nv hn (fun q hq hr => ?_)) (fun q hq hr => ?_)⟩
    · simp only [List.mem_append] at hh na
      rcases hh with hh | hh | hh
      · exact na (.inl hh)
      · exact na (.inr (.inl hh))
      · rcases hf a hh with h' | h'
        · exact na (.inr (.inr h'))
        · omega
    · rcases hf q hr with h' | h'
      · exact dv q hq h'
      · have := (World.ownsRow.lt o3 q (by simpa using hq)).2
        omega
    · simp only [List.mem_append] at hr
      rcases hr with hr | hr
      · exact dm q hq (List.mem_append.2 (.inl hr))
      · rcases hf q hr with h' | h'
        · exact dm q hq (List.mem_append.2 (.inr h'))
        · have : q = b := by simpa using hq
          omega
  · intro q hq
    simp only [ATr.foot, List.mem_cons, List.mem_append] at hq ⊢
    rcases hq with hq | hq | hq | hq
    · exact .inl (.inl hq)
    · exact .inl (.inr (.inl hq))
    · exact .inl (.inr (.inr (.inl hq)))
    · exact (hf q hq).imp (fun h => .inr (.inr (.inr h))) id
theorem MTr.map {base : Nat} {w : World} {t : ATr} (h : MTr base w t) (hk : t.rc.kind = 2) : ∃ a b va vb r ks, t = .node a (some b) va vb r ks ∧ r.kind = 2 := by
  obtain ⟨a, m, va, vb, r, ks⟩ := t
  cases m with
  | none => exact absurd hk h.ok.2.2.2.1.1
  | some b => exact ⟨a, b, va, vb, r, ks, rfl, hk⟩

def ATr.dropT : ATr → List UInt8 → ATr
  | .node a m va vb r ks, s => .node a m va vb { r with fresh := true } (ks.del s)
set_option maxHeartbeats 1000000 in
theorem ndrop_any (base : Nat) (p : ATr) (s : List UInt8) (w : World) (h : MTr base w p) (hk : p.rc.kind = 2) (hs : s.length ≤ 28) :
    Calls Tryz.prog 100 #[.pointer (some ⟨p.addr, 0, none⟩), .string (strL s)] w fun e w' => (p.ks.get s = none ∧ e = .returned (.int .i64 41) ∧ w = w') ∨ (∃ u, p.ks.get s = some u ∧ e = .returned (.int .i64 0) ∧ Turned base w w' p (p.dropT s)) := by
  obtain ⟨a, b, va, vb, r, ks, rfl, hk2⟩ := h.map hk
  have HM := Lib.hid h
  have hm := h.ok.2.2.2.1.2
  have hrow := h.ok.1
  have c3 : w.cell? ⟨a, 3, none⟩ = some (.map (some b)) := cell_of_row _ _ 3 _ _ _ hrow
  have hlook := hm.look s (by omega)
  rw [AKs.kget] at hlook
  show Calls Tryz.prog 100 #[.pointer (some ⟨a, 0, none⟩), .string (strL s)] w fun e w' => (ks.get s = none ∧ e = .returned (.int .i64 41) ∧ w = w') ∨ (∃ u, ks.get s = some u ∧ e = .returned (.int .i64 0) ∧ Turned base w w' _ (.node a (some b) va vb { r with fresh := true } (ks.del s)))
  cases hg : ks.get s with
  | none =>
    rw [hg] at hlook
    simp only [Option.map_none] at hlook
    clear hm hrow h
    go_enter Tryz.func100, Tryz.ntmps100
    go_wp2_with fail
    go_ret
    exact .inl ⟨by first | rfl | trivial, rfl, by first | rfl | trivial⟩
  | some u =>
    rw [hg] at hlook
    simp only [Option.map_some] at hlook
    obtain ⟨w2, hrun, hm2, hk2'⟩ := hm.drop s (by omega) 0
    have hab : a ≠ b := fun e => by
      have := HM.out.nodup
      rw [e] at this
      simp [ATr.foot] at this
    have hrow2 := hk2'.heap (b := a) (by simp [hab]) hrow
    have f7 : w2.frozen? ⟨a, 7, none⟩ = false := frozen_of_row _ _ 7 _ _ hrow2
    have c7 : w2.cell? ⟨a, 7, none⟩ = some (.bool r.fresh) := cell_of_row _ _ 7 _ _ _ hrow2
    have HT : Hid (Turned base w (w2.setCell ⟨a, 7, none⟩ (.bool true)) (.node a (some b) va vb r ks) (.node a (some b) va vb { r with fresh := true } (ks.del s))) := by
      have hks : Kept [a, b] w (w2.setCell ⟨a, 7, none⟩ (.bool true)) := (hk2'.mono (fun q hq _ => by simp at hq; simp [hq])).trans (Kept.setCell _ _ _ _ (by simp))
      have M := HM.out
      have hnb : ∀ q ∈ [a, b], NoBytes w q := fun q hq => (foot_mem M.ok M.own q (by simp at hq; rcases hq with rfl | rfl <;> simp [ATr.foot])).2.2
      have hnn := M.nodup
      simp only [ATr.foot] at hnn
      rw [List.nodup_cons] at hnn
      have hdis : ∀ q ∈ [a, b], q ∉ ks.foot := fun q hq hh => by
        simp at hq
        rcases hq with rfl | rfl
        · exact hnn.1 (by simp [hh])
        · exact (nodup_app hnn.2).2.2 q (by simp) (by simp [hh])
      have hfr := KsOk.frame hks hnb M.ok.2.2.2.2 M.own.2.2.2 hdis
      refine Turned.node M hks ?_ hk2 rfl ⟨M.ok.2.1.1.keptN hks hnb, M.ok.2.1.2⟩ ?_ (hfr.1.del s) (hfr.2.del s) ((AKs.foot_del ks s).2 ?_) (fun q hq => .inl ((AKs.foot_del ks s).1 q hq))
      · have := heap_setCell_same w2 a 7 _ _ (.bool true) hrow2
        exact this
      · rw [AKs.kids_del]
        exact hm2.kept (Kept.setCell [a] _ _ _ (by simp)) (by simp; exact fun e => hab e.symm)
      · obtain ⟨_, h2, _⟩ := nodup_app hnn.2
        exact (nodup_app h2).2.1
    clear hm hrow h hm2 hk2' hrow2 HM hg
    go_enter Tryz.func100, Tryz.ntmps100
    go_wp2_with fail
    go_ret
    exact .inr ⟨u, rfl, rfl, HT.out⟩

/-- A node whose own cells are written anew. -/
theorem Turned.row {base : Nat} {w w' : World} {a : Nat} {m : Option Nat} {va va' vb : Value} {r r' : NRec} {ks : AKs} (h : MTr base w (.node a m va vb r ks)) (hk : Kept [a] w w') (hrow : w'.heap[a]? = some (.cells (nodeRow m va' vb r') 100)) (hkind : r'.kind = r.kind) (hblocks : r'.blocks = r.blocks)
    (hbytes : BytesIs w' va' r'.bytes ∧ r'.bytes.length ≤ 2432) : Turned base w w' (.node a m va vb r ks) (.node a m va' vb r' ks) := by
  have hnb : ∀ q ∈ [a], NoBytes w q := fun q hq => (foot_mem h.ok h.own q (by simp at hq; simp [hq, ATr.foot])).2.2
  obtain ⟨⟨h1, h2, h3, h4, h5⟩, ⟨o1, o2, o3, o4⟩, hnn⟩ := h
  have hnn0 := hnn
  simp only [ATr.foot] at hnn
  rw [List.nodup_cons] at hnn
  obtain ⟨na, hnn⟩ := hnn
  simp only [List.mem_append, not_or] at na
  have hvb : ∀ q, vb.ownBlock = some q → q ∉ [a] := fun q hq hh => by
    have : q = a := by simpa using hh
    subst this
    exact na.2.1 (by simp [hq])
  have hfr := KsOk.frame hk hnb h5 o4 (fun q hq hh => by
    have : q = a := by simpa using hq
    subst this
    exact na.2.2 hh)
  refine ⟨hk.mono (fun q hq _ => by simp at hq; simp [hq, ATr.foot]), ⟨⟨hrow, hbytes, ?_, ?_, hfr.1⟩, ⟨o1, o2, ?_, hfr.2⟩, hnn0⟩, rfl, fun q hq => .inl hq⟩
  · obtain ⟨ao, cap, rfl, q1, q2, q3⟩ := h3
    rw [hblocks]
    exact ⟨ao, cap, rfl, q1, q2, q3.keptEx hk fun b' o e => hvb b' (by rw [e]; rfl)⟩
  · rw [hkind]
    cases m with
    | none => exact h4
    | some b => exact ⟨h4.1, h4.2.kept hk (fun hh => na.1 (by simp at hh; simp [hh]))⟩
  · rw [hblocks]
    exact owns_kept o3 hk hvb
def ATr.modeT : ATr → Int → ATr
  | .node a m va vb r ks, x => .node a m va vb { r with mode := x } ks
theorem Turned.mode {base : Nat} {w : World} {t : ATr} (h : MTr base w t) (x : Int) : Turned base w (w.setCell ⟨t.addr, 1, none⟩ (.int .i64 x)) t (t.modeT x) := by
  obtain ⟨a, m, va, vb, r, ks⟩ := t
  have hk : Kept [a] w (w.setCell ⟨a, 1, none⟩ (.int .i64 x)) := Kept.setCell _ _ _ _ (by simp)
  have hnb : ∀ q ∈ [a], NoBytes w q := fun q hq => (foot_mem h.ok h.own q (by simp at hq; simp [hq, ATr.foot])).2.2
  exact Turned.row h hk (heap_setCell_same w a 1 _ _ (.int .i64 x) h.ok.1) rfl rfl ⟨h.ok.2.1.1.keptN hk hnb, h.ok.2.1.2⟩
set_option maxHeartbeats 1000000 in
theorem nsetMode_any (base : Nat) (p : ATr) (s : List UInt8) (x : Int) (w : World) (h : MTr base w p) (hk : p.rc.kind = 2) (hs : s.length ≤ 28) :
    Calls Tryz.prog 99 #[.pointer (some ⟨p.addr, 0, none⟩), .string (strL s), .int .i64 x] w fun e w' => (p.ks.get s = none ∧ e = .returned (.int .i64 41) ∧ w = w') ∨ (∃ u, p.ks.get s = some u ∧ e = .returned (.int .i64 0) ∧ ((u.rc.kind = 3 ∧ w = w') ∨ (u.rc.kind ≠ 3 ∧ Turned base w w' p (p.putAt [s] (u.modeT x))))) := by
  obtain ⟨a, b, va, vb, r, ks, rfl, hk2⟩ := h.map hk
  have HM := Lib.hid h
  have hm := h.ok.2.2.2.1.2
  have hrow := h.ok.1
  have c3 : w.cell? ⟨a, 3, none⟩ = some (.map (some b)) := cell_of_row _ _ 3 _ _ _ hrow
  have hlook := hm.look s (by omega)
  rw [AKs.kget] at hlook
  show Calls Tryz.prog 99 #[.pointer (some ⟨a, 0, none⟩), .string (strL s), .int .i64 x] w fun e w' => (ks.get s = none ∧ e = .returned (.int .i64 41) ∧ w = w') ∨ (∃ u, ks.get s = some u ∧ e = .returned (.int .i64 0) ∧ ((u.rc.kind = 3 ∧ w = w') ∨ (u.rc.kind ≠ 3 ∧ Turned base w w' _ _)))
  cases hg : ks.get s with
  | none =>
    rw [hg] at hlook
    simp only [Option.map_none] at hlook
    clear hm hrow h
    go_enter Tryz.func99, Tryz.ntmps99
    go_wp2_with fail
    go_ret
    exact .inl ⟨by first | rfl | trivial, rfl, by first | rfl | trivial⟩
  | some u =>
    rw [hg] at hlook
    simp only [Option.map_some] at hlook
    have hu := HM.out.sub (x := s) hg
    have HT := Lib.hid (Turned.one HM.out hg (Turned.mode hu x))
    obtain ⟨m', va', vb', hrow', _⟩ := hu.ok.row
    have d0 : w.cell? ⟨u.addr, 0, none⟩ = some (.int .i64 u.rc.kind) := cell_of_row _ _ 0 _ _ _ hrow'
    have d1 : w.cell? ⟨u.addr, 1, none⟩ = some (.int .i64 u.rc.mode) := cell_of_row _ _ 1 _ _ _ hrow'
    have f1 : w.frozen? ⟨u.addr, 1, none⟩ = false := frozen_of_row _ _ 1 _ _ hrow'
    by_cases h3 : u.rc.kind = 3
    · have h3b : (u.rc.kind != 3) = false := by simpa using h3
      clear hm hrow h HM hg hu hrow'
      go_enter Tryz.func99, Tryz.ntmps99
      go_wp2_with fail
      go_ret
      exact .inr ⟨u, rfl, rfl, .inl ⟨h3, by first | rfl | trivial⟩⟩
    · have h3b : (u.rc.kind != 3) = true := by simpa using h3
      clear hm hrow h HM hg hu hrow'
      go_enter Tryz.func99, Tryz.ntmps99
      go_wp2_with fail
      go_ret
      exact .inr ⟨u, rfl, rfl, .inr ⟨h3, HT.out⟩⟩
end Go.Proofs.YtiedoocgbajjjaaGreatDoor

namespace Go.Proofs.YtiedoocgbajjjaaGreatDoor
open Go.RowKit Go.Maps
set_option maxRecDepth 100000

end Go.Proofs.YtiedoocgbajjjaaGreatDoor

namespace Go.Proofs.YtiedoocgbajjjaaGreatDoor
open Go.RowKit Go.Maps
set_option maxRecDepth 100000

theorem ArgB.row {w : World} {ao : Option Addr} {len cap : Nat} {B : List UInt8} (h : ArgB w ao len cap B) (hne : ao ≠ none) : ∃ ad, ao = some ad ∧ ∀ j u, (bv B)[j]? = some u → w.cell? (ad.add j) = some u := by
  cases ao with
  | none => exact absurd rfl hne
  | some ad =>
    refine ⟨ad, rfl, fun j u hu => ?_⟩
    rcases h.at' with h0 | ⟨b, o, e, hb, hr⟩
    · have : B = [] := List.eq_nil_of_length_eq_zero (by rw [h.hlen, h0])
      rw [this] at hu
      simp [bv] at hu
    · injection e with e
      rw [e, Addr.add_mid]
      exact hr j u hu
set_option maxHeartbeats 1000000 in
theorem slCloneB_any (ao : Option Addr) (len cap : Nat) (B : List UInt8) (w : World) (h : ArgB w ao len cap B) (hl : len ≤ 100000) :
    Calls Tryz.prog 58 #[.slice ao len cap] w fun e w' => ∃ v, e = .returned v ∧ Hid (Kept [] w w' ∧ w'.ownsRow w.heap.size 5 1 v len (bv B)) := by
  have hen := fun (w : World) (a : Option Addr) (n c : Nat) => Lib.run_eql_slice_nil (P := Tryz.prog) w 22 5 a n c 0 0 Tryz.underlying22
  by_cases hn : ao = none
  · have hc := h.hnil hn
    have h0 : len = 0 := by have := h.hcap; omega
    subst hn hc h0
    have HB : Hid (B = []) := List.eq_nil_of_length_eq_zero h.hlen
    clear h
    go_enter Tryz.func58, Tryz.ntmps58
    go_wp2_with fail
    go_ret
    exact ⟨_, rfl, Kept.refl _ _, by rw [HB.out]; exact World.ownsRow_nil _ _ _ _⟩
  · obtain ⟨ad, rfl, hrow⟩ := h.row hn
    have how : (w.alloc (.cells #[] 5)).ownsRow w.heap.size 5 1 (.slice (some ⟨w.heap.size, 0, none⟩) 0 0) 0 [] :=
      ⟨by simp, .inr ⟨w.heap.size, 0, #[], rfl, Nat.le_refl _, heap_alloc_last _ _, Nat.le_refl _, by unfold maxLen; omega, rfl, rfl⟩⟩
    have hk0 : Kept [] w (w.alloc (.cells #[] 5)) := Kept.alloc _ _ _
    obtain ⟨v7, w7, hrun, hown, hk7, _⟩ := own_app elemByte 22 (w.alloc (.cells #[] 5)) w.heap.size _ 0 [] how ad len cap (bv B) (by rw [bv_length, h.hlen]; omega) (fun j u hu => by
      have := hrow j u hu
      rw [World.cell?_alloc_old _ _ _ (Nat.ne_of_lt (World.block_lt_of_cell? w _ this))]
      exact this) (bv_one _) (by unfold maxLen; omega) (by omega) (by rw [size_alloc]; omega)
    rw [Nat.zero_add, List.nil_append] at hown
    have HRUN := Lib.hid hrun
    have HO := Lib.hid (And.intro (hk0.own how (Nat.le_refl _) hk7) hown)
    clear h hrow how hk0 hrun hown hk7 hn
    go_enter Tryz.func58, Tryz.ntmps58
    go_wp2_with (at_builtin; refine wpList_append_run rfl _ _ 22 rfl _ _ _ rfl rfl HRUN.out ?_)
    go_ret
    exact ⟨v7, rfl, HO.out.1, HO.out.2⟩
theorem BytesIs.own {w : World} {base : Nat} {v : Value} {L : List UInt8} {n : Nat} (h : w.ownsRow base 5 1 v n (bv L)) : BytesIs w v L := by
  have hn : L.length = n := by have := h.1; rw [bv_length] at this; omega
  subst hn
  refine ⟨OwnB.slIs h, fun g hg => ?_, ?_⟩
  rotate_left
  · rcases h.2 with ⟨rfl, _⟩ | ⟨g', cap, cur, rfl, _, _, h1, h2, _⟩
    · exact ⟨none, 0, 0, rfl, Nat.le_refl _, by omega⟩
    · exact ⟨_, _, cap, rfl, h1, by unfold maxLen at h2; omega⟩
  rcases h.2 with ⟨rfl, _⟩ | ⟨g', cap, cur, rfl, _, hh, _⟩
  · cases hg
  · have : g' = g := by simpa [Value.ownBlock] using hg
    exact ⟨cur, (0, 0), by rw [← this]; exact hh⟩

def AKs.ins : AKs → List UInt8 → ATr → AKs
  | .nil, s, x => .cons s x .nil
  | .cons s' t k, s, x => if bytesBefore s s' then .cons s x (.cons s' t k) else .cons s' t (k.ins s x)
theorem AKs.kids_ins : ∀ (k : AKs) (s : List UInt8) (x : ATr), (k.ins s x).kids = kins (s, x.addr) k.kids
  | .nil, _, _ => rfl
  | .cons s' t k, s, x => by
    simp only [AKs.ins, AKs.kids, kins]
    split
    · rfl
    · simp only [AKs.kids, AKs.kids_ins k s x]
theorem AKs.get_none : ∀ {k : AKs} {s : List UInt8}, k.get s = none → kdel k.kids s = k.kids
  | .nil, _, _ => rfl
  | .cons s' t k, s, h => by
    simp only [AKs.get] at h
    split at h
    · cases h
    · rename_i hne
      have ih := AKs.get_none h
      unfold kdel at ih ⊢
      simp only [AKs.kids]
      rw [List.filter_cons_of_pos (by simp [hne]), ih]
theorem KsOk.ins {w : World} : ∀ {k : AKs} {s : List UInt8} {x : ATr}, KsOk w k → s.length ≤ 28 → TrOk w x → KsOk w (k.ins s x)
  | .nil, _, _, _, hs, hx => ⟨hs, hx, trivial⟩
  | .cons s' t k, s, x, h, hs, hx => by
    simp only [AKs.ins]
    split
    · exact ⟨hs, hx, h⟩
    · exact ⟨h.1, h.2.1, KsOk.ins h.2.2 hs hx⟩
theorem OwnK.ins {base : Nat} {w : World} : ∀ {k : AKs} {s : List UInt8} {x : ATr}, OwnK base w k → OwnT base w x → OwnK base w (k.ins s x)
  | .nil, _, _, _, hx => ⟨hx, trivial⟩
  | .cons s' t k, s, x, h, hx => by
    simp only [AKs.ins]
    split
    · exact ⟨hx, h⟩
    · exact ⟨h.1, OwnK.ins h.2 hx⟩
theorem AKs.foot_ins : ∀ (k : AKs) (s : List UInt8) (x : ATr), (k.ins s x).foot.Perm (x.foot ++ k.foot)
  | .nil, s, x => by simp [AKs.ins, AKs.foot]
  | .cons s' t k, s, x => by
    simp only [AKs.ins]
    split
    · simp [AKs.foot]
    · simp only [AKs.foot]
      refine ((AKs.foot_ins k s x).append_left t.foot).trans ?_
      rw [← List.append_assoc, ← List.append_assoc]
      exact (List.perm_append_comm (l₁ := t.foot) (l₂ := x.foot)).append_right k.foot
theorem OwnT.lower {base base' : Nat} {w : World} (hb : base' ≤ base) {t : ATr} (hks : t.ks = .nil) (h : OwnT base w t) : OwnT base' w t := by
  obtain ⟨a, m, va, vb, r, ks⟩ := t
  have hks' : ks = .nil := hks
  subst hks'
  obtain ⟨o1, o2, o3, _⟩ := h
  refine ⟨Nat.le_trans hb o1, fun b e => Nat.le_trans hb (o2 b e), ?_, trivial⟩
  obtain ⟨l1, l2 | ⟨g, cap, cur, e, hg, r⟩⟩ := o3
  · exact ⟨l1, .inl l2⟩
  · exact ⟨l1, .inr ⟨g, cap, cur, e, Nat.le_trans hb hg, r⟩⟩
theorem Kept.andThen {ex ex' : List Nat} {w w1 w2 : World} (h : Kept ex w w1) (k : Kept ex' w1 w2) (hx : ∀ i ∈ ex', i ∈ ex ∨ w.heap.size ≤ i) : Kept ex w w2 :=
  ⟨k.os.trans h.os, k.tape.trans h.tape, k.output.trans h.output, Nat.le_trans h.size k.size, fun i hi hn => by
    rw [k.block i (Nat.lt_of_lt_of_le hi h.size) (fun hm => by
      rcases hx i hm with h' | h'
      · exact hn h'
      · omega)]
    exact h.block i hi hn⟩

theorem Turned.still {base : Nat} {w w' : World} {p : ATr} (h : MTr base w p) (hk : Kept [] w w') : Turned base w w' p p := by
  have hf := TrOk.frame hk (by simp) h.ok h.own (by simp)
  exact ⟨hk.mono (by simp), ⟨hf.1, hf.2, h.nodup⟩, rfl, fun b hb => .inl hb⟩
theorem Turned.trans {base : Nat} {w w1 w2 : World} {p p1 p2 : ATr} (T : Turned base w w1 p p1) (U : Turned base w1 w2 p1 p2) : Turned base w w2 p p2 :=
  ⟨T.kept.andThen U.kept T.foot, U.m, U.addr.trans T.addr, fun b hb => by
    rcases U.foot b hb with h | h
    · exact T.foot b h
    · exact .inr (Nat.le_trans T.kept.size h)⟩
def ATr.bytesT : ATr → Value → List UInt8 → ATr
  | .node a m _ vb r ks, va', L => .node a m va' vb { r with bytes := L, fresh := true } ks
theorem Turned.bytes {base : Nat} {w : World} {t : ATr} (h : MTr base w t) {va' : Value} {L : List UInt8} (hL : L.length ≤ 2432) (hb : BytesIs w va' L) :
    Turned base w ((w.setCell ⟨t.addr, 2, none⟩ va').setCell ⟨t.addr, 7, none⟩ (.bool true)) t (t.bytesT va' L) := by
  obtain ⟨a, m, va, vb, r, ks⟩ := t
  have hs : Kept [a] w ((w.setCell ⟨a, 2, none⟩ va').setCell ⟨a, 7, none⟩ (.bool true)) := (Kept.setCell [a] _ _ _ (by simp)).trans (Kept.setCell _ _ _ _ (by simp))
  have hnb : ∀ q ∈ [a], NoBytes w q := fun q hq => (foot_mem h.ok h.own q (by simp at hq; simp [hq, ATr.foot])).2.2
  exact Turned.row h hs (heap_setCell_same _ _ _ _ _ _ (heap_setCell_same _ _ _ _ _ _ h.ok.1)) rfl rfl ⟨hb.keptN hs hnb, hL⟩

/-- A new entry. -/
theorem Turned.add {base : Nat} {w w1 w2 : World} {a b : Nat} {va vb : Value} {r : NRec} {ks : AKs} {s : List UInt8} {x : ATr} (h : MTr base w (.node a (some b) va vb r ks)) (hkind : r.kind = 2) (hs : s.length ≤ 28) (hg : ks.get s = none) (hk1 : Kept [] w w1) (hx : MTr w.heap.size w1 x) (hxk : x.ks = .nil)
    (hm2 : KMap w2 b (kput ks.kids s x.addr)) (hk2 : Kept [b] w1 w2) (hbase : base ≤ w.heap.size) :
    Turned base w (w2.setCell ⟨a, 7, none⟩ (.bool true)) (.node a (some b) va vb r ks) (.node a (some b) va vb { r with fresh := true } (ks.ins s x)) := by
  have T1 := Turned.still h hk1
  have M1 := T1.m
  have hnn := M1.nodup
  simp only [ATr.foot] at hnn
  rw [List.nodup_cons] at hnn
  have hab : a ≠ b := fun e => hnn.1 (by simp [e])
  have hrow2 := hk2.heap (b := a) (by simp [hab]) M1.ok.1
  have hks : Kept [a, b] w1 (w2.setCell ⟨a, 7, none⟩ (.bool true)) := (hk2.mono (fun q hq _ => by simp at hq; simp [hq])).trans (Kept.setCell _ _ _ _ (by simp))
  have hnb : ∀ q ∈ [a, b], NoBytes w1 q := fun q hq => (foot_mem M1.ok M1.own q (by simp at hq; rcases hq with rfl | rfl <;> simp [ATr.foot])).2.2
  have hdis : ∀ q ∈ [a, b], q ∉ ks.foot := fun q hq hh => by
    simp at hq
    rcases hq with rfl | rfl
    · exact hnn.1 (by simp [hh])
    · exact (nodup_app hnn.2).2.2 q (by simp) (by simp [hh])
  have hfr := KsOk.frame hks hnb M1.ok.2.2.2.2 M1.own.2.2.2 hdis
  have hold : ∀ q ∈ (ATr.node a (some b) va vb r ks).foot, q < w.heap.size := fun q hq => (foot_mem h.ok h.own q hq).2.1
  have hxd : ∀ q ∈ [a, b], q ∉ x.foot := fun q hq hh => by
    have h1 := (foot_mem hx.ok hx.own q hh).1
    have h2 := hold q (by simp at hq; rcases hq with rfl | rfl <;> simp [ATr.foot])
    omega
  have hxf := TrOk.frame hks hnb hx.ok hx.own hxd
  have hperm := AKs.foot_ins ks s x
  have hkn : ks.foot.Nodup := (nodup_app (nodup_app hnn.2).2.1).2.1
  have hxk2 : ∀ q ∈ x.foot, q ∉ ks.foot := fun q hq hh => by
    have h1 := (foot_mem hx.ok hx.own q hq).1
    have h2 := hold q (by simp [ATr.foot, hh])
    omega
  refine Turned.node h ((hk1.mono (by simp)).trans hks) ?_ hkind rfl ⟨(h.ok.2.1.1.kept hk1).keptN hks hnb, h.ok.2.1.2⟩ ?_ (hfr.1.ins hs hxf.1) (hfr.2.ins (OwnT.lower hbase hxk hxf.2)) ?_ ?_
  · exact heap_setCell_same w2 a 7 _ _ (.bool true) hrow2
  · rw [AKs.kids_ins]
    have : kput ks.kids s x.addr = kins (s, x.addr) ks.kids := by unfold kput; rw [AKs.get_none hg]
    rw [← this]
    exact hm2.kept (Kept.setCell [a] _ _ _ (by simp)) (by simp; exact fun e => hab e.symm)
  · exact hperm.nodup_iff.2 (nodup_mk hx.nodup hkn hxk2)
  · intro q hq
    rcases List.mem_append.1 (hperm.mem_iff.1 hq) with h' | h'
    · exact .inr (foot_mem hx.ok hx.own q h').1
    · exact .inl h'
theorem AKs.get_ins : ∀ {k : AKs} {s : List UInt8} {x : ATr}, k.get s = none → (k.ins s x).get s = some x
  | .nil, s, x, _ => by simp [AKs.ins, AKs.get]
  | .cons s' t k, s, x, h => by
    simp only [AKs.get] at h
    split at h
    · cases h
    · rename_i hne
      simp only [AKs.ins]
      split
      · simp [AKs.get]
      · simp only [AKs.get, if_neg hne]
        exact AKs.get_ins h

mutual
/-- A tree, wherever it stands in memory. -/
inductive PTr where
  | node (r : NRec) (ks : PKs)
inductive PKs where
  | nil
  | cons (s : List UInt8) (t : PTr) (k : PKs)
end
mutual
def ATr.er : ATr → PTr
  | .node _ _ _ _ r ks => .node r ks.er
def AKs.er : AKs → PKs
  | .nil => .nil
  | .cons s t k => .cons s t.er k.er
end
def PTr.rc : PTr → NRec
  | .node r _ => r
def PTr.ks : PTr → PKs
  | .node _ k => k
def PKs.get : PKs → List UInt8 → Option PTr
  | .nil, _ => none
  | .cons s t k, x => if s = x then some t else k.get x
def PKs.len : PKs → Nat
  | .nil => 0
  | .cons _ _ k => k.len + 1
def PKs.set : PKs → List UInt8 → PTr → PKs
  | .nil, _, _ => .nil
  | .cons s t k, x, u => if s = x then .cons s u k else .cons s t (k.set x u)
def PKs.ins : PKs → List UInt8 → PTr → PKs
  | .nil, s, x => .cons s x .nil
  | .cons s' t k, s, x => if bytesBefore s s' then .cons s x (.cons s' t k) else .cons s' t (k.ins s x)
def PKs.del : PKs → List UInt8 → PKs
  | .nil, _ => .nil
  | .cons s t k, x => if s = x then k.del x else .cons s t (k.del x)
theorem er_get : ∀ (k : AKs) (x : List UInt8), k.er.get x = (k.get x).map ATr.er
  | .nil, _ => rfl
  | .cons s t k, x => by
    simp only [AKs.er, PKs.get, AKs.get]
    split
    · rfl
    · exact er_get k x
theorem er_len : ∀ k : AKs, k.er.len = k.kids.length
  | .nil => rfl
  | .cons s t k => by simp [AKs.er, PKs.len, AKs.kids, er_len k]
theorem er_set : ∀ (k : AKs) (x : List UInt8) (u : ATr), (k.set x u).er = k.er.set x u.er
  | .nil, _, _ => rfl
  | .cons s t k, x, u => by
    simp only [AKs.set, AKs.er, PKs.set]
    split
    · rfl
    · simp only [AKs.er, er_set k x u]
theorem er_ins : ∀ (k : AKs) (x : List UInt8) (u : ATr), (k.ins x u).er = k.er.ins x u.er
  | .nil, _, _ => rfl
  | .cons s t k, x, u => by
    simp only [AKs.ins, AKs.er, PKs.ins]
    split
    · rfl
    · simp only [AKs.er, er_ins k x u]
theorem er_del : ∀ (k : AKs) (x : List UInt8), (k.del x).er = k.er.del x
  | .nil, _ => rfl
  | .cons s t k, x => by
    simp only [AKs.del, AKs.er, PKs.del]
    split
    · exact er_del k x
    · simp only [AKs.er, er_del k x]
theorem er_rc (t : ATr) : t.er.rc = t.rc := by cases t; rfl
theorem er_ks (t : ATr) : t.er.ks = t.ks.er := by cases t; rfl
theorem er_putAt {t u : ATr} {s : List UInt8} {x : ATr} (h : t.ks.get s = some u) : (t.putAt [s] x).er = .node t.rc (t.ks.er.set s x.er) := by
  obtain ⟨a, m, va, vb, r, ks⟩ := t
  have h' : ks.get s = some u := h
  simp only [ATr.putAt, h', ATr.er, er_set]
  rfl
theorem set_ins : ∀ (k : PKs) (s : List UInt8) (x y : PTr), k.get s = none → (k.ins s x).set s y = k.ins s y
  | .nil, s, x, y, _ => by simp [PKs.ins, PKs.set]
  | .cons s' t k, s, x, y, h => by
    simp only [PKs.get] at h
    split at h
    · cases h
    · rename_i hne
      simp only [PKs.ins]
      split
      · simp [PKs.set]
      · simp only [PKs.set, if_neg hne]
        rw [set_ins k s x y h]

/-- 'put', of a tree. -/
def PTr.put (p : PTr) (s : List UInt8) (kind mode : Int) (L : List UInt8) : Int × PTr :=
  match p.ks.get s with
  | some u => if u.rc.kind = kind then (0, .node p.rc (p.ks.set s (.node { u.rc with mode := mode, bytes := L, fresh := u.rc.fresh || !decide (u.rc.bytes = L) } u.ks))) else (42, p)
  | none => if p.ks.len = 16 then (43, p) else (0, .node { p.rc with fresh := true } (p.ks.ins s (.node ⟨kind, mode, L, 0, [], 0, !decide ([] = L)⟩ .nil)))
end Go.Proofs.YtiedoocgbajjjaaGreatDoor

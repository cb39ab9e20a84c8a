/-
  Layer 4: 'put', walked.
  Conditions: those of the theorem.
  Layer 4: an edit within a directory, and at the root.
  Conditions: those of each theorem.
  Layer 4: Path, with what a slice of its names wants.
  Conditions: those that each theorem states.
-/
import Derived.Test.YtiedoocgbajjjaaGreatDoorFPut
import Derived.Test.YtiedoocgbajjjaaGreatDoorLPath
namespace Go.Proofs.YtiedoocgbajjjaaGreatDoor
open Go.RowKit Go.Maps
set_option maxRecDepth 100000

/-- Bytes that came in, in memory older than the tree's. -/
structure ArgU (base : Nat) (w : World) (ao : Option Addr) (len cap : Nat) (B : List UInt8) : Prop where
  b : ArgB w ao len cap B
  old : 0 < len → ∀ b o, ao = some ⟨b, o, none⟩ → b < base
theorem ArgU.kept {base : Nat} {w w' : World} {ao : Option Addr} {len cap : Nat} {B : List UInt8} {ex : List Nat} (h : ArgU base w ao len cap B) (hk : Kept ex w w') (hx : ∀ q ∈ ex, base ≤ q) : ArgU base w' ao len cap B := by
  refine ⟨⟨h.b.hlen, h.b.hle, h.b.hcap, h.b.cap63, h.b.hnil, ?_⟩, h.old⟩
  rcases h.b.at' with h0 | ⟨b, o, e, hb, hr⟩
  · exact .inl h0
  by_cases h0 : len = 0
  · exact .inl h0
  · have := h.old (by omega) b o e
    exact .inr ⟨b, o, e, Nat.lt_of_lt_of_le hb hk.size, hk.range hb (fun hm => by have := hx b hm; omega) hr⟩
theorem Turned.base {base : Nat} {w w' : World} {p p' : ATr} (h : MTr base w p) (_ : Turned base w w' p p') : ∀ q ∈ p.foot, base ≤ q := fun q hq => (foot_mem h.ok h.own q hq).1

/-- What put leaves. -/
def PutOut (base : Nat) (p : ATr) (s : List UInt8) (kind mode : Int) (L : List UInt8) (w : World) (e : Ending) (w' : World) : Prop :=
  ∃ (c : Int) (p' : ATr), e = .returned (.int .i64 c) ∧ Turned base w w' p p' ∧ (c, p'.er) = p.er.put s kind mode L

theorem fin_same {base : Nat} {p u : ATr} {s : List UInt8} {kind mode : Int} {L : List UInt8} {w w' : World} (hg : p.ks.get s = some u) (hk : u.rc.kind = kind) (hL : u.rc.bytes = L) (T : Turned base w w' p (p.putAt [s] (u.modeT mode))) : PutOut base p s kind mode L w (.returned (.int .i64 0)) w' := by
  refine ⟨0, _, rfl, T, ?_⟩
  unfold PTr.put
  rw [er_ks, er_get, hg, er_putAt hg, er_rc p]
  obtain ⟨a, m, va, vb, r, ks⟩ := u
  have hk' : r.kind = kind := hk
  have hL' : r.bytes = L := hL
  simp [ATr.er, PTr.rc, PTr.ks, hk', hL', ATr.modeT]
theorem fin_new {base : Nat} {p u : ATr} {s : List UInt8} {kind mode : Int} {L : List UInt8} {va' : Value} {w w' : World} (hg : p.ks.get s = some u) (hk : u.rc.kind = kind) (hL : u.rc.bytes ≠ L) (T : Turned base w w' p (p.putAt [s] ((u.modeT mode).bytesT va' L))) : PutOut base p s kind mode L w (.returned (.int .i64 0)) w' := by
  refine ⟨0, _, rfl, T, ?_⟩
  unfold PTr.put
  rw [er_ks, er_get, hg, er_putAt hg, er_rc p]
  obtain ⟨a, m, va, vb, r, ks⟩ := u
  have hk' : r.kind = kind := hk
  have hL' : r.bytes ≠ L := hL
  simp [ATr.er, PTr.rc, PTr.ks, hk', hL', ATr.modeT, ATr.bytesT]

set_option maxRecDepth 100000 in
set_option maxHeartbeats 4000000 in
theorem nput_old (base : Nat) (p u : ATr) (s : List UInt8) (kind mode : Int) (ao : Option Addr) (len cap : Nat) (L : List UInt8) (w : World) (h : MTr base w p) (hk : p.rc.kind = 2) (hs : s.length ≤ 28) (hg : p.ks.get s = some u) (hA : ArgU base w ao len cap L) (hl : len ≤ 2432) :
    Calls Tryz.prog 98 #[.pointer (some ⟨p.addr, 0, none⟩), .string (strL s), .int .i64 kind, .int .i64 mode, .slice ao len cap] w (PutOut base p s kind mode L w) := by
  obtain ⟨m, va, vb, hrow, hd, _⟩ := h.ok.row
  obtain ⟨b, rfl, hm⟩ := hd hk
  have c3 : w.cell? ⟨p.addr, 3, none⟩ = some (.map (some b)) := cell_of_row _ _ 3 _ _ _ hrow
  have hlook := hm.look s (by omega)
  rw [AKs.kget, hg, Option.map_some, Option.map_some] at hlook
  have hu := h.sub hg
  obtain ⟨m', va', vb', hrow', _, _, hby, _⟩ := hu.ok.row
  have d0 : w.cell? ⟨u.addr, 0, none⟩ = some (.int .i64 u.rc.kind) := cell_of_row _ _ 0 _ _ _ hrow'
  have d1 : w.cell? ⟨u.addr, 1, none⟩ = some (.int .i64 u.rc.mode) := cell_of_row _ _ 1 _ _ _ hrow'
  have f1 : w.frozen? ⟨u.addr, 1, none⟩ = false := frozen_of_row _ _ 1 _ _ hrow'
  have HM := Lib.hid (And.intro h (And.intro hu hg))
  have HA := Lib.hid hA
  by_cases hkk : u.rc.kind = kind
  · have hkb : (u.rc.kind != kind) = false := by simpa using hkk
    have HKK := Lib.hid hkk
    have HT1 := Lib.hid (Turned.mode hu mode)
    have hrow1 := heap_setCell_same w u.addr 1 _ _ (.int .i64 mode) hrow'
    obtain ⟨w1, hw1⟩ : ∃ w1, w.setCell ⟨u.addr, 1, none⟩ (.int .i64 mode) = w1 := ⟨_, rfl⟩
    rw [hw1] at HT1 hrow1
    have d2 : w1.cell? ⟨u.addr, 2, none⟩ = some va' := cell_of_row _ _ 2 _ _ _ hrow1
    have hnb : ∀ q ∈ [u.addr], NoBytes w q := fun q hq => (foot_mem hu.ok hu.own q (by simp at hq; rw [hq]; obtain ⟨a, m, va, vb, r, ks⟩ := u; simp [ATr.foot, ATr.addr])).2.2
    have hks1 : Kept [u.addr] w w1 := by rw [← hw1]; exact Kept.setCell _ _ _ _ (by simp)
    have HBY := Lib.hid (hby.keptN hks1 hnb)
    have HROW := Lib.hid hrow1
    have hlu : L.length ≤ 2432 := by rw [hA.b.hlen]; exact hl
    have HA1 : Hid (ConvIs w1 (.slice ao len cap) L ∧ ArgB w1 ao len cap L) := by
      have := hA.kept HT1.out.kept (fun q hq => (foot_mem hu.ok hu.own q hq).1)
      exact ⟨this.b.conv, this.b⟩
    clear hm hd hrow hrow' hby hu h hg hA hnb hks1 hkk hrow1
    go_enter Tryz.func98, Tryz.ntmps98
    go_wp2_with fail
    refine (bytesEqual_any _ _ u.rc.bytes L w1 HBY.out.1.conv HA1.out.1).mono ?_
    by_cases hLe : u.rc.bytes = L
    · rw [decide_eq_true hLe]
      rintro e w2 ⟨rfl, rfl⟩
      have HF := Lib.hid (fin_same (kind := kind) HM.out.2.2 HKK.out hLe (Turned.one HM.out.1 HM.out.2.2 HT1.out))
      clear hLe
      go_wp2_with fail
      go_ret
      exact HF.out
    · rw [decide_eq_false hLe]
      rintro e w2 ⟨rfl, rfl⟩
      go_wp2_with fail
      refine (slCloneB_any ao len cap L w1 HA1.out.2 (by omega)).mono ?_
      rintro e w3 ⟨v3, rfl, H3⟩
      have hrow3 := H3.out.1.heap (by simp) HROW.out
      have d2 : w3.cell? ⟨u.addr, 2, none⟩ = some va' := cell_of_row _ _ 2 _ _ _ hrow3
      have f2 : w3.frozen? ⟨u.addr, 2, none⟩ = false := frozen_of_row _ _ 2 _ _ hrow3
      have T3 := HT1.out.trans (Turned.still HT1.out.m H3.out.1)
      have hby3 := BytesIs.own H3.out.2
      have T4 := T3.trans (Turned.bytes T3.m hlu hby3)
      obtain ⟨ao3, cp3, hv3⟩ : ∃ ao3 cp3, v3 = .slice ao3 len cp3 := by
        rcases H3.out.2.2 with ⟨e, e2⟩ | ⟨g, cap', cur, e, _⟩
        · exact ⟨none, 0, by rw [e, e2]⟩
        · exact ⟨_, _, e⟩
      subst hv3
      have had : (u.modeT mode).addr = u.addr := by cases u; rfl
      rw [had] at T4
      have hrow4 := heap_setCell_same w3 u.addr 2 _ _ (.slice ao3 len cp3) hrow3
      have d7 : (w3.setCell ⟨u.addr, 2, none⟩ (.slice ao3 len cp3)).cell? ⟨u.addr, 7, none⟩ = some (.bool u.rc.fresh) := cell_of_row _ _ 7 _ _ _ hrow4
      have f7 : (w3.setCell ⟨u.addr, 2, none⟩ (.slice ao3 len cp3)).frozen? ⟨u.addr, 7, none⟩ = false := frozen_of_row _ _ 7 _ _ hrow4
      have HF := Lib.hid (fin_new (kind := kind) HM.out.2.2 HKK.out hLe (Turned.one HM.out.1 HM.out.2.2 T4))
      clear T3 T4 hby3 hrow3 hrow4 H3 hLe had
      go_wp2_with fail
      go_ret
      exact HF.out
  · have hkb : (u.rc.kind != kind) = true := by simpa using hkk
    have HF : Hid (PutOut base p s kind mode L w (.returned (.int .i64 42)) w) := by
      refine ⟨42, p, rfl, Turned.still h (Kept.refl _ _), ?_⟩
      unfold PTr.put
      rw [er_ks, er_get, hg]
      have : ¬ u.er.rc.kind = kind := by rw [er_rc]; exact hkk
      simp [this]
    clear hm hd hrow hrow' hby hu h hg hA hkk
    go_enter Tryz.func98, Tryz.ntmps98
    go_wp2_with fail
    go_ret
    exact HF.out

theorem put_some {p u : PTr} {s : List UInt8} {kind mode : Int} {L : List UInt8} (h : p.ks.get s = some u) (hk : u.rc.kind = kind) :
    p.put s kind mode L = (0, .node p.rc (p.ks.set s (.node { u.rc with mode := mode, bytes := L, fresh := u.rc.fresh || !decide (u.rc.bytes = L) } u.ks))) := by
  unfold PTr.put
  rw [h]
  simp only [hk, if_true]
theorem put_none {p : PTr} {s : List UInt8} {kind mode : Int} {L : List UInt8} (h : p.ks.get s = none) (h16 : p.ks.len ≠ 16) :
    p.put s kind mode L = (0, .node { p.rc with fresh := true } (p.ks.ins s (.node ⟨kind, mode, L, 0, [], 0, !decide ([] = L)⟩ .nil))) := by
  unfold PTr.put
  rw [h]
  simp only [if_neg h16]
theorem newT_er (kind mode : Int) (g : Nat) : (newT kind mode g).er = .node ⟨kind, mode, [], 0, [], 0, false⟩ .nil := rfl
theorem newT_rc (kind mode : Int) (g : Nat) : (newT kind mode g).rc = ⟨kind, mode, [], 0, [], 0, false⟩ := rfl
theorem PutOut.after {base : Nat} {p p1 : ATr} {s : List UInt8} {kind mode : Int} {L : List UInt8} {w w1 : World} {g : Nat} (hg : p.ks.get s = none) (h16 : p.ks.kids.length ≠ 16) (T : Turned base w w1 p p1) (he : p1.er = .node { p.rc with fresh := true } (p.ks.er.ins s (newT kind mode g).er)) (hg1 : p1.ks.get s = some (newT kind mode g))
    {e : Ending} {w' : World} (h : PutOut base p1 s kind mode L w1 e w') : PutOut base p s kind mode L w e w' := by
  obtain ⟨c, p', rfl, T', heq⟩ := h
  refine ⟨c, p', rfl, T.trans T', heq.trans ?_⟩
  have hgn : p.ks.er.get s = none := by rw [er_get, hg]; rfl
  rw [put_some (kind := kind) (u := (newT kind mode g).er) (by rw [er_ks, er_get, hg1]; rfl) rfl, put_none (by rw [er_ks]; exact hgn) (by rw [er_ks, er_len]; exact h16), he, er_rc p, er_ks p]
  show ((0 : Int), PTr.node _ ((p.ks.er.ins s _).set s _)) = _
  rw [set_ins _ _ _ _ hgn, newT_er]
  simp [PTr.rc, PTr.ks]

set_option maxRecDepth 100000 in
set_option maxHeartbeats 4000000 in
theorem nput_full (base : Nat) (p : ATr) (s : List UInt8) (kind mode : Int) (ao : Option Addr) (len cap : Nat) (L : List UInt8) (w : World) (h : MTr base w p) (hk : p.rc.kind = 2) (hs : s.length ≤ 28) (hg : p.ks.get s = none) (h16 : p.ks.kids.length = 16) :
    Calls Tryz.prog 98 #[.pointer (some ⟨p.addr, 0, none⟩), .string (strL s), .int .i64 kind, .int .i64 mode, .slice ao len cap] w (PutOut base p s kind mode L w) := by
  obtain ⟨m, va, vb, hrow, hd, _⟩ := h.ok.row
  obtain ⟨b, rfl, hm⟩ := hd hk
  have c3 : w.cell? ⟨p.addr, 3, none⟩ = some (.map (some b)) := cell_of_row _ _ 3 _ _ _ hrow
  have hlook := hm.look s (by omega)
  have hlen := hm.len 3
  rw [AKs.kget, hg, Option.map_none, Option.map_none] at hlook
  rw [h16] at hlen
  have HF : Hid (PutOut base p s kind mode L w (.returned (.int .i64 43)) w) := by
    refine ⟨43, p, rfl, Turned.still h (Kept.refl _ _), ?_⟩
    unfold PTr.put
    rw [er_ks, er_get, hg, er_len, h16]
    simp
  clear hm hd hrow h hg
  go_enter Tryz.func98, Tryz.ntmps98
  go_wp2_with fail
  go_ret
  exact HF.out

set_option maxRecDepth 100000 in
set_option maxHeartbeats 4000000 in
theorem nput_new (base : Nat) (p : ATr) (s : List UInt8) (kind mode : Int) (ao : Option Addr) (len cap : Nat) (L : List UInt8) (w : World) (h : MTr base w p) (hk : p.rc.kind = 2) (hs : s.length ≤ 28) (hg : p.ks.get s = none) (h16 : p.ks.kids.length < 16) (hA : ArgU base w ao len cap L) (hl : len ≤ 2432) (hbase : base ≤ w.heap.size) :
    Calls Tryz.prog 98 #[.pointer (some ⟨p.addr, 0, none⟩), .string (strL s), .int .i64 kind, .int .i64 mode, .slice ao len cap] w (PutOut base p s kind mode L w) := by
  obtain ⟨a, b, va, vb, r, ks, rfl, hk2⟩ := h.map hk
  have hm := h.ok.2.2.2.1.2
  have hrow := h.ok.1
  have c3 : w.cell? ⟨a, 3, none⟩ = some (.map (some b)) := cell_of_row _ _ 3 _ _ _ hrow
  have hlook := hm.look s (by omega)
  have hlen := hm.len 3
  have hg' : ks.get s = none := hg
  rw [AKs.kget, hg', Option.map_none, Option.map_none] at hlook
  obtain ⟨nk, hnk⟩ : ∃ nk : Nat, ks.kids.length = nk := ⟨_, rfl⟩
  have hnk16 : ((nk : Int) == 16) = false := by
    have : nk < 16 := by rw [← hnk]; exact h16
    simp
    omega
  rw [hnk] at hlen
  have HNK : Hid (nk < 16) := by show _ < _; rw [← hnk]; exact h16
  have HM := Lib.hid h
  have HMP := Lib.hid (And.intro hm (And.intro hrow hnk))
  have HA := Lib.hid hA
  have HGG := Lib.hid hg'
  show Calls Tryz.prog 98 #[.pointer (some ⟨a, 0, none⟩), .string (strL s), .int .i64 kind, .int .i64 mode, .slice ao len cap] w (PutOut base (.node a (some b) va vb r ks) s kind mode L w)
  have hlu : L.length ≤ 2432 := by rw [hA.b.hlen]; exact hl
  clear hm hrow h hg hg' hA hnk h16
  go_enter Tryz.func98, Tryz.ntmps98
  go_wp2_with fail
  refine (newNode_any kind mode w).mono ?_
  rintro e w1 ⟨rfl, H1⟩
  clear c3 hlook hlen
  obtain ⟨u, hu⟩ : ∃ u, newT kind mode w.heap.size = u := ⟨_, rfl⟩
  have huk : u.ks = .nil := by rw [← hu]; rfl
  have hua : u.addr = w.heap.size := by rw [← hu]; rfl
  have hurc : u.rc = ⟨kind, mode, [], 0, [], 0, false⟩ := by rw [← hu]; rfl
  rw [hu] at H1
  have hrow1 := H1.out.1.heap (by simp) HMP.out.2.1
  have c3 : w1.cell? ⟨a, 3, none⟩ = some (.map (some b)) := cell_of_row _ _ 3 _ _ _ hrow1
  obtain ⟨w2, hup, hm2, hk2'⟩ := (HMP.out.1.kept H1.out.1 (by simp)).upd (by have := HMP.out.2.2; have := HNK.out; omega) s (by omega) w.heap.size
  have hab : a ≠ b := fun e => by
    have := HM.out.nodup
    rw [e] at this
    simp [ATr.foot] at this
  have hrow2 := hk2'.heap (b := a) (by simp [hab]) hrow1
  have f7 : w2.frozen? ⟨a, 7, none⟩ = false := frozen_of_row _ _ 7 _ _ hrow2
  have c7 : w2.cell? ⟨a, 7, none⟩ = some (.bool r.fresh) := cell_of_row _ _ 7 _ _ _ hrow2
  have T3 := Turned.add HM.out hk2 hs HGG.out H1.out.1 H1.out.2 huk (by rw [hua]; exact hm2) hk2' hbase
  obtain ⟨w3, hw3⟩ : ∃ w3, w2.setCell ⟨a, 7, none⟩ (.bool true) = w3 := ⟨_, rfl⟩
  rw [hw3] at T3
  have hgu : (ATr.node a (some b) va vb { r with fresh := true } (ks.ins s u)).ks.get s = some u := AKs.get_ins HGG.out
  have HM3 := Lib.hid (And.intro T3.m (And.intro (T3.m.sub hgu) hgu))
  have HG : Hid ((ATr.node a (some b) va vb r ks).ks.get s = none ∧ (ATr.node a (some b) va vb r ks).ks.kids.length ≠ 16 ∧ Turned base w w3 (.node a (some b) va vb r ks) (.node a (some b) va vb { r with fresh := true } (ks.ins s u)) ∧ (ATr.node a (some b) va vb { r with fresh := true } (ks.ins s u)).er = .node { (ATr.node a (some b) va vb r ks).rc with fresh := true } ((ATr.node a (some b) va vb r ks).ks.er.ins s (newT kind mode w.heap.size).er) ∧ (ATr.node a (some b) va vb { r with fresh := true } (ks.ins s u)).ks.get s = some (newT kind mode w.heap.size)) := by
    refine ⟨HGG.out, ?_, T3, ?_, ?_⟩
    · show ks.kids.length ≠ 16
      rw [HMP.out.2.2]
      have := HNK.out
      omega
    · rw [hu]
      simp only [ATr.er, er_ins]
      rfl
    · rw [hu]; exact hgu
  obtain ⟨m', va', vb', hrow', _, _, hby, _⟩ := HM3.out.2.1.ok.row
  rw [hua] at hrow'
  have d0 : w3.cell? ⟨w.heap.size, 0, none⟩ = some (.int .i64 kind) := by have := cell_of_row _ _ 0 _ _ _ hrow'; rw [this, hurc]; rfl
  have d1 : w3.cell? ⟨w.heap.size, 1, none⟩ = some (.int .i64 mode) := by have := cell_of_row _ _ 1 _ _ _ hrow'; rw [this, hurc]; rfl
  have f1 : w3.frozen? ⟨w.heap.size, 1, none⟩ = false := frozen_of_row _ _ 1 _ _ hrow'
  have HT1 := Lib.hid (Turned.mode HM3.out.2.1 mode)
  rw [hua] at HT1
  have hrow4 := heap_setCell_same w3 w.heap.size 1 _ _ (.int .i64 mode) hrow'
  obtain ⟨w5, hw5⟩ : ∃ w5, w3.setCell ⟨w.heap.size, 1, none⟩ (.int .i64 mode) = w5 := ⟨_, rfl⟩
  rw [hw5] at HT1 hrow4
  have d2 : w5.cell? ⟨w.heap.size, 2, none⟩ = some va' := cell_of_row _ _ 2 _ _ _ hrow4
  have hks5 : Kept [w.heap.size] w3 w5 := by rw [← hw5]; exact Kept.setCell _ _ _ _ (by simp)
  have hnb : ∀ q ∈ [w.heap.size], NoBytes w3 q := fun q hq cs fr hh => by
    have : q = w.heap.size := by simpa using hq
    subst this
    rw [hrow'] at hh
    simp at hh
  have HBY := Lib.hid (hby.keptN hks5 hnb)
  have HA1 : Hid (ConvIs w5 (.slice ao len cap) L ∧ ArgB w5 ao len cap L) := by
    have h1 := HA.out.kept T3.kept (fun q hq => (foot_mem HM.out.ok HM.out.own q hq).1)
    have h2 := h1.kept hks5 (fun q hq => by simp at hq; omega)
    exact ⟨h2.b.conv, h2.b⟩
  have HROW := Lib.hid hrow4
  have HURC := Lib.hid hurc
  have HUA := Lib.hid hua
  clear H1 HMP HM HA HGG hrow1 hrow2 hm2 hk2' hrow' hrow4 hby hks5 hnb hgu T3 hab huk hua hurc hu
  go_wp2_with fail
  clear hup f7 c7 d0 d1 d2 f1 c3
  refine (bytesEqual_any _ _ u.rc.bytes L w5 HBY.out.1.conv HA1.out.1).mono ?_
  by_cases hLe : u.rc.bytes = L
  · rw [decide_eq_true hLe]
    rintro e w7 ⟨rfl, rfl⟩
    have HF := Lib.hid (fin_same (kind := kind) HM3.out.2.2 (by rw [HURC.out]) hLe (Turned.one HM3.out.1 HM3.out.2.2 HT1.out))
    clear hLe
    go_wp2_with fail
    go_ret
    exact PutOut.after HG.out.1 HG.out.2.1 HG.out.2.2.1 HG.out.2.2.2.1 HG.out.2.2.2.2 HF.out
  · rw [decide_eq_false hLe]
    rintro e w7 ⟨rfl, rfl⟩
    go_wp2_with fail
    refine (slCloneB_any ao len cap L w5 HA1.out.2 (by omega)).mono ?_
    rintro e w6 ⟨v3, rfl, H3⟩
    have hrow3 := H3.out.1.heap (by simp) HROW.out
    have d2 : w6.cell? ⟨w.heap.size, 2, none⟩ = some va' := cell_of_row _ _ 2 _ _ _ hrow3
    have f2 : w6.frozen? ⟨w.heap.size, 2, none⟩ = false := frozen_of_row _ _ 2 _ _ hrow3
    have T6 := HT1.out.trans (Turned.still HT1.out.m H3.out.1)
    have hby3 := BytesIs.own H3.out.2
    have T4 := T6.trans (Turned.bytes T6.m hlu hby3)
    obtain ⟨ao3, cp3, hv3⟩ : ∃ ao3 cp3, v3 = .slice ao3 len cp3 := by
      rcases H3.out.2.2 with ⟨e, e2⟩ | ⟨g, cap', cur, e, _⟩
      · exact ⟨none, 0, by rw [e, e2]⟩
      · exact ⟨_, _, e⟩
    subst hv3
    have had : (u.modeT mode).addr = w.heap.size := by rw [← HUA.out]; cases u; rfl
    rw [had] at T4
    have hrow7 := heap_setCell_same w6 w.heap.size 2 _ _ (.slice ao3 len cp3) hrow3
    have d7 : (w6.setCell ⟨w.heap.size, 2, none⟩ (.slice ao3 len cp3)).cell? ⟨w.heap.size, 7, none⟩ = some (.bool u.rc.fresh) := cell_of_row _ _ 7 _ _ _ hrow7
    have f7 : (w6.setCell ⟨w.heap.size, 2, none⟩ (.slice ao3 len cp3)).frozen? ⟨w.heap.size, 7, none⟩ = false := frozen_of_row _ _ 7 _ _ hrow7
    have HF := Lib.hid (fin_new (kind := kind) HM3.out.2.2 (by rw [HURC.out]) hLe (Turned.one HM3.out.1 HM3.out.2.2 T4))
    clear T6 T4 hby3 hrow3 hrow7 H3 hLe had
    go_wp2_with fail
    go_ret
    exact PutOut.after HG.out.1 HG.out.2.1 HG.out.2.2.1 HG.out.2.2.2.1 HG.out.2.2.2.2 HF.out

theorem nput_any (base : Nat) (p : ATr) (s : List UInt8) (kind mode : Int) (ao : Option Addr) (len cap : Nat) (L : List UInt8) (w : World) (h : MTr base w p) (hk : p.rc.kind = 2) (hs : s.length ≤ 28) (h16 : p.ks.kids.length ≤ 16) (hA : ArgU base w ao len cap L) (hl : len ≤ 2432) (hbase : base ≤ w.heap.size) :
    Calls Tryz.prog 98 #[.pointer (some ⟨p.addr, 0, none⟩), .string (strL s), .int .i64 kind, .int .i64 mode, .slice ao len cap] w (PutOut base p s kind mode L w) := by
  cases hg : p.ks.get s with
  | some u => exact nput_old base p u s kind mode ao len cap L w h hk hs hg hA hl
  | none =>
    by_cases h' : p.ks.kids.length = 16
    · exact nput_full base p s kind mode ao len cap L w h hk hs hg h'
    · exact nput_new base p s kind mode ao len cap L w h hk hs hg (by omega) hA hl hbase
end Go.Proofs.YtiedoocgbajjjaaGreatDoor

namespace Go.Proofs.YtiedoocgbajjjaaGreatDoor
open Go.RowKit Go.Maps
set_option maxRecDepth 100000

def PTr.setM (p : PTr) (s : List UInt8) (mode : Int) : Int × PTr :=
  match p.ks.get s with
  | some u => if u.rc.kind = 3 then (0, p) else (0, .node p.rc (p.ks.set s (.node { u.rc with mode := mode } u.ks)))
  | none => (41, p)
def PTr.dropP (p : PTr) (s : List UInt8) : Int × PTr :=
  match p.ks.get s with
  | some _ => (0, .node { p.rc with fresh := true } (p.ks.del s))
  | none => (41, p)
def PTr.editE (p : PTr) (s : List UInt8) (kind mode : Int) (L : List UInt8) : Int × PTr :=
  if kind = 1 then p.put s 1 mode L else if kind = 2 then p.put s 2 mode [] else if kind = 3 then (if 120 < L.length then (5, p) else p.put s 3 0 L) else if kind = 4 then p.setM s mode else p.dropP s
def PTr.editR (p : PTr) (kind mode : Int) : Int × PTr :=
  if kind = 1 ∨ kind = 3 then (42, p) else if kind = 5 then (40, p) else (0, .node { p.rc with mode := mode } p.ks)
/-- What a change of a subtree comes to. -/
def EdOut (base : Nat) (p : ATr) (r : Int × PTr) (w : World) (e : Ending) (w' : World) : Prop :=
  ∃ (c : Int) (p' : ATr), e = .returned (.int .i64 c) ∧ Turned base w w' p p' ∧ (c, p'.er) = r
theorem EdOut.pre {base : Nat} {p : ATr} {r : Int × PTr} {w w1 : World} (h : MTr base w p) (hk : Kept [] w w1) {e : Ending} {w' : World} (H : EdOut base p r w1 e w') : EdOut base p r w e w' := by
  obtain ⟨c, p', he, T, heq⟩ := H
  exact ⟨c, p', he, (Turned.still h hk).trans T, heq⟩
theorem nsetMode_ed (base : Nat) (p : ATr) (s : List UInt8) (x : Int) (w : World) (h : MTr base w p) (hk : p.rc.kind = 2) (hs : s.length ≤ 28) :
    Calls Tryz.prog 99 #[.pointer (some ⟨p.addr, 0, none⟩), .string (strL s), .int .i64 x] w (EdOut base p (p.er.setM s x) w) := by
  refine (nsetMode_any base p s x w h hk hs).mono ?_
  rintro e w' (⟨hg, rfl, rfl⟩ | ⟨u, hg, rfl, ⟨h3, rfl⟩ | ⟨h3, T⟩⟩)
  · refine ⟨41, p, rfl, Turned.still h (Kept.refl _ _), ?_⟩
    unfold PTr.setM
    rw [er_ks, er_get, hg]
    rfl
  · refine ⟨0, p, rfl, Turned.still h (Kept.refl _ _), ?_⟩
    unfold PTr.setM
    rw [er_ks, er_get, hg]
    have : u.er.rc.kind = 3 := by rw [er_rc]; exact h3
    simp [this]
  · refine ⟨0, _, rfl, T, ?_⟩
    unfold PTr.setM
    rw [er_ks, er_get, hg, er_putAt hg, er_rc p]
    have : ¬ u.er.rc.kind = 3 := by rw [er_rc]; exact h3
    simp only [Option.map_some, if_neg this]
    obtain ⟨a, m, va, vb, r, ks⟩ := u
    rfl
theorem ndrop_ed (base : Nat) (p : ATr) (s : List UInt8) (w : World) (h : MTr base w p) (hk : p.rc.kind = 2) (hs : s.length ≤ 28) :
    Calls Tryz.prog 100 #[.pointer (some ⟨p.addr, 0, none⟩), .string (strL s)] w (EdOut base p (p.er.dropP s) w) := by
  refine (ndrop_any base p s w h hk hs).mono ?_
  rintro e w' (⟨hg, rfl, rfl⟩ | ⟨u, hg, rfl, T⟩)
  · refine ⟨41, p, rfl, Turned.still h (Kept.refl _ _), ?_⟩
    unfold PTr.dropP
    rw [er_ks, er_get, hg]
    rfl
  · refine ⟨0, _, rfl, T, ?_⟩
    unfold PTr.dropP
    rw [er_ks, er_get, hg, er_rc p]
    obtain ⟨a, m, va, vb, r, ks⟩ := p
    simp only [Option.map_some, ATr.dropT, ATr.er, er_del]
    rfl

def editV (kind : Int) (path : List UInt8) (mode : Int) (ao : Option Addr) (len cap : Nat) : Value := .agg #[.int .i64 kind, .string (strL path), .int .i64 mode, .slice ao len cap]
theorem argU_nil (base : Nat) (w : World) : ArgU base w none 0 0 [] := ⟨⟨rfl, by omega, by omega, by omega, fun _ => rfl, .inl rfl⟩, fun h _ _ _ => absurd h (by omega)⟩

set_option maxRecDepth 100000 in
set_option maxHeartbeats 4000000 in
theorem neditEntry_any (base : Nat) (p : ATr) (s : List UInt8) (kind mode : Int) (path : List UInt8) (ao : Option Addr) (len cap : Nat) (L : List UInt8) (w : World) (h : MTr base w p) (hk : p.rc.kind = 2) (hs : s.length ≤ 28) (h16 : p.ks.kids.length ≤ 16) (hA : ArgU base w ao len cap L) (hl : kind = 1 ∨ kind = 3 → len ≤ 2432) (hbase : base ≤ w.heap.size) :
    Calls Tryz.prog 78 #[.pointer (some ⟨p.addr, 0, none⟩), .string (strL s), editV kind path mode ao len cap] w (EdOut base p (p.er.editE s kind mode L) w) := by
  unfold editV
  obtain ⟨w1, hw1⟩ : ∃ w1, w.alloc (.cells #[.int .i64 kind, .string (strL path), .int .i64 mode, .slice ao len cap] 35) = w1 := ⟨_, rfl⟩
  have hk1 : Kept [] w w1 := by rw [← hw1]; exact Kept.alloc _ _ _
  have hx : w1.heap[w.heap.size]? = some (.cells #[.int .i64 kind, .string (strL path), .int .i64 mode, .slice ao len cap] 35) := by rw [← hw1]; exact heap_alloc_last _ _
  have c0 : w1.cell? ⟨w.heap.size, 0, none⟩ = some (.int .i64 kind) := cell_of_row _ _ 0 _ _ _ hx
  have c2 : w1.cell? ⟨w.heap.size, 2, none⟩ = some (.int .i64 mode) := cell_of_row _ _ 2 _ _ _ hx
  have c3 : w1.cell? ⟨w.heap.size, 3, none⟩ = some (.slice ao len cap) := cell_of_row _ _ 3 _ _ _ hx
  have T1 := Turned.still h hk1
  have HPRE : Hid (∀ r e w', EdOut base p r w1 e w' → EdOut base p r w e w') := fun r e w' => EdOut.pre h hk1
  have HM := Lib.hid T1.m
  have HA := Lib.hid (hA.kept hk1 (by simp))
  have hb1 : base ≤ w1.heap.size := Nat.le_trans hbase hk1.size
  have HLL := Lib.hid hA.b.hlen
  clear T1 h hA hx hk1
  by_cases e1 : kind = 1
  · subst e1
    have HR : Hid (p.er.editE s 1 mode L = p.er.put s 1 mode L) := rfl
    go_enter Tryz.func78, Tryz.ntmps78
    go_wp2_with fail
    refine (nput_any base p s 1 mode ao len cap L w1 HM.out hk hs h16 HA.out (hl (by simp)) hb1).mono ?_
    rintro e w2 ⟨c, p', rfl, T, heq⟩
    have HF : Hid (EdOut base p (p.er.editE s 1 mode L) w (.returned (.int .i64 c)) w2) := HPRE.out _ _ _ ⟨c, p', rfl, T, by rw [HR.out]; exact heq⟩
    clear T heq
    go_wp2_with fail
    go_ret
    exact HF.out
  · have b1 : (kind == 1) = false := by simpa using e1
    by_cases e2 : kind = 2
    · subst e2
      have HR : Hid (p.er.editE s 2 mode L = p.er.put s 2 mode []) := rfl
      go_enter Tryz.func78, Tryz.ntmps78
      go_wp2_with fail
      refine (nput_any base p s 2 mode none 0 0 [] w1 HM.out hk hs h16 (argU_nil _ _) (by omega) hb1).mono ?_
      rintro e w2 ⟨c, p', rfl, T, heq⟩
      have HF : Hid (EdOut base p (p.er.editE s 2 mode L) w (.returned (.int .i64 c)) w2) := HPRE.out _ _ _ ⟨c, p', rfl, T, by rw [HR.out]; exact heq⟩
      clear T heq
      go_wp2_with fail
      go_ret
      exact HF.out
    · have b2 : (kind == 2) = false := by simpa using e2
      by_cases e3 : kind = 3
      · subst e3
        by_cases h120 : 120 < len
        · have h120' : (120 : Int) < (len : Int) := by omega
          have HF : Hid (EdOut base p (p.er.editE s 3 mode L) w (.returned (.int .i64 5)) w1) := by
            refine HPRE.out _ _ _ ⟨5, p, rfl, Turned.still HM.out (Kept.refl _ _), ?_⟩
            show _ = (if 120 < L.length then _ else _)
            rw [if_pos (by rw [HLL.out]; exact h120)]
          go_enter Tryz.func78, Tryz.ntmps78
          go_wp2_with fail
          go_ret
          exact HF.out
        · have h120' : ¬ (120 : Int) < (len : Int) := by omega
          have HR : Hid (p.er.editE s 3 mode L = p.er.put s 3 0 L) := by
            show (if 120 < L.length then _ else _) = _
            rw [if_neg (by rw [HLL.out]; exact h120)]
          go_enter Tryz.func78, Tryz.ntmps78
          go_wp2_with fail
          refine (nput_any base p s 3 0 ao len cap L w1 HM.out hk hs h16 HA.out (hl (by simp)) hb1).mono ?_
          rintro e w2 ⟨c, p', rfl, T, heq⟩
          have HF : Hid (EdOut base p (p.er.editE s 3 mode L) w (.returned (.int .i64 c)) w2) := HPRE.out _ _ _ ⟨c, p', rfl, T, by rw [HR.out]; exact heq⟩
          clear T heq
          go_wp2_with fail
          go_ret
          exact HF.out
      · have b3 : (kind == 3) = false := by simpa using e3
        by_cases e4 : kind = 4
        · subst e4
          have HR : Hid (p.er.editE s 4 mode L = p.er.setM s mode) := rfl
          go_enter Tryz.func78, Tryz.ntmps78
          go_wp2_with fail
          refine (nsetMode_ed base p s mode w1 HM.out hk hs).mono ?_
          rintro e w2 ⟨c, p', rfl, T, heq⟩
          have HF : Hid (EdOut base p (p.er.editE s 4 mode L) w (.returned (.int .i64 c)) w2) := HPRE.out _ _ _ ⟨c, p', rfl, T, by rw [HR.out]; exact heq⟩
          clear T heq
          go_wp2_with fail
          go_ret
          exact HF.out
        · have b4 : (kind == 4) = false := by simpa using e4
          have HR : Hid (p.er.editE s kind mode L = p.er.dropP s) := by
            show _ = _
            unfold PTr.editE
            rw [if_neg e1, if_neg e2, if_neg e3, if_neg e4]
          go_enter Tryz.func78, Tryz.ntmps78
          go_wp2_with fail
          refine (ndrop_ed base p s w1 HM.out hk hs).mono ?_
          rintro e w2 ⟨c, p', rfl, T, heq⟩
          have HF : Hid (EdOut base p (p.er.editE s kind mode L) w (.returned (.int .i64 c)) w2) := HPRE.out _ _ _ ⟨c, p', rfl, T, by rw [HR.out]; exact heq⟩
          clear T heq
          go_wp2_with fail
          go_ret
          exact HF.out
end Go.Proofs.YtiedoocgbajjjaaGreatDoor

namespace Go.Proofs.YtiedoocgbajjjaaGreatDoor
open Go.RowKit Go.Maps
set_option maxRecDepth 100000

def PathOutC (s : List UInt8) (w : World) (e : Ending) (w' : World) : Prop :=
  Kept [] w w' ∧ ((pathO s = none ∧ e = .returned (.tuple #[.slice none 0 0, .int .i64 40])) ∨ ∃ ps ao cap, pathO s = some ps ∧ e = .returned (.tuple #[.slice ao ps.length cap, .int .i64 0]) ∧ (ps.length ≤ cap ∧ cap ≤ 1000) ∧ (ps.length = 0 ∨ ∃ b o, ao = some ⟨b, o, none⟩ ∧ b < w'.heap.size ∧ w'.rangeAt b o (sv ps)))

set_option maxRecDepth 100000 in
set_option maxHeartbeats 4000000 in
theorem path_cap (s : List UInt8) (w : World) (hs : s.length ≤ 9223372036854775807) :
    Calls Tryz.prog 75 #[.string (strL s)] w (PathOutC s w) := by
  have hsz : (strL s).size = s.length := strL_size s
  have HSZ := Lib.hid hsz
  clear hsz
  have htl : (strL s).toList = s := Lib.toList_data _
  by_cases h1 : 120 < s.length
  · have HP := Lib.hid (pathO_no (s := s) (fun e => by rw [e] at h1; simp at h1) (fun h => by omega))
    have h1' : (120 : Int) < ((strL s).size : Int) := by rw [HSZ.out]; omega
    clear htl
    go_enter Tryz.func75, Tryz.ntmps75
    go_wp2_with fail
    go_ret2
    exact ⟨Kept.refl _ _, .inl ⟨HP.out, rfl⟩⟩
  · have h1' : ¬ (120 : Int) < ((strL s).size : Int) := by rw [HSZ.out]; omega
    by_cases h2 : s.head? = some 47
    · have HH := Lib.hid (show decide (s.head? = some 47) = true by rw [decide_eq_true_iff]; exact h2)
      by_cases h3 : s = [47]
      · have e3 : ((strL s).toList == [47]) = true := by rw [htl, h3]; rfl
        have HP := Lib.hid (show pathO s = some [] by unfold pathO; rw [if_pos h3])
        clear htl h3 h2
        go_enter Tryz.func75, Tryz.ntmps75
        go_wp2_with fail
        refine (hasPrefix_stroke s _).mono ?_
        rw [HH.out]
        rintro e w' ⟨rfl, rfl⟩
        go_wp2_with fail
        all_goals
          go_ret2
          exact ⟨Kept.refl _ _, .inr ⟨[], none, 0, HP.out, rfl, by simp, .inl rfl⟩⟩
      · have e3 : ((strL s).toList == [47]) = false := by rw [htl]; simpa using h3
        have htail : s.tail.length ≤ 120 := by rw [List.length_tail]; omega
        obtain ⟨C, hC⟩ : ∃ C, cutL s.tail = C := ⟨_, rfl⟩
        have hsl := extract_tail s
        have H2 := Lib.hid h2
        have H3 := Lib.hid h3
        have HCC := Lib.hid hC
        clear htl h3 h2 hC
        have hn1 : 1 ≤ (strL s).size := by
          rw [HSZ.out]
          cases s with
          | nil => have := H2.out; simp at this
          | cons a b => simp
        have hcl : C.length ≤ 121 := by
          rw [← HCC.out, cutL_count]
          have := Lib.countB_le strokeS (by decide) _ (strL s.tail) (Nat.le_refl _)
          rw [strL_size] at this
          omega
        go_enter Tryz.func75, Tryz.ntmps75
        go_wp2_with fail
        refine (hasPrefix_stroke s _).mono ?_
        rw [HH.out]
        rintro e w' ⟨rfl, rfl⟩
        go_wp2_with fail
        clear hsl
        refine (split_stroke s.tail _ (by omega)).mono ?_
        rw [HCC.out]
        rintro e w1 ⟨rfl, hw1⟩
        have HW : Hid (w1.heap[w.heap.size]? = some (.cells (svA C) 9) ∧ Kept [] w w1) := ⟨by rw [hw1]; exact heap_alloc_last _ _, by rw [hw1]; exact Kept.alloc _ _ _⟩
        clear hw1
        by_cases h8 : C.length ≤ 8
        · go_wp2_with fail
          go_loop [25] (fun i => ∃ k : Nat, k ≤ C.length ∧ i = .int .i64 k ∧ Hid (∀ j (hj : j < C.length), j < k → nameB C[j] = true)) (fun i => C.length - (intOf i).toNat)
          case atStart => exact ⟨0, by omega, rfl, fun j hj h0 => by omega⟩
          case round =>
            obtain ⟨k, hk, rfl, HK⟩ := hrel
            by_cases hlt : k < C.length
            · have c1 : w1.cell? ⟨w.heap.size, k, none⟩ = some (.string (strL C[k])) := by
                rw [cell_of_row _ _ k _ _ _ HW.out.1]
                simp [svA, sv, hlt]
              obtain ⟨x, hx⟩ : ∃ x, C[k] = x := ⟨_, rfl⟩
              rw [hx] at c1
              have HX := Lib.hid hx
              have hxl : (strL x).size ≤ 9223372036854775807 := by
                have hm : x ∈ cutL s.tail := by rw [HCC.out, ← hx]; exact List.getElem_mem hlt
                have := cutL_le s.tail x hm
                rw [strL_size]
                omega
              clear hx
              cases hn : nameB x
              all_goals
                have HN := Lib.hid hn
                clear hn
                go_wp2_with fail
                refine (name_any (strL x) _ hxl).mono ?_
                rw [strL_toList, HN.out]
                rintro e w' ⟨rfl, rfl⟩
                go_wp2_with fail
              · go_ret2
                refine ⟨HW.out.2, .inl ⟨?_, rfl⟩⟩
                refine pathO_no H3.out fun h => ?_
                rw [HCC.out] at h
                rw [not_all_name k hlt (by rw [HX.out]; exact HN.out)] at h
                exact absurd h.2.2.2 (by simp)
              · go_round
                case rel =>
                  refine ⟨k + 1, by omega, by go_num, fun j hj h0 => ?_⟩
                  by_cases e : j = k
                  · subst e; rw [HX.out]; exact HN.out
                  · exact HK.out j hj (by omega)
                case measure => simp [intOf]; omega
            · go_wp2_with fail
              go_ret2
              refine ⟨HW.out.2, .inr ⟨C, _, _, ?_, rfl, by omega, .inr ⟨w.heap.size, 0, rfl, (Array.getElem?_eq_some_iff.1 HW.out.1).1, range_svA HW.out.1⟩⟩⟩
              rw [← HCC.out]
              refine pathO_yes H3.out ⟨by omega, H2.out, by rw [HCC.out]; exact h8, ?_⟩
              rw [HCC.out]
              exact all_name fun i hi => HK.out i hi (by omega)
        · go_wp2_with fail
          go_ret2
          refine ⟨HW.out.2, .inl ⟨pathO_no H3.out fun h => ?_, rfl⟩⟩
          rw [HCC.out] at h
          omega
    · have HH := Lib.hid (show decide (s.head? = some 47) = false by rw [decide_eq_false_iff_not]; exact h2)
      have HP := Lib.hid (pathO_no (s := s) (fun e => h2 (by rw [e]; rfl)) (fun h => h2 h.2.1))
      clear htl h2
      go_enter Tryz.func75, Tryz.ntmps75
      go_wp2_with fail
      refine (hasPrefix_stroke s _).mono ?_
      rw [HH.out]
      rintro e w' ⟨rfl, rfl⟩
      go_wp2_with fail
      go_ret2
      exact ⟨Kept.refl _ _, .inl ⟨HP.out, rfl⟩⟩


theorem path_parts {s : List UInt8} {ps : List (List UInt8)} (h : pathO s = some ps) : ps.length ≤ 8 ∧ ∀ p ∈ ps, nameB p = true := by
  unfold pathO at h
  split at h
  · injection h with h
    subst h
    exact ⟨by simp, fun p hp => by cases hp⟩
  · split at h
    · rename_i h1
      injection h with h
      subst h
      exact ⟨h1.2.2.1, List.all_eq_true.1 h1.2.2.2⟩
    · cases h
end Go.Proofs.YtiedoocgbajjjaaGreatDoor

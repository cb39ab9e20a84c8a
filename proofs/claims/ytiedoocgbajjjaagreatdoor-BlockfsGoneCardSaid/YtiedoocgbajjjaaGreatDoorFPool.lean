/-
  Layer 4: same.
  Conditions: those that each theorem states.
  Layer 4: same, the walk.
  Conditions: those that the theorem states.
  Layer 4: a pool of numbers; take.
  Conditions: those that each theorem states.
-/
import Derived.Test.YtiedoocgbajjjaaGreatDoorFClnW
namespace Go.Proofs.YtiedoocgbajjjaaGreatDoor
open Go.RowKit Go.Maps
set_option maxRecDepth 100000

def NRec.core (r : NRec) : NRec := ⟨r.kind, r.mode, r.bytes, 0, [], 0, false⟩
mutual
/-- A tree, wherever it stands on a disk. -/
def PTr.core : PTr → PTr
  | .node r ks => .node r.core ks.core
def PKs.core : PKs → PKs
  | .nil => .nil
  | .cons s t k => .cons s t.core k.core
end
theorem PKs.core_get : ∀ (k : PKs) (s : List UInt8), k.core.get s = (k.get s).map PTr.core
  | .nil, _ => rfl
  | .cons s' t k, s => by
    simp only [PKs.core, PKs.get]
    split
    · rfl
    · exact PKs.core_get k s
theorem PKs.core_names : ∀ k : PKs, k.core.names = k.names
  | .nil => rfl
  | .cons s t k => by simp [PKs.core, PKs.names, PKs.core_names k]
theorem PKs.len_names : ∀ k : PKs, k.names.length = k.len
  | .nil => rfl
  | .cons s t k => by simp [PKs.names, PKs.len, PKs.len_names k]
/-- As many, none twice, all of the one in the other: then all of the other in the one. -/
theorem sub_back {α : Type} [BEq α] [LawfulBEq α] : ∀ {l m : List α}, l.Nodup → (∀ x ∈ l, x ∈ m) → m.length ≤ l.length → ∀ x ∈ m, x ∈ l
  | [], m, _, _, hl, x, hx => by
    have : m = [] := List.eq_nil_of_length_eq_zero (by simpa using hl)
    rw [this] at hx
    exact hx
  | a :: l, m, hn, hs, hl, x, hx => by
    rw [List.nodup_cons] at hn
    by_cases e : x = a
    · simp [e]
    · have ha : a ∈ m := hs a (by simp)
      have h1 : (m.erase a).length ≤ l.length := by
        rw [List.length_erase_of_mem ha]
        simp only [List.length_cons] at hl
        omega
      exact List.mem_cons_of_mem _ (sub_back (m := m.erase a) hn.2 (fun y hy => (List.mem_erase_of_ne (fun e2 => by subst e2; exact hn.1 hy)).2 (hs y (by simp [hy]))) h1 x ((List.mem_erase_of_ne e).2 hx))
theorem TrOk.sorted {w : World} {t : ATr} (h : TrOk w t) : t.ks.names.Pairwise fun p q => bytesBefore p q = true := by
  obtain ⟨m, va, vb, hrow, hd, hnd, _⟩ := h.row
  by_cases hk : t.rc.kind = 2
  · obtain ⟨b, _, hm⟩ := hd hk
    rw [← AKs.names_kids, List.pairwise_map]
    exact hm.canon
  · rw [(hnd hk).2]
    exact List.Pairwise.nil
theorem core_eq {w w' : World} {t u : ATr} (ht : TrOk w t) (hu : TrOk w' u) (hr : t.rc.core = u.rc.core) (hl : t.ks.kids.length = u.ks.kids.length) (h : ∀ s x, t.ks.get s = some x → ∃ y, u.ks.get s = some y ∧ x.er.core = y.er.core) : t.er.core = u.er.core := by
  have hks : t.ks.er.core = u.ks.er.core := by
    refine PKs.ext (by rw [PKs.core_names, er_names]; exact ht.sorted) (by rw [PKs.core_names, er_names]; exact hu.sorted) fun s => ?_
    rw [PKs.core_get, PKs.core_get, er_get, er_get]
    cases hg : t.ks.get s with
    | some x =>
      obtain ⟨y, hy, e⟩ := h s x hg
      rw [hy]
      simp [e]
    | none =>
      cases hg2 : u.ks.get s with
      | none => rfl
      | some y =>
        have hm : s ∈ u.ks.er.names := PKs.get_mem.1 (by rw [er_get, hg2]; rfl)
        have hmem : s ∈ t.ks.er.names := by
          refine sub_back (by rw [er_names]; exact ht.apart) (fun z hz => ?_) (by rw [PKs.len_names, PKs.len_names, er_len, er_len]; omega) s hm
          have := PKs.get_mem.2 hz
          rw [er_get, Option.isSome_map] at this
          obtain ⟨x, hx⟩ := Option.isSome_iff_exists.1 this
          obtain ⟨y, hy, _⟩ := h z x hx
          exact PKs.get_mem.1 (by rw [er_get, hy]; rfl)
        have := PKs.get_mem.2 hmem
        rw [er_get, hg] at this
        cases this
  cases t; cases u
  simp only [ATr.er, PTr.core]
  simp only [ATr.rc] at hr
  simp only [ATr.ks] at hks
  rw [hr, hks]
theorem core_ne {t u : ATr} (h : t.er.core = u.er.core) : t.rc.core = u.rc.core ∧ t.ks.kids.length = u.ks.kids.length ∧ ∀ s x, t.ks.get s = some x → ∃ y, u.ks.get s = some y ∧ x.er.core = y.er.core := by
  obtain ⟨a, m, va, vb, r, ks⟩ := t
  obtain ⟨a', m', va', vb', r', ks'⟩ := u
  simp only [ATr.er, PTr.core, PTr.node.injEq] at h
  refine ⟨h.1, ?_, fun s x hx => ?_⟩
  · have := congrArg PKs.names h.2
    rw [PKs.core_names, PKs.core_names] at this
    have := congrArg List.length this
    rw [PKs.len_names, PKs.len_names, er_len, er_len] at this
    exact this
  · have := congrArg (fun k => PKs.get k s) h.2
    simp only [PKs.core_get, er_get] at this
    simp only [ATr.ks] at hx ⊢
    rw [hx] at this
    cases hy : ks'.get s with
    | none => rw [hy] at this; cases this
    | some y =>
      rw [hy] at this
      simp only [Option.map_some, Option.some.injEq] at this
      exact ⟨y, rfl, this⟩
end Go.Proofs.YtiedoocgbajjjaaGreatDoor

namespace Go.Proofs.YtiedoocgbajjjaaGreatDoor
open Go.RowKit Go.Maps
set_option maxRecDepth 100000

theorem no_iff {A : Prop} (h : ¬ A) : (false = true ↔ A) := ⟨fun e => (by cases e), fun e => absurd e h⟩
theorem core_parts {r r' : NRec} : r.core = r'.core ↔ r.kind = r'.kind ∧ r.mode = r'.mode ∧ r.bytes = r'.bytes := by
  simp [NRec.core]
theorem len_map {w : World} {t : ATr} {m : Option Nat} {va vb : Value} {a : Nat} {r : NRec} {ks : AKs} (e : t = .node a m va vb r ks) (h : TrOk w t) (n : Nat) (ty : TypeId) :
    (Builtin.len_ #[98] ty #[.map m]).run Tryz.prog (w.drewN n) = .ok (.int .i64 (ks.kids.length : Int)) (w.drewN n) := by
  subst e
  have h4 := h.2.2.2.1
  cases m with
  | none => rw [h4.2]; exact Maps.len_nil Tryz.underlying98 ty
  | some b => exact (h4.2.kept (Kept.drewN [] w n) (by simp)).len ty

set_option maxRecDepth 100000 in
set_option maxHeartbeats 4000000 in
theorem bsame_any : ∀ (n : Nat) (t u : ATr) (w : World), t.ht ≤ n → TrOk w t → TrOk w u → t.small → u.small →
    Calls Tryz.prog 48 #[.pointer (some ⟨t.addr, 0, none⟩), .pointer (some ⟨u.addr, 0, none⟩)] w fun e w' => ∃ bb, e = .returned (.bool bb) ∧ Hid ((bb = true ↔ t.er.core = u.er.core) ∧ Kept [] w w')
  | 0, t, _, _, h, _, _, _, _ => by rw [t.ht_ks] at h; omega
  | n + 1, t, u, w, hht, hT, hU, hsm, hsm' => by
    obtain ⟨T, hTe⟩ : ∃ T, t = T := ⟨_, rfl⟩
    obtain ⟨U, hUe⟩ : ∃ U, u = U := ⟨_, rfl⟩
    obtain ⟨a, m, va, vb, r, ks⟩ := t
    obtain ⟨a', m', va', vb', r', ks'⟩ := u
    obtain ⟨vo, vn, vc, hva⟩ : ∃ vo vn vc, va = .slice vo vn vc := by
      rcases hT.2.1.1.1 with ⟨b, o, cap, rfl, _⟩ | ⟨rfl, _⟩ <;> exact ⟨_, _, _, rfl⟩
    obtain ⟨vo', vn', vc', hva'⟩ : ∃ vo vn vc, va' = .slice vo vn vc := by
      rcases hU.2.1.1.1 with ⟨b, o, cap, rfl, _⟩ | ⟨rfl, _⟩ <;> exact ⟨_, _, _, rfl⟩
    subst hva hva'
    have a0 : w.cell? ⟨a, 0, none⟩ = some (.int .i64 r.kind) := cell_of_row _ _ 0 _ _ _ hT.1
    have a1 : w.cell? ⟨a, 1, none⟩ = some (.int .i64 r.mode) := cell_of_row _ _ 1 _ _ _ hT.1
    have a2 : w.cell? ⟨a, 2, none⟩ = some (.slice vo vn vc) := cell_of_row _ _ 2 _ _ _ hT.1
    have a3 : w.cell? ⟨a, 3, none⟩ = some (.map m) := cell_of_row _ _ 3 _ _ _ hT.1
    have b0 : w.cell? ⟨a', 0, none⟩ = some (.int .i64 r'.kind) := cell_of_row _ _ 0 _ _ _ hU.1
    have b1 : w.cell? ⟨a', 1, none⟩ = some (.int .i64 r'.mode) := cell_of_row _ _ 1 _ _ _ hU.1
    have b2 : w.cell? ⟨a', 2, none⟩ = some (.slice vo' vn' vc') := cell_of_row _ _ 2 _ _ _ hU.1
    have b3 : w.cell? ⟨a', 3, none⟩ = some (.map m') := cell_of_row _ _ 3 _ _ _ hU.1
    have hla := fun n ty => len_map rfl hT n ty
    have hlb := fun n ty => len_map rfl hU n ty
    have HEB : ∀ bb, decide (r.bytes = r'.bytes) = bb → ∀ n, Calls Tryz.prog 79 #[.slice vo vn vc, .slice vo' vn' vc'] (w.drewN n) fun e w' => e = .returned (.bool bb) ∧ w' = w.drewN n := fun bb hbb n =>
      (bytesEqual_any _ _ r.bytes r'.bytes (w.drewN n) (hT.2.1.1.kept (Kept.drewN [] _ _)).1.conv (hU.2.1.1.kept (Kept.drewN [] _ _)).1.conv).mono fun e w' ⟨h1, h2⟩ => ⟨by rw [h1, hbb], h2.symm⟩
    have H := Lib.hid (And.intro hT hU)
    have HSM := Lib.hid (And.intro hsm hsm')
    have HHT : Hid (ks.ht ≤ n) := by show _ ≤ _; rw [ATr.ht_ks] at hht; simp only [ATr.ks] at hht; omega
    have HE := Lib.hid (And.intro hTe hUe)
    have HNO : Hid (¬ (r.kind = r'.kind ∧ r.mode = r'.mode ∧ r.bytes = r'.bytes ∧ ks.kids.length = ks'.kids.length) → T.er.core ≠ U.er.core) := fun hn he => by
      rw [← HE.out.1, ← HE.out.2] at he
      obtain ⟨e1, e2, _⟩ := core_ne he
      have e3 := core_parts.1 e1
      exact hn ⟨e3.1, e3.2.1, e3.2.2, e2⟩
    rw [hTe, hUe]
    clear hT hU hsm hsm' hht
    show Calls Tryz.prog 48 #[.pointer (some ⟨T.addr, 0, none⟩), .pointer (some ⟨U.addr, 0, none⟩)] w _
    have eT : T.addr = a := by rw [← hTe]; rfl
    have eU : U.addr = a' := by rw [← hUe]; rfl
    rw [eT, eU]
    clear eT eU hTe hUe
    by_cases hk : r.kind = r'.kind
    case neg =>
      have hkb : (r.kind != r'.kind) = true := by simpa using hk
      have HN : Hid (T.er.core ≠ U.er.core) := HNO.out fun h => hk h.1
      clear hk HNO HEB hla hlb
      go_enter Tryz.func48, Tryz.ntmps48
      go_wp2_with fail
      go_quiet (fail)
      go_wp2_with fail
      go_ret
      exact ⟨false, rfl, no_iff HN.out, Kept.drewN _ _ _⟩
    have hkb : (r.kind != r'.kind) = false := by simpa using hk
    by_cases hm : r.mode = r'.mode
    case neg =>
      have hmb : (r.mode != r'.mode) = true := by simpa using hm
      have HN : Hid (T.er.core ≠ U.er.core) := HNO.out fun h => hm h.2.1
      clear hk hm HNO HEB hla hlb
      go_enter Tryz.func48, Tryz.ntmps48
      go_wp2_with fail
      go_quiet (fail)
      go_wp2_with fail
      go_ret
      exact ⟨false, rfl, no_iff HN.out, Kept.drewN _ _ _⟩
    have hmb : (r.mode != r'.mode) = false := by simpa using hm
    by_cases hb : r.bytes = r'.bytes
    case neg =>
      have HN : Hid (T.er.core ≠ U.er.core) := HNO.out fun h => hb h.2.2.1
      have N1 := HEB false (by simpa using hb)
      clear hk hm hb HNO HEB hla hlb
      go_enter Tryz.func48, Tryz.ntmps48
      go_wp2_with fail
      go_quiet ((go_at_call 79; exact Calls.quiet_of_same (N1 _)))
      clear N1
      go_wp2_with fail
      go_ret
      exact ⟨false, rfl, no_iff HN.out, Kept.drewN _ _ _⟩
    have N1 := HEB true (by simpa using hb)
    by_cases hl : ks.kids.length = ks'.kids.length
    case neg =>
      have hlb' : ((ks.kids.length : Int) != (ks'.kids.length : Int)) = true := by simp; omega
      have HN : Hid (T.er.core ≠ U.er.core) := HNO.out fun h => hl h.2.2.2
      clear hk hm hb hl HNO HEB
      go_enter Tryz.func48, Tryz.ntmps48
      go_wp2_with fail
      go_quiet ((go_at_call 79; exact Calls.quiet_of_same (N1 _)))
      clear N1 hla hlb
      go_wp2_with fail
      go_ret
      exact ⟨false, rfl, no_iff HN.out, Kept.drewN _ _ _⟩
    have hlb' : ((ks.kids.length : Int) != (ks'.kids.length : Int)) = false := by simp; omega
    have HYES : Hid ((∀ s x, ks.get s = some x → ∃ y, ks'.get s = some y ∧ x.er.core = y.er.core) → T.er.core = U.er.core) := fun h => by
      rw [← HE.out.1, ← HE.out.2]
      exact core_eq H.out.1 H.out.2 (core_parts.2 ⟨hk, hm, hb⟩) hl h
    have HK := Lib.hid hk
    clear hm hb hl HNO HEB hk
    go_enter Tryz.func48, Tryz.ntmps48
    go_wp2_with fail
    go_quiet ((go_at_call 79; exact Calls.quiet_of_same (N1 _)))
    clear N1 hla hlb
    generalize hw1 : World.drewN w _ = w1
    have HK1 : Hid (Kept [] w w1) := by rw [← hw1]; exact Kept.drewN _ _ _
    clear hw1 a0 a1 a2 a3 b0 b1 b2 b3 hkb hmb hlb'
    have c3 : w1.cell? ⟨a, 3, none⟩ = some (.map m) := cell_of_row _ _ 3 _ _ _ (HK1.out.heap (by simp) H.out.1.1)
    cases m with
    | none =>
      have HN : Hid (r.kind ≠ 2 ∧ ks = .nil) := H.out.1.2.2.2.1
      have hrg := run_range_nilMap (P := Tryz.prog) w1 98 _ _ Tryz.underlying98
      have hnx : ∀ ty, (Instr.next (.pointer (some ⟨w1.heap.size, 0, none⟩)) false ty).run Tryz.prog (w1.alloc (.mapIter none 0 #[] 0)) = _ := fun ty => run_next_nilMap _ ty 0 0 #[]
      have HC : Hid (T.er.core = U.er.core) := HYES.out fun s x hx => by rw [HN.out.2] at hx; cases hx
      go_wp2_with fail
      refine wp_loop_rounds 1 ?_
      rw [rounds_succ]
      go_wp2_with fail
      go_ret
      exact ⟨true, rfl, ⟨fun _ => HC.out, fun _ => rfl⟩, HK1.out.trans (Kept.alloc _ _ _)⟩
    | some b =>
      have HB : Hid (r.kind = 2 ∧ KMap w b ks.kids) := H.out.1.2.2.2.1
      obtain ⟨b', hb'⟩ : ∃ b', m' = some b' := by
        have h4 := H.out.2.2.2.2.1
        cases m' with
        | none => exact absurd (HK.out.symm.trans HB.out.1) h4.1
        | some b' => exact ⟨b', rfl⟩
      subst hb'
      have HB' : Hid (KMap w b' ks'.kids) := H.out.2.2.2.2.1.2
      have HKM : Hid (KMap w1 b ks.kids) := HB.out.2.kept HK1.out (by simp)
      have HROW' := Lib.hid H.out.2.1
      obtain ⟨D, hD⟩ : ∃ D, w1.heap.size = D := ⟨_, rfl⟩
      have HD : Hid (w1.heap.size = D ∧ w.heap.size ≤ D) := ⟨hD, by rw [← hD]; exact HK1.out.size⟩
      go_wp2_with (at_range; refine wpList_range_kid rfl _ rfl b ks.kids rfl HKM.out ?_; intro w7 hr7 hk7 hs7)
      rw [hD] at hr7 hs7 ⊢
      have HR7 := Lib.hid hr7
      have HK7 := Lib.hid hk7
      clear hr7 hk7 hs7 c3 hD
      go_frame
      go_loopw [5] (fun _ wr => ∃ (S : List UInt8 → Bool) (cnt : Nat), Hid (KRng wr b D ks.kids S cnt ∧ Kept [] w wr ∧ ∀ s x, ks.get s = some x → S s = false → ∃ y, ks'.get s = some y ∧ x.er.core = y.er.core)) (fun _ wr => wr.rangeLeft b D)
      case atStart =>
        refine ⟨_, _, HR7.out, HK1.out.trans HK7.out, fun s x hx hn => ?_⟩
        rw [AKs.kget, hx] at hn
        cases hn
      case round =>
        clear HR7 HK7 HKM
        obtain ⟨S, cnt, HS⟩ := hrel
        go_wp2_with (at_next; refine wpList_next_kid rfl _ rfl b D ks.kids S cnt rfl HS.out.1 ?_ ?_)
        · intro hdone
          have HC : Hid (T.er.core = U.er.core) := HYES.out fun s x hx => HS.out.2.2 s x hx (hdone s)
          clear hdone
          go_wp2_with fail
          go_ret
          exact ⟨true, rfl, ⟨fun _ => HC.out, fun _ => rfl⟩, HS.out.2.1⟩
        · intro s x w8 cnt' hSs hkg hr8 hlt hk8 hsz8 hen
          rw [AKs.kget] at hkg
          obtain ⟨xt, hgx, hxa⟩ : ∃ xt, ks.get s = some xt ∧ xt.addr = x := by
            cases hg : ks.get s with
            | none => rw [hg] at hkg; cases hkg
            | some u => rw [hg] at hkg; injection hkg with hkg; exact ⟨u, rfl, hkg⟩
          subst hxa
          have HX := Lib.hid (And.intro hSs hgx)
          have HR8 := Lib.hid (And.intro hr8 hlt)
          have HK8 : Hid (Kept [] w w8) := HS.out.2.1.andThen hk8 (by intro i hi; simp at hi; right; rw [hi]; exact HD.out.2)
          have HMS : Hid (wr.rangeLeft b D = cnt) := HS.out.1.left_eq
          have hs28 : s.length ≤ 28 := KsOk.name H.out.1.2.2.2.2 hgx
          clear hSs hgx hr8 hlt hk8 hsz8 hkg
          have c3 : w8.cell? ⟨a', 3, none⟩ = some (.map (some b')) := cell_of_row _ _ 3 _ _ _ (HK8.out.heap (by simp) HROW'.out)
          have hlook := (HB'.out.kept HK8.out (by simp)).look s (by omega)
          rw [AKs.kget] at hlook
          cases hg' : ks'.get s with
          | none =>
            rw [hg'] at hlook
            simp only [Option.map_none] at hlook
            have HN : Hid (T.er.core ≠ U.er.core) := fun he => by
              rw [← HE.out.1, ← HE.out.2] at he
              obtain ⟨y, hy, _⟩ := (core_ne he).2.2 s xt HX.out.2
              simp only [ATr.ks] at hy
              rw [hg'] at hy
              cases hy
            clear hg'
            go_wp2_with fail
            go_ret
            exact ⟨false, rfl, no_iff HN.out, HK8.out⟩
          | some y =>
            rw [hg'] at hlook
            simp only [Option.map_some] at hlook
            have HY := Lib.hid hg'
            clear hg'
            go_wp2_with fail
            refine (bsame_any n xt y w8 (Nat.le_trans (AKs.ht_of_get HX.out.2) HHT.out) ((KsOk.get H.out.1.2.2.2.2 HX.out.2).kept HK8.out) ((KsOk.get H.out.2.2.2.2.2 HY.out).kept HK8.out) (AKs.small_get HSM.out.1.2 HX.out.2) (AKs.small_get HSM.out.2.2 HY.out)).mono ?_
            rintro e w9 ⟨bb, rfl, H9⟩
            cases bb
            · have HN : Hid (T.er.core ≠ U.er.core) := fun he => by
                rw [← HE.out.1, ← HE.out.2] at he
                obtain ⟨y', hy, he2⟩ := (core_ne he).2.2 s xt HX.out.2
                simp only [ATr.ks] at hy
                rw [HY.out] at hy
                injection hy with hy
                subst hy
                have := H9.out.1.2 he2
                cases this
              go_wp2_with fail
              go_ret
              exact ⟨false, rfl, no_iff HN.out, HK8.out.trans H9.out.2⟩
            · have HFIN : Hid (KRng w9 b D ks.kids (fun z => S z && !(z == s)) cnt' ∧ Kept [] w w9 ∧ ∀ z x, ks.get z = some x → (S z && !(z == s)) = false → ∃ y, ks'.get z = some y ∧ x.er.core = y.er.core) := by
                refine ⟨HR8.out.1.kept H9.out.2 (by simp) (by simp), HK8.out.trans H9.out.2, fun z x hz hS => ?_⟩
                by_cases e : z = s
                · subst e
                  rw [HX.out.2] at hz
                  injection hz with hz
                  subst hz
                  exact ⟨y, HY.out, H9.out.1.1 rfl⟩
                · have e2 : (z == s) = false := by simpa using e
                  rw [e2] at hS
                  exact HS.out.2.2 z x hz (by simpa using hS)
              go_wp2_with fail
              go_roundw
              case rel => exact ⟨_, _, HFIN.out⟩
              case measure => rw [HFIN.out.1.left_eq, HMS.out]; exact HR8.out.2
end Go.Proofs.YtiedoocgbajjjaaGreatDoor

namespace Go.Proofs.YtiedoocgbajjjaaGreatDoor
open Go.RowKit Go.Maps
set_option maxRecDepth 100000

/-- Block a OF w IS A POOL of these numbers, which lie in block g. -/
def PoolIs (w : World) (a g : Nat) (l : List Nat) : Prop :=
  ∃ v, w.heap[a]? = some (.cells #[v] 187) ∧ ((l = [] ∧ ∃ ao cap, v = .slice ao 0 cap) ∨ ∃ o cap, v = .slice (some ⟨g, o, none⟩) l.length cap ∧ l.length ≤ cap ∧ cap ≤ 9223372036854775807 ∧ g ≠ a ∧ g < w.heap.size ∧ w.rangeAt g o (iv (natI l)))

set_option maxRecDepth 100000 in
set_option maxHeartbeats 1000000 in
theorem ptake_any (a g x : Nat) (l : List Nat) (w : World) (h : PoolIs w a g (x :: l)) : Calls Tryz.prog 104 #[.pointer (some ⟨a, 0, none⟩)] w fun e w' => e = .returned (.int .i64 (x : Int)) ∧ Hid (PoolIs w' a g l ∧ Kept [a] w w') := by
  obtain ⟨v, hrow, ⟨h0, _⟩ | ⟨o, cap, rfl, hc1, hc2, hga, hg, hr⟩⟩ := h
  · cases h0
  simp only [List.length_cons] at hc1 hrow
  obtain ⟨n, hn⟩ : ∃ n, l.length = n := ⟨_, rfl⟩
  rw [hn] at hrow hc1
  have c0 : w.cell? ⟨a, 0, none⟩ = some (.slice (some ⟨g, o, none⟩) (n + 1) cap) := cell_of_row _ _ 0 _ _ _ hrow
  have fz : ∀ q, w.frozen? ⟨a, q, none⟩ = false := fun q => frozen_of_row _ _ q _ _ hrow
  have cx : w.cell? ⟨g, o, none⟩ = some (.int .i64 (x : Int)) := by
    have := hr 0 (.int .i64 (x : Int)) (by simp [iv, natI])
    rwa [Nat.add_zero] at this
  have HF : Hid (PoolIs (w.setCell ⟨a, 0, none⟩ (.slice (some ⟨g, o + 1, none⟩) n (cap - 1))) a g l ∧ Kept [a] w (w.setCell ⟨a, 0, none⟩ (.slice (some ⟨g, o + 1, none⟩) n (cap - 1)))) := by
    have hk : Kept [a] w (w.setCell ⟨a, 0, none⟩ (.slice (some ⟨g, o + 1, none⟩) n (cap - 1))) := Kept.setCell _ _ _ _ (by simp)
    refine ⟨⟨_, heap_setCell_same w a 0 _ _ _ hrow, .inr ⟨o + 1, cap - 1, by rw [hn], by omega, by omega, hga, Nat.lt_of_lt_of_le hg hk.size, fun q u hu => ?_⟩⟩, hk⟩
    have := hk.range hg (by simpa using hga) hr (q + 1) u (by simpa [iv, natI] using hu)
    rwa [show o + 1 + q = o + (q + 1) by omega]
  by_cases hcap : cap = 1
  · have hn0 : n = 0 := by omega
    subst hcap hn0
    have HF0 : Hid (PoolIs (w.setCell ⟨a, 0, none⟩ (.slice (some ⟨g, o, none⟩) 0 0)) a g l ∧ Kept [a] w (w.setCell ⟨a, 0, none⟩ (.slice (some ⟨g, o, none⟩) 0 0))) :=
      ⟨⟨_, heap_setCell_same w a 0 _ _ _ hrow, .inl ⟨List.eq_nil_of_length_eq_zero hn, _, _, rfl⟩⟩, Kept.setCell _ _ _ _ (by simp)⟩
    clear hrow hr hn HF
    go_enter Tryz.func104, Tryz.ntmps104
    go_wp2_with fail
    go_ret
    exact ⟨rfl, HF0.out⟩
  · clear hrow hr hn
    go_enter Tryz.func104, Tryz.ntmps104
    go_wp2_with fail
    go_ret
    exact ⟨rfl, HF.out⟩
theorem PoolIs.keptX {w w' : World} {ex : List Nat} {a g : Nat} {l : List Nat} (h : PoolIs w a g l) (hk : Kept ex w w') (ha : a ∉ ex) (hg : g ∉ ex) : PoolIs w' a g l := by
  obtain ⟨v, hrow, h⟩ := h
  refine ⟨v, hk.heap ha hrow, h.imp id ?_⟩
  rintro ⟨o, cap, e, h1, h2, h3, h4, h5⟩
  exact ⟨o, cap, e, h1, h2, h3, Nat.lt_of_lt_of_le h4 hk.size, hk.range h4 hg h5⟩
theorem PoolIs.nob {w : World} {a g : Nat} {l : List Nat} (h : PoolIs w a g l) (cs : Array Value) (fr : Nat × Nat) : w.heap[a]? ≠ some (.cells cs 5 fr) := by
  obtain ⟨v, hrow, _⟩ := h
  intro hh
  rw [hrow] at hh
  simp at hh
theorem PoolIs.lt {w : World} {a g : Nat} {l : List Nat} (h : PoolIs w a g l) : a < w.heap.size := by
  obtain ⟨v, hrow, _⟩ := h
  exact (Array.getElem?_eq_some_iff.1 hrow).1
end Go.Proofs.YtiedoocgbajjjaaGreatDoor

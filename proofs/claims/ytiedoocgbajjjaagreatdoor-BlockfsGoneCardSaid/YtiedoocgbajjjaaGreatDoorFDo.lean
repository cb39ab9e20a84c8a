/-
  Layer 4: Do: edits of a tree on a disk that answers.
  Conditions: those that each theorem states.
-/
import Derived.Test.YtiedoocgbajjjaaGreatDoorFTurn
import Derived.Test.YtiedoocgbajjjaaGreatDoorFCut
import Derived.Test.YtiedoocgbajjjaaGreatDoorFPool
import Derived.Test.YtiedoocgbajjjaaGreatDoorFCln
import Derived.Recover
import Derived.Defers
namespace Go.Proofs.YtiedoocgbajjjaaGreatDoor
open Go.RowKit Go.Maps
set_option maxRecDepth 100000

/-- An edit in memory is that edit. -/
structure EdOk (w : World) (h : EdH) (p : EdP) : Prop where
  kind : p.kind = h.kind
  mode : p.mode = h.mode
  path : p.path = h.path
  bytes : ArgB w h.ao h.len h.cap p.bytes
  plen : h.path.length ≤ 9223372036854775807
theorem EdOk.kept {w w' : World} {h : EdH} {p : EdP} (e : EdOk w h p) (hk : Kept [] w w') : EdOk w' h p := ⟨e.kind, e.mode, e.path, e.bytes.kept hk, e.plen⟩
theorem EdOk.old {w : World} {h : EdH} {p : EdP} (e : EdOk w h p) (h0 : 0 < h.len) : ∀ b o, h.ao = some ⟨b, o, none⟩ → b < w.heap.size := fun b o hb => by
  rcases e.bytes.at' with h1 | ⟨b', o', e', hb', _⟩
  · omega
  · rw [hb] at e'
    injection e' with e'
    injection e' with e' _
    omega
structure EdArg (w : World) (ao : Option Addr) (len : Nat) (H : List EdH) (P : List EdP) : Prop where
  is : EditsIs w ao len H
  plen : P.length = H.length
  each : ∀ k (hk : k < H.length) (hp : k < P.length), EdOk w H[k] P[k]
  le : len ≤ 140737488355328
theorem EdArg.big {w : World} : ∀ {H : List EdH} {P : List EdP}, P.length = H.length → (∀ k (hk : k < H.length) (hp : k < P.length), EdOk w H[k] P[k]) → bigL H = edsB P
  | [], [], _, _ => rfl
  | [], _ :: _, h, _ => by cases h
  | _ :: _, [], h, _ => by cases h
  | x :: H, y :: P, hl, h => by
    have h0 := h 0 (by simp) (by simp)
    have ih := EdArg.big (H := H) (P := P) (by simpa using hl) (fun k hk hp => h (k + 1) (by simpa using hk) (by simpa using hp))
    simp only [List.getElem_cons_zero] at h0
    simp only [bigL, edsB, ih]
    congr 1
    unfold EdH.big edB
    rw [h0.kind, h0.bytes.hlen]
theorem edits_snoc : ∀ (l : List EdP) (t : PTr) (x : EdP), t.edits (l ++ [x]) = if (t.edits l).1 = 0 then (t.edits l).2.edit x.kind x.mode x.path x.bytes else t.edits l
  | [], t, x => by
    simp only [List.nil_append, PTr.edits, if_pos]
    split
    · rename_i h
      rw [← h]
    · rfl
  | y :: l, t, x => by
    simp only [List.cons_append, PTr.edits]
    split
    · exact edits_snoc l _ x
    · rfl
theorem edits_stop : ∀ (l m : List EdP) (t : PTr), (t.edits l).1 ≠ 0 → t.edits (l ++ m) = t.edits l
  | [], m, t, h => absurd rfl h
  | y :: l, m, t, h => by
    simp only [PTr.edits] at h
    simp only [List.cons_append, PTr.edits]
    split
    · rename_i h0
      rw [if_pos h0] at h
      exact edits_stop l m _ h
    · rfl
mutual
theorem few_of {t : ATr} (h : ∀ s ∈ t.all, s.rc.blocks.length ≤ 1000) : t.few := by
  match t, h with
  | .node a m va vb r ks, h => exact ⟨h (.node a m va vb r ks) (by simp [ATr.all]), few_ofK (fun s hs => h s (by simp [ATr.all, hs]))⟩
theorem few_ofK {k : AKs} (h : ∀ s ∈ k.all, s.rc.blocks.length ≤ 1000) : k.few := by
  match k, h with
  | .nil, _ => trivial
  | .cons s t k, h => exact ⟨few_of (fun x hx => h x (by simp [AKs.all, hx])), few_ofK (fun x hx => h x (by simp [AKs.all, hx]))⟩
end
set_option maxRecDepth 100000 in
set_option maxHeartbeats 2000000 in
theorem ftree_any (f d j N q : Nat) (t : ATr) (w : World) (h : w.heap[f]? = some (.cells (fsRow d j t.addr N q false) 87)) : Calls Tryz.prog 44 #[.pointer (some ⟨f, 0, none⟩)] w fun e w' => e = .returned (.pointer (some ⟨t.addr, 0, none⟩)) ∧ w = w' := by
  have c10 : w.cell? ⟨f, 10, none⟩ = some (.pointer (some ⟨t.addr, 0, none⟩)) := cell_of_row _ _ 10 _ _ _ h
  clear h
  go_enter Tryz.func44, Tryz.ntmps44
  go_wp2_with fail
  go_ret
  exact ⟨rfl, rfl⟩
set_option maxRecDepth 100000 in
set_option maxHeartbeats 2000000 in
theorem do_idle (p : Addr) (w : World) :
    CallsD Tryz.prog 42 #[.pointer (some p)] .returning w fun e u' w' => e = .returned (.tuple #[]) ∧ u' = .returning ∧ w' = w := by
  refine callsD_of_wpS Tryz.func42 rfl fun c₀ stk hu => ?_
  apply wpS_seq
  apply wpS_region
  simp [wpOpsS, go_sem, recoverD, hu, Tryz.ntmps42, Exit.thenS]
  apply wpS_of_wp
  change Code.wp _ _ _ { tmps := #[Value.pointer (some p), .nilIface, .nilIface, undef, undef, undef, undef], defers := [] } w
  go_wp2_with fail
  cases c₀
  simp_all [bodyPostS, results, Tryz.results42]
def doorDo (gc : Nat) : List Deferred := [{ target := Target.fn (Fn.func 42) #[.pointer (some ⟨gc, 0, none⟩)], args := #[] }]
theorem do_door (gc : Nat) (n : Int) (T : Array Value) (w : World) (R : Ending → World → Prop) (h : w.heap[gc]? = some (.cells #[.int .i64 n] 25)) (h4 : T.getD 4 undef = .pointer (some ⟨gc, 0, none⟩)) (hR : R (.returned (.int .i64 n)) w) :
    bodyPostD Tryz.prog Tryz.f14 R Exit.ret { tmps := T, defers := doorDo gc } w := by
  refine leaves_cons (f := 42) (args := #[.pointer (some ⟨gc, 0, none⟩)]) (by simp) (by simp [go_sem]) ?_
  refine (do_idle ⟨gc, 0, none⟩ _).mono ?_
  rintro e u' w'' ⟨rfl, rfl, rfl⟩
  have e0 : w''.cell? ⟨gc, 0, none⟩ = some (.int .i64 n) := cell_of_row _ _ 0 _ _ _ h
  refine ⟨_, ?_, hR⟩
  have h4' : T[4]?.getD undef = .pointer (some ⟨gc, 0, none⟩) := by simpa using h4
  simp [results, Tryz.results14, go_sem, h4', e0, loadVar]

theorem mu_one (l : List NRec) : muL (fun _ => 1) l = l.length := by
  induction l with
  | nil => rfl
  | cons r l ih => rw [muL_cons, ih, List.length_cons]; omega
theorem cnt_put (p : PTr) (s : List UInt8) (kind mode : Int) (L : List UInt8) : (p.put s kind mode L).2.recs.length ≤ p.recs.length + 1 := by
  unfold PTr.put
  cases hg : p.ks.get s with
  | some u =>
    simp only
    split
    · have m := mu_set (fun _ => 1) (u := .node { u.rc with mode := mode, bytes := L, fresh := u.rc.fresh || !decide (u.rc.bytes = L) } u.ks) hg
      simp only [mu_one, recs_ks u, PTr.recs, List.length_cons] at m
      simp only [recs_ks p, PTr.recs, List.length_cons]
      omega
    · exact Nat.le_succ _
  | none =>
    simp only
    split
    · exact Nat.le_succ _
    · have m := mu_ins (fun _ => 1) p.ks s (.node ⟨kind, mode, L, 0, [], 0, !decide ([] = L)⟩ .nil)
      simp only [mu_one, PTr.recs, PKs.recs, List.length_cons, List.length_nil] at m
      simp only [recs_ks p, PTr.recs, List.length_cons]
      omega
theorem cnt_editE (p : PTr) (s : List UInt8) (kind mode : Int) (L : List UInt8) : (p.editE s kind mode L).2.recs.length ≤ p.recs.length + 1 := by
  unfold PTr.editE
  split
  · exact cnt_put _ _ _ _ _
  split
  · exact cnt_put _ _ _ _ _
  split
  · split
    · exact Nat.le_succ _
    · exact cnt_put _ _ _ _ _
  split
  · unfold PTr.setM
    cases hg : p.ks.get s with
    | some u =>
      simp only
      split
      · exact Nat.le_succ _
      · have m := mu_set (fun _ => 1) (u := .node { u.rc with mode := mode } u.ks) hg
        simp only [mu_one, recs_ks u, PTr.recs, List.length_cons] at m
        simp only [recs_ks p, PTr.recs, List.length_cons]
        omega
    | none => exact Nat.le_succ _
  · unfold PTr.dropP
    cases hg : p.ks.get s with
    | some u =>
      have m := mu_del (fun _ => 1) p.ks s
      simp only [mu_one] at m
      simp only [recs_ks p, PTr.recs, List.length_cons]
      omega
    | none => exact Nat.le_succ _
theorem cnt_edit (t : PTr) (kind mode : Int) (path L : List UInt8) : (t.edit kind mode path L).2.recs.length ≤ t.recs.length + 1 := by
  unfold PTr.edit
  split
  · exact Nat.le_succ _
  cases pathO path with
  | none => exact Nat.le_succ _
  | some ns =>
    simp only
    cases ns.getLast? with
    | none =>
      simp only [PTr.editR]
      split
      · exact Nat.le_succ _
      split
      · exact Nat.le_succ _
      · simp only [recs_ks t, PTr.recs, List.length_cons]; omega
    | some s =>
      simp only
      obtain ⟨c, o, hf⟩ : ∃ c o, folP t ns.dropLast = (c, o) := ⟨_, _, rfl⟩
      rw [hf]
      cases o with
      | none => exact Nat.le_succ _
      | some p =>
        simp only
        split
        · have m := mu_put (fun _ => 1) ns.dropLast (t := t) (p := p) (u := (p.editE s kind mode L).2) (by rw [hf])
          have := cnt_editE p s kind mode L
          simp only [mu_one] at m
          show (t.putP ns.dropLast (p.editE s kind mode L).2).recs.length ≤ _
          omega
        · exact Nat.le_succ _
theorem edits_cnt : ∀ (l : List EdP) (t : PTr), (t.edits l).2.recs.length ≤ t.recs.length + l.length
  | [], t => Nat.le_refl _
  | x :: l, t => by
    have h1 := cnt_edit t x.kind x.mode x.path x.bytes
    simp only [PTr.edits, List.length_cons]
    split
    · have := edits_cnt l (t.edit x.kind x.mode x.path x.bytes).2
      omega
    · omega
theorem edsB_mem : ∀ {l : List EdP} {x : EdP}, x ∈ l → edB x.kind x.bytes ≤ edsB l
  | y :: l, x, h => by
    simp only [edsB]
    rcases List.mem_cons.1 h with rfl | h
    · omega
    · have := edsB_mem h; omega
/-- What Do leaves. -/
def DoOut (f d j N q g : Nat) (S : DiskS) (t : ATr) (P : List EdP) (w : World) (e : Ending) (w' : World) : Prop :=
  e = .returned (.int .i64 (doP N q t.er P).1) ∧ Hid (∃ g' base' S' t', FsIs w' f d j N q g' base' S' t' ∧ t'.er.core = (doP N q t.er P).2.core ∧ (∀ b ∈ t'.foot, b ∈ t.foot ∨ w.heap.size ≤ b) ∧ S'.m = S.m ∧ S'.writes ≤ S.writes + 1000 ∧ (g' ≤ g + 1 ∧ S'.blk 1 = S.blk 1 ∧ ((doP N q t.er P).2.core = t.er.core → g' = g ∧ S' = S) ∧ ((doP N q t.er P).2.core ≠ t.er.core → g' = g + 1)) ∧ Kept [f, d, S.m, j] w w')
theorem DoOut.no {f d j N q g base : Nat} {S : DiskS} {t : ATr} {P : List EdP} {w w' : World} {c : Int} {u : PTr} (h : FsIs w f d j N q g base S t) (hk : Kept [] w w') (hp : doP N q t.er P = (c, u)) (hu : u.core = t.er.core) : DoOut f d j N q g S t P w (.returned (.int .i64 c)) w' := by
  refine ⟨by rw [hp], g, base, S, t, h.kept hk, by rw [hp, hu], fun b hb => .inl hb, rfl, by omega, ⟨by omega, rfl, fun _ => ⟨rfl, rfl⟩, fun hh => absurd (by rw [hp]; exact hu) hh⟩, hk.mono (by simp)⟩

set_option maxRecDepth 100000 in
set_option maxHeartbeats 8000000 in
theorem fDo_any (f d j N q g base : Nat) (S : DiskS) (t : ATr) (w : World) (h : FsIs w f d j N q g base S t) (ao : Option Addr) (len cap : Nat) (H : List EdH) (P : List EdP) (hA : EdArg w ao len H P) (hcnt : g < 1000 ∧ S.writes ≤ 999000) :
    Calls Tryz.prog 14 #[.pointer (some ⟨f, 0, none⟩), .slice ao len cap] w (DoOut f d j N q g S t P w) := by
  have hmf : ∀ (fn : Fn) (first cap : Array Value) (w : World), (Instr.makeFunc fn first cap).run Tryz.prog w = .ok (.func fn first cap) w := fun _ _ _ _ => rfl
  have HH := Lib.hid h
  have HAR := Lib.hid hA
  obtain ⟨gc, hgc⟩ : ∃ gc, w.heap.size = gc := ⟨_, rfl⟩
  obtain ⟨w1, hw1⟩ : ∃ w1, w.alloc (.cells #[.int .i64 0] 25) = w1 := ⟨_, rfl⟩
  have HK1 : Hid (Kept [] w w1 ∧ w1.heap[gc]? = some (.cells #[.int .i64 0] 25)) := by rw [← hw1, ← hgc]; exact ⟨Kept.alloc _ _ _, heap_alloc_last _ _⟩
  have HGC := Lib.hid hgc
  -- the way out
  have HOUT : Hid (∀ (wz : World) (n x : Int), wz.heap[gc]? = some (.cells #[.int .i64 x] 25) → DoOut f d j N q g S t P w (.returned (.int .i64 n)) (wz.setCell ⟨gc, 0, none⟩ (.int .i64 n)) → ∀ T : Array Value, T.getD 4 undef = .pointer (some ⟨gc, 0, none⟩) →
      bodyPostD Tryz.prog Tryz.f14 (DoOut f d j N q g S t P w) Exit.ret { tmps := T, defers := doorDo gc } (wz.setCell ⟨gc, 0, none⟩ (.int .i64 n))) := fun wz n x hrow hR T h4 => by
    refine do_door gc n T _ _ ?_ h4 hR
    rw [heap_setCell_same wz gc 0 _ _ _ hrow]
    rfl
  have HNO : Hid (∀ (wz : World) (c : Int) (u : PTr), Kept [] w wz → doP N q t.er P = (c, u) → u.core = t.er.core → DoOut f d j N q g S t P w (.returned (.int .i64 c)) (wz.setCell ⟨gc, 0, none⟩ (.int .i64 c))) := fun wz c u hk hp hu =>
    DoOut.no h (Kept.setNew hk _ _ (by show w.heap.size ≤ gc; omega)) hp hu
  have HTL := Lib.hid (tooLong_any H ao len cap w1 (hA.is.kept HK1.out.1 (by simp)) (fun x hx => by
    obtain ⟨k, hk, rfl⟩ := List.getElem_of_mem hx
    exact (hA.each k hk (by rw [hA.plen]; exact hk)).bytes.hle) hA.le)
  have hlong : longB H = decide (24 < P.length ∨ 2432 < edsB P) := by unfold longB; rw [EdArg.big hA.plen hA.each, hA.plen]
  have HLG := Lib.hid hlong
  have HMF := Lib.hid hcnt
  obtain ⟨lb, hlb⟩ : ∃ lb, longB H = lb := ⟨_, rfl⟩
  have HLB := Lib.hid hlb
  rw [hlb] at HTL
  have HW1 := Lib.hid hw1
  have HAO : Hid (∀ w', Kept [] w w' → EditsIs w' ao len H) := fun w' hk => hA.is.kept hk (by simp)
  clear h hA hcnt hlong hlb hw1 hgc
  go_enter_defers Tryz.func14, Tryz.ntmps14
  go_wp2_with fail
  rw [HW1.out, HGC.out]
  refine HTL.out.mono ?_
  rintro e w2 ⟨rfl, H2⟩
  have HK2 : Hid (Kept [] w w2 ∧ w2.heap[gc]? = some (.cells #[.int .i64 0] 25)) := ⟨HK1.out.1.trans H2.out, H2.out.heap (by simp) HK1.out.2⟩
  have e0 : w2.cell? ⟨gc, 0, none⟩ = some (.int .i64 0) := cell_of_row _ _ 0 _ _ _ HK2.out.2
  have fe : ∀ q, w2.frozen? ⟨gc, q, none⟩ = false := fun q => frozen_of_row _ _ q _ _ HK2.out.2
  cases lb
  case true =>
    have hp : 24 < P.length ∨ 2432 < edsB P := by have := HLG.out; rw [HLB.out] at this; exact of_decide_eq_true this.symm
    have HP : Hid (doP N q t.er P = (5, t.er)) := by show _ = _; unfold doP; rw [if_pos hp]
    clear hp
    go_wp2_with fail
    exact HOUT.out w2 5 0 HK2.out.2 (HNO.out w2 5 t.er HK2.out.1 HP.out rfl) _ rfl
  case false =>
  have hp : ¬ (24 < P.length ∨ 2432 < edsB P) := by have := HLG.out; rw [HLB.out] at this; exact of_decide_eq_false this.symm
  have HSM : Hid (P.length ≤ 24 ∧ edsB P ≤ 2432) := ⟨by omega, by omega⟩
  have HDP : Hid (doP N q t.er P = if (t.er.edits P).1 ≠ 0 then ((t.er.edits P).1, t.er) else if 64 < (t.er.edits P).2.recs.length then (44, t.er) else if (N : Int) - ((233 + q : Nat) : Int) < (t.er.edits P).2.costP then (3, t.er) else (0, (t.er.edits P).2)) := by
    show _ = _
    unfold doP
    rw [if_neg hp]
  have HFW : Hid (∀ w', Kept [] w w' → FsIs w' f d j N q g base S t) := fun w' hk => HH.out.kept hk
  have c11 : w2.cell? ⟨f, 11, none⟩ = some (.bool false) := cell_of_row _ _ 11 _ _ _ (HFW.out w2 HK2.out.1).row
  clear hp e0
  go_wp2_with fail
  refine (ftree_any f d j N q t w2 (HFW.out w2 HK2.out.1).row).mono ?_
  rintro e w3 ⟨rfl, rfl⟩
  clear c11
  have HCL := Lib.hid (nclone_any t.ht t w2 (Nat.le_refl _) (HFW.out w2 HK2.out.1).tree.ok (fine_small HH.out.st.fine) (few_of (fun s hs => by
    have h1 := (HH.out.st.set.full s.nd (List.mem_map.2 ⟨s, hs, rfl⟩)).1
    have h2 := (fine_cost (fine_all HH.out.st.fine s hs)).2.2.2
    have h1' : s.rc.blocks.length = s.cont := h1
    omega)))
  go_wp2_with fail
  refine HCL.out.mono ?_
  rintro e w3 ⟨c, rfl, H3⟩
  obtain ⟨b0, hb0⟩ : ∃ b0, w2.heap.size = b0 := ⟨_, rfl⟩
  have HB0 := Lib.hid hb0
  rw [hb0] at H3
  obtain ⟨ca, hca⟩ : ∃ ca, c.addr = ca := ⟨_, rfl⟩
  rw [hca]
  obtain ⟨n, hn⟩ : ∃ n, P.length = n := ⟨_, rfl⟩
  have HN := Lib.hid hn
  have HLN : Hid (len = n) := by show _ = _; rw [← hn, HAR.out.plen, HAR.out.is.1]
  have hn24 : n ≤ 24 := by rw [← hn]; exact HSM.out.1
  have H0 : Hid (∃ u, MTr b0 w3 u ∧ u.addr = ca ∧ u.er = (t.er.plain.edits (P.take 0)).2 ∧ (t.er.plain.edits (P.take 0)).1 = 0 ∧ Kept [] w2 w3) := ⟨c, H3.out.2.1, hca, by rw [H3.out.2.2]; rfl, rfl, H3.out.1⟩
  have hlen : len = n := HLN.out
  subst hlen
  clear hb0 hca hn H3 HCL
  go_wp2_with fail
  go_loopw [35] (fun i wr => ∃ k : Nat, k ≤ len ∧ i = .int .i64 k ∧ Hid (∃ u, MTr b0 wr u ∧ u.addr = ca ∧ u.er = (t.er.plain.edits (P.take k)).2 ∧ (t.er.plain.edits (P.take k)).1 = 0 ∧ Kept [] w2 wr)) (fun i _ => len - (intOf i).toNat)
  case atStart => exact ⟨0, by omega, rfl, H0.out⟩
  case round =>
    clear H0
    obtain ⟨k, hk, rfl, HS⟩ := hrel
    obtain ⟨u, hM, hua, her, hcode, hkw⟩ := HS.out
    have hkw0 : Kept [] w wr := HK2.out.1.trans hkw
    have HKW0 := Lib.hid hkw0
    have hall := edits_all (P.take k) t.er.plain (plain_fine HH.out.st.fine) (by
      have := HH.out.st.root.2
      obtain ⟨a, m, va, vb, r, ks⟩ := t
      exact this) (fun x hx hk1 => by
        have h1 := edsB_mem (List.mem_of_mem_take hx)
        have h2 := HSM.out.2
        unfold edB at h1
        rw [if_pos hk1] at h1
        omega)
    rw [← her] at hall
    have HA2 := Lib.hid hall
    have HMT := Lib.hid (And.intro hM (And.intro hua (And.intro her (And.intro hcode hkw))))
    have hrow0 : wr.heap[gc]? = some (.cells #[.int .i64 0] 25) := hkw.heap (by simp) HK2.out.2
    have HROW0 := Lib.hid hrow0
    have HGB : Hid (gc < b0 ∧ w.heap.size ≤ b0 ∧ b0 ≤ wr.heap.size) := by
      have h1 := (Array.getElem?_eq_some_iff.1 HK2.out.2).1
      have h2 := HK2.out.1.size
      have h3 := hkw.size
      have h4 := HB0.out
      exact ⟨by omega, by omega, by omega⟩
    by_cases hlt : k < len
    · have hkH : k < H.length := by rw [HAR.out.is.1]; exact hlt
      have hkP : k < P.length := by rw [HN.out]; exact hlt
      obtain ⟨b, o, rfl, q0, q1, q2, q3⟩ := (HAO.out wr hkw0).at hkH
      have he := HAR.out.each k hkH hkP
      obtain ⟨x, hx⟩ : ∃ x, H[k] = x := ⟨_, rfl⟩
      obtain ⟨y, hy⟩ : ∃ y, P[k] = y := ⟨_, rfl⟩
      rw [hx, hy] at he
      rw [hx] at q0 q1 q2 q3
      have hyP : y ∈ P := by rw [← hy]; exact List.getElem_mem hkP
      obtain ⟨w4, hw4⟩ : ∃ w4, wr.alloc (.cells #[.int .i64 x.kind, .string (strL x.path), .int .i64 x.mode, .slice x.ao x.len x.cap] 35) = w4 := ⟨_, rfl⟩
      have hk4 : Kept [] wr w4 := by rw [← hw4]; exact Kept.alloc _ _ _
      have hr4 : w4.heap[wr.heap.size]? = some (.cells #[.int .i64 x.kind, .string (strL x.path), .int .i64 x.mode, .slice x.ao x.len x.cap] 35) := by rw [← hw4]; exact heap_alloc_last _ _
      have hM4 : MTr b0 w4 u := hM.frame hk4 (by simp)
      have HED := Lib.hid (nedit_any b0 u x.kind x.mode x.path x.ao x.len x.cap y.bytes w4 hM4 (fine_sm hall.1) ⟨(he.bytes.kept hkw0).kept hk4, fun h0 b' o' hb => by have := he.old h0 b' o' hb; have := HGB.out.2.1; omega⟩ (fun hk1 => by
        have h1 := edsB_mem hyP
        have h2 := HSM.out.2
        unfold edB at h1
        rw [he.kind, if_pos hk1] at h1
        rw [← he.bytes.hlen]
        omega) (by have := HGB.out.2.2; have := hk4.size; omega) he.plen)
      have HNX : Hid (t.er.plain.edits (P.take (k + 1)) = u.er.edit x.kind x.mode x.path y.bytes) := by
        show _ = _
        rw [List.take_succ_eq_append_getElem hkP, edits_snoc, if_pos hcode, ← her, hy, he.kind, he.mode, he.path]
      have HK4 := Lib.hid (And.intro hk4 hM4)
      have z0 : w4.cell? ⟨wr.heap.size, 0, none⟩ = some (.int .i64 x.kind) := cell_of_row _ _ 0 _ _ _ hr4
      have z1 : w4.cell? ⟨wr.heap.size, 1, none⟩ = some (.string (strL x.path)) := cell_of_row _ _ 1 _ _ _ hr4
      have z2 : w4.cell? ⟨wr.heap.size, 2, none⟩ = some (.int .i64 x.mode) := cell_of_row _ _ 2 _ _ _ hr4
      have z3 : w4.cell? ⟨wr.heap.size, 3, none⟩ = some (.slice x.ao x.len x.cap) := cell_of_row _ _ 3 _ _ _ hr4
      unfold editV at HED
      rw [hua] at HED
      have HPP := Lib.hid hkP
      clear hall hM hua her hcode hkw hkw0 hrow0 hkH hkP he hx hy hyP hk4 hr4 hM4 HS
      go_wp2_with fail
      refine HED.out.mono ?_
      rintro e w5 ⟨cc, u', rfl, T, hcu⟩
      have HT := Lib.hid (And.intro T hcu)
      have hk5 : Kept [] w2 w5 := (HMT.out.2.2.2.2.trans HK4.out.1).into T.kept (fun q hq => by have := (foot_mem HK4.out.2.ok HK4.out.2.own q hq).1; have := HB0.out; omega)
      have HK5 := Lib.hid hk5
      have hrow5 : w5.heap[gc]? = some (.cells #[.int .i64 0] 25) := hk5.heap (by simp) HK2.out.2
      have HROW5 := Lib.hid hrow5
      by_cases hcc : cc = 0
      · have HN1 : Hid (∃ u, MTr b0 w5 u ∧ u.addr = ca ∧ u.er = (t.er.plain.edits (P.take (k + 1))).2 ∧ (t.er.plain.edits (P.take (k + 1))).1 = 0 ∧ Kept [] w2 w5) := by
          refine ⟨u', T.m, by rw [T.addr]; exact HMT.out.2.1, ?_, ?_, hk5⟩
          · rw [HNX.out, ← hcu]
          · rw [HNX.out, ← hcu]; exact hcc
        subst hcc
        clear T hcu hk5 hrow5 z0 z1 z2 z3
        go_wp2_with fail
        go_roundw
        case rel => exact ⟨k + 1, by omega, by go_num, HN1.out⟩
        case measure => simp [intOf]; omega
      · have hcb : (cc != 0) = true := by simpa using hcc
        have HP : Hid (doP N q t.er P = (cc, t.er)) := by
          show _ = _
          rw [HDP.out]
          have h1 : (t.er.plain.edits (P.take (k + 1))).1 = cc := by rw [HNX.out, ← hcu]
          have h2 : t.er.plain.edits P = t.er.plain.edits (P.take (k + 1)) := by
            conv => lhs; rw [← List.take_append_drop (k + 1) P]
            exact edits_stop _ _ _ (by rw [h1]; exact hcc)
          have h3 := (edits_congr P (plain_core t.er)).1
          rw [h2, h1] at h3
          rw [if_pos (by rw [← h3]; exact hcc), ← h3]
        have e0 : w5.cell? ⟨gc, 0, none⟩ = some (.int .i64 0) := cell_of_row _ _ 0 _ _ _ hrow5
        have fe5 : ∀ q, w5.frozen? ⟨gc, q, none⟩ = false := fun q => frozen_of_row _ _ q _ _ hrow5
        clear T hcu hk5 hrow5 hcc z0 z1 z2 z3
        go_wp2_with fail
        exact HOUT.out w5 cc 0 HROW5.out (HNO.out w5 cc t.er (HK2.out.1.trans HK5.out) HP.out rfl) _ rfl
    · obtain rfl : k = len := by omega
      have htk : P.take k = P := by rw [← HN.out, List.take_length]
      rw [htk] at HMT HA2
      obtain ⟨fi, hfi⟩ : ∃ fi, fitI u N ((233 + q : Nat) : Int) 64 = fi := ⟨_, rfl⟩
      have hok := HH.out.ok
      have hall64 : ∀ s ∈ u.all, True := fun _ _ => trivial
      have hfs := HFW.out wr hkw0
      have hal : u.all.length ≤ 100000 := by
        have h1 := edits_cnt P t.er.plain
        rw [← HMT.out.2.2.1, recs_len, recs_core (plain_core t.er), recs_len] at h1
        have := HH.out.st.len
        have := HSM.out.1
        omega
      have hft := bfits_any u wr N 0 1 2 201 ((201 + q : Nat) : Int) ((233 + q : Nat) : Int) 64 hM.ok (fine_small (t := u) HA2.out.1) hal ⟨by omega, by have := hok.hi; omega⟩ ⟨by omega, by have := hok.q; omega⟩
      rw [hfi] at hft
      unfold layW at hft
      rw [hua] at hft
      have HFT := Lib.hid hft
      have hrowf := hfs.row
      unfold fsRow at hrowf
      obtain ⟨D, hD⟩ : ∃ D : Int, ((233 + q : Nat) : Int) = D := ⟨_, rfl⟩
      obtain ⟨E, hE⟩ : ∃ E : Int, ((201 + q : Nat) : Int) = E := ⟨_, rfl⟩
      have HDE := Lib.hid (And.intro hD hE)
      rw [hD, hE] at hrowf HFT
      obtain ⟨ta, hta⟩ : ∃ ta, t.addr = ta := ⟨_, rfl⟩
      have HTA := Lib.hid hta
      rw [hta] at hrowf
      have HRF := Lib.hid hrowf
      have c1 : wr.cell? ⟨f, 1, none⟩ = some (.int .i64 N) := cell_of_row _ _ 1 _ _ _ hrowf
      have c2 : wr.cell? ⟨f, 2, none⟩ = some (.int .i64 0) := cell_of_row _ _ 2 _ _ _ hrowf
      have c3 : wr.cell? ⟨f, 3, none⟩ = some (.int .i64 1) := cell_of_row _ _ 3 _ _ _ hrowf
      have c4 : wr.cell? ⟨f, 4, none⟩ = some (.int .i64 2) := cell_of_row _ _ 4 _ _ _ hrowf
      have c5 : wr.cell? ⟨f, 5, none⟩ = some (.int .i64 201) := cell_of_row _ _ 5 _ _ _ hrowf
      have c6 : wr.cell? ⟨f, 6, none⟩ = some (.int .i64 E) := cell_of_row _ _ 6 _ _ _ hrowf
      have c7 : wr.cell? ⟨f, 7, none⟩ = some (.int .i64 D) := cell_of_row _ _ 7 _ _ _ hrowf
      have c8 : wr.cell? ⟨f, 8, none⟩ = some (.int .i64 64) := cell_of_row _ _ 8 _ _ _ hrowf
      have hsame := edits_congr P (plain_core t.er)
      have hcz : (t.er.edits P).1 = 0 := by rw [← hsame.1]; exact HMT.out.2.2.2.1
      have hrl : (t.er.edits P).2.recs.length = u.all.length := by rw [← recs_core hsame.2, ← HMT.out.2.2.1, recs_len]
      have hcl : (t.er.edits P).2.costP = costL u.all := by rw [← costP_core hsame.2, ← HMT.out.2.2.1, cost_er]
      have hcore : u.er.core = (t.er.edits P).2.core := by rw [HMT.out.2.2.1]; exact hsame.2
      have HD2 : Hid (doP N q t.er P = if fi = 0 then (0, (t.er.edits P).2) else (fi, t.er)) := by
        show _ = _
        rw [HDP.out, if_neg (by rw [hcz]; exact fun h => h rfl), hrl, hcl, ← hfi]
        by_cases h1 : 64 < u.all.length
        · have e : fitI u N ((233 + q : Nat) : Int) 64 = 44 := by unfold fitI; rw [if_pos (by omega)]
          rw [if_pos h1, e]
          rfl
        · rw [if_neg h1]
          by_cases h2 : (N : Int) - ((233 + q : Nat) : Int) < costL u.all
          · have e : fitI u N ((233 + q : Nat) : Int) 64 = 3 := by unfold fitI; rw [if_neg (by omega), if_pos h2]
            rw [if_pos h2, e]
            rfl
          · have e : fitI u N ((233 + q : Nat) : Int) 64 = 0 := by unfold fitI; rw [if_neg (by omega), if_neg h2]
            rw [if_neg h2, e]
            rfl
      have HFI : Hid (fi = 0 → u.all.length ≤ 64 ∧ costL u.all ≤ (N : Int) - ((233 + q : Nat) : Int)) := fun h0 => by
        rw [← hfi] at h0
        unfold fitI at h0
        split at h0
        · omega
        · split at h0
          · omega
          · exact ⟨by omega, by omega⟩
      have HCORE := Lib.hid hcore
      clear hall hM hua her hcode hkw hkw0 hrow0 htk hfi hok hall64 hfs hal hft hrowf hD hE hta hsame hcz hrl hcl hcore HS hlt
      go_wp2_with fail
      refine HFT.out.mono ?_
      rintro e w5 ⟨rfl, H5⟩
      have hk5 : Kept [] w2 w5 := HMT.out.2.2.2.2.trans H5.out
      have HK5 := Lib.hid hk5
      have hrow5 : w5.heap[gc]? = some (.cells #[.int .i64 0] 25) := hk5.heap (by simp) HK2.out.2
      have HROW5 := Lib.hid hrow5
      have e0 : w5.cell? ⟨gc, 0, none⟩ = some (.int .i64 0) := cell_of_row _ _ 0 _ _ _ hrow5
      have fe5 : ∀ q, w5.frozen? ⟨gc, q, none⟩ = false := fun q => frozen_of_row _ _ q _ _ hrow5
      clear c1 c2 c3 c4 c5 c6 c7 c8 hk5 hrow5
      by_cases hf0 : fi = 0
      case neg =>
        have hfb : (fi != 0) = true := by simpa using hf0
        have HP : Hid (doP N q t.er P = (fi, t.er)) := by show _ = _; rw [HD2.out, if_neg hf0]
        clear hf0
        go_wp2_with fail
        exact HOUT.out w5 fi 0 HROW5.out (HNO.out w5 fi t.er (HK2.out.1.trans HK5.out) HP.out rfl) _ rfl
      have HP : Hid (doP N q t.er P = (0, (t.er.edits P).2)) := by show _ = _; rw [HD2.out, if_pos hf0]
      have HF2 := Lib.hid (HFI.out hf0)
      subst hf0
      have c10 : w5.cell? ⟨f, 10, none⟩ = some (.pointer (some ⟨ta, 0, none⟩)) := cell_of_row _ _ 10 _ _ _ (H5.out.heap (by simp) HRF.out)
      have hfs5 := HFW.out w5 (HK2.out.1.trans HK5.out)
      have hM5 : MTr b0 w5 u := HMT.out.1.frame H5.out (by simp)
      have HFS5 := Lib.hid (And.intro hfs5 hM5)
      have hsm := bsame_any (max t.ht u.ht) t u w5 (Nat.le_max_left _ _) hfs5.tree.ok hM5.ok (fine_small HH.out.st.fine) (fine_small (t := u) HA2.out.1)
      rw [HTA.out, HMT.out.2.1] at hsm
      have HSAME := Lib.hid hsm
      clear hfs5 hM5 hsm
      go_wp2_with fail
      refine HSAME.out.mono ?_
      rintro e w6 ⟨bb, rfl, H6⟩
      have hk6 : Kept [] w2 w6 := HK5.out.trans H6.out.2
      have HK6 := Lib.hid hk6
      have hrow6 : w6.heap[gc]? = some (.cells #[.int .i64 0] 25) := hk6.heap (by simp) HK2.out.2
      have HROW6 := Lib.hid hrow6
      clear e0 fe5 c10
      have e0 : w6.cell? ⟨gc, 0, none⟩ = some (.int .i64 0) := cell_of_row _ _ 0 _ _ _ hrow6
      have fe6 : ∀ q, w6.frozen? ⟨gc, q, none⟩ = false := fun q => frozen_of_row _ _ q _ _ hrow6
      clear hk6 hrow6
      cases bb
      case true =>
        have HEQ : Hid ((t.er.edits P).2.core = t.er.core) := by
          show _ = _
          rw [← HCORE.out]
          exact (H6.out.1.1 rfl).symm
        go_wp2_with fail
        exact HOUT.out w6 0 0 HROW6.out (HNO.out w6 0 _ (HK2.out.1.trans HK6.out) HP.out HEQ.out) _ rfl
      case false =>
        have HNEQ : Hid ((t.er.edits P).2.core ≠ t.er.core) := fun hh => by
          have h1 := H6.out.1.2 (by rw [HCORE.out, hh])
          cases h1
        have hk26 : Kept [] w w6 := HK2.out.1.trans HK6.out
        have hfs6 := HFW.out w6 hk26
        have hM6 : MTr b0 w6 u := HFS5.out.2.frame H6.out.2 (by simp)
        have hrt : t.er.plain.rc.slot = 0 := by
          have := HH.out.st.root.1
          obtain ⟨a, m, va, vb, r, ks⟩ := t
          exact this
        have hcnt := HMF.out
        have HTU := Lib.hid (fturn_any f d j N q g base b0 S t u w6 hfs6 hM6 (by have := HGB.out.2.2; have := (H5.out.trans H6.out.2).size; omega) (by
          have h1 := HGB.out.2.1
          have hd := (Array.getElem?_eq_some_iff.1 HH.out.jl.live.disk.here).1
          have hj := HH.out.jl.jour.lt
          have hm := HH.out.jl.live.disk.map.lt
          have hf := (Array.getElem?_eq_some_iff.1 HH.out.row).1
          exact ⟨by omega, by omega, by omega, by omega⟩) (fun b hb => by
          have := (foot_mem HH.out.tree.ok HH.out.tree.own b hb).2.1
          have := HGB.out.2.1
          omega) HA2.out.1 (by rw [← er_rc]; exact HA2.out.2.1) (pre_of HH.out.st.set hM6 (by rw [← er_rc, HA2.out.2.2.1]; exact hrt)
            (by rw [nds_slotsR]; exact HA2.out.2.2.2.1.trans (plain_al t.er).slots) (by rw [nds_blksR]; exact HA2.out.2.2.2.2.1.trans (plain_al t.er).blks)) (fun n hn => by
          have h1 : n.rc ∈ u.er.recs := by rw [← nds_recs]; exact List.mem_map.2 ⟨n, hn, rfl⟩
          rw [HMT.out.2.2.1] at h1
          refine edits_few 1000 P t.er.plain (fun r hr => ?_) n.rc h1
          refine (plain_al t.er).few 1000 (fun r hr => ?_) r hr
          rw [← nds_recs] at hr
          obtain ⟨x, hx, rfl⟩ := List.mem_map.1 hr
          have h2 := (HH.out.st.set.full x hx).1
          obtain ⟨s, hs, rfl⟩ := List.mem_map.1 hx
          have h3 := (fine_cost (fine_all HH.out.st.fine s hs)).2.2.2
          have h2' : s.nd.rc.blocks.length = s.cont := h2
          omega) HF2.out.1 (by
          have := HF2.out.2
          have := HH.out.st.set.low
          omega) (by have h1 := HA2.out.2.2.2.2.2.1; have h2 := (plain_mu t.er).1; have := HSM.out.1; omega) (by have h1 := HA2.out.2.2.2.2.2.2.1; have h2 := (plain_mu t.er).2.1; have := HSM.out.1; omega)
          (by have h1 := HA2.out.2.2.2.2.2.2.2; have h2 := (plain_mu t.er).2.2; have := HSM.out.2; omega) hcnt)
        rw [HMT.out.2.1] at HTU
        have HM6 := Lib.hid (And.intro hM6 hk26)
        clear hk26 hfs6 hM6 hrt hcnt e0 fe6
        go_wp2_with fail
        refine HTU.out.mono ?_
        rintro e w7 ⟨rfl, H7⟩
        obtain ⟨u', S', hfs7, hcore, hSm, hSw, hS1, hk7⟩ := H7.out
        have hgx : gc ∉ [f, d, S.m, j] ++ u.foot := fun hh => by
          rcases List.mem_append.1 hh with h1 | h1
          · have hd := (Array.getElem?_eq_some_iff.1 HH.out.jl.live.disk.here).1
            have hj := HH.out.jl.jour.lt
            have hm := HH.out.jl.live.disk.map.lt
            have hf := (Array.getElem?_eq_some_iff.1 HH.out.row).1
            have hg := HGC.out
            simp only [List.mem_cons, List.not_mem_nil, or_false] at h1
            rcases h1 with h1 | h1 | h1 | h1 <;> omega
          · have := (foot_mem HM6.out.1.ok HM6.out.1.own gc h1).1
            have := HGB.out.1
            omega
        have hrow7 : w7.heap[gc]? = some (.cells #[.int .i64 0] 25) := hk7.heap hgx HROW6.out
        have HDO : Hid (DoOut f d j N q g S t P w (.returned (.int .i64 0)) (w7.setCell ⟨gc, 0, none⟩ (.int .i64 0))) := by
          refine ⟨by rw [HP.out], g + 1, b0, S', u', ?_, ?_, ?_, hSm, hSw, ⟨Nat.le_refl _, hS1, fun hh => absurd hh (by rw [HP.out]; exact HNEQ.out), fun _ => rfl⟩, ?_⟩
          · refine hfs7.keptX (Kept.setCell [gc] _ _ _ (by simp)) (fun b hb => ?_)
            obtain rfl : b = gc := by simpa using hb
            refine ⟨fun cs fr hh => ?_, fun hh => ?_, fun hh => hgx (List.mem_append.2 (.inl ?_))⟩
            · rw [hrow7] at hh
              injection hh with hh
              injection hh with _ hh
              cases hh
            · have := (foot_mem hfs7.tree.ok hfs7.tree.own b hh).1
              have := HGB.out.1
              omega
            · rw [← hSm]; exact hh
          · rw [HP.out, hcore, HCORE.out]
          · intro b hb
            right
            have := (foot_mem hfs7.tree.ok hfs7.tree.own b hb).1
            have := HGB.out.2.1
            omega
          · refine (HM6.out.2.mono (by simp)).andThen ?_ (fun b hb => ?_) (ex' := ([f, d, S.m, j] ++ u.foot) ++ [gc])
            · exact (hk7.mono (fun b hb _ => List.mem_append.2 (.inl hb))).trans ((Kept.setCell [gc] _ _ _ (by simp)).mono (fun b hb _ => List.mem_append.2 (.inr hb)))
            · rcases List.mem_append.1 hb with hb | hb
              · rcases List.mem_append.1 hb with hb | hb
                · exact .inl hb
                · have := (foot_mem HM6.out.1.ok HM6.out.1.own b hb).1
                  have := HGB.out.2.1
                  exact .inr (by omega)
              · obtain rfl : b = gc := by simpa using hb
                have := HGC.out
                exact .inr (by omega)
        have HROW7 := Lib.hid hrow7
        have e0 : w7.cell? ⟨gc, 0, none⟩ = some (.int .i64 0) := cell_of_row _ _ 0 _ _ _ hrow7
        have fe7 : ∀ q, w7.frozen? ⟨gc, q, none⟩ = false := fun q => frozen_of_row _ _ q _ _ hrow7
        clear hfs7 hcore hSm hSw hS1 hk7 hgx hrow7
        go_wp2_with fail
        exact HOUT.out w7 0 0 HROW7.out HDO.out _ rfl
end Go.Proofs.YtiedoocgbajjjaaGreatDoor

/-
  Layer 12: a parser's nodes as nodes that are read; what Parse answers.
  Conditions: those that each theorem states.
  Layer 12: the document's Depth.
  Conditions: those that the theorem states.
  Layer 12: the document's parser in memory: it goes on behind a word that can't be, and does nothing any more.
  Conditions: those that each theorem states.
  Layer 12: the document's parser: is, sign, key.
  Conditions: those that each theorem states.
-/
import Derived.Test.YtfpdgdacifiejaaGreatVPar
import Derived.Test.YtfpdgdacifiejaaGreatVDepP
import Derived.Test.YtfpdgdacifiejaaGreatULex
import Derived.Test.YtfpdgdacifiejaaGreatWVal
import Derived.BigQuiet
namespace Go.Proofs.YtfpdgdacifiejaaGreat
open Go.RowKit Go.Maps

theorem NdsIs.low {c : PCx} {A ex : List Nat} {w w' : World} {v : Value} {ns : List Nod} (h : NdsIs c A w v ns) (hk : Kept ex w w') (hx : ∀ q ∈ ex, q ≤ c.g) : NdsIs c [] w' v ns := by
  obtain ⟨L, hL, ho, hv, hl⟩ := h.out
  refine ⟨⟨L, hL, owns_kept ho hk (fun q hq hm => ?_), by simp, fun x hxL => ⟨(hl x hxL).1.keptX hk (fun q hq hm => ?_), by simp⟩⟩⟩
  · have := (ho.lt q hq).1; have := hx q hm; omega
  · have := ((hl x hxL).1.blk q hq).1; have := hx q hm; omega
theorem NdsIs.nd {c : PCx} {A : List Nat} {w : World} {v : Value} {ns : List Nod} (h : NdsIs c A w v ns) : NdIs w v ns := by
  obtain ⟨L, hL, ho, hv, hl⟩ := h.out
  have hlen : L.length = ns.length := by rw [← hL]; simp
  obtain ⟨h1, ⟨rfl, h2⟩ | ⟨g, cap, cur, rfl, hb, hg, hc1, hc2, hcs, htk⟩⟩ := ho
  · refine ⟨none, 0, by rw [← hlen, h2], by omega, by omega, fun h0 => by omega⟩
  · refine ⟨_, cap, by rw [hlen], by omega, by unfold maxLen at hc2; omega, fun h0 => ⟨g, 0, rfl, (Array.getElem?_eq_some_iff.1 hg).1, fun k hk => ?_⟩⟩
    have hkL : k < L.length := by omega
    have hget : ∀ q u, (ndcv L)[q]? = some u → w.cell? ⟨g, 0 + q, none⟩ = some u := fun q u hu => by
      rw [← htk] at hu
      have hq : q < L.length * 3 := by
        have := (List.getElem?_eq_some_iff.1 hu).1
        simp at this; omega
      rw [List.getElem?_take_of_lt hq] at hu
      rw [Nat.zero_add, cell_of_row w g q _ _ _ hg]
      simpa using hu
    obtain ⟨e0, e1, e2⟩ := ndcv_get L k hkL
    have hx : L[k].1 = ns[k] := by
      have : (L.map (·.1))[k]? = ns[k]? := by rw [hL]
      rw [List.getElem?_eq_getElem (by simp; omega), List.getElem?_eq_getElem hk] at this
      simpa using this
    have f0 := hget _ _ e0
    have f1 := hget _ _ e1
    have f2 := hget _ _ e2
    rw [hx] at f0 f1
    rw [show 0 + 3 * k = 0 + k * 3 by omega] at f0
    rw [show 0 + (3 * k + 1) = 0 + k * 3 + 1 by omega] at f1
    rw [show 0 + (3 * k + 2) = 0 + k * 3 + 2 by omega] at f2
    refine ⟨f0, f1, _, f2, ?_⟩
    have := (hl L[k] (List.getElem_mem hkL)).1.ks
    rwa [hx] at this
theorem NdsIs.val {c : PCx} {A : List Nat} {w : World} {v : Value} {ns : List Nod} (h : NdsIs c A w v ns) : ∃ ao cap, v = .slice ao ns.length cap := by
  obtain ⟨ao, cap, e, _⟩ := h.nd
  exact ⟨ao, cap, e⟩
theorem NdsIs.nil (c : PCx) (A : List Nat) (w : World) : NdsIs c A w (.slice none 0 0) [] := ⟨⟨[], rfl, World.ownsRow_nil w _ _ 3, (fun q hq => by cases hq), (fun x hx => by cases hx)⟩⟩
theorem NdIs.nil (w : World) : NdIs w (.slice none 0 0) [] := ⟨none, 0, rfl, by simp, by omega, fun h => by simp at h⟩

theorem ParOut.mk {l : List Tok} {ns : List Nod} {a e : Nat} {w w' : World} {v : Value} (h : parO l = (ns, a, e)) (hn : NdIs w' v ns) (hk : Kept [] w w') : ParOut l w (.returned (.tuple #[.agg #[v], .int .i64 (a : Int), .int .i64 (e : Int)])) w' := by
  refine ⟨v, ?_, ?_, hk⟩
  · rw [h]
  · rw [h]
    exact hn
end Go.Proofs.YtfpdgdacifiejaaGreat

namespace Go.Proofs.YtfpdgdacifiejaaGreat
open Go.RowKit Go.Maps

set_option maxRecDepth 100000 in
set_option maxHeartbeats 8000000 in
theorem zDepth_any (v : Value) (ns : List Nod) (N : Nat) (w : World) (hl : ns.length = N) (hp : 0 < N) (hn : N ≤ 5001) (hkid : ∀ i (hi : i < ns.length), ∀ x ∈ ns[i].ks, x < i) (h : NdIs w v ns) :
    Calls Tryz.prog 55 #[v] w fun e w' => e = .returned (.int .i64 (depN ns : Int)) ∧ Kept [] w w' := by
  obtain ⟨ao, cap, rfl, hcap, hc63, hcell⟩ := h
  rw [hl] at hcap ⊢
  obtain ⟨b, o, rfl, hb, hc⟩ := hcell (by omega)
  obtain ⟨w1, hw1⟩ : ∃ w1, w.alloc (.cells (nvA (List.replicate N 0)) 3) = w1 := ⟨_, rfl⟩
  have hmk := run_make_ints (P := Tryz.prog) w 39 3 Tryz.underlying39 (by kernel_rfl) N (by omega)
  rw [hw1] at hmk
  have H1 : Hid (DpSt w w.heap.size (List.replicate N 0) w1) := ⟨by rw [← hw1]; exact heap_alloc_last _ _, by rw [← hw1]; exact Kept.alloc _ _ _, Nat.le_refl _⟩
  obtain ⟨gd, hgd⟩ : ∃ g, w.heap.size = g := ⟨_, rfl⟩
  rw [hgd] at hmk H1
  have HC := Lib.hid (And.intro hb hc)
  have HKD := Lib.hid hkid
  have HDL : Hid (∀ i, i ≤ N → (depsN (ns.take i) []).length = i) := fun i hi => by rw [depsN_len]; simp; omega
  have HN := Lib.hid hl
  clear hc hl hkid hw1 hgd hb hcell hp
  go_enter Tryz.func55, Tryz.ntmps55
  go_wp2_with fail
  go_loopw [4, 5] (fun sm si wr => ∃ i : Nat, si = .int .i64 i ∧ i ≤ N ∧ sm = .int .i64 (((depsN (ns.take i) []).foldl max 0 : Nat) : Int) ∧ Hid (DpSt w gd (depsN (ns.take i) [] ++ List.replicate (N - i) 0) wr)) (fun _ si _ => N - (intOf si).toNat)
  case atStart => exact ⟨0, rfl, by omega, by simp [depsN], Lib.hid (by simpa [depsN] using H1.out)⟩
  case round =>
    obtain ⟨i, rfl, hi, rfl, HS⟩ := hrel
    clear H1 hmk
    by_cases hlt : i < N
    · have hil : i < ns.length := by have := HN.out; omega
      obtain ⟨e0, e1, lv, e2, hks⟩ := HC.out.2 i hil
      have HDi := Lib.hid (depsN_take ns i hil)
      have HKi := Lib.hid (HKD.out i hil)
      obtain ⟨nd, hnd⟩ : ∃ nd, ns[i] = nd := ⟨_, rfl⟩
      rw [hnd] at hks HDi HKi
      obtain ⟨la, lc, rfl, hlc, hl63, hlat⟩ := hks
      have HLAT := Lib.hid hlat
      obtain ⟨m, hm⟩ : ∃ m, nd.ks.length = m := ⟨_, rfl⟩
      have HM := Lib.hid hm
      rw [hm] at e2 hlc
      have HE2 := Lib.hid e2
      obtain ⟨pre, hpre⟩ : ∃ pre, depsN (ns.take i) [] = pre := ⟨_, rfl⟩
      have HPR2 := Lib.hid hpre
      have HPRE : Hid (pre.length = i) := by rw [← hpre]; exact HDL.out i hi
      rw [hpre] at HS HDi ⊢
      have hz : N - i = (N - i - 1) + 1 := by omega
      rw [hz, List.replicate_succ] at HS
      obtain ⟨mo, hmo⟩ : ∃ mo, pre.foldl max 0 = mo := ⟨_, rfl⟩
      rw [hmo]
      have HMO := Lib.hid hmo
      have hpl := HPRE.out
      have zz : wr.cell? ⟨gd, i, none⟩ = some (.int .i64 ((0 : Nat) : Int)) := by
        rw [HS.out.cell i (by simp; omega)]
        simp [List.getElem_append_right, hpl]
      have ff : ∀ q, wr.frozen? ⟨gd, q, none⟩ = false := fun q => frozen_of_row _ _ q _ _ HS.out.row
      obtain ⟨w2, hw2⟩ : ∃ w2, wr.setCell ⟨gd, i, none⟩ (.int .i64 1) = w2 := ⟨_, rfl⟩
      have H2 : Hid (DpSt w gd (pre ++ 1 :: List.replicate (N - i - 1) 0) w2) := by
        have := HS.out.set i 1
        rw [List.set_append_right _ _ (by omega), hpl, Nat.sub_self, List.set_cons_zero] at this
        rw [← hw2]
        exact this
      clear e0 e1 e2 hnd hlat hm hpre hz hmo hpl
      go_wp2_with fail
      clear zz ff hw2
      go_loopw [6] (fun sk wx => ∃ k : Nat, sk = .int .i64 k ∧ k ≤ m ∧ Hid (DpSt w gd (pre ++ (((nd.ks.take k).map fun x => pre.getD x 0).foldl max 0 + 1) :: List.replicate (N - i - 1) 0) wx)) (fun sk _ => m - (intOf sk).toNat)
      case atStart => exact ⟨0, rfl, by omega, Lib.hid (by simpa using H2.out)⟩
      case round =>
        obtain ⟨k, rfl, hk, HQ⟩ := hrel
        clear H2
        have HZB : Hid (((nd.ks.take k).map fun x => pre.getD x 0).foldl max 0 ≤ 5001) := by
          show _ ≤ _
          have h1 := dpF_le (x := ⟨0, [], nd.ks.take k⟩) (d := pre) (n := 5000) (fun y hy => by
            have h2 := depsN_le (ns.take i) [] (by simp) y (by rw [HPR2.out]; exact hy)
            have := HPRE.out
            simp at h2
            omega)
          unfold dpF at h1
          simp only at h1
          omega
        obtain ⟨z, hz⟩ : ∃ z, ((nd.ks.take k).map fun x => pre.getD x 0).foldl max 0 = z := ⟨_, rfl⟩
        have f2 := (HQ.out.kept.cell (p := ⟨b, o + i * 3 + 2, none⟩) HC.out.1 (by simp)).trans HE2.out
        by_cases hkm : k < m
        · have hkl : k < nd.ks.length := by rw [HM.out]; exact hkm
          obtain ⟨b2, o2, rfl, hb2, hc2⟩ := HLAT.out (by omega)
          have y0 := hc2 k hkl
          have HX := Lib.hid (HKi.out _ (List.getElem_mem hkl))
          have HNX : Hid (((nd.ks.take (k + 1)).map fun x => pre.getD x 0).foldl max 0 = max z (pre.getD nd.ks[k] 0)) := by
            show _ = _
            rw [List.take_add_one, List.getElem?_eq_getElem hkl, Option.toList_some, List.map_append, List.map_singleton, foldl_snoc, hz]
          obtain ⟨x, hx⟩ : ∃ x, nd.ks[k] = x := ⟨_, rfl⟩
          rw [hx] at y0 HX HNX
          rw [hz] at HQ HZB
          have hxi := HX.out
          have hxN : x < N := by omega
          obtain ⟨y, hy⟩ : ∃ y, pre.getD x 0 = y := ⟨_, rfl⟩
          rw [hy] at HNX
          have hyb : y ≤ 5001 := by
            rw [← hy, List.getD_eq_getElem?_getD]
            cases hq : pre[x]? with
            | none => exact Nat.zero_le _
            | some u =>
              have h2 := depsN_le (ns.take i) [] (by simp) u (by rw [HPR2.out]; exact List.mem_of_getElem? hq)
              have := HPRE.out
              simp at h2
              show u ≤ _
              omega
          obtain ⟨mx, hmx⟩ : ∃ mx, max z y = mx := ⟨_, rfl⟩
          rw [hmx] at HNX
          have hmi : max ((z : Int) + 1) ((y : Int) + 1) = (mx : Int) + 1 := by omega
          have hwy : IntKind.i64.wrap ((y : Int) + 1) = (y : Int) + 1 := by rw [IntKind.wrap_i64]; omega
          have HROW := Lib.hid HQ.out
          have hpl := HPRE.out
          have HBB := Lib.hid (And.intro hb2 y0)
          have z0 : ∀ w', Kept [] wr.drew w' → w'.cell? ⟨gd, i, none⟩ = some (.int .i64 ((z : Int) + 1)) := fun w' hk' => by
            have := ((HROW.out.keep (Kept.drew _ _)).keep hk').cell i (by simp; omega)
            rw [this]
            simp [List.getElem_append_right, hpl]
          have z1 : ∀ w', Kept [] wr.drew w' → w'.cell? ⟨gd, x, none⟩ = some (.int .i64 (y : Int)) := fun w' hk' => by
            have := ((HROW.out.keep (Kept.drew _ _)).keep hk').cell x (by simp; omega)
            rw [this, ← hy, List.getD_eq_getElem?_getD, List.getElem?_eq_getElem (by omega)]
            simp [List.getElem_append_left, hpl, hxi]
          have z2 : ∀ w', Kept [] wr.drew w' → w'.cell? ⟨b, o + i * 3 + 2, none⟩ = some (.slice (some ⟨b2, o2, none⟩) m lc) := fun w' hk' => ((HROW.out.kept.trans ((Kept.drew _ _).trans hk')).cell (p := ⟨b, o + i * 3 + 2, none⟩) HC.out.1 (by simp)).trans HE2.out
          have z3 : ∀ w', Kept [] wr.drew w' → w'.cell? ⟨b2, o2 + k, none⟩ = some (.int .i64 (x : Int)) := fun w' hk' => ((HROW.out.kept.trans ((Kept.drew _ _).trans hk')).cell (p := ⟨b2, o2 + k, none⟩) HBB.out.1 (by simp)).trans HBB.out.2
          have HN2 : Hid (DpSt w gd (pre ++ (mx + 1) :: List.replicate (N - i - 1) 0) (wr.setCell ⟨gd, i, none⟩ (.int .i64 ((mx : Int) + 1))).drew) := by
            have := (HROW.out.set i (mx + 1)).keep (Kept.drew _ _)
            rwa [List.set_append_right _ _ (by omega), hpl, Nat.sub_self, List.set_cons_zero] at this
          clear hz hc2 hx hy hmx y0 hb2 hpl hyb
          go_wp2_with fail
          clear f2
          refine wp_region_ordZ (R := (Kept [])) 20 [(true, 0), (true, 1), (true, 2), (true, 3), (true, 4), (true, 5), (true, 6), (true, 7), (true, 8), (true, 9), (true, 10), (true, 11), (true, 12), (true, 13), (true, 14), (true, 15), (true, 16), (true, 17), (true, 18), (true, 19)] (fun _ => Kept.refl _ _) (fun _ _ _ h k => h.trans k) (by kernel_rfl) (fun _ _ d _ _ h => by cases d <;> exact h) (by kernel_rfl) rfl (by decide) (by kernel_rfl) (by kernel_rfl) ?_
          simp only [named, List.getD_cons_zero, List.getD_cons_succ]
          repeat (first | (apply wpR_take; (case hw => rfl); (case hv => intro w' hk; go_simp; with_reducible rfl); simp only [Act.put, List.setIfInBounds_toArray, List.set_cons_zero, List.set_cons_succ]) | (refine wpR_pass (by rfl) ?_; simp only [Act.put, List.setIfInBounds_toArray, List.set_cons_zero, List.set_cons_succ]))
          clear z0 z1 z2 z3
          refine wpR_nil ?_; refine lastQ_go rfl ?_
          have zz : wr.cell? ⟨gd, i, none⟩ = some (.int .i64 ((z + 1 : Nat) : Int)) := by
            rw [HROW.out.cell i (by simp; have := HPRE.out; omega)]
            simp [List.getElem_append_right, HPRE.out]
          have ff : ∀ q, wr.frozen? ⟨gd, q, none⟩ = false := fun q => frozen_of_row _ _ q _ _ HROW.out.row
          go_simp
          clear zz ff
          go_wp2_with fail
          go_roundw
          case rel => exact ⟨k + 1, by go_num, by omega, Lib.hid (by rw [HNX.out]; exact HN2.out)⟩
          case measure => simp [intOf]; omega
        · have hkm2 : k = m := by omega
          have HNE : Hid (depsN (ns.take (i + 1)) [] = pre ++ [z + 1]) := by
            show _ = _
            rw [HDi.out]
            unfold dpF
            rw [show nd.ks = nd.ks.take k by rw [hkm2, ← HM.out, List.take_length], hz]
          rw [hz] at HQ HZB
          have zz : wr.cell? ⟨gd, i, none⟩ = some (.int .i64 ((z : Int) + 1)) := by
            rw [HQ.out.cell i (by simp; have := HPRE.out; omega)]
            simp [List.getElem_append_right, HPRE.out]
          obtain ⟨mx, hmx⟩ : ∃ mx, max mo (z + 1) = mx := ⟨_, rfl⟩
          have hmi : max (mo : Int) ((z : Int) + 1) = (mx : Int) := by omega
          have HME : Hid ((depsN (ns.take (i + 1)) []).foldl max 0 = mx) := by
            show _ = _
            rw [HNE.out, foldl_snoc, HMO.out, hmx]
          have HDE : Hid (DpSt w gd (depsN (ns.take (i + 1)) [] ++ List.replicate (N - (i + 1)) 0) wr) := by
            rw [HNE.out, List.append_assoc, ← Nat.sub_sub]
            exact HQ.out
          have hki : ¬ (k : Int) < (m : Int) := by omega
          clear hz hkm hkm2 hmx
          go_wp2_with fail
          go_roundw
          case rel => exact ⟨i + 1, by go_num, by omega, by rw [HME.out], HDE.out⟩
          case measure => simp [intOf]; omega
    · have hiN : i = N := by omega
      have HE : Hid ((depsN (ns.take i) []).foldl max 0 = depN ns) := by
        show _ = _
        rw [hiN, List.take_of_length_le (by have := HN.out; omega)]
        rfl
      have hii : ¬ (i : Int) < (N : Int) := by omega
      rw [HE.out]
      clear hiN
      go_wp2_with fail
      go_ret
      exact ⟨rfl, HS.out.kept⟩
end Go.Proofs.YtfpdgdacifiejaaGreat

namespace Go.Proofs.YtfpdgdacifiejaaGreat
open Go.RowKit Go.Maps

/-- Where the document's parser is: so many words are left, or all is over, with so many words left. -/
inductive QSt where
  | good (s : PSt)
  | bad (k : Nat)
def QSt.n : QSt → Nat
  | .good s => s.r.length
  | .bad k => k
def QSt.isBad : QSt → Bool
  | .good _ => false
  | .bad _ => true
def qtk (p : Tok → Bool) : QSt → Bool
  | .good s => tkB p s.r
  | .bad _ => false
theorem qtk_good {p : Tok → Bool} {q : QSt} (h : qtk p q = true) : ∃ s, q = .good s ∧ tkB p s.r = true := by
  cases q with
  | good s => exact ⟨s, rfl, h⟩
  | bad k => cases h
/-- What a part makes of it. -/
def QR {α : Type} (f : Prs α) (q : QSt) (x : α) (q' : QSt) : Prop := match q with
  | .good s => match f s with
    | .ok s' a => q' = .good s' ∧ x = a
    | .err r => q' = .bad r.length
  | .bad k => q' = .bad k
theorem QR.bind {α β : Type} {f : Prs α} {g : α → Prs β} {q q1 q2 : QSt} {x : α} {y : β} (h : QR f q x q1) (k : QR (g x) q1 y q2) : QR (pbind f g) q y q2 := by
  cases q with
  | bad n =>
    have h1 : q1 = .bad n := h
    subst h1
    exact k
  | good s =>
    unfold QR at h ⊢
    simp only at h ⊢
    cases hf : f s with
    | ok s1 a =>
      rw [hf] at h
      obtain ⟨rfl, rfl⟩ := h
      rw [bind_ok hf]
      exact k
    | err r =>
      rw [hf] at h
      simp only at h
      subst h
      rw [bind_err hf]
      exact k
theorem QR.prt {α : Type} (a : α) (q : QSt) : QR (prt a) q a q := by
  cases q with
  | good s => exact ⟨rfl, rfl⟩
  | bad k => rfl
theorem QR.fail {α : Type} (a : α) (q : QSt) : QR (pfail (α := α)) q a (.bad q.n) := by
  cases q with
  | good s => rfl
  | bad k => rfl
theorem QR.ifT_t {α : Type} {p : Tok → Bool} {f : List UInt8 → Prs α} {g : Prs α} {s : PSt} {y : α} {q2 : QSt} (h : tkB p s.r = true) (k : QR (f (hdT s.r)) (.good ⟨s.r.tail, s.ns⟩) y q2) : QR (ifT p f g) (.good s) y q2 := by
  unfold QR at k ⊢
  simp only at k ⊢
  rw [Go.Proofs.YtfpdgdacifiejaaGreat.ifT_t h]
  exact k
theorem QR.ifT_f {α : Type} {p : Tok → Bool} {f : List UInt8 → Prs α} {g : Prs α} {q q2 : QSt} {y : α} (h : qtk p q = false) (k : QR g q y q2) : QR (ifT p f g) q y q2 := by
  cases q with
  | bad n => exact k
  | good s =>
    unfold QR at k ⊢
    simp only at k ⊢
    rw [Go.Proofs.YtfpdgdacifiejaaGreat.ifT_f h]
    exact k
theorem QR.back {α : Type} {f : Prs α} {q : QSt} {x : α} {s' : PSt} (h : QR f q x (.good s')) : ∃ s, q = .good s ∧ f s = .ok s' x := by
  cases q with
  | bad k => cases h
  | good s =>
    refine ⟨s, rfl, ?_⟩
    unfold QR at h
    simp only at h
    cases hf : f s with
    | ok s1 a =>
      rw [hf] at h
      obtain ⟨h1, h2⟩ := h
      injection h1 with h1
      rw [h1, h2]
    | err r => rw [hf] at h; cases h
theorem QR.le {α : Type} {f : Prs α} (hl : Lc f) {q q' : QSt} {x : α} (h : QR f q x q') : q'.n ≤ q.n := by
  cases q with
  | bad k => have h1 : q' = .bad k := h; rw [h1]; exact Nat.le_refl _
  | good s =>
    unfold QR at h
    simp only at h
    cases hf : f s with
    | ok s1 a =>
      rw [hf] at h
      obtain ⟨rfl, rfl⟩ := h
      exact hl.le hf
    | err r =>
      rw [hf] at h
      simp only at h
      subst h
      obtain ⟨c, e, _⟩ := hl.err s r hf
      show r.length ≤ s.r.length
      rw [e, List.length_append]
      omega
theorem QR.eq {α : Type} {f g : Prs α} {q q' : QSt} {x : α} (h : QR f q x q') (e : f = g) : QR g q x q' := e ▸ h
/-- The document's parser in memory. -/
structure QS (c : PCx) (A : List Nat) (m : Nat) (q : QSt) (w : World) : Prop where
  hg : c.W.heap.size ≤ c.g
  hA : ∀ z ∈ A, c.g < z ∧ z < w.heap.size
  row : ∃ v ns, w.heap[c.g]? = some (.cells #[c.va, .int .i64 ((c.l.length - q.n : Nat) : Int), .bool q.isBad, v] 85) ∧ NdsIs c A w v ns ∧ ∀ s, q = .good s → ns = s.ns
  suf : ∀ s, q = .good s → c.l.drop (c.l.length - s.r.length) = s.r
  le : q.n ≤ c.l.length
  few : ∀ s, q = .good s → s.ns.length + s.r.length ≤ m
  tk : TkIs c.W c.va c.l
  kept : Kept [] c.W w
theorem QS.lt {c : PCx} {A : List Nat} {m : Nat} {q : QSt} {w : World} (h : QS c A m q w) : c.g < w.heap.size := by
  obtain ⟨v, _, h1, _⟩ := h.row
  exact (Array.getElem?_eq_some_iff.1 h1).1
theorem QS.go {c : PCx} {A1 A2 ex : List Nat} {m : Nat} {q : QSt} {w w' : World} (h : QS c A1 m q w) (hk : Kept ex w w') (hx : ∀ z ∈ ex, z ∈ A1) (h2 : ∀ z ∈ A2, (z ∈ A1 ∨ w.heap.size ≤ z) ∧ z < w'.heap.size) : QS c A2 m q w' := by
  have hlt := h.lt
  obtain ⟨v, ns, h3, h4, h5⟩ := h.row
  refine ⟨h.hg, fun z hz => ⟨?_, (h2 z hz).2⟩, ⟨v, ns, hk.heap (fun hm => ?_) h3, h4.go hk hx (fun z hz => (h2 z hz).1), h5⟩, h.suf, h.le, h.few, h.tk, h.kept.into hk (fun z hz => ?_)⟩
  · rcases (h2 z hz).1 with h5 | h5
    · exact (h.hA z h5).1
    · omega
  · have := (h.hA _ (hx _ hm)).1
    omega
  · have := (h.hA _ (hx _ hz)).1
    have := h.hg
    omega
theorem QS.keep {c : PCx} {A : List Nat} {m : Nat} {q : QSt} {w w' : World} (h : QS c A m q w) (hk : Kept [] w w') : QS c A m q w' :=
  h.go hk (by simp) (fun z hz => ⟨.inl hz, Nat.lt_of_lt_of_le (h.hA z hz).2 hk.size⟩)
theorem QS.less {c : PCx} {A A2 : List Nat} {m : Nat} {q : QSt} {w : World} (h : QS c A m q w) (h2 : ∀ z ∈ A2, z ∈ A) : QS c A2 m q w :=
  h.go (Kept.refl [] w) (by simp) (fun z hz => ⟨.inl (h2 z hz), (h.hA z (h2 z hz)).2⟩)
theorem QS.more {c : PCx} {A : List Nat} {m n : Nat} {q : QSt} {w : World} (h : QS c A m q w) (hn : ∀ s, q = .good s → m ≤ n) : QS c A n q w :=
  ⟨h.hg, h.hA, h.row, h.suf, h.le, fun s hs => Nat.le_trans (h.few s hs) (hn s hs), h.tk, h.kept⟩
theorem QS.alloc {c : PCx} {A : List Nat} {m : Nat} {q : QSt} {w : World} (h : QS c A m q w) (o : Obj) : QS c (w.heap.size :: A) m q (w.alloc o) :=
  h.go (Kept.alloc [] w o) (by simp) (fun z hz => by
    rw [size_alloc]
    rcases List.mem_cons.1 hz with rfl | hz
    · exact ⟨.inr (Nat.le_refl _), by omega⟩
    · have := (h.hA z hz).2
      exact ⟨.inl hz, by omega⟩)
/-- What its cells hold. -/
theorem QS.open {c : PCx} {A : List Nat} {m : Nat} {q : QSt} {w : World} (h : QS c A m q w) : ∃ v ns, w.cell? ⟨c.g, 0, none⟩ = some c.va ∧ w.cell? ⟨c.g, 1, none⟩ = some (.int .i64 ((c.l.length - q.n : Nat) : Int)) ∧ w.cell? ⟨c.g, 2, none⟩ = some (.bool q.isBad) ∧ w.cell? ⟨c.g, 3, none⟩ = some v ∧
    (∀ z, w.frozen? ⟨c.g, z, none⟩ = false) ∧ NdsIs c A w v ns ∧ w.heap[c.g]? = some (.cells #[c.va, .int .i64 ((c.l.length - q.n : Nat) : Int), .bool q.isBad, v] 85) ∧ ∀ s, q = .good s → ns = s.ns := by
  obtain ⟨v, ns, h3, h4, h5⟩ := h.row
  exact ⟨v, ns, cell_of_row _ _ 0 _ _ _ h3, cell_of_row _ _ 1 _ _ _ h3, cell_of_row _ _ 2 _ _ _ h3, cell_of_row _ _ 3 _ _ _ h3, fun z => frozen_of_row _ _ z _ _ h3, h4, h3, h5⟩
/-- A change of the parser's own block alone. -/
theorem QS.set {c : PCx} {A : List Nat} {m m2 : Nat} {q q2 : QSt} {w w' : World} (h : QS c A m q w) (hk : Kept [c.g] w w') (hr : ∀ v, w.heap[c.g]? = some (.cells #[c.va, .int .i64 ((c.l.length - q.n : Nat) : Int), .bool q.isBad, v] 85) → w'.heap[c.g]? = some (.cells #[c.va, .int .i64 ((c.l.length - q2.n : Nat) : Int), .bool q2.isBad, v] 85))
    (hs : ∀ s2, q2 = .good s2 → ∃ s, q = .good s ∧ s2.ns = s.ns ∧ c.l.drop (c.l.length - s2.r.length) = s2.r ∧ s2.ns.length + s2.r.length ≤ m2) (hn : q2.n ≤ c.l.length) : QS c A m2 q2 w' ∧ KA c A w w' := by
  have hgA : c.g ∉ A := fun hm => by have := (h.hA _ hm).1; omega
  obtain ⟨v, ns, h3, h4, h5⟩ := h.row
  refine ⟨⟨h.hg, fun z hz => ⟨(h.hA z hz).1, Nat.lt_of_lt_of_le (h.hA z hz).2 hk.size⟩, ⟨v, ns, hr v h3, ?_, fun s2 e => ?_⟩, fun s2 e => ?_, hn, fun s2 e => ?_, h.tk, h.kept.into hk (by simpa using h.hg)⟩, ⟨[c.g], hk, by simpa using hgA⟩⟩
  · obtain ⟨L, hL, ho, hv, hl⟩ := h4.out
    refine ⟨L, hL, owns_kept ho hk (fun z hz hm => ?_), hv, fun x hx => ⟨(hl x hx).1.keptX hk (fun z hz hm => ?_), (hl x hx).2⟩⟩
    · have := (ho.lt z hz).1; simp at hm; omega
    · have := ((hl x hx).1.blk z hz).1; simp at hm; omega
  · obtain ⟨s, h6, h7, _⟩ := hs s2 e
    rw [h5 s h6, h7]
  · obtain ⟨s, _, _, h8, _⟩ := hs s2 e
    exact h8
  · obtain ⟨s, _, _, _, h9⟩ := hs s2 e
    exact h9
/-- What a call of the document's parser answers. -/
def QRes {α : Type} (c : PCx) (f : Prs α) (val : α → Value) (A : List Nat) (m : Nat) (q : QSt) (w : World) (e : Ending) (w' : World) : Prop := ∃ x q', e = .returned (val x) ∧ Hid (QR f q x q' ∧ QS c A m q' w' ∧ KA c A w w')
def QC (c : PCx) (fid : FuncId) (f : Prs Nat) (n : Nat) : Prop := ∀ A m q w, m ≤ 5000 → q.n < n → QS c A m q w → Calls Tryz.prog fid #[.pointer (some ⟨c.g, 0, none⟩)] w (QRes c f nV A m q w)
end Go.Proofs.YtfpdgdacifiejaaGreat

namespace Go.Proofs.YtfpdgdacifiejaaGreat
open Go.RowKit Go.Maps

theorem str_eqR (a b : List UInt8) : ((strL a).toList == (strL b).toList) = decide (a = b) := by
  rw [strL_bytes, strL_bytes, Bool.eq_iff_iff]; simp
theorem drop_hdR {l r : List Tok} (h : l.drop (l.length - r.length) = r) (hr : 0 < r.length) (hle : r.length ≤ l.length) : ∃ hk : l.length - r.length < l.length, hdK r = l[l.length - r.length].kd ∧ hdT r = l[l.length - r.length].tx := by
  have hk : l.length - r.length < l.length := by omega
  refine ⟨hk, ?_⟩
  obtain ⟨d, hd⟩ : ∃ d, l.length - r.length = d := ⟨_, rfl⟩
  simp only [hd] at h ⊢
  have e := List.drop_eq_getElem_cons (l := l) (i := d) (by omega)
  rw [h] at e
  exact ⟨(congrArg hdK e).trans rfl, (congrArg hdT e).trans rfl⟩
/-- The word that is ahead, as it lies in memory. -/
theorem QS.word {c : PCx} {A : List Nat} {m : Nat} {s : PSt} {w : World} (h : QS c A m (.good s) w) (hr : s.r ≠ []) (w' : World) (hk : Kept [] c.W w') :
    ∃ b o a n cap, c.va = .slice (some ⟨b, o, none⟩) n cap ∧ c.l.length = n ∧ n ≤ cap ∧ cap ≤ 9223372036854775807 ∧ n ≤ 140737488355328 ∧ c.l.length - s.r.length < n ∧
      w'.cell? ⟨b, o + (c.l.length - s.r.length) * 3, none⟩ = some (.int .i64 (hdK s.r)) ∧ w'.cell? ⟨b, o + (c.l.length - s.r.length) * 3 + 1, none⟩ = some (.string (strL (hdT s.r))) ∧ w'.cell? ⟨b, o + (c.l.length - s.r.length) * 3 + 2, none⟩ = some (.int .i64 a) := by
  obtain ⟨⟨ao, cap, hva, hcap, hc63, hat⟩, hlen⟩ := h.tk
  have hle : s.r.length ≤ c.l.length := h.le
  have hpos : 0 < s.r.length := by cases hq : s.r with | nil => exact absurd hq hr | cons x r => simp
  obtain ⟨b, o, rfl, hb, hc⟩ := hat (by omega)
  obtain ⟨hk1, e1, e2⟩ := drop_hdR (h.suf s rfl) hpos hle
  obtain ⟨d0, d1, a, d2⟩ := hc _ hk1
  have hkw := hk
  refine ⟨b, o, a, _, cap, hva, rfl, hcap, hc63, by omega, hk1, ?_, ?_, ?_⟩
  · rw [e1]; exact (hkw.cell (p := ⟨b, _, none⟩) hb (by simp)).trans d0
  · rw [e2]; exact (hkw.cell (p := ⟨b, _, none⟩) hb (by simp)).trans d1
  · exact (hkw.cell (p := ⟨b, _, none⟩) hb (by simp)).trans d2
/-- What is asks of the word ahead. -/
def isP (k : Int) (t : List UInt8) : Tok → Bool := if t = [] then isKd k else isTk k t
theorem isP_hd {k : Int} {t : List UInt8} {r : List Tok} (h : r ≠ []) : tkB (isP k t) r = (decide (hdK r = k) && (decide (t = []) || decide (hdT r = t))) := by
  cases r with
  | nil => exact absurd rfl h
  | cons x r =>
    unfold isP
    by_cases ht : t = []
    · rw [if_pos ht]
      by_cases h1 : x.kd = k <;> simp [tkB, hdK, isKd, ht, h1]
    · rw [if_neg ht]
      by_cases h1 : x.kd = k <;> by_cases h2 : x.tx = t <;> simp [tkB, hdK, hdT, isTk, ht, h1, h2]
set_option maxRecDepth 100000 in
set_option maxHeartbeats 8000000 in
theorem zis_any (c : PCx) (A : List Nat) (m : Nat) (q : QSt) (w : World) (k : Int) (t : List UInt8) (h : QS c A m q w) :
    Calls Tryz.prog 83 #[.pointer (some ⟨c.g, 0, none⟩), .int .i64 k, .string (strL t)] w fun e w' => e = .returned (.bool (qtk (isP k t) q)) ∧ Kept [] w w' := by
  obtain ⟨v, ns, c0, c1, c2, _, fz, _, hrow, _⟩ := h.open
  cases q with
  | bad n =>
    have d2 : w.cell? ⟨c.g, 2, none⟩ = some (.bool true) := c2
    obtain ⟨g, hg⟩ : ∃ g, c.g = g := ⟨_, rfl⟩
    rw [hg] at d2 ⊢
    clear h c0 c1 c2 fz hrow hg
    go_enter Tryz.func83, Tryz.ntmps83
    go_wp2_with fail
    go_quiet (fail)
    go_wp2_with fail
    go_ret
    exact ⟨rfl, Kept.drewN _ _ _⟩
  | good s =>
    have d2 : w.cell? ⟨c.g, 2, none⟩ = some (.bool false) := c2
    have d1 : w.cell? ⟨c.g, 1, none⟩ = some (.int .i64 ((c.l.length - s.r.length : Nat) : Int)) := c1
    have hle : s.r.length ≤ c.l.length := h.le
    by_cases hr : s.r = []
    · have hq : qtk (isP k t) (.good s) = false := by unfold qtk; simp only; rw [hr]; rfl
      rw [hq]
      obtain ⟨⟨ao, cap, hva, hcap, hc63, _⟩, hlen⟩ := h.tk
      obtain ⟨n, hn⟩ : ∃ n, c.l.length = n := ⟨_, rfl⟩
      rw [hr, hn] at d1
      simp only [List.length_nil, Nat.sub_zero] at d1
      rw [hva, hn] at c0
      have hn5 : n ≤ 140737488355328 := by omega
      obtain ⟨g, hg⟩ : ∃ g, c.g = g := ⟨_, rfl⟩
      rw [hg] at c0 d1 d2 ⊢
      rw [hn] at hcap
      have q1 : decide ((n : Int) ≤ (n : Int)) = true := by simp
      clear h c1 c2 fz hrow hg hr hq hle hlen hn hva
      go_enter Tryz.func83, Tryz.ntmps83
      go_wp2_with fail
      go_quiet (fail)
      go_wp2_with fail
      go_ret
      exact ⟨rfl, Kept.drewN _ _ _⟩
    · have hiss := isP_hd (k := k) (t := t) hr
      obtain ⟨b, o, a, n, cap, hva, hn, hcap, hc63, hn5, hkn, e0, e1, e2⟩ := h.word hr w h.kept
      obtain ⟨j, hj⟩ : ∃ j, c.l.length - s.r.length = j := ⟨_, rfl⟩
      rw [hj] at d1 hkn e0 e1 e2
      rw [hva] at c0
      have HW := Lib.hid (And.intro hrow h.lt)
      obtain ⟨g, hg⟩ : ∃ g, c.g = g := ⟨_, rfl⟩
      rw [hg] at c0 d1 d2 HW ⊢
      obtain ⟨K, hK⟩ : ∃ K, hdK s.r = K := ⟨_, rfl⟩
      obtain ⟨T, hT⟩ : ∃ T, hdT s.r = T := ⟨_, rfl⟩
      rw [hK] at e0 hiss
      rw [hT] at e1 hiss
      have hqt : qtk (isP k t) (.good s) = (decide (K = k) && (decide (t = []) || decide (T = t))) := hiss
      rw [hqt]
      have hb := World.block_lt_of_cell? w _ e0
      have HC := Lib.hid (And.intro c0 (And.intro d1 (And.intro e0 (And.intro e1 (And.intro e2 hb)))))
      have q1 : decide ((n : Int) ≤ (j : Int)) = false := by simp; omega
      have q1' : ¬ (n : Int) ≤ (j : Int) := by omega
      have s1 : ((strL t).toList == []) = decide (t = []) := by rw [strL_bytes, Bool.eq_iff_iff]; simp
      have s2 := str_eqR T t
      obtain ⟨B1, hB1⟩ : ∃ b, decide (t = []) = b := ⟨_, rfl⟩
      obtain ⟨B2, hB2⟩ : ∃ b, decide (T = t) = b := ⟨_, rfl⟩
      rw [hB1] at s1 ⊢
      rw [hB2] at s2 ⊢
      obtain ⟨B0, hB0⟩ : ∃ b, decide (K = k) = b := ⟨_, rfl⟩
      rw [hB0]
      have s0 : (K == k) = B0 := by rw [← hB0]; by_cases e : K = k <;> simp [e]
      clear hB1 hB2 hB0
      clear h c1 c2 fz hrow hg hr hle hva hiss hqt hK hT hj e0 e1 e2 hb hn
      go_enter Tryz.func83, Tryz.ntmps83
      go_wp2_with fail
      go_quiet (fail)
      generalize hwq : World.drewN _ _ = wq
      have HQ : Hid (Kept [] w wq) := by show Kept _ _ _; rw [← hwq]; exact Kept.drewN _ _ _
      have hkq : ∀ w', Kept [] wq.drew w' → Kept [] w w' := fun w' hk => (HQ.out.trans (Kept.drew _ _)).trans hk
      have g0 : ∀ w', Kept [] wq.drew w' → w'.cell? ⟨g, 0, none⟩ = some (.slice (some ⟨b, o, none⟩) n cap) := fun w' hk => ((hkq w' hk).cell (p := ⟨g, 0, none⟩) HW.out.2 (by simp)).trans HC.out.1
      have g1 : ∀ w', Kept [] wq.drew w' → w'.cell? ⟨g, 1, none⟩ = some (.int .i64 (j : Int)) := fun w' hk => ((hkq w' hk).cell (p := ⟨g, 1, none⟩) HW.out.2 (by simp)).trans HC.out.2.1
      have g2 : ∀ w', Kept [] wq.drew w' → w'.cell? ⟨b, o + j * 3, none⟩ = some (.int .i64 K) := fun w' hk => ((hkq w' hk).cell (p := ⟨b, o + j * 3, none⟩) HC.out.2.2.2.2.2 (by simp)).trans HC.out.2.2.1
      have g3 : ∀ w', Kept [] wq.drew w' → w'.cell? ⟨b, o + j * 3 + 1, none⟩ = some (.string (strL T)) := fun w' hk => ((hkq w' hk).cell (p := ⟨b, o + j * 3 + 1, none⟩) HC.out.2.2.2.2.2 (by simp)).trans HC.out.2.2.2.1
      have g4 : ∀ w', Kept [] wq.drew w' → w'.cell? ⟨b, o + j * 3 + 2, none⟩ = some (.int .i64 a) := fun w' hk => ((hkq w' hk).cell (p := ⟨b, o + j * 3 + 2, none⟩) HC.out.2.2.2.2.2 (by simp)).trans HC.out.2.2.2.2.1
      clear c0 d1 d2 hwq hkq q1 q1'
      go_wp2_with fail
      refine wp_region_ordZ (R := (Kept [])) 11 [(true, 0), (true, 1), (true, 2), (true, 3), (true, 4), (true, 5), (true, 6), (true, 7), (true, 8), (true, 9), (false, 10)] (fun _ => Kept.refl _ _) (fun _ _ _ h k => h.trans k) (by kernel_rfl) (fun _ _ d _ _ h => by cases d <;> exact h) (by kernel_rfl) rfl (by decide) (by kernel_rfl) (by kernel_rfl) ?_
      simp only [named, List.getD_cons_zero, List.getD_cons_succ]
      repeat (first | (apply wpR_take; (case hw => rfl); (case hv => intro w' hk; go_simp; with_reducible rfl); simp only [Act.put, List.setIfInBounds_toArray, List.set_cons_zero, List.set_cons_succ]) | (refine wpR_pass (by rfl) ?_; simp only [Act.put, List.setIfInBounds_toArray, List.set_cons_zero, List.set_cons_succ]))
      clear g0 g1 g2 g3 g4
      refine wpR_force (by rfl) (fun K hK => ?_)
      go_simp
      refine hK _ _ (Kept.alloc [] _ _) ?_
      clear hK K
      refine wpR_nil ?_; refine lastQ_go rfl ?_
      generalize hw2 : World.alloc _ _ = w2
      have hrow : w2.heap[wq.heap.size]? = some (.cells #[.int .i64 0, .string ⟨#[]⟩, .int .i64 0] 38) := by rw [← hw2]; exact heap_alloc_last _ _
      have HK2 : Hid (Kept [] w w2) := by show Kept _ _ _; rw [← hw2]; exact HQ.out.trans (Kept.alloc _ _ _)
      have HL2 : Hid (w.heap.size ≤ wq.heap.size) := HQ.out.size
      have y0 : w2.cell? ⟨wq.heap.size, 0, none⟩ = some (.int .i64 0) := cell_of_row _ _ 0 _ _ _ hrow
      have y1 : w2.cell? ⟨wq.heap.size, 1, none⟩ = some (.string ⟨#[]⟩) := cell_of_row _ _ 1 _ _ _ hrow
      have y2 : w2.cell? ⟨wq.heap.size, 2, none⟩ = some (.int .i64 0) := cell_of_row _ _ 2 _ _ _ hrow
      have yf0 : w2.frozen? ⟨wq.heap.size, 0, none⟩ = false := frozen_of_row _ _ 0 _ _ hrow
      have yf1 : w2.frozen? ⟨wq.heap.size, 1, none⟩ = false := frozen_of_row _ _ 1 _ _ hrow
      have yf2 : w2.frozen? ⟨wq.heap.size, 2, none⟩ = false := frozen_of_row _ _ 2 _ _ hrow
      obtain ⟨bx, hbx⟩ : ∃ b, wq.heap.size = b := ⟨_, rfl⟩
      rw [hbx] at hrow y0 y1 y2 yf0 yf1 yf2 HL2 ⊢
      have HROW := Lib.hid hrow
      obtain ⟨w3, hw3⟩ : ∃ w3, ((w2.setCell ⟨bx, 0, none⟩ (.int .i64 K)).setCell ⟨bx, 1, none⟩ (.string (strL T))).setCell ⟨bx, 2, none⟩ (.int .i64 a) = w3 := ⟨_, rfl⟩
      have HF : Hid (Kept [] w w3 ∧ w3.heap[bx]? = some (.cells #[.int .i64 K, .string (strL T), .int .i64 a] 38)) := by
        have h1 : Kept [bx] w2 w3 := by rw [← hw3]; exact ((Kept.setCell _ _ _ _ (by simp)).trans (Kept.setCell _ _ _ _ (by simp))).trans (Kept.setCell _ _ _ _ (by simp))
        refine ⟨HK2.out.into h1 (by simp; have := HL2.out; omega), ?_⟩
        rw [← hw3]
        exact row_setJ (row_setJ (row_setJ HROW.out 0 _) 1 _) 2 _
      have z0 : w3.cell? ⟨bx, 0, none⟩ = some (.int .i64 K) := cell_of_row _ _ 0 _ _ _ HF.out.2
      have z1 : w3.cell? ⟨bx, 1, none⟩ = some (.string (strL T)) := cell_of_row _ _ 1 _ _ _ HF.out.2
      clear hrow hw2 hbx
      go_simp
      clear y0 y1 y2 yf0 yf1 yf2 hw3
      cases B0
      · go_wp2_with fail
        go_ret
        exact ⟨rfl, HF.out.1.trans (Kept.drew _ _)⟩
      · cases B1
        · cases B2
          · go_wp2_with fail
            go_ret
            exact ⟨rfl, HF.out.1.trans (Kept.drew _ _)⟩
          · go_wp2_with fail
            go_ret
            exact ⟨rfl, HF.out.1.trans (Kept.drew _ _)⟩
        · go_wp2_with fail
          go_ret
          exact ⟨rfl, HF.out.1.trans (Kept.drew _ _)⟩
set_option maxRecDepth 100000 in
set_option maxHeartbeats 4000000 in
theorem zsign_any (c : PCx) (A : List Nat) (m : Nat) (q : QSt) (w : World) (t : List UInt8) (ht : t ≠ []) (h : QS c A m q w) :
    Calls Tryz.prog 84 #[.pointer (some ⟨c.g, 0, none⟩), .string (strL t)] w fun e w' => e = .returned (.bool (qtk (isSg t) q)) ∧ Kept [] w w' := by
  have HI := Lib.hid (zis_any c A m q w 7 t h)
  have e : qtk (isP 7 t) q = qtk (isSg t) q := by unfold isP; rw [if_neg ht]; rfl
  rw [e] at HI
  clear h ht e
  go_enter Tryz.func84, Tryz.ntmps84
  go_wp2_with fail
  refine HI.out.mono ?_
  rintro e w1 ⟨rfl, hk⟩
  have HK := Lib.hid hk
  clear hk
  go_wp2_with fail
  go_ret
  exact ⟨rfl, HK.out⟩
set_option maxRecDepth 100000 in
set_option maxHeartbeats 4000000 in
theorem zkey_any (c : PCx) (A : List Nat) (m : Nat) (q : QSt) (w : World) (t : List UInt8) (ht : t ≠ []) (h : QS c A m q w) :
    Calls Tryz.prog 77 #[.pointer (some ⟨c.g, 0, none⟩), .string (strL t)] w fun e w' => e = .returned (.bool (qtk (isKy t) q)) ∧ Kept [] w w' := by
  have HI := Lib.hid (zis_any c A m q w 1 t h)
  have e : qtk (isP 1 t) q = qtk (isKy t) q := by unfold isP; rw [if_neg ht]; rfl
  rw [e] at HI
  clear h ht e
  go_enter Tryz.func77, Tryz.ntmps77
  go_wp2_with fail
  refine HI.out.mono ?_
  rintro e w1 ⟨rfl, hk⟩
  have HK := Lib.hid hk
  clear hk
  go_wp2_with fail
  go_ret
  exact ⟨rfl, HK.out⟩
end Go.Proofs.YtfpdgdacifiejaaGreat

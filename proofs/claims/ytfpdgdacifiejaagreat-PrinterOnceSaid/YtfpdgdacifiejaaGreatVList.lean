/-
  Layer 12: the program's lists of nodes: listed, block.
  Conditions: those that each theorem states.
-/
import Derived.Test.YtfpdgdacifiejaaGreatVPart
namespace Go.Proofs.YtfpdgdacifiejaaGreat
open Go.RowKit Go.Maps

/-- A parser beside a row of numbers of the caller's own. -/
structure LsSt (c : PCx) (A : List Nat) (m : Nat) (s : PSt) (w : World) (v : Value) (l : List Nat) : Prop where
  st : PrSt c (v.ownBlock.toList ++ A) m s w
  own : OwnJ (c.g + 1) w v l
  apart : ∀ q, v.ownBlock = some q → q ∉ A
theorem LsSt.nil {c : PCx} {A : List Nat} {m : Nat} {s : PSt} {w : World} (h : PrSt c A m s w) : LsSt c A m s w (.slice none 0 0) [] := ⟨h, OwnJ.nil _ _, fun q hq => by cases hq⟩
theorem LsSt.step {c : PCx} {A : List Nat} {m m2 : Nat} {s s2 : PSt} {w w2 : World} {v : Value} {l : List Nat} (h : LsSt c A m s w v l) (hk : KA c (v.ownBlock.toList ++ A) w w2) (hs : PrSt c (v.ownBlock.toList ++ A) m2 s2 w2) : LsSt c A m2 s2 w2 v l :=
  ⟨hs, hk.own h.own (fun q hq => by simp [hq]), h.apart⟩
theorem LsSt.more {c : PCx} {A : List Nat} {m m2 : Nat} {s : PSt} {w : World} {v : Value} {l : List Nat} (h : LsSt c A m s w v l) (hm : m ≤ m2) : LsSt c A m2 s w v l := ⟨h.st.more hm, h.own, h.apart⟩
/-- Numbers are appended to the row. -/
theorem LsSt.app {c : PCx} {A : List Nat} {m : Nat} {s : PSt} {w : World} {v t : Value} {l B : List Nat} {b2 : Nat} (h : LsSt c A m s w v l) (ht : OwnJ b2 w t B) (hl : l.length + B.length ≤ 20000) :
    ∃ v' w3, (Builtin.append_ #[39, 39] 39 #[v, t]).run Tryz.prog w = .ok v' w3 ∧ LsSt c A m s w3 v' (l ++ B) ∧ KA c A w w3 := by
  obtain ⟨v', w3, hrun, ho, hk, hor⟩ := h.own.app h.st.lt ht hl
  have hA := h.st.hA
  refine ⟨v', w3, hrun, ⟨h.st.go hk (fun q hq => by simp at hq; simp [hq]) (fun q hq => ?_), ho, fun q hq hm => ?_⟩, ⟨_, hk, fun q hq => ?_⟩⟩
  · rcases List.mem_append.1 hq with hq | hq
    · simp at hq
      refine ⟨?_, (ho.blk q hq).2⟩
      rcases hor with e | e
      · rw [e] at hq; left; simp [hq]
      · rw [e] at hq; injection hq with hq; right; omega
    · exact ⟨.inl (by simp [hq]), Nat.lt_of_lt_of_le (hA q (by simp [hq])).2 hk.size⟩
  · rcases hor with e | e
    · rw [e] at hq; exact h.apart q hq hm
    · rw [e] at hq
      have hq2 : w.heap.size = q := by injection hq
      have := (hA q (by simp [hm])).2
      omega
  · simp at hq
    exact ⟨h.apart q hq, Nat.le_of_lt (h.own.blk q hq).1⟩
/-- One number that lies in a new block. -/
theorem LsSt.app1 {c : PCx} {A : List Nat} {m : Nat} {s : PSt} {w : World} {v : Value} {l : List Nat} (h : LsSt c A m s w v l) (x : Nat) (hl : l.length ≤ 10000) :
    ∃ v' w3, (Builtin.append_ #[39, 39] 39 #[v, .slice (some ⟨w.heap.size, 0, none⟩) 1 1]).run Tryz.prog (w.alloc (.cells #[.int .i64 (x : Int)] 3)) = .ok v' w3 ∧ LsSt c A m s w3 v' (l ++ [x]) ∧ KA c A w w3 := by
  have h2 : LsSt c A m s (w.alloc (.cells #[.int .i64 (x : Int)] 3)) v l := h.step (KA.of (Kept.alloc _ _ _)) (h.st.keep (Kept.alloc _ _ _))
  obtain ⟨v', w3, h3, h4, h5⟩ := h2.app (B := [x]) (OwnJ.made w [x] 1 rfl 0 (by omega) (by omega)) (by simp; omega)
  exact ⟨v', w3, h3, h4, (KA.of (Kept.alloc _ _ _)).trans h5 (fun _ h => h)⟩
theorem LsSt.node {c : PCx} {A : List Nat} {m : Nat} {s : PSt} {w : World} {v : Value} {l : List Nat} (h : LsSt c A m s w v l) (k : Nat) (tx : List UInt8) (hm : m ≤ 5000) :
    Calls Tryz.prog 40 #[.pointer (some ⟨c.g, 0, none⟩), .int .i64 (k : Int), .string (strL tx), v] w (PRes c (pnode k tx l s) nV A (m + 1) w) := ynode_any c A m s w k tx v l hm h.st h.own h.apart
theorem LsSt.val {c : PCx} {A : List Nat} {m : Nat} {s : PSt} {w : World} {v : Value} {l : List Nat} (h : LsSt c A m s w v l) : ∃ ao cap, v = .slice ao l.length cap := h.own.slice
/-- What a call that reads a list of nodes answers. -/
def LRes (c : PCx) (o : POut (List Nat)) (A : List Nat) (m : Nat) (w : World) (e : Ending) (w' : World) : Prop := match o with
  | .ok s l => ∃ v, e = .returned v ∧ LsSt c A m s w' v l ∧ KA c A w w' ∧ l.length ≤ 5000
  | .err r => e = .panicked (refP (c.l.length - r.length)) ∧ Kept [] c.W w' ∧ r.length ≤ c.l.length
theorem LRes.ok {c : PCx} {o : POut (List Nat)} {A : List Nat} {m : Nat} {w : World} {e : Ending} {w' : World} {s : PSt} {l : List Nat} {v : Value} (h : o = .ok s l) (he : e = .returned v) (hs : LsSt c A m s w' v l) (hk : KA c A w w') (hl : l.length ≤ 5000) : LRes c o A m w e w' := by subst h; exact ⟨v, he, hs, hk, hl⟩
theorem LRes.err {c : PCx} {o : POut (List Nat)} {A : List Nat} {m : Nat} {w : World} {e : Ending} {w' : World} {r : List Tok} (h : o = .err r) (he : e = .panicked (refP (c.l.length - r.length))) (hk : Kept [] c.W w') (hr : r.length ≤ c.l.length) : LRes c o A m w e w' := by subst h; exact ⟨he, hk, hr⟩
theorem LRes.way {c : PCx} {o : POut (List Nat)} {A : List Nat} {m : Nat} {w : World} {e : Ending} {w' : World} (h : LRes c o A m w e w') :
    (∃ r, o = .err r ∧ e = .panicked (refP (c.l.length - r.length)) ∧ Kept [] c.W w' ∧ r.length ≤ c.l.length) ∨ (∃ s l v, o = .ok s l ∧ e = .returned v ∧ LsSt c A m s w' v l ∧ KA c A w w' ∧ l.length ≤ 5000) := by
  cases o with
  | ok s l => obtain ⟨v, h1, h2⟩ := h; exact .inr ⟨s, l, v, rfl, h1, h2⟩
  | err r => exact .inl ⟨r, rfl, h⟩

/-- Where listed's loop is. -/
def headL (part : Prs Nat) (e : List UInt8) (k : Nat) (l : List Nat) : Prs (List Nat) := ifT (isSg e) (fun _ => prt l) (if l.length = 0 then listR part e k l else pbind (must (isSg [44])) fun _ => listR part e k l)
theorem head_swap {part : Prs Nat} {e : List UInt8} (he : e ≠ [44]) (k : Nat) (l : List Nat) (hl : l.length ≠ 0) (s : PSt) :
    (ifT (isSg [44]) (fun _ => listR part e k l) (pbind (must (isSg e)) fun _ => prt l)) s = headL part e k l s := by
  unfold headL
  rw [if_neg hl]
  have hx : tkB (isSg e) s.r = true → tkB (isSg [44]) s.r = false := fun h => by
    obtain ⟨t, r, h1, h2, _⟩ := tk_split h
    rw [h1]
    show isSg [44] t = false
    unfold isSg at h2 ⊢
    simp at h2
    simp [h2.1, h2.2, he]
  cases h1 : tkB (isSg e) s.r with
  | true => rw [ifT_t h1, ifT_f (hx h1), ifT_must h1]
  | false =>
    rw [ifT_f h1]
    cases h2 : tkB (isSg [44]) s.r with
    | true => rw [ifT_t h2, ifT_must h2]
    | false => rw [ifT_f h2, bind_err (must_f h1), bind_err (must_f h2)]
theorem headL_step {part : Prs Nat} {e : List UInt8} {k : Nat} {l : List Nat} {s s2 : PSt} {x : Nat} (he : e ≠ [44]) (h : part s = .ok s2 x) : listR part e (k + 1) l s = headL part e k (l ++ [x]) s2 := by
  rw [← head_swap he k (l ++ [x]) (by simp) s2]
  show pbind part _ s = _
  rw [bind_ok h]
theorem meas_lt {c : PCx} {A1 A2 : List Nat} {m1 m2 : Nat} {s1 s2 : PSt} {w1 w2 : World} (h1 : PrSt c A1 m1 s1 w1) (h2 : PrSt c A2 m2 s2 w2) (h : s2.r.length < s1.r.length) : c.l.length - atOf c w2 < c.l.length - atOf c w1 := by
  rw [h1.meas, h2.meas]
  exact h

set_option maxRecDepth 100000 in
set_option maxHeartbeats 8000000 in
theorem ylisted_any (c : PCx) (n : Nat) (fid : FuncId) (part : Prs Nat) (hent : Enters Tryz.prog fid) (hpc : PC c fid part n) (hlc : Lc part) (hea : Eats part) (en : List UInt8) (hen : en ≠ [44]) (A : List Nat) (m : Nat) (s : PSt) (w : World) (hm : m ≤ 5000) (hr : s.r.length < n) (h : PrSt c A m s w) :
    Calls Tryz.prog 154 #[.pointer (some ⟨c.g, 0, none⟩), .func (.func fid) #[.pointer (some ⟨c.g, 0, none⟩)] #[], .string (strL en)] w (LRes c (listF part en n s) A m w) := by
  have hE : ∀ (args : Array Value) (w : World), (callFunc fid args).run Tryz.prog w = .ok (.enter fid args) w := hent
  have HPC := Lib.hid hpc
  have HLC := Lib.hid hlc
  have HEA := Lib.hid hea
  have HEN := Lib.hid hen
  have HM := Lib.hid hm
  have H0 : Hid (LsSt c A m s w (.slice none 0 0) [] ∧ s.r.length < n ∧ KA c A w w ∧ ([] : List Nat).length + s.r.length ≤ 5000 ∧ listF part en n s = headL part en n [] s) :=
    ⟨LsSt.nil h, hr, KA.of (Kept.refl _ _), by have := h.few; simp; omega, rfl⟩
  clear h hpc hlc hea hen hm hr hent
  go_enter Tryz.func154, Tryz.ntmps154
  go_wp2_with fail
  go_loopw [7] (fun v7 wr => ∃ (l : List Nat) (k : Nat) (sk : PSt), Hid (LsSt c A m sk wr v7 l ∧ sk.r.length < k ∧ k ≤ n ∧ KA c A w wr ∧ l.length + sk.r.length ≤ 5000 ∧ listF part en n s = headL part en k l sk)) (fun _ wr => c.l.length - atOf c wr)
  case atStart => exact ⟨[], n, s, H0.out.1, H0.out.2.1, Nat.le_refl _, H0.out.2.2.1, H0.out.2.2.2.1, H0.out.2.2.2.2⟩
  case round =>
    obtain ⟨l, k, sk, HS⟩ := hrel
    clear H0
    obtain ⟨ao, cap, hv⟩ := HS.out.1.val
    obtain ⟨L, hL⟩ : ∃ L, l.length = L := ⟨_, rfl⟩
    rw [hL] at hv
    subst hv
    have HLN := Lib.hid hL
    obtain ⟨k', rfl⟩ : ∃ k', k = k' + 1 := ⟨k - 1, by have := HS.out.2.1; omega⟩
    clear hL
    go_wp2_with fail
    refine (ytook_any c _ m sk wr 7 en (by decide) HS.out.1.st).mono ?_
    rintro e w1 ⟨b, rfl, H1⟩
    cases b
    case true =>
      obtain ⟨s1, hif, htl, hk, hs⟩ := H1.out.yes2
      have HF : Hid (LRes c (listF part en n s) A m w (.returned (.slice ao L cap)) w1) := by
        refine LRes.ok (s := s1) (l := l) ?_ rfl ((HS.out.1.step hk hs).more (by omega)) (HS.out.2.2.2.1.trans hk (by intro z hz; simp [hz])) (by have := HS.out.2.2.2.2.1; omega)
        rw [HS.out.2.2.2.2.2]
        unfold headL
        exact hif _ _ _
      clear hif htl hk hs H1
      go_wp2_with fail
      go_ret
      exact HF.out
    case false =>
      obtain ⟨hif, hk, hs⟩ := H1.out.no2
      have HIF := Lib.hid hif
      have HK1 := Lib.hid (HS.out.2.2.2.1.trans hk (by intro z hz; simp [hz]))
      have HL1 := Lib.hid (HS.out.1.step hk hs)
      clear hif hk hs H1
      by_cases hlt : (0 : Int) < (L : Int)
      · have HC1 := Lib.hid (ysign_any c _ m sk w1 [44] HL1.out.st)
        go_wp2_with fail
        refine HC1.out.mono ?_
        intro e w2 h2
        rcases h2.way with ⟨r, q, rfl, ha⟩ | ⟨sk2, x2, q, rfl, ha, hd⟩
        · refine ⟨rfl, LRes.err ?_ rfl ha.1 ha.2⟩
          rw [HS.out.2.2.2.2.2]
          unfold headL
          rw [if_neg (by have := HLN.out; omega)]
          exact (HIF.out _ _ _).trans (bind_err q)
        have HEQ : Hid (listF part en n s = listR part en (k' + 1) l sk2) := by
          show _ = _
          rw [HS.out.2.2.2.2.2]
          unfold headL
          rw [if_neg (by have := HLN.out; omega)]
          exact (HIF.out _ _ _).trans (bind_ok q)
        have H2 : Hid (LsSt c A m sk2 w2 (.slice ao L cap) l ∧ sk2.r.length < n ∧ sk2.r.length ≤ sk.r.length) := by
          have h6 := (must_eat q).2.2.2
          exact ⟨(HL1.out.step hd ha).more (by omega), by have := HS.out.2; omega, by omega⟩
        have HK2 := Lib.hid (HK1.out.trans hd (by intro z hz; simp [hz]))
        unfold uV
        clear h2 q ha hd
        have HC := Lib.hid (HPC.out _ m sk2 w2 (by have := HM.out; omega) (by have := H2.out.2; omega) H2.out.1.st)
        clear hlt
        go_wp2_with fail
        refine HC.out.mono ?_
        intro e w5 h5
        rcases h5.way with ⟨r, q, rfl, ha⟩ | ⟨s3, x, q, rfl, ha, hd⟩
        · exact ⟨rfl, LRes.err (by rw [HEQ.out]; exact bind_err q) rfl ha.1 ha.2⟩
        have HEA2 : Hid (s3.r.length < sk2.r.length) := HEA.out _ _ _ q
        have HQ := Lib.hid q
        have HL5 := Lib.hid (LsSt.more (H2.out.1.step hd ha) (Nat.le_refl m))
        have HK5 := Lib.hid (HK2.out.trans hd (by intro z hz; simp [hz]))
        unfold nV
        clear h5 q ha hd
        obtain ⟨v', w6, hrun, hls, hka⟩ := HL5.out.app1 x (by have := HS.out.2.2.2.2.1; omega)
        have HRUN := Lib.hid hrun
        have HN : Hid (LsSt c A m s3 w6 v' (l ++ [x]) ∧ KA c A w w6) := ⟨hls, HK5.out.trans hka (fun _ h => h)⟩
        clear hrun hls hka
        go_wp2_with (at_builtin; refine wpList_append_run rfl _ _ 39 rfl _ _ _ rfl rfl HRUN.out ?_)
        go_roundw
        case rel => exact ⟨l ++ [x], k', s3, HN.out.1, by have := HEA2.out; have := H2.out.2; have := HS.out.2.1; omega, by have := HS.out.2.2.1; omega, HN.out.2, by have := HEA2.out; have := H2.out.2; have := HS.out.2.2.2.2.1; simp; omega, by rw [HEQ.out]; exact headL_step HEN.out HQ.out⟩
        case measure => exact meas_lt HS.out.1.st HN.out.1.st (by have := HEA2.out; have := H2.out.2; omega)
      · have HEQ : Hid (listF part en n s = listR part en (k' + 1) l sk) := by
          show _ = _
          rw [HS.out.2.2.2.2.2]
          unfold headL
          rw [if_pos (by have := HLN.out; omega)]
          exact HIF.out _ _ _
        obtain ⟨sk2, hsk2⟩ : ∃ s, sk = s := ⟨_, rfl⟩
        have H2 : Hid (LsSt c A m sk2 w1 (.slice ao L cap) l ∧ sk2.r.length < n ∧ sk2.r.length ≤ sk.r.length) := by
          rw [← hsk2]
          exact ⟨HL1.out, by have := HS.out.2; omega, Nat.le_refl _⟩
        have HK2 := Lib.hid HK1.out
        rw [hsk2] at HEQ
        clear hsk2
        have HC := Lib.hid (HPC.out _ m sk2 w1 (by have := HM.out; omega) (by have := H2.out.2; omega) H2.out.1.st)
        have q0 : decide (0 < L) = false := by simp; omega
        go_wp2_with fail
        clear hlt q0
        refine HC.out.mono ?_
        intro e w5 h5
        rcases h5.way with ⟨r, q, rfl, ha⟩ | ⟨s3, x, q, rfl, ha, hd⟩
        · exact ⟨rfl, LRes.err (by rw [HEQ.out]; exact bind_err q) rfl ha.1 ha.2⟩
        have HEA2 : Hid (s3.r.length < sk2.r.length) := HEA.out _ _ _ q
        have HQ := Lib.hid q
        have HL5 := Lib.hid (LsSt.more (H2.out.1.step hd ha) (Nat.le_refl m))
        have HK5 := Lib.hid (HK2.out.trans hd (by intro z hz; simp [hz]))
        unfold nV
        clear h5 q ha hd
        obtain ⟨v', w6, hrun, hls, hka⟩ := HL5.out.app1 x (by have := HS.out.2.2.2.2.1; omega)
        have HRUN := Lib.hid hrun
        have HN : Hid (LsSt c A m s3 w6 v' (l ++ [x]) ∧ KA c A w w6) := ⟨hls, HK5.out.trans hka (fun _ h => h)⟩
        clear hrun hls hka
        go_wp2_with (at_builtin; refine wpList_append_run rfl _ _ 39 rfl _ _ _ rfl rfl HRUN.out ?_)
        go_roundw
        case rel => exact ⟨l ++ [x], k', s3, HN.out.1, by have := HEA2.out; have := H2.out.2; have := HS.out.2.1; omega, by have := HS.out.2.2.1; omega, HN.out.2, by have := HEA2.out; have := H2.out.2; have := HS.out.2.2.2.2.1; simp; omega, by rw [HEQ.out]; exact headL_step HEN.out HQ.out⟩
        case measure => exact meas_lt HS.out.1.st HN.out.1.st (by have := HEA2.out; have := H2.out.2; omega)
end Go.Proofs.YtfpdgdacifiejaaGreat

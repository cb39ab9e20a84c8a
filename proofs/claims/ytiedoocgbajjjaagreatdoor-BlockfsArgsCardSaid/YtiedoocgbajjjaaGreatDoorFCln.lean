/-
  Layer 4: a row of edits in memory; tooLong.
  Conditions: those that each theorem states.
  Layer 4: slices.Clone of a row of numbers; clone.
  Conditions: those that each theorem states.
  Layer 4: need.
  Conditions: those that each theorem states.
  Layer 4: trim.
  Conditions: those that each theorem states.
  Layer 4: a loop over a directory's map, in whatever order.
  Conditions: those that each theorem states.
  Layer 4: what clone makes: facts on trees.
  Conditions: those that each theorem states.
-/
import Derived.Test.YtiedoocgbajjjaaGreatDoorFCost
import Derived.Maps.RangeWalk
import Derived.Sort.KeysCollected
namespace Go.Proofs.YtiedoocgbajjjaaGreatDoor
open Go.RowKit Go.Maps
set_option maxRecDepth 100000

/-- An edit as it stands in memory: its parts, and where its bytes lie. -/
structure EdH where
  kind : Int
  path : List UInt8
  mode : Int
  ao : Option Addr
  len : Nat
  cap : Nat
/-- A []api.Edit value. -/
def EditsIs (w : World) (ao : Option Addr) (len : Nat) (l : List EdH) : Prop :=
  l.length = len ∧ (len = 0 ∨ ∃ b o, ao = some ⟨b, o, none⟩ ∧ b < w.heap.size ∧ ∀ k (hk : k < l.length),
    w.cell? ⟨b, o + k * 4, none⟩ = some (.int .i64 l[k].kind) ∧ w.cell? ⟨b, o + k * 4 + 1, none⟩ = some (.string (strL l[k].path)) ∧ w.cell? ⟨b, o + k * 4 + 2, none⟩ = some (.int .i64 l[k].mode) ∧
      w.cell? ⟨b, o + k * 4 + 3, none⟩ = some (.slice l[k].ao l[k].len l[k].cap))
theorem EditsIs.kept {w w' : World} {ao : Option Addr} {len : Nat} {l : List EdH} (h : EditsIs w ao len l) {ex : List Nat} (hk : Kept ex w w') (hx : ∀ b o, ao = some ⟨b, o, none⟩ → b ∉ ex) : EditsIs w' ao len l := by
  refine ⟨h.1, h.2.imp id ?_⟩
  rintro ⟨b, o, rfl, hb, hc⟩
  have hc' : ∀ q u, w.cell? ⟨b, q, none⟩ = some u → w'.cell? ⟨b, q, none⟩ = some u := fun q u hu => by
    have e := hk.block b hb (hx b o rfl)
    unfold World.cell? at hu ⊢
    simp only [e]
    exact hu
  exact ⟨b, o, rfl, Nat.lt_of_lt_of_le hb hk.size, fun k hkl => ⟨hc' _ _ (hc k hkl).1, hc' _ _ (hc k hkl).2.1, hc' _ _ (hc k hkl).2.2.1, hc' _ _ (hc k hkl).2.2.2⟩⟩
theorem EditsIs.at {w : World} {ao : Option Addr} {len : Nat} {l : List EdH} (h : EditsIs w ao len l) {k : Nat} (hk : k < l.length) : ∃ b o, ao = some ⟨b, o, none⟩ ∧
    w.cell? ⟨b, o + k * 4, none⟩ = some (.int .i64 l[k].kind) ∧ w.cell? ⟨b, o + k * 4 + 1, none⟩ = some (.string (strL l[k].path)) ∧ w.cell? ⟨b, o + k * 4 + 2, none⟩ = some (.int .i64 l[k].mode) ∧
      w.cell? ⟨b, o + k * 4 + 3, none⟩ = some (.slice l[k].ao l[k].len l[k].cap) := by
  rcases h.2 with h0 | ⟨b, o, e, _, hc⟩
  · have := h.1; omega
  · exact ⟨b, o, e, hc k hk⟩

def EdH.big (x : EdH) : Nat := if x.kind = 1 ∨ x.kind = 3 then x.len else 0
def bigL : List EdH → Nat
  | [] => 0
  | x :: l => x.big + bigL l
theorem bigL_append : ∀ (l m : List EdH), bigL (l ++ m) = bigL l + bigL m
  | [], m => by simp [bigL]
  | t :: l, m => by
    have := bigL_append l m
    simp only [List.cons_append, bigL]
    omega
theorem bigL_take {l : List EdH} {j : Nat} (hj : j < l.length) : bigL (l.take (j + 1)) = bigL (l.take j) + l[j].big := by
  rw [List.take_succ_eq_append_getElem hj, bigL_append]
  simp [bigL]
/-- What tooLong says. -/
def longB (l : List EdH) : Bool := decide (24 < l.length ∨ 2432 < bigL l)

set_option maxRecDepth 100000 in
set_option maxHeartbeats 2000000 in
theorem tooLong_any (l : List EdH) (ao : Option Addr) (len cap : Nat) (w : World) (h : EditsIs w ao len l) (hb : ∀ x ∈ l, x.len ≤ 140737488355328) (hl : len ≤ 140737488355328) :
    Calls Tryz.prog 43 #[.slice ao len cap] w fun e w' => e = .returned (.bool (longB l)) ∧ Hid (Kept [] w w') := by
  have H := Lib.hid h
  have HB := Lib.hid hb
  have HL := Lib.hid h.1
  clear h hb
  by_cases h24 : 24 < len
  · have HG : Hid (longB l = true) := by show _ = _; unfold longB; rw [HL.out]; exact decide_eq_true (.inl h24)
    go_enter Tryz.func43, Tryz.ntmps43
    go_wp2_with fail
    go_ret
    exact ⟨retB HG.out.symm, Kept.refl _ _⟩
  · have h24' : len ≤ 24 := by omega
    go_enter Tryz.func43, Tryz.ntmps43
    go_wp2_with fail
    go_loopw [3, 11] (fun s i wr => ∃ (j c : Nat), j ≤ len ∧ i = .int .i64 j ∧ s = .int .i64 c ∧ c ≤ j * 140737488355328 ∧ Hid (c = bigL (l.take j) ∧ Kept [] w wr)) (fun _ i _ => len - (intOf i).toNat)
    case atStart => exact ⟨0, 0, by omega, rfl, rfl, by omega, rfl, Kept.refl _ _⟩
    case round =>
      obtain ⟨j, c, hj, rfl, rfl, hc1, HS⟩ := hrel
      by_cases hlt : j < len
      · have hjl : j < l.length := by rw [HL.out]; exact hlt
        obtain ⟨b, o, rfl, c0, c1, c2, c3⟩ := (H.out.kept HS.out.2 (by simp)).at hjl
        obtain ⟨x, hx⟩ : ∃ x, l[j] = x := ⟨_, rfl⟩
        have hxl := HB.out l[j] (List.getElem_mem hjl)
        have HQ : Hid (bigL (l.take (j + 1)) = c + x.big) := by show _ = _; rw [bigL_take hjl, hx, HS.out.1]
        rw [hx] at c0 c1 c2 c3 hxl
        clear hx
        obtain ⟨kd, p, m, xo, xl, xc⟩ := x
        simp only at c0 c1 c2 c3 hxl
        have HK1 := Lib.hid (HS.out.2.trans (Kept.alloc [] wr (.cells #[.int .i64 kd, .string (strL p), .int .i64 m, .slice xo xl xc] 35)))
        rcases (by omega : kd = 1 ∨ (kd ≠ 1 ∧ kd = 3) ∨ (kd ≠ 1 ∧ kd ≠ 3)) with h1 | ⟨h1, h3⟩ | ⟨h1, h3⟩
        · have HQ1 : Hid (c + xl = bigL (l.take (j + 1))) := by show _ = _; rw [HQ.out]; simp [EdH.big, h1]
          subst h1
          go_wp2_with fail
          go_roundw
          case rel => exact ⟨j + 1, c + xl, by omega, by go_num, by go_num, by omega, HQ1.out, HK1.out⟩
          case measure => simp [intOf]; omega
        · have HQ1 : Hid (c + xl = bigL (l.take (j + 1))) := by show _ = _; rw [HQ.out]; simp [EdH.big, h3]
          subst h3
          clear h1
          go_wp2_with fail
          go_roundw
          case rel => exact ⟨j + 1, c + xl, by omega, by go_num, by go_num, by omega, HQ1.out, HK1.out⟩
          case measure => simp [intOf]; omega
        · have HQ1 : Hid (c = bigL (l.take (j + 1))) := by show _ = _; rw [HQ.out]; simp [EdH.big, h1, h3]
          have HC2 : Hid (c ≤ (j + 1) * 140737488355328) := Nat.le_trans hc1 (Nat.mul_le_mul_right _ (Nat.le_succ j))
          have e1 : (kd == 1) = false := by simpa using h1
          have e3 : (kd == 3) = false := by simpa using h3
          go_wp2_with fail
          go_roundw
          case rel => exact ⟨j + 1, c, by omega, by go_num, rfl, HC2.out, HQ1.out, HK1.out⟩
          case measure => simp [intOf]; omega
      · obtain rfl : j = len := by omega
        have HC : Hid (c = bigL l) := by show _ = _; rw [HS.out.1, ← HL.out, List.take_length]
        have HG : Hid (longB l = decide (2432 < (c : Int))) := by
          show _ = _
          unfold longB
          rw [HL.out, ← HC.out]
          exact decide_eq_decide.2 ⟨fun h => by omega, fun h => .inr (by omega)⟩
        go_wp2_with fail
        go_ret
        exact ⟨retB (by rw [HG.out]), HS.out.2⟩
end Go.Proofs.YtiedoocgbajjjaaGreatDoor

namespace Go.Proofs.YtiedoocgbajjjaaGreatDoor
open Go.RowKit Go.Maps
set_option maxRecDepth 100000

set_option maxRecDepth 100000 in
set_option maxHeartbeats 1000000 in
theorem slCloneI_any (v : Value) (l : List Nat) (w : World) (h : NumsIs w v l) (hl : l.length ≤ 100000) :
    Calls Tryz.prog 73 #[v] w fun e w' => ∃ v', e = .returned v' ∧ Hid (Kept [] w w' ∧ w'.ownsRow w.heap.size 3 1 v' l.length (iv (natI l))) := by
  have hen := fun (w : World) (a : Option Addr) (n c : Nat) => Lib.run_eql_slice_nil (P := Tryz.prog) w 56 3 a n c 0 0 Tryz.underlying56
  obtain ⟨ao, cap, rfl, hc1, hc2, hi⟩ := h
  obtain ⟨n, hn⟩ : ∃ n, l.length = n := ⟨_, rfl⟩
  rw [hn] at hi hc1 hl ⊢
  by_cases hz : ao = none
  · have h0 : l = [] := by
      subst hz
      rcases hi.2.2 with h0 | ⟨b, o, e, _⟩
      · exact List.eq_nil_of_length_eq_zero (by omega)
      · cases e
    subst hz h0
    have h0 : n = 0 := hn.symm
    subst h0
    clear hi hn
    go_enter Tryz.func73, Tryz.ntmps73
    go_wp2_with fail
    go_ret
    exact ⟨_, rfl, Kept.refl _ _, World.ownsRow_nil _ _ _ _⟩
  · obtain ⟨ad, rfl⟩ : ∃ ad, ao = some ad := by
      cases ao with
      | none => exact absurd rfl hz
      | some ad => exact ⟨ad, rfl⟩
    have how : (w.alloc (.cells #[] 3)).ownsRow w.heap.size 3 1 (.slice (some ⟨w.heap.size, 0, none⟩) 0 0) 0 [] :=
      ⟨by simp, .inr ⟨w.heap.size, 0, #[], rfl, Nat.le_refl _, heap_alloc_last _ _, Nat.le_refl _, by unfold maxLen; omega, rfl, rfl⟩⟩
    have hk0 : Kept [] w (w.alloc (.cells #[] 3)) := Kept.alloc _ _ _
    have hln : (iv (natI l)).length = n := by rw [iv_length]; simp [natI, hn]
    have hsrc : ∀ j u, (iv (natI l))[j]? = some u → (w.alloc (.cells #[] 3)).cell? (Addr.add ad j) = some u := fun j u hu => by
      rcases hi.2.2 with h0 | ⟨b, o, e, hb, hr⟩
      · have := (List.getElem?_eq_some_iff.1 hu).1
        omega
      · injection e with e
        subst e
        rw [Addr.add_mid]
        exact hk0.range hb (by simp) hr j u hu
    obtain ⟨v7, w7, hrun, hown, hk7, _⟩ := own_app elemInt 56 (w.alloc (.cells #[] 3)) w.heap.size _ 0 [] how ad n cap (iv (natI l)) (by omega) hsrc (iv_one _) (by unfold maxLen; omega) (by omega) (by rw [size_alloc]; omega)
    rw [Nat.zero_add, List.nil_append] at hown
    have HRUN := Lib.hid hrun
    have HO := Lib.hid (And.intro (hk0.own how (Nat.le_refl _) hk7) hown)
    clear hi how hk0 hrun hown hk7 hz hsrc hn hln
    go_enter Tryz.func73, Tryz.ntmps73
    go_wp2_with (at_builtin; refine wpList_append_run rfl _ _ 56 rfl _ _ _ rfl rfl HRUN.out ?_)
    go_ret
    exact ⟨v7, rfl, HO.out.1, HO.out.2⟩
end Go.Proofs.YtiedoocgbajjjaaGreatDoor

namespace Go.Proofs.YtiedoocgbajjjaaGreatDoor
open Go.RowKit Go.Maps
set_option maxRecDepth 100000

/-- How many blocks hold what a node has. -/
def ATr.cont (t : ATr) : Nat := if t.rc.kind = 2 then (t.size * 32 + 63) / 64 else (t.size + 63) / 64
/-- Whether a further block tells some of them. -/
def ATr.far (t : ATr) : Bool := decide ((t.cont : Int) < t.cost)

set_option maxRecDepth 100000 in
set_option maxHeartbeats 2000000 in
theorem nneed_any (t : ATr) (w : World) (h : TrOk w t) (hl : t.ks.kids.length ≤ 1000) :
    Calls Tryz.prog 125 #[.pointer (some ⟨t.addr, 0, none⟩)] w fun e w' => e = .returned (.tuple #[.int .i64 (t.cont : Int), .bool t.far]) ∧ Drawn w w' := by
  obtain ⟨m, va, vb, hrow, _⟩ := h.row
  have c0 : w.cell? ⟨t.addr, 0, none⟩ = some (.int .i64 t.rc.kind) := cell_of_row _ _ 0 _ _ _ hrow
  have hsz : t.size ≤ 2432 := by
    obtain ⟨a, m, va, vb, r, ks⟩ := t
    have h2 := h.2.1.2
    simp only [ATr.ks] at hl
    simp only [ATr.size]
    split <;> omega
  have N1 : ∀ n, Calls Tryz.prog 56 #[.pointer (some ⟨t.addr, 0, none⟩)] (w.drewN n) fun e w' => e = .returned (.int .i64 (t.size : Int)) ∧ w' = w.drewN n := fun n =>
    (nsize_any t (w.drewN n) (h.kept (Kept.drewN _ _ _)) hl).mono fun e w' ⟨h1, h2⟩ => ⟨h1, h2.symm⟩
  have N0 := Lib.hid ((nsize_any t w h hl).mono (R' := fun e w' => e = .returned (.int .i64 (t.size : Int)) ∧ w' = w) fun e w' ⟨h1, h2⟩ => ⟨h1, h2.symm⟩)
  obtain ⟨q, hq⟩ : ∃ q, costI t.rc.kind t.size = q := ⟨_, rfl⟩
  have N2 : ∀ w', Calls Tryz.prog 83 #[.int .i64 t.rc.kind, .int .i64 (t.size : Int)] w' fun e w'' => e = .returned (.int .i64 q) ∧ w'' = w' := fun w' => (cost_any _ _ w').mono fun e w'' ⟨h1, h2⟩ => ⟨by rw [h1, hq], h2.symm⟩
  have HF : Hid (t.far = decide ((t.cont : Int) < q)) := by show _ = _; unfold ATr.far ATr.cost; rw [hq]
  clear hrow h hl hq
  obtain ⟨s, hs⟩ : ∃ s, t.size = s := ⟨_, rfl⟩
  rw [hs] at hsz N0 N1 N2
  by_cases hk : t.rc.kind = 2
  · have hC : (t.cont : Int) = Int.tdiv ((s : Int) * 32 + 64 - 1) 64 := by
      rw [Int.tdiv_eq_ediv_of_nonneg (by omega)]
      unfold ATr.cont
      rw [if_pos hk, hs]
      omega
    obtain ⟨C, hCC⟩ : ∃ C, Int.tdiv ((s : Int) * 32 + 64 - 1) 64 = C := ⟨_, rfl⟩
    rw [hCC] at hC
    have hCb : 0 ≤ C ∧ C ≤ 100000 := by
      have := hC
      unfold ATr.cont at this
      rw [hs] at this
      split at this <;> omega
    rw [hC] at HF ⊢
    rw [HF.out]
    rw [hk] at c0 N2
    clear hC HF hs hk
    go_enter Tryz.func125, Tryz.ntmps125
    go_wp2_with fail
    refine N0.out.mono ?_
    rintro e w' ⟨rfl, rfl⟩
    go_wp2_with fail
    go_quiet ((first | (go_at_call 56; exact Calls.quiet_of_same (N1 _)) | (go_at_call 83; exact Calls.quiet_of_same (N2 _))))
    clear N1 N2
    go_wp2_with fail
    go_ret2
    exact ⟨rfl, _, rfl⟩
  · have hC : (t.cont : Int) = Int.tdiv ((s : Int) + 64 - 1) 64 := by
      rw [Int.tdiv_eq_ediv_of_nonneg (by omega)]
      unfold ATr.cont
      rw [if_neg hk, hs]
      omega
    obtain ⟨C, hCC⟩ : ∃ C, Int.tdiv ((s : Int) + 64 - 1) 64 = C := ⟨_, rfl⟩
    rw [hCC] at hC
    have hCb : 0 ≤ C ∧ C ≤ 100000 := by
      have := hC
      unfold ATr.cont at this
      rw [hs] at this
      split at this <;> omega
    rw [hC] at HF ⊢
    rw [HF.out]
    have hkb : (t.rc.kind == 2) = false := by simpa using hk
    clear hC HF hs hk
    go_enter Tryz.func125, Tryz.ntmps125
    go_wp2_with fail
    refine N0.out.mono ?_
    rintro e w' ⟨rfl, rfl⟩
    go_wp2_with fail
    go_quiet ((first | (go_at_call 56; exact Calls.quiet_of_same (N1 _)) | (go_at_call 83; exact Calls.quiet_of_same (N2 _))))
    clear N1 N2
    go_wp2_with fail
    go_ret2
    exact ⟨rfl, _, rfl⟩
end Go.Proofs.YtiedoocgbajjjaaGreatDoor

namespace Go.Proofs.YtiedoocgbajjjaaGreatDoor
open Go.RowKit Go.Maps
set_option maxRecDepth 100000

/-- A node's own row is written, its row of numbers lies where it lay. -/
theorem Turned.rowB {base : Nat} {w w' : World} {a : Nat} {m : Option Nat} {va va' vb vb' : Value} {r r' : NRec} {ks : AKs} (h : MTr base w (.node a m va vb r ks)) (hk : Kept [a] w w') (hrow : w'.heap[a]? = some (.cells (nodeRow m va' vb' r') 100)) (hkind : r'.kind = r.kind) (hob : vb'.ownBlock = vb.ownBlock)
    (hnums : NumsIs w' vb' r'.blocks) (hown : w'.ownsRow base 3 1 vb' r'.blocks.length (iv (natI r'.blocks))) (hbytes : BytesIs w' va' r'.bytes ∧ r'.bytes.length ≤ 2432) : Turned base w w' (.node a m va vb r ks) (.node a m va' vb' r' ks) := by
  have hnb : ∀ q ∈ [a], NoBytes w q := fun q hq => (foot_mem h.ok h.own q (by simp at hq; simp [hq, ATr.foot])).2.2
  obtain ⟨⟨h1, h2, h3, h4, h5⟩, ⟨o1, o2, o3, o4⟩, hnn⟩ := h
  have hnn0 := hnn
  have hf : (ATr.node a m va' vb' r' ks).foot = (ATr.node a m va vb r ks).foot := by simp only [ATr.foot, hob]
  simp only [ATr.foot] at hnn
  rw [List.nodup_cons] at hnn
  obtain ⟨na, hnn⟩ := hnn
  simp only [List.mem_append, not_or] at na
  have hfr := KsOk.frame hk hnb h5 o4 (fun q hq hh => by
    have : q = a := by simpa using hq
    subst this
    exact na.2.2 hh)
  refine ⟨hk.mono (fun q hq _ => by simp at hq; simp [hq, ATr.foot]), ⟨⟨hrow, hbytes, hnums, ?_, hfr.1⟩, ⟨o1, o2, hown, hfr.2⟩, by rw [hf]; exact hnn0⟩, rfl, fun q hq => .inl (by rw [← hf]; exact hq)⟩
  rw [hkind]
  cases m with
  | none => exact h4
  | some b => exact ⟨h4.1, h4.2.kept hk (fun hh => na.1 (by simp at hh; simp [hh]))⟩

theorem owns_cut {w : World} {base : Nat} {e : TypeId} {ao : Option Addr} {n cap : Nat} {xs : List Value} (h : w.ownsRow base e 1 (.slice ao n cap) n xs) {k : Nat} (hk : k ≤ n) : w.ownsRow base e 1 (.slice ao k cap) k (xs.take k) := by
  obtain ⟨h1, ⟨e1, h2⟩ | ⟨g, cap', cur, e1, hb, hg, hc1, hc2, hcs, htk⟩⟩ := h
  · injection e1 with e1 e2 e3
    subst e1 e2 e3
    obtain rfl : k = 0 := by omega
    exact ⟨by simp, .inl ⟨rfl, rfl⟩⟩
  · injection e1 with e1 e2 e3
    subst e1 e3
    refine ⟨?_, .inr ⟨g, cap, cur, rfl, hb, hg, by omega, hc2, hcs, ?_⟩⟩
    · rw [List.length_take, h1]
      omega
    · rw [← htk, List.take_take]
      congr 1
      omega
theorem nums_own {w : World} {base : Nat} {v : Value} {l : List Nat} (h : w.ownsRow base 3 1 v l.length (iv (natI l))) (hl : l.length ≤ 100000) : NumsIs w v l := by
  rcases owns_range h with ⟨g, cap, rfl, _, hg, hc1, hc2, hr⟩ | ⟨rfl, hz, _⟩
  · exact ⟨_, cap, rfl, hc1, by unfold maxLen at hc2; omega, by simp [natI], by omega, .inr ⟨g, 0, rfl, hg, hr⟩⟩
  · exact ⟨none, 0, by rw [hz], by omega, by omega, by simp [natI], by omega, .inl hz⟩

def cutV : Value → Nat → Value
  | .slice ao _ cap, k => .slice ao k cap
  | v, _ => v
/-- A node without the blocks that it needs no more. -/
def ATr.trimT (t : ATr) : ATr :=
  match t with
  | .node a m va vb r ks => .node a m va (cutV vb (min t.cont r.blocks.length)) { r with blocks := r.blocks.take t.cont, more := if t.far then r.more else 0 } ks

set_option maxRecDepth 100000 in
set_option maxHeartbeats 2000000 in
theorem ntrim_any (base : Nat) (t : ATr) (w : World) (h : MTr base w t) (hl : t.ks.kids.length ≤ 1000) (hb : t.rc.blocks.length ≤ 100000) :
    Calls Tryz.prog 101 #[.pointer (some ⟨t.addr, 0, none⟩)] w fun e w' => e = .returned (.tuple #[]) ∧ Hid (Turned base w w' t t.trimT) := by
  obtain ⟨a, m, va, vb, r, ks⟩ := t
  obtain ⟨t, ht⟩ : ∃ t, ATr.node a m va vb r ks = t := ⟨_, rfl⟩
  have hrow := h.ok.1
  have hown := h.own.2.2.1
  have HN := Lib.hid (nneed_any _ w h.ok hl)
  obtain ⟨n, hn⟩ : ∃ n, r.blocks.length = n := ⟨_, rfl⟩
  obtain ⟨C, hC⟩ : ∃ C, (ATr.node a m va vb r ks).cont = C := ⟨_, rfl⟩
  obtain ⟨f, hf⟩ : ∃ f, (ATr.node a m va vb r ks).far = f := ⟨_, rfl⟩
  rw [hC, hf] at HN
  obtain ⟨ao, cap, hv, hnc, hcm⟩ : ∃ ao cap, vb = .slice ao n cap ∧ n ≤ cap ∧ cap ≤ 9223372036854775807 := by
    rw [hn] at hown
    rcases owns_range hown with ⟨g, cap, rfl, _, _, h1, h2, _⟩ | ⟨rfl, hz, _⟩
    · exact ⟨_, _, rfl, h1, by unfold maxLen at h2; omega⟩
    · exact ⟨_, _, by rw [hz], by omega, by omega⟩
  subst hv
  obtain ⟨k, hk⟩ : ∃ k, min C n = k := ⟨_, rfl⟩
  have hkI : min (C : Int) (n : Int) = (k : Int) := by omega
  have hkn : k ≤ n := by omega
  have hkc : k ≤ cap := by omega
  have hCb : C ≤ 100000 := by
    have h2 := h.ok.2.1.2
    simp only [ATr.ks] at hl
    rw [← hC]
    simp only [ATr.cont, ATr.size, ATr.rc]
    split <;> omega
  have H := Lib.hid h
  have HEQ := Lib.hid (And.intro hn (And.intro hC (And.intro hf hk)))
  clear h hrow hown hl hb hn hC hf hk ht
  show Calls Tryz.prog 101 #[.pointer (some ⟨a, 0, none⟩)] w _
  go_enter Tryz.func101, Tryz.ntmps101
  go_wp2_with fail
  refine HN.out.mono ?_
  rintro e w1 ⟨rfl, hd⟩
  have hrow1 := hd.kept.heap (by simp) H.out.ok.1
  have HT1 := Lib.hid (Turned.still H.out hd.kept)
  have c5 : w1.cell? ⟨a, 5, none⟩ = some (.slice ao n cap) := cell_of_row _ _ 5 _ _ _ hrow1
  have c6 : w1.cell? ⟨a, 6, none⟩ = some (.int .i64 r.more) := cell_of_row _ _ 6 _ _ _ hrow1
  have fz : ∀ q, w1.frozen? ⟨a, q, none⟩ = false := fun q => frozen_of_row _ _ q _ _ hrow1
  have HFIN : Hid (∀ w', Kept [a] w1 w' → w'.heap[a]? = some (.cells (nodeRow m va (.slice ao k cap) { r with blocks := r.blocks.take C, more := if f then r.more else 0 }) 100) → Turned base w w' (ATr.node a m va (.slice ao n cap) r ks) (ATr.node a m va (.slice ao n cap) r ks).trimT) := fun w' hk' hr' => by
    obtain ⟨e1, e2, e3, e4⟩ := HEQ.out
    have M1 := HT1.out.m
    have hnb : ∀ q ∈ [a], NoBytes w1 q := fun q hq => (foot_mem M1.ok M1.own q (by simp at hq; simp [hq, ATr.foot])).2.2
    have hna : ∀ q, (Value.slice ao k cap).ownBlock = some q → q ∉ [a] := fun q hq hh => by
      have hqa : q = a := by simpa using hh
      subst hqa
      have := M1.nodup
      simp only [ATr.foot] at this
      rw [List.nodup_cons] at this
      have hq' : (Value.slice ao n cap).ownBlock = some q := by rw [← hq]; cases ao <;> rfl
      exact this.1 (by simp [hq'])
    have ho : w'.ownsRow base 3 1 (.slice ao k cap) (r.blocks.take C).length (iv (natI (r.blocks.take C))) := by
      have := M1.own.2.2.1
      rw [e1] at this
      have h1 := owns_kept (owns_cut this hkn) hk' hna
      have e5 : (r.blocks.take C).length = k := by rw [List.length_take, e1]; exact e4
      have e6 : (iv (natI r.blocks)).take k = iv (natI (r.blocks.take C)) := by
        simp only [iv, natI, ← List.map_take]
        rw [← e4, ← e1, List.take_eq_take_min]
        simp [Nat.min_comm]
      rw [e5, ← e6]
      exact h1
    have T2 := Turned.rowB M1 hk' hr' rfl (by cases ao <;> rfl) (nums_own ho (by rw [List.length_take]; omega)) ho ⟨M1.ok.2.1.1.keptN hk' hnb, M1.ok.2.1.2⟩
    have T3 := HT1.out.trans T2
    simp only [ATr.trimT, e2, e3, cutV, e1, e4]
    exact T3
  have HR1 := Lib.hid hrow1
  clear hrow1 hd HN
  cases f
  all_goals
   go_wp2_with fail
   refine wp_region_still_tail 15 (by kernel_rfl) (by kernel_rfl) ?_
   simp only [List.take_succ_cons, List.take_zero, List.drop_succ_cons, List.drop_zero]
   still_step
   still_step
   still_step
   still_step
   still_step
   still_step
   still_step
   still_step
   still_step
   still_step
   still_step
   still_step
   still_step
   still_step
   still_step
   refine wpStill_nil ?_
   go_wp2_with fail
   go_end0
   refine ⟨rfl, HFIN.out _ ?_ ?_⟩
  · exact ((Kept.setCell [a] w1 ⟨a, 5, none⟩ (.slice ao k cap) (by simp)).trans (Kept.drew _ _)).trans (Kept.setCell _ _ _ _ (by simp))
  · exact heap_setCell_same _ _ _ _ _ _ (heap_setCell_same w1 a 5 _ _ (.slice ao k cap) HR1.out)
  · exact (Kept.setCell [a] w1 ⟨a, 5, none⟩ (.slice ao k cap) (by simp)).trans (Kept.drew _ _)
  · exact heap_setCell_same w1 a 5 _ _ (.slice ao k cap) HR1.out
end Go.Proofs.YtiedoocgbajjjaaGreatDoor

namespace Go.Proofs.YtiedoocgbajjjaaGreatDoor
open Go.RowKit Go.Maps
set_option maxRecDepth 100000

theorem kid_atz (l : List Kid) (s : List UInt8) (zd : DataW Unit) : (DataW.map (l.map kidE)).atKey (.string s) zd = match kget l s with | some a => .lit (.int .i64 (a : Int)) | none => zd := by
  unfold DataW.atKey
  simp only
  have : (l.map kidE).find? (fun p => p.1.sameKey (.string s)) = (l.find? fun p => p.1 == s).map kidE := by
    rw [List.find?_map]
    rfl
  rw [this]
  unfold kget
  cases l.find? fun p => p.1 == s <;> rfl
theorem kid_has (l : List Kid) (s : List UInt8) : Maps.has (DataW.map (l.map kidE)) (.string s) = (kget l s).isSome := by
  rw [Maps.has_eq, List.any_map]
  unfold kget
  rw [Option.isSome_map, Bool.eq_iff_iff, List.find?_isSome, List.any_eq_true]
  rfl

/-- Block r OF w IS A LOOP's PLACE IN THE MAP m; S: the names that are still to come, cnt: how many. -/
def KRng (w : World) (m r : Nat) (l : List Kid) (S : List UInt8 → Bool) (cnt : Nat) : Prop :=
  ∃ n left, n ≤ 1000000 ∧ w.ranges Tryz.prog 9 ptrR m r n (.map (l.map kidE)) left cnt ∧ ∀ s, left (.string s) = S s
theorem KRng.kept {w w' : World} {m r : Nat} {l : List Kid} {S : List UInt8 → Bool} {cnt : Nat} {ex : List Nat} (h : KRng w m r l S cnt) (hk : Kept ex w w') (hm : m ∉ ex) (hr : r ∉ ex) : KRng w' m r l S cnt := by
  obtain ⟨n, left, hn, ⟨es, clock, since, seen, c0, h1, h2, h3, h4, h5, h6⟩, hl⟩ := h
  exact ⟨n, left, hn, ⟨es, clock, since, seen, c0, hk.heap hm h1, h2, h3, h4, hk.heap hr h5, h6⟩, hl⟩
theorem KRng.map {w : World} {m r : Nat} {l : List Kid} {S : List UInt8 → Bool} {cnt : Nat} (h : KRng w m r l S cnt) : KMap w m l := by
  obtain ⟨n, left, hn, ⟨es, clock, since, seen, c0, h1, h2, h3, h4, _⟩, _⟩ := h
  exact ⟨n, hn, es, clock, h1, h2, h3, h4⟩

section
variable {w : World} {ops : Array Oper} {rest : List Oper} {o : Oper} {a : Act} {Q : Exit → Act → World → Prop}
theorem wpList_range_kid (hg : o.guard = none) (mo : Operand) (hop : o.op = Op.range 98 mo) (m : Nat) (l : List Kid) (hm : a.eval mo = .map (some m)) (h : KMap w m l)
    (hK : ∀ w', KRng w' m w.heap.size l (fun s => (kget l s).isSome) l.length → Kept [] w w' → w'.heap.size = w.heap.size + 1 → wpList Tryz.prog ops Q rest (a.put o.dst (.pointer (some ⟨w.heap.size, 0, none⟩))) w') :
    wpList Tryz.prog ops Q (o :: rest) a w := by
  obtain ⟨n, hn, h1⟩ := h
  refine wpList_range_own w hg mo 98 hop _ _ strKeyed Tryz.underlying98 ptrR m n _ hm h1 fun w' hr hgr hsz => hK w' ?_ (Kept.grown hgr (by simp)) hsz
  refine ⟨n, _, hn, ?_, fun s => kid_has l s⟩
  rw [Maps.size_eq, List.length_map] at hr
  exact hr
theorem wpList_next_kid (hg : o.guard = none) (it : Operand) (hop : o.op = Op.next it false) (m r : Nat) (l : List Kid) (S : List UInt8 → Bool) (cnt : Nat) (hit : a.eval it = .pointer (some ⟨r, 0, none⟩)) (h : KRng w m r l S cnt)
    (hDone : (∀ s, S s = false) → wpList Tryz.prog ops Q rest (a.put o.dst (.tuple #[.bool false])) w)
    (hMore : ∀ (s : List UInt8) (x : Nat) (w' : World) (cnt' : Nat), S s = true → kget l s = some x → KRng w' m r l (fun z => S z && !(z == s)) cnt' → cnt' < cnt → Kept [r] w w' → w'.heap.size = w.heap.size →
      (Instr.entry (.pointer (some ⟨r, 0, none⟩))).run Tryz.prog w' = .ok (.tuple #[.string (strL s), .pointer (some ⟨x, 0, none⟩)]) w' → wpList Tryz.prog ops Q rest (a.put o.dst (.tuple #[.bool true, .string (strL s), .pointer (some ⟨x, 0, none⟩)])) w') :
    wpList Tryz.prog ops Q (o :: rest) a w := by
  obtain ⟨n, left, hn, hr, hl⟩ := h
  refine wpList_next_ranges w hg it hop _ strKeyed ptrR (fun s : List UInt8 => .string (strL s)) (fun c : Option Nat => .pointer (c.map fun x => ⟨x, 0, none⟩))
    (fun key kl hkey => by obtain ⟨x, rfl, _⟩ := Maps.keyOf_str Tryz.underlying9 hkey; exact ⟨x, rfl⟩)
    (fun v y hv => by
      unfold ptrR at hv
      split at hv
      · exact ⟨some _, rfl⟩
      · exact ⟨none, rfl⟩
      · cases hv)
    m r n _ left cnt hit hr (fun _ hd => hDone fun s => by rw [← hl]; exact hd _) ?_
  intro s c kl y w' cnt' hkey hlk hv hat hrg hlt hgr hsz hen
  obtain ⟨x, ex, rfl, _⟩ := Maps.keyOf_str Tryz.underlying9 hkey
  have hxs : s = x := by
    have : strL s = strL x := by injection ex
    rw [← strL_bytes s, this, strL_bytes]
  subst hxs
  have hS : S s = true := by rw [← hl]; exact hlk
  cases hkg : kget l s with
  | none =>
    have e1 := hat .nil
    have e2 := hat (.lit (.int .i64 0))
    rw [kid_atz, hkg] at e1 e2
    rw [← e1] at e2
    cases e2
  | some q =>
    have e1 := hat .nil
    rw [kid_atz, hkg] at e1
    cases c with
    | none =>
      have : y = (.nil, []) := by
        have := hv
        simp only [ptrR, Option.map_none, Option.some.injEq] at this
        exact this.symm
      rw [this] at e1
      cases e1
    | some p =>
      have : y = (.lit (.int .i64 (p : Int)), []) := by
        have := hv
        simp only [ptrR, Option.map_some, Option.some.injEq] at this
        exact this.symm
      rw [this] at e1
      simp only [DataW.lit.injEq, Lit.int.injEq, true_and] at e1
      have hpq : p = q := by omega
      subst hpq
      refine hMore s p w' cnt' hS hkg ⟨n, _, hn, hrg, fun z => ?_⟩ hlt (Kept.grown hgr (fun k e => by injection e with e; simp [e])) hsz hen
      show (left (.string z) && !(Lit.string z).sameKey (.string s)) = _
      rw [hl]
      rfl
end
end Go.Proofs.YtiedoocgbajjjaaGreatDoor

namespace Go.Proofs.YtiedoocgbajjjaaGreatDoor
open Go.RowKit Go.Maps
set_option maxRecDepth 100000

theorem ownsRow_lower {base base' : Nat} {w : World} (hb : base' ≤ base) {e : TypeId} {v : Value} {n : Nat} {xs : List Value} (h : w.ownsRow base e 1 v n xs) : w.ownsRow base' e 1 v n xs := by
  obtain ⟨l1, l2 | ⟨g, cap, cur, e, hg, r⟩⟩ := h
  · exact ⟨l1, .inl l2⟩
  · exact ⟨l1, .inr ⟨g, cap, cur, e, Nat.le_trans hb hg, r⟩⟩
mutual
theorem OwnT.low {base base' : Nat} {w : World} (hb : base' ≤ base) : ∀ {t : ATr}, OwnT base w t → OwnT base' w t
  | .node _ _ _ _ _ _, h => ⟨Nat.le_trans hb h.1, fun b e => Nat.le_trans hb (h.2.1 b e), ownsRow_lower hb h.2.2.1, OwnK.low hb h.2.2.2⟩
theorem OwnK.low {base base' : Nat} {w : World} (hb : base' ≤ base) : ∀ {k : AKs}, OwnK base w k → OwnK base' w k
  | .nil, _ => trivial
  | .cons _ _ _, h => ⟨OwnT.low hb h.1, OwnK.low hb h.2⟩
end
/-- A new entry, whatever tree it is. -/
theorem Turned.addM {base : Nat} {w w1 w2 : World} {a b : Nat} {va vb : Value} {r : NRec} {ks : AKs} {s : List UInt8} {x : ATr} (h : MTr base w (.node a (some b) va vb r ks)) (hkind : r.kind = 2) (hs : s.length ≤ 28) (hg : ks.get s = none) (hk1 : Kept [] w w1) (hx : MTr w.heap.size w1 x)
    (hm2 : KMap w2 b (kput ks.kids s x.addr)) (hk2 : Kept [b] w1 w2) (hbase : base ≤ w.heap.size) :
    Turned base w w2 (.node a (some b) va vb r ks) (.node a (some b) va vb r (ks.ins s x)) := by
  have T1 := Turned.still h hk1
  have M1 := T1.m
  have hnn := M1.nodup
  simp only [ATr.foot] at hnn
  rw [List.nodup_cons] at hnn
  have hab : a ≠ b := fun e => hnn.1 (by simp [e])
  have hrow2 := hk2.heap (b := a) (by simp [hab]) M1.ok.1
  have hks : Kept [a, b] w1 w2 := hk2.mono (fun q hq _ => by simp at hq; simp [hq])
  have hnb : ∀ q ∈ [a, b], NoBytes w1 q := fun q hq => (foot_mem M1.ok M1.own q (by simp at hq; rcases hq with rfl | rfl <;> simp [ATr.foot])).2.2
  have hdis : ∀ q ∈ [a, b], q ∉ ks.foot := fun q hq hh => by
    simp at hq
    rcases hq with rfl | rfl
    · exact hnn.1 (by simp [hh])
    · exact (nodup_app hnn.2).2.2 q (by simp) (by simp [hh])
  have hfr := KsOk.frame hks hnb M1.ok.2.2.2.2 M1.own.2.2.2 hdis
  have hold : ∀ q ∈ (ATr.node a (some b) va vb r ks).foot, q < w.heap.size := fun q hq => (foot_mem h.ok h.own q hq).2.1
  have hxd : ∀ q ∈ [a, b], q ∉ x.foot := fun q hq hh => by
    have h1 := (foot_mem hx.ok hx.own q hh).1
    have h2 := hold q (by simp at hq; rcases hq with rfl | rfl <;> simp [ATr.foot])
    omega
  have hxf := TrOk.frame hks hnb hx.ok hx.own hxd
  have hperm := AKs.foot_ins ks s x
  have hkn : ks.foot.Nodup := (nodup_app (nodup_app hnn.2).2.1).2.1
  have hxk2 : ∀ q ∈ x.foot, q ∉ ks.foot := fun q hq hh => by
    have h1 := (foot_mem hx.ok hx.own q hq).1
    have h2 := hold q (by simp [ATr.foot, hh])
    omega
  refine Turned.node h ((hk1.mono (by simp)).trans hks) hrow2 hkind rfl ⟨(h.ok.2.1.1.kept hk1).keptN hks hnb, h.ok.2.1.2⟩ ?_ (hfr.1.ins hs hxf.1) (hfr.2.ins (OwnT.low hbase hxf.2)) ?_ ?_
  · rw [AKs.kids_ins]
    have : kput ks.kids s x.addr = kins (s, x.addr) ks.kids := by unfold kput; rw [AKs.get_none hg]
    rw [← this]
    exact hm2
  · exact hperm.nodup_iff.2 (nodup_mk hx.nodup hkn hxk2)
  · intro q hq
    rcases List.mem_append.1 (hperm.mem_iff.1 hq) with h' | h'
    · exact .inr (foot_mem hx.ok hx.own q h').1
    · exact .inl h'

mutual
/-- A tree whose nodes' blocks hold what they have. -/
def PTr.plain : PTr → PTr
  | .node r ks => .node { r with fresh := false } ks.plain
def PKs.plain : PKs → PKs
  | .nil => .nil
  | .cons s t k => .cons s t.plain k.plain
end
def PKs.names : PKs → List (List UInt8)
  | .nil => []
  | .cons s _ k => s :: k.names
theorem PKs.plain_get : ∀ (k : PKs) (s : List UInt8), k.plain.get s = (k.get s).map PTr.plain
  | .nil, _ => rfl
  | .cons s' t k, s => by
    simp only [PKs.plain, PKs.get]
    split
    · rfl
    · exact PKs.plain_get k s
theorem PKs.plain_names : ∀ k : PKs, k.plain.names = k.names
  | .nil => rfl
  | .cons s t k => by simp [PKs.plain, PKs.names, PKs.plain_names k]
theorem er_names : ∀ k : AKs, k.er.names = k.names
  | .nil => rfl
  | .cons s t k => by simp [AKs.er, PKs.names, AKs.names, er_names k]
theorem PKs.get_mem : ∀ {k : PKs} {s : List UInt8}, (k.get s).isSome = true ↔ s ∈ k.names
  | .nil, _ => by simp [PKs.get, PKs.names]
  | .cons s' t k, s => by
    have ih := PKs.get_mem (k := k) (s := s)
    simp only [PKs.get, PKs.names, List.mem_cons]
    split
    · rename_i h; simp [h]
    · rename_i h
      rw [ih]
      exact ⟨.inr, fun h2 => h2.elim (fun e => absurd e.symm h) id⟩
theorem bytesBefore_irrefl (s : List UInt8) : bytesBefore s s = false := by
  induction s with
  | nil => rfl
  | cons a s ih => simp [bytesBefore, ih]
theorem bytesBefore_asymm : ∀ {s t : List UInt8}, bytesBefore s t = true → bytesBefore t s = true → False
  | [], [], h, _ => by simp [bytesBefore] at h
  | [], _ :: _, _, h => by simp [bytesBefore] at h
  | _ :: _, [], h, _ => by simp [bytesBefore] at h
  | a :: s, b :: t, h, k => by
    simp only [bytesBefore, Bool.or_eq_true, Bool.and_eq_true, decide_eq_true_eq, beq_iff_eq] at h k
    rcases h with h | ⟨h1, h2⟩
    · rcases k with k | ⟨k1, k2⟩
      · exact absurd h (UInt8.lt_asymm k)
      · subst k1; exact absurd h (UInt8.lt_irrefl _)
    · subst h1
      rcases k with k | ⟨_, k2⟩
      · exact absurd k (UInt8.lt_irrefl _)
      · exact bytesBefore_asymm h2 k2
/-- Rows of entries in order that say the same of each name are one. -/
theorem PKs.ext : ∀ {k l : PKs}, k.names.Pairwise (fun p q => bytesBefore p q = true) → l.names.Pairwise (fun p q => bytesBefore p q = true) → (∀ s, k.get s = l.get s) → k = l
  | .nil, .nil, _, _, _ => rfl
  | .nil, .cons s t k, _, _, h => by have := h s; simp [PKs.get] at this
  | .cons s t k, .nil, _, _, h => by have := h s; simp [PKs.get] at this
  | .cons s t k, .cons s' t' l, hk, hl, h => by
    simp only [PKs.names, List.pairwise_cons] at hk hl
    have hs : s = s' := by
      by_cases e : s = s'
      · exact e
      · have h1 : s ∈ l.names := by
          have := h s
          simp only [PKs.get, if_true, if_neg (Ne.symm e)] at this
          exact PKs.get_mem.1 (by rw [← this]; rfl)
        have h2 : s' ∈ k.names := by
          have := h s'
          simp only [PKs.get, if_true, if_neg e] at this
          exact PKs.get_mem.1 (by rw [this]; rfl)
        exact (bytesBefore_asymm (hk.1 _ h2) (hl.1 _ h1)).elim
    subst hs
    have ht : t = t' := by
      have := h s
      simpa [PKs.get] using this
    subst ht
    have hno : ∀ {m : PKs}, (∀ a ∈ m.names, bytesBefore s a = true) → m.get s = none := fun {m} hm => by
      cases hg : m.get s with
      | none => rfl
      | some u =>
        have := hm s (PKs.get_mem.1 (by rw [hg]; rfl))
        rw [bytesBefore_irrefl] at this
        cases this
    rw [PKs.ext hk.2 hl.2 (fun x => by
      by_cases e : s = x
      · subst e; rw [hno hk.1, hno hl.1]
      · have := h x
        simpa only [PKs.get, if_neg e] using this)]
end Go.Proofs.YtiedoocgbajjjaaGreatDoor

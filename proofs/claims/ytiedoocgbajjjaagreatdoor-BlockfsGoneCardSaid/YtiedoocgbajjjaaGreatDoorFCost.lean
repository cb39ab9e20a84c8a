/-
  Layer 4: an edit of a tree.
  Conditions: those of each theorem.
  Layer 4: what the nodes of a tree cost (cost), whether a tree fits (fits).
  Conditions: those that each theorem states.
-/
import Derived.Test.YtiedoocgbajjjaaGreatDoorFPath
namespace Go.Proofs.YtiedoocgbajjjaaGreatDoor
open Go.RowKit Go.Maps
set_option maxRecDepth 100000

def soundB (kind mode : Int) : Bool := if kind = 1 ∨ kind = 2 ∨ kind = 4 then decide (0 ≤ mode ∧ mode ≤ 4095) else decide (kind = 3 ∨ kind = 5)
set_option maxHeartbeats 2000000 in
theorem soundEdit_any (kind mode : Int) (path : List UInt8) (ao : Option Addr) (len cap : Nat) (w : World) : Calls Tryz.prog 74 #[editV kind path mode ao len cap] w fun e w' => e = .returned (.bool (soundB kind mode)) ∧ Kept [] w w' := by
  unfold editV
  rcases (by omega : kind = 1 ∨ kind = 2 ∨ kind = 4 ∨ kind = 3 ∨ kind = 5 ∨ (kind ≠ 1 ∧ kind ≠ 2 ∧ kind ≠ 4 ∧ kind ≠ 3 ∧ kind ≠ 5)) with rfl | rfl | rfl | rfl | rfl | ⟨h1, h2, h4, h3, h5⟩
  · rcases (by omega : mode < 0 ∨ (0 ≤ mode ∧ 4095 < mode) ∨ (0 ≤ mode ∧ mode ≤ 4095)) with hm | ⟨hm, hm2⟩ | ⟨hm, hm2⟩
    · have HS : Hid (soundB 1 mode = false) := by show _ = _; simp [soundB]; omega
      go_enter Tryz.func74, Tryz.ntmps74
      go_wp2_with fail
      go_ret
      exact ⟨retB (by first | exact HS.out.symm | (rw [HS.out]; exact decide_eq_false (by omega))), Kept.alloc _ _ _⟩
    · have HS : Hid (soundB 1 mode = false) := by show _ = _; simp [soundB]; omega
      go_enter Tryz.func74, Tryz.ntmps74
      go_wp2_with fail
      go_ret
      exact ⟨retB (by first | exact HS.out.symm | (rw [HS.out]; exact decide_eq_false (by omega))), Kept.alloc _ _ _⟩
    · have HS : Hid (soundB 1 mode = true) := by show _ = _; simp [soundB]; omega
      go_enter Tryz.func74, Tryz.ntmps74
      go_wp2_with fail
      go_ret
      exact ⟨retB (by first | exact HS.out.symm | (rw [HS.out]; exact decide_eq_false (by omega))), Kept.alloc _ _ _⟩
  · rcases (by omega : mode < 0 ∨ (0 ≤ mode ∧ 4095 < mode) ∨ (0 ≤ mode ∧ mode ≤ 4095)) with hm | ⟨hm, hm2⟩ | ⟨hm, hm2⟩
    · have HS : Hid (soundB 2 mode = false) := by show _ = _; simp [soundB]; omega
      go_enter Tryz.func74, Tryz.ntmps74
      go_wp2_with fail
      go_ret
      exact ⟨retB (by first | exact HS.out.symm | (rw [HS.out]; exact decide_eq_false (by omega))), Kept.alloc _ _ _⟩
    · have HS : Hid (soundB 2 mode = false) := by show _ = _; simp [soundB]; omega
      go_enter Tryz.func74, Tryz.ntmps74
      go_wp2_with fail
      go_ret
      exact ⟨retB (by first | exact HS.out.symm | (rw [HS.out]; exact decide_eq_false (by omega))), Kept.alloc _ _ _⟩
    · have HS : Hid (soundB 2 mode = true) := by show _ = _; simp [soundB]; omega
      go_enter Tryz.func74, Tryz.ntmps74
      go_wp2_with fail
      go_ret
      exact ⟨retB (by first | exact HS.out.symm | (rw [HS.out]; exact decide_eq_false (by omega))), Kept.alloc _ _ _⟩
  · rcases (by omega : mode < 0 ∨ (0 ≤ mode ∧ 4095 < mode) ∨ (0 ≤ mode ∧ mode ≤ 4095)) with hm | ⟨hm, hm2⟩ | ⟨hm, hm2⟩
    · have HS : Hid (soundB 4 mode = false) := by show _ = _; simp [soundB]; omega
      go_enter Tryz.func74, Tryz.ntmps74
      go_wp2_with fail
      go_ret
      exact ⟨retB (by first | exact HS.out.symm | (rw [HS.out]; exact decide_eq_false (by omega))), Kept.alloc _ _ _⟩
    · have HS : Hid (soundB 4 mode = false) := by show _ = _; simp [soundB]; omega
      go_enter Tryz.func74, Tryz.ntmps74
      go_wp2_with fail
      go_ret
      exact ⟨retB (by first | exact HS.out.symm | (rw [HS.out]; exact decide_eq_false (by omega))), Kept.alloc _ _ _⟩
    · have HS : Hid (soundB 4 mode = true) := by show _ = _; simp [soundB]; omega
      go_enter Tryz.func74, Tryz.ntmps74
      go_wp2_with fail
      go_ret
      exact ⟨retB (by first | exact HS.out.symm | (rw [HS.out]; exact decide_eq_false (by omega))), Kept.alloc _ _ _⟩
  · have HS : Hid (soundB 3 mode = true) := by show _ = _; simp [soundB]
    go_enter Tryz.func74, Tryz.ntmps74
    go_wp2_with fail
    go_ret
    exact ⟨retB (by first | exact HS.out.symm | (rw [HS.out]; exact decide_eq_false (by omega))), Kept.alloc _ _ _⟩
  · have HS : Hid (soundB 5 mode = true) := by show _ = _; simp [soundB]
    go_enter Tryz.func74, Tryz.ntmps74
    go_wp2_with fail
    go_ret
    exact ⟨retB (by first | exact HS.out.symm | (rw [HS.out]; exact decide_eq_false (by omega))), Kept.alloc _ _ _⟩
  · have HS : Hid (soundB kind mode = false) := by show _ = _; simp [soundB, h1, h2, h3, h4, h5]
    have b1 : (kind == 1) = false := by simpa using h1
    have b2 : (kind == 2) = false := by simpa using h2
    have b3 : (kind == 3) = false := by simpa using h3
    have b4 : (kind == 4) = false := by simpa using h4
    have b5 : (kind == 5) = false := by simpa using h5
    go_enter Tryz.func74, Tryz.ntmps74
    go_wp2_with fail
    go_ret
    exact ⟨retB (by first | exact HS.out.symm | (rw [HS.out]; exact decide_eq_false (by omega))), Kept.alloc _ _ _⟩

set_option maxHeartbeats 2000000 in
theorem neditRoot_any (base : Nat) (t : ATr) (kind mode : Int) (path : List UInt8) (ao : Option Addr) (len cap : Nat) (w : World) (h : MTr base w t) :
    Calls Tryz.prog 76 #[.pointer (some ⟨t.addr, 0, none⟩), editV kind path mode ao len cap] w (EdOut base t (t.er.editR kind mode) w) := by
  unfold editV
  obtain ⟨w1, hw1⟩ : ∃ w1, w.alloc (.cells #[.int .i64 kind, .string (strL path), .int .i64 mode, .slice ao len cap] 35) = w1 := ⟨_, rfl⟩
  have hk1 : Kept [] w w1 := by rw [← hw1]; exact Kept.alloc _ _ _
  have hx : w1.heap[w.heap.size]? = some (.cells #[.int .i64 kind, .string (strL path), .int .i64 mode, .slice ao len cap] 35) := by rw [← hw1]; exact heap_alloc_last _ _
  have c0 : w1.cell? ⟨w.heap.size, 0, none⟩ = some (.int .i64 kind) := cell_of_row _ _ 0 _ _ _ hx
  have c2 : w1.cell? ⟨w.heap.size, 2, none⟩ = some (.int .i64 mode) := cell_of_row _ _ 2 _ _ _ hx
  have T1 := Turned.still h hk1
  have no : ∀ c : Int, t.er.editR kind mode = (c, t.er) → Hid (EdOut base t (t.er.editR kind mode) w (.returned (.int .i64 c)) w1) := fun c hc => by
    exact ⟨c, t, rfl, T1, by rw [hc]⟩
  by_cases e1 : kind = 1 ∨ kind = 3
  · have HF := no 42 (by unfold PTr.editR; rw [if_pos e1])
    clear no T1 h hk1 hx
    rcases e1 with rfl | rfl
    · go_enter Tryz.func76, Tryz.ntmps76
      go_wp2_with fail
      go_ret
      exact HF.out
    · go_enter Tryz.func76, Tryz.ntmps76
      go_wp2_with fail
      go_ret
      exact HF.out
  · have b1 : (kind == 1) = false := by simp; omega
    have b3 : (kind == 3) = false := by simp; omega
    by_cases e5 : kind = 5
    · have HF := no 40 (by unfold PTr.editR; rw [if_neg e1, if_pos e5])
      clear no T1 h hk1 hx e1
      subst e5
      go_enter Tryz.func76, Tryz.ntmps76
      go_wp2_with fail
      go_ret
      exact HF.out
    · have b5 : (kind == 5) = false := by simp; omega
      have T2 := T1.trans (Turned.mode T1.m mode)
      have HF : Hid (EdOut base t (t.er.editR kind mode) w (.returned (.int .i64 0)) (w1.setCell ⟨t.addr, 1, none⟩ (.int .i64 mode))) := by
        refine ⟨0, _, rfl, T2, ?_⟩
        unfold PTr.editR
        rw [if_neg e1, if_neg e5]
        obtain ⟨a, m, va, vb, r, ks⟩ := t
        rfl
      obtain ⟨m', va', vb', hrow', _⟩ := T1.m.ok.row
      have d1 : w1.cell? ⟨t.addr, 1, none⟩ = some (.int .i64 t.rc.mode) := cell_of_row _ _ 1 _ _ _ hrow'
      have f1 : w1.frozen? ⟨t.addr, 1, none⟩ = false := frozen_of_row _ _ 1 _ _ hrow'
      clear no T1 T2 h hk1 hx e1 e5 hrow'
      go_enter Tryz.func76, Tryz.ntmps76
      go_wp2_with fail
      go_ret
      exact HF.out

def folP (t : PTr) : List (List UInt8) → Int × Option PTr
  | [] => (0, some t)
  | s :: l => if t.rc.kind = 2 then (match t.ks.get s with | some u => folP u l | none => (41, none)) else (42, none)
def PTr.putP : PTr → List (List UInt8) → PTr → PTr
  | _, [], u => u
  | t, s :: l, u => match t.ks.get s with
    | some x => .node t.rc (t.ks.set s (x.putP l u))
    | none => t
theorem er_fol : ∀ (ns : List (List UInt8)) (t : ATr), folP t.er ns = ((fol t ns).1, (fol t ns).2.map ATr.er)
  | [], t => rfl
  | s :: l, t => by
    simp only [folP, fol, er_rc, er_ks, er_get]
    split
    · cases t.ks.get s with
      | none => rfl
      | some u => exact er_fol l u
    · rfl
theorem er_put : ∀ (ns : List (List UInt8)) (t u : ATr), (t.putAt ns u).er = t.er.putP ns u.er
  | [], t, u => by cases t; rfl
  | s :: l, t, u => by
    obtain ⟨a, m, va, vb, r, ks⟩ := t
    simp only [ATr.putAt, PTr.putP, ATr.er, PTr.ks, er_get]
    cases hg : ks.get s with
    | none => rfl
    | some x =>
      simp only [Option.map_some, ATr.er, er_set, er_put l x u]
      rfl
/-- An edit, of a tree. -/
def PTr.edit (t : PTr) (kind mode : Int) (path L : List UInt8) : Int × PTr :=
  if soundB kind mode = false then (1, t) else
  match pathO path with
  | none => (40, t)
  | some ns => match ns.getLast? with
    | none => t.editR kind mode
    | some s => match folP t ns.dropLast with
      | (c, none) => (c, t)
      | (_, some p) => if p.rc.kind = 2 then ((p.editE s kind mode L).1, t.putP ns.dropLast (p.editE s kind mode L).2) else (42, t)
theorem fol_code : ∀ (ns : List (List UInt8)) (t : ATr), ((fol t ns).1 = 0 ∧ ∃ u, (fol t ns).2 = some u) ∨ ((fol t ns).1 ≠ 0 ∧ (fol t ns).2 = none)
  | [], t => .inl ⟨rfl, t, rfl⟩
  | s :: l, t => by
    simp only [fol]
    split
    · cases t.ks.get s with
      | none => exact .inr ⟨by simp, rfl⟩
      | some u => exact fol_code l u
    · exact .inr ⟨by simp, rfl⟩

mutual
/-- No directory has more than sixteen entries. -/
def PTr.sm : PTr → Prop
  | .node _ ks => ks.len ≤ 16 ∧ ks.sm
def PKs.sm : PKs → Prop
  | .nil => True
  | .cons _ t k => t.sm ∧ k.sm
end
theorem sm_ks {t : PTr} (h : t.sm) : t.ks.len ≤ 16 ∧ t.ks.sm := by cases t; exact h
theorem sm_get : ∀ {k : PKs} {x : List UInt8} {u : PTr}, k.sm → k.get x = some u → u.sm
  | .cons s t k, x, u, h, hg => by
    simp only [PKs.get] at hg
    split at hg
    · injection hg with hg
      rw [← hg]
      exact h.1
    · exact sm_get h.2 hg
theorem sm_fol : ∀ (ns : List (List UInt8)) {t u : PTr}, t.sm → (folP t ns).2 = some u → u.sm
  | [], t, u, h, hf => by
    simp only [folP, Option.some.injEq] at hf
    rw [← hf]
    exact h
  | s :: l, t, u, h, hf => by
    simp only [folP] at hf
    split at hf
    · cases hg : t.ks.get s with
      | none => rw [hg] at hf; cases hf
      | some x =>
        rw [hg] at hf
        exact sm_fol l (sm_get (sm_ks h).2 hg) hf
    · cases hf
theorem fol_mtr {base : Nat} {w : World} : ∀ (ns : List (List UInt8)) {t u : ATr}, MTr base w t → (fol t ns).2 = some u → MTr base w u
  | [], t, u, h, hf => by
    simp only [fol, Option.some.injEq] at hf
    rw [← hf]
    exact h
  | s :: l, t, u, h, hf => by
    simp only [fol] at hf
    split at hf
    · cases hg : t.ks.get s with
      | none => rw [hg] at hf; cases hf
      | some x =>
        rw [hg] at hf
        exact fol_mtr l (h.sub hg) hf
    · cases hf

set_option maxRecDepth 100000 in
set_option maxHeartbeats 4000000 in
theorem nedit_any (base : Nat) (t : ATr) (kind mode : Int) (path : List UInt8) (ao : Option Addr) (len cap : Nat) (L : List UInt8) (w : World) (h : MTr base w t) (hsm : t.er.sm) (hA : ArgU base w ao len cap L) (hl : kind = 1 ∨ kind = 3 → len ≤ 2432) (hbase : base ≤ w.heap.size) (hp : path.length ≤ 9223372036854775807) :
    Calls Tryz.prog 46 #[.pointer (some ⟨t.addr, 0, none⟩), editV kind path mode ao len cap] w (EdOut base t (t.er.edit kind mode path L) w) := by
  unfold editV
  obtain ⟨w1, hw1⟩ : ∃ w1, w.alloc (.cells #[.int .i64 kind, .string (strL path), .int .i64 mode, .slice ao len cap] 35) = w1 := ⟨_, rfl⟩
  have hk1 : Kept [] w w1 := by rw [← hw1]; exact Kept.alloc _ _ _
  have hx : w1.heap[w.heap.size]? = some (.cells #[.int .i64 kind, .string (strL path), .int .i64 mode, .slice ao len cap] 35) := by rw [← hw1]; exact heap_alloc_last _ _
  have c0 : w1.cell? ⟨w.heap.size, 0, none⟩ = some (.int .i64 kind) := cell_of_row _ _ 0 _ _ _ hx
  have c1 : w1.cell? ⟨w.heap.size, 1, none⟩ = some (.string (strL path)) := cell_of_row _ _ 1 _ _ _ hx
  have c2 : w1.cell? ⟨w.heap.size, 2, none⟩ = some (.int .i64 mode) := cell_of_row _ _ 2 _ _ _ hx
  have c3 : w1.cell? ⟨w.heap.size, 3, none⟩ = some (.slice ao len cap) := cell_of_row _ _ 3 _ _ _ hx
  have HX := Lib.hid hx
  have HK1 := Lib.hid hk1
  have HM := Lib.hid h
  have HA := Lib.hid hA
  have HSM := Lib.hid hsm
  have no : ∀ (c : Int) (w' : World), t.er.edit kind mode path L = (c, t.er) → Kept [] w w' → EdOut base t (t.er.edit kind mode path L) w (.returned (.int .i64 c)) w' := fun c w' hc hk => ⟨c, t, rfl, Turned.still h hk, by rw [hc]⟩
  have NO := Lib.hid no
  clear hk1 hx h hA hsm no
  go_enter Tryz.func46, Tryz.ntmps46
  go_wp2_with fail
  refine (soundEdit_any kind mode path ao len cap w1).mono ?_
  clear c0 c1 c2 c3
  cases hsb : soundB kind mode
  · rintro e w2 ⟨rfl, hk2⟩
    have HF := Lib.hid (NO.out 1 w2 (by unfold PTr.edit; rw [if_pos hsb]) (HK1.out.trans hk2))
    clear hk2 hsb
    go_wp2_with fail
    go_ret
    exact HF.out
  · rintro e w2 ⟨rfl, hk2⟩
    have HSB := Lib.hid hsb
    have HK2 := Lib.hid (HK1.out.trans hk2)
    have hx2 := hk2.heap (by simp) HX.out
    have HX2 := Lib.hid hx2
    have c1 : w2.cell? ⟨w.heap.size, 1, none⟩ = some (.string (strL path)) := cell_of_row _ _ 1 _ _ _ hx2
    clear hk2 hsb hx2 HK1 HX
    go_wp2_with fail
    refine (path_cap path w2 hp).mono ?_
    rintro e w3 ⟨hk3, ⟨hpo, rfl⟩ | ⟨ns, ao3, cp3, hpo, rfl, ⟨hcp, hcp2⟩, hr3⟩⟩
    · have HF := Lib.hid (NO.out 40 w3 (by unfold PTr.edit; rw [HSB.out, hpo]; rfl) (HK2.out.trans hk3))
      clear hk3 hpo c1
      go_wp2_with fail
      go_ret
      exact HF.out
    · have HK3 := Lib.hid (HK2.out.trans hk3)
      have hx3 := hk3.heap (by simp) HX2.out
      have HX3 := Lib.hid hx3
      have d0 : w3.cell? ⟨w.heap.size, 0, none⟩ = some (.int .i64 kind) := cell_of_row _ _ 0 _ _ _ hx3
      have d1 : w3.cell? ⟨w.heap.size, 1, none⟩ = some (.string (strL path)) := cell_of_row _ _ 1 _ _ _ hx3
      have d2 : w3.cell? ⟨w.heap.size, 2, none⟩ = some (.int .i64 mode) := cell_of_row _ _ 2 _ _ _ hx3
      have d3 : w3.cell? ⟨w.heap.size, 3, none⟩ = some (.slice ao len cap) := cell_of_row _ _ 3 _ _ _ hx3
      obtain ⟨hn8, hnm⟩ := path_parts hpo
      have HPO := Lib.hid (And.intro hpo hnm)
      have T3 := Turned.still HM.out HK3.out
      have HM3 := Lib.hid T3.m
      have HR3 := Lib.hid hr3
      clear hk3 hpo c1 hx3 HK2 HX2 hnm T3 hr3
      by_cases h0 : ns = []
      · subst h0
        have HE : Hid (t.er.edit kind mode path L = t.er.editR kind mode) := by show _ = _; unfold PTr.edit; rw [HSB.out, HPO.out.1]; rfl
        go_wp2_with fail
        clear d0 d1 d2 d3
        refine (neditRoot_any base t kind mode path ao len cap w3 HM3.out).mono ?_
        rintro e w4 hE
        have HF : Hid (EdOut base t (t.er.edit kind mode path L) w e w4) := by
          have := EdOut.pre HM.out HK3.out hE
          rw [← HE.out] at this
          exact this
        obtain ⟨c, p', rfl, _⟩ := hE
        go_wp2_with fail
        go_ret
        exact HF.out
      · obtain ⟨nl, hnl⟩ : ∃ nl, ns.length = nl + 1 := ⟨ns.length - 1, by have := List.length_pos_iff.2 h0; omega⟩
        obtain ⟨b3, o3, rfl, hb3, hr3⟩ : ∃ b o, ao3 = some ⟨b, o, none⟩ ∧ b < w3.heap.size ∧ w3.rangeAt b o (sv ns) := by
          rcases HR3.out with h' | h'
          · omega
          · exact h'
        have hnl8 : nl ≤ 7 := by omega
        have hln0 : ((ns.length : Int) == 0) = false := by simp; omega
        obtain ⟨ds, hds⟩ : ∃ ds, ns.dropLast = ds := ⟨_, rfl⟩
        have hdl : ds.length = nl := by rw [← hds, List.length_dropLast]; omega
        have hsplit : ns = ds ++ [ns.getLast h0] := by rw [← hds]; exact (List.dropLast_concat_getLast h0).symm
        obtain ⟨sl, hsl⟩ : ∃ sl, ns.getLast h0 = sl := ⟨_, rfl⟩
        rw [hsl] at hsplit
        have hgl : ns.getLast? = some sl := by rw [List.getLast?_eq_some_getLast h0, hsl]
        have cl : w3.cell? ⟨b3, o3 + nl, none⟩ = some (.string (strL sl)) := hr3 nl _ (by rw [hsplit]; simp [sv, hdl])
        have hrd : w3.rangeAt b3 o3 (sv ds) := fun j v hv => hr3 j v (by
          have hj : j < ds.length := by have := (List.getElem?_eq_some_iff.1 hv).1; simpa [sv] using this
          rw [hsplit]
          simp only [sv, List.map_append] at hv ⊢
          rw [List.getElem?_append_left (by simpa using hj)]
          exact hv)
        have hnd : ∀ q ∈ ds, q.length ≤ 28 := fun q hq => (nameB_le (HPO.out.2 q (by rw [hsplit]; simp [hq]))).2
        have hs28 : sl.length ≤ 28 := (nameB_le (HPO.out.2 sl (by rw [hsplit]; simp))).2
        have HFOL := Lib.hid (And.intro hrd (And.intro hnd hdl))
        have HED : Hid (t.er.edit kind mode path L = match folP t.er ds with | (c, none) => (c, t.er) | (_, some p) => if p.rc.kind = 2 then ((p.editE sl kind mode L).1, t.er.putP ds (p.editE sl kind mode L).2) else (42, t.er)) := by
          show _ = _
          unfold PTr.edit
          rw [HSB.out, HPO.out.1, if_neg (by simp)]
          simp only [hgl, hds]
        have hnsl : (ns.length : Int) - 1 = (nl : Int) := by omega
        have hcI : (nl : Int) ≤ (cp3 : Int) := by omega
        obtain ⟨NL, hNL⟩ : ∃ NL : Nat, ns.length = NL := ⟨_, rfl⟩
        rw [hNL] at hcp hnl hln0 hnsl ⊢
        have hlt : nl < NL := by omega
        have hltI : (nl : Int) < (NL : Int) := by omega
        clear hr3 HR3 hsplit hgl hds hrd hnd hdl hsl h0 hn8 hNL
        have ww : IntKind.i64.wrap ((NL : Int) - 1) = (nl : Int) := by rw [IntKind.wrap_i64]; omega
        have HNLN := Lib.hid hnl
        clear hnl hnsl
        go_wp2_with fail
        refine (nfollow_any t ds b3 o3 nl cp3 (some ⟨b3, o3, none⟩) w3 HM3.out.ok HFOL.out.2.2 (.inr ⟨rfl, HFOL.out.1⟩) HFOL.out.2.1 (by omega)).mono ?_
        rintro e w4 ⟨rfl, rfl⟩
        rcases fol_code ds t with ⟨hf0, u, hfu⟩ | ⟨hf0, hfn⟩
        · have hmu := fol_mtr ds HM3.out hfu
          have hef := er_fol ds t
          rw [hf0, hfu] at hef
          obtain ⟨m', va', vb', hrow', _⟩ := hmu.ok.row
          have k0 : w3.cell? ⟨u.addr, 0, none⟩ = some (.int .i64 u.rc.kind) := cell_of_row _ _ 0 _ _ _ hrow'
          have husm : u.er.sm := sm_fol ds HSM.out (by rw [hef]; rfl)
          have hfe : fol t ds = (0, some u) := by rw [← hf0, ← hfu]
          rw [hfe]
          have HU := Lib.hid (And.intro hmu (And.intro hef (And.intro husm hfe)))
          clear hmu hef hrow' husm hfe hf0 hfu
          by_cases hku : u.rc.kind = 2
          · have hkb : (u.rc.kind != 2) = false := by simpa using hku
            have T4 := Turned.still HU.out.1 (Kept.drew [] w3)
            have HM4 := Lib.hid T4.m
            have HA4 := Lib.hid ((HA.out.kept HK3.out (by simp)).kept (Kept.drew [] w3) (by simp))
            have h16 : u.ks.kids.length ≤ 16 := by have := (sm_ks HU.out.2.2.1).1; rw [er_ks, er_len] at this; exact this
            have hb3' : base ≤ w3.drew.heap.size := Nat.le_trans hbase HK3.out.size
            have HFIN : Hid (∀ c p' w', Turned base w3.drew w' u p' → (c, p'.er) = u.er.editE sl kind mode L → EdOut base t (t.er.edit kind mode path L) w (.returned (.int .i64 c)) w') := fun c p' w' T heq => by
              have T5 := (Turned.still HU.out.1 (Kept.drew [] w3)).trans T
              have T6 := Turned.path T5 ds t HM3.out HU.out.2.2.2
              refine ⟨c, _, rfl, (Turned.still HM.out HK3.out).trans T6, ?_⟩
              rw [HED.out, HU.out.2.1, er_put]
              have : u.er.rc.kind = 2 := by rw [er_rc]; exact hku
              simp only [Option.map_some, this, if_true, ← heq]
            clear T4
            simp only [ptrO, Option.map_some]
            go_wp2_with fail
            refine wp_region_still_tail 6 (by kernel_rfl) (by kernel_rfl) ?_
            simp only [List.take_succ_cons, List.take_zero, List.drop_succ_cons, List.drop_zero]
            still_step
            still_step
            still_step
            still_step
            still_step
            still_step
            refine wpStill_nil ?_
            clear d0 d1 d2 d3 k0 cl
            go_wp2_with fail
            refine (neditEntry_any base u sl kind mode path ao len cap L w3.drew HM4.out hku hs28 h16 HA4.out hl hb3').mono ?_
            rintro e w5 ⟨c, p', rfl, T, heq⟩
            have HF := Lib.hid (HFIN.out c p' w5 T heq)
            clear T heq HFIN
            go_wp2_with fail
            go_ret
            exact HF.out
          · have hkb : (u.rc.kind != 2) = true := by simpa using hku
            have HF := Lib.hid (NO.out 42 w3 (by
              rw [HED.out, HU.out.2.1]
              have : ¬ u.er.rc.kind = 2 := by rw [er_rc]; exact hku
              simp [this]) HK3.out)
            simp only [ptrO, Option.map_some]
            go_wp2_with fail
            go_ret
            exact HF.out
        · have hef := er_fol ds t
          rw [hfn] at hef
          have HF := Lib.hid (NO.out (fol t ds).1 w3 (by rw [HED.out, hef]; rfl) HK3.out)
          obtain ⟨c, hc⟩ : ∃ c, (fol t ds).1 = c := ⟨_, rfl⟩
          have hcb : (c != 0) = true := by rw [← hc]; simpa using hf0
          rw [hc] at HF ⊢
          rw [hfn]
          clear hef hfn hf0 hc
          simp only [ptrO, Option.map_none]
          go_wp2_with fail
          go_ret
          exact HF.out
end Go.Proofs.YtiedoocgbajjjaaGreatDoor

namespace Go.Proofs.YtiedoocgbajjjaaGreatDoor
open Go.RowKit Go.Maps
set_option maxRecDepth 100000

theorem costI_bd (k s : Int) : 0 ≤ costI k s ∧ costI k s ≤ 39 := by
  have := dataI_bd k s
  unfold costI
  split <;> omega
def ATr.cost (t : ATr) : Int := costI t.rc.kind t.size
def costL : List ATr → Int
  | [] => 0
  | t :: l => t.cost + costL l
theorem costL_append : ∀ (l m : List ATr), costL (l ++ m) = costL l + costL m
  | [], m => by simp [costL]
  | t :: l, m => by
    have := costL_append l m
    simp only [List.cons_append, costL]
    omega
theorem costL_bd : ∀ (l : List ATr), 0 ≤ costL l ∧ costL l ≤ 39 * (l.length : Int)
  | [] => by simp [costL]
  | t :: l => by
    have := costL_bd l
    have := costI_bd t.rc.kind t.size
    simp only [costL, ATr.cost, List.length_cons]
    omega
theorem costL_take {l : List ATr} {j : Nat} (hj : j < l.length) : costL (l.take (j + 1)) = costL (l.take j) + l[j].cost := by
  rw [List.take_succ_eq_append_getElem hj, costL_append]
  simp [costL]

set_option maxRecDepth 100000 in
set_option maxHeartbeats 2000000 in
theorem bcost_any (l : List ATr) (B : Nat) (v : Value) (w : World) (ho : OwnN B w v l) (h0 : 0 < l.length) (h : ∀ t ∈ l, TrOk w t ∧ t.ks.kids.length ≤ 1000) (hl : l.length ≤ 100000) :
    Calls Tryz.prog 51 #[v] w fun e w' => e = .returned (.int .i64 (costL l)) ∧ Drawn w w' := by
  have H := Lib.hid h
  rcases owns_range ho with ⟨g, cap, rfl, _, hg, _, _, hr⟩ | ⟨_, hz, _⟩
  case inr => omega
  have HR := Lib.hid hr
  have HG := Lib.hid hg
  obtain ⟨K, hK⟩ : ∃ K, l.length = K := ⟨_, rfl⟩
  have HK := Lib.hid hK
  have hk : K ≤ 100000 := by omega
  rw [hK]
  clear h hr hg ho hl h0 hK
  go_enter Tryz.func51, Tryz.ntmps51
  go_wp2_with fail
  go_loopw [3, 8] (fun s i wr => ∃ (j : Nat) (c : Int), j ≤ K ∧ i = .int .i64 j ∧ s = .int .i64 c ∧ 0 ≤ c ∧ c ≤ 39 * (j : Int) ∧ Hid (c = costL (l.take j) ∧ Drawn w wr)) (fun _ i _ => K - (intOf i).toNat)
  case atStart => exact ⟨0, 0, by omega, rfl, rfl, by omega, by omega, rfl, 0, rfl⟩
  case round =>
    obtain ⟨j, c, hj, rfl, rfl, hc0, hc1, HS⟩ := hrel
    by_cases hlt : j < K
    · have hjl : j < l.length := by rw [HK.out]; exact hlt
      obtain ⟨t, ht⟩ : ∃ t, l[j] = t := ⟨_, rfl⟩
      obtain ⟨hT0, hks⟩ := H.out t (by rw [← ht]; exact List.getElem_mem hjl)
      have hT := hT0.kept HS.out.2.kept
      obtain ⟨m, va, vb, hrow, _⟩ := hT.row
      have cp : wr.cell? ⟨g, j, none⟩ = some (.pointer (some ⟨t.addr, 0, none⟩)) := by
        have := (HS.out.2.kept).range HG.out (by simp) HR.out j _ (show (pv l)[j]? = some (.pointer (some ⟨t.addr, 0, none⟩)) by simp [pv, hjl, ht])
        rwa [Nat.zero_add] at this
      have c0 : wr.cell? ⟨t.addr, 0, none⟩ = some (.int .i64 t.rc.kind) := cell_of_row _ _ 0 _ _ _ hrow
      have N1 : ∀ n, Calls Tryz.prog 56 #[.pointer (some ⟨t.addr, 0, none⟩)] (wr.drewN n) fun e w' => e = .returned (.int .i64 (t.size : Int)) ∧ w' = wr.drewN n := fun n => (nsize_any t (wr.drewN n) (hT.kept (Kept.drewN _ _ _)) hks).mono fun e w' ⟨h1, h2⟩ => ⟨h1, h2.symm⟩
      obtain ⟨q, hq⟩ : ∃ q, costI t.rc.kind t.size = q := ⟨_, rfl⟩
      have N2 : ∀ w', Calls Tryz.prog 83 #[.int .i64 t.rc.kind, .int .i64 (t.size : Int)] w' fun e w'' => e = .returned (.int .i64 q) ∧ w'' = w' := fun w' => (cost_any _ _ w').mono fun e w'' ⟨h1, h2⟩ => ⟨by rw [h1, hq], h2.symm⟩
      have hb := costI_bd t.rc.kind t.size
      rw [hq] at hb
      have HQ : Hid (c + q = costL (l.take (j + 1))) := by show _ = _; rw [costL_take hjl, ht, HS.out.1, ← hq]; rfl
      clear hrow hT hT0 hks ht hq
      go_wp2_with fail
      go_quiet ((first | (go_at_call 56; exact Calls.quiet_of_same (N1 _)) | (go_at_call 83; exact Calls.quiet_of_same (N2 _))))
      clear N1 N2
      go_wp2_with fail
      go_roundw
      case rel => exact ⟨j + 1, c + q, by omega, by go_num, by go_num, by omega, by omega, HQ.out, HS.out.2.more _⟩
      case measure => simp [intOf]; omega
    · obtain rfl : j = K := by omega
      have HC : Hid (c = costL l) := by show _ = _; rw [HS.out.1, ← HK.out, List.take_length]
      go_wp2_with fail
      go_ret
      exact ⟨ret1 HC.out, HS.out.2⟩

mutual
theorem TrOk.mem {w : World} : ∀ {t : ATr}, TrOk w t → t.small → ∀ x ∈ t.all, TrOk w x ∧ x.ks.kids.length ≤ 1000
  | .node a m va vb r ks, h, hs, x, hx => by
    simp only [ATr.all, List.mem_cons] at hx
    rcases hx with rfl | hx
    · exact ⟨h, by have := hs.1; simp only [ATr.ks]; omega⟩
    · exact KsOk.mem h.2.2.2.2 hs.2 x hx
theorem KsOk.mem {w : World} : ∀ {k : AKs}, KsOk w k → k.small → ∀ x ∈ k.all, TrOk w x ∧ x.ks.kids.length ≤ 1000
  | .nil, _, _, x, hx => by cases hx
  | .cons s t k, h, hs, x, hx => by
    simp only [AKs.all, List.mem_append] at hx
    rcases hx with hx | hx
    · exact TrOk.mem h.2.1 hs.1 x hx
    · exact KsOk.mem h.2.2 hs.2 x hx
end

def layW (n x1 x2 x3 x4 x5 d c : Int) : Array Value := #[.int .i64 n, .int .i64 x1, .int .i64 x2, .int .i64 x3, .int .i64 x4, .int .i64 x5, .int .i64 d, .int .i64 c]
def fitI (t : ATr) (n d c : Int) : Int := if c < (t.all.length : Int) then 44 else if n - d < costL t.all then 3 else 0
set_option maxRecDepth 100000 in
set_option maxHeartbeats 2000000 in
theorem bfits_any (t : ATr) (w : World) (n x1 x2 x3 x4 x5 d c : Int) (h : TrOk w t) (hs : t.small) (hl : t.all.length ≤ 100000) (hn : 0 ≤ n ∧ n ≤ 1000000) (hd : 0 ≤ d ∧ d ≤ 1000000) :
    Calls Tryz.prog 47 #[.agg (layW n x1 x2 x3 x4 x5 d c), .pointer (some ⟨t.addr, 0, none⟩)] w fun e w' => e = .returned (.int .i64 (fitI t n d c)) ∧ Hid (Kept [] w w') := by
  unfold layW
  obtain ⟨w1, hw1⟩ : ∃ w1, w.alloc (.cells #[.int .i64 n, .int .i64 x1, .int .i64 x2, .int .i64 x3, .int .i64 x4, .int .i64 x5, .int .i64 d, .int .i64 c] 60) = w1 := ⟨_, rfl⟩
  have hk1 : Kept [] w w1 := by rw [← hw1]; exact Kept.alloc _ _ _
  have hx : w1.heap[w.heap.size]? = some (.cells #[.int .i64 n, .int .i64 x1, .int .i64 x2, .int .i64 x3, .int .i64 x4, .int .i64 x5, .int .i64 d, .int .i64 c] 60) := by rw [← hw1]; exact heap_alloc_last _ _
  have HX := Lib.hid (And.intro hk1 hx)
  have HT := Lib.hid (And.intro (h.kept hk1) (And.intro hs hl))
  have HMEM := Lib.hid (TrOk.mem (h.kept hk1) hs)
  clear hk1 hx h hs hl
  go_enter Tryz.func47, Tryz.ntmps47
  go_wp2_with fail
  refine (nall_any t.ht t w1 (Nat.le_refl _) HT.out.1 HT.out.2.1 HT.out.2.2).mono ?_
  rintro e w2 ⟨v, rfl, H2⟩
  have hx2 := H2.out.1.heap (by simp) HX.out.2
  have c0 : w2.cell? ⟨w.heap.size, 0, none⟩ = some (.int .i64 n) := cell_of_row _ _ 0 _ _ _ hx2
  have c6 : w2.cell? ⟨w.heap.size, 6, none⟩ = some (.int .i64 d) := cell_of_row _ _ 6 _ _ _ hx2
  have c7 : w2.cell? ⟨w.heap.size, 7, none⟩ = some (.int .i64 c) := cell_of_row _ _ 7 _ _ _ hx2
  have HKK := Lib.hid (HX.out.1.trans H2.out.1)
  obtain ⟨g, cap, hv⟩ : ∃ g cap, v = .slice (some ⟨g, 0, none⟩) t.all.length cap := by
    rcases owns_range H2.out.2 with ⟨g, cap, rfl, _⟩ | ⟨_, hz, _⟩
    · exact ⟨g, cap, rfl⟩
    · have := t.all_pos; omega
  have N : ∀ m, Calls Tryz.prog 51 #[v] (w2.drewN m) fun e w'' => e = .returned (.int .i64 (costL t.all)) ∧ ∃ k, w'' = w2.drewN k := fun m =>
    (bcost_any t.all w1.heap.size v (w2.drewN m) (owns_kept H2.out.2 (Kept.drewN [] _ _) (by simp)) t.all_pos (fun x hx => ⟨((HMEM.out x hx).1.kept H2.out.1).kept (Kept.drewN _ _ _), (HMEM.out x hx).2⟩) HT.out.2.2).mono
      fun e w'' ⟨h1, k, h2⟩ => ⟨h1, m + k, by rw [h2, World.drewN_drewN]⟩
  obtain ⟨L, hL⟩ : ∃ L, t.all.length = L := ⟨_, rfl⟩
  obtain ⟨S, hS⟩ : ∃ S, costL t.all = S := ⟨_, rfl⟩
  have hb := costL_bd t.all
  have hlb := HT.out.2.2
  have HF : Hid (fitI t n d c = if c < (L : Int) then 44 else if n - d < S then 3 else 0) := by show _ = _; rw [← hL, ← hS]; rfl
  rw [hL, hS] at hb
  rw [hL] at hv hlb
  rw [hS] at N
  subst hv
  clear hx2 hL hS H2
  by_cases h1 : c < (L : Int)
  · have HF1 : Hid (fitI t n d c = 44) := by show _ = _; rw [HF.out, if_pos h1]
    clear N
    go_wp2_with fail
    go_ret
    exact ⟨ret1 HF1.out.symm, HKK.out⟩
  · by_cases h3 : n - d < S
    · have HF1 : Hid (fitI t n d c = 3) := by show _ = _; rw [HF.out, if_neg h1, if_pos h3]
      go_wp2_with fail
      go_quiet ((go_at_call 51; exact N _))
      clear N
      go_wp2_with fail
      go_ret
      exact ⟨ret1 HF1.out.symm, HKK.out.trans (Kept.drewN _ _ _)⟩
    · have HF1 : Hid (fitI t n d c = 0) := by show _ = _; rw [HF.out, if_neg h1, if_neg h3]
      go_wp2_with fail
      go_quiet ((go_at_call 51; exact N _))
      clear N
      go_wp2_with fail
      go_ret
      exact ⟨ret1 HF1.out.symm, HKK.out.trans (Kept.drewN _ _ _)⟩
end Go.Proofs.YtiedoocgbajjjaaGreatDoor

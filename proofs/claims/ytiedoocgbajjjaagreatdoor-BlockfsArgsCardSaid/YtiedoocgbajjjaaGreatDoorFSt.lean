/-
  Layer 4: what is told of a tree, and what edits make of it, for the statements: taking away and laying down, side by side, in any order. No program text.
  Conditions: those that each theorem states.
  Layer 4: what a walk keeps of a tree on a disk; its calls in words of that.
  Conditions: those that each theorem states.
-/
import Derived.Test.YtiedoocgbajjjaaGreatDoorFIo
import Derived.WideShapes
import Derived.Test.YtiedoocgbajjjaaGreatDoorFDo
namespace Go.Proofs.YtiedoocgbajjjaaGreatDoor
open Go.RowKit Go.Maps
set_option maxRecDepth 100000

theorem atP_congr {t u : PTr} (h : t.core = u.core) (path : List UInt8) : (atP t path).1 = (atP u path).1 ∧ (atP t path).2.map PTr.core = (atP u path).2.map PTr.core := by
  unfold atP
  cases pathO path with
  | none => exact ⟨rfl, rfl⟩
  | some ns => exact folP_congr ns h
theorem size_congr {t u : PTr} (h : t.core = u.core) : t.sizeP = u.sizeP := by
  obtain ⟨h1, h2⟩ := tr_parts h
  obtain ⟨a, _, c⟩ := rc_parts h1
  obtain ⟨r, k⟩ := t
  obtain ⟨s, l⟩ := u
  have a' : r.kind = s.kind := a
  have c' : r.bytes = s.bytes := c
  simp only [PTr.sizeP, a', c', core_len (k := k) (l := l) h2]
theorem statV_congr {a b : Option PTr} (h : a.map PTr.core = b.map PTr.core) : statV a = statV b := by
  cases a with
  | none => cases b with
    | none => rfl
    | some y => cases h
  | some x => cases b with
    | none => cases h
    | some y =>
      injection h with h
      obtain ⟨a, m, _⟩ := rc_parts (tr_parts h).1
      simp only [statV, a, m, size_congr h]
/-- What is told of a path depends on the tree's core alone. -/
theorem stat_congr {t u : PTr} (h : t.core = u.core) (path : List UInt8) : (atP t path).1 = (atP u path).1 ∧ statV (atP t path).2 = statV (atP u path).2 := ⟨(atP_congr h path).1, statV_congr (atP_congr h path).2⟩
theorem readP_congr {t u : PTr} (h : t.core = u.core) (path : List UInt8) : readP t path = readP u path := by
  obtain ⟨h1, h2⟩ := atP_congr h path
  unfold readP
  obtain ⟨c, o, hh⟩ : ∃ c o, atP t path = (c, o) := ⟨_, _, rfl⟩
  obtain ⟨d, p, hg⟩ : ∃ d p, atP u path = (d, p) := ⟨_, _, rfl⟩
  rw [hh, hg] at h1 h2 ⊢
  have h1 : c = d := h1
  subst h1
  cases o with
  | none => cases p with
    | none => rfl
    | some y => cases h2
  | some x => cases p with
    | none => cases h2
    | some y =>
      injection h2 with h2
      obtain ⟨a, _, b⟩ := rc_parts (tr_parts h2).1
      simp only [a, b]
theorem listP_congr {t u : PTr} (h : t.core = u.core) (path : List UInt8) : listP t path = listP u path := by
  obtain ⟨h1, h2⟩ := atP_congr h path
  unfold listP
  obtain ⟨c, o, hh⟩ : ∃ c o, atP t path = (c, o) := ⟨_, _, rfl⟩
  obtain ⟨d, p, hg⟩ : ∃ d p, atP u path = (d, p) := ⟨_, _, rfl⟩
  rw [hh, hg] at h1 h2 ⊢
  have h1 : c = d := h1
  subst h1
  cases o with
  | none => cases p with
    | none => rfl
    | some y => cases h2
  | some x => cases p with
    | none => cases h2
    | some y =>
      injection h2 with h2
      obtain ⟨h3, h4⟩ := tr_parts h2
      have h5 : x.ks.names = y.ks.names := by rw [← PKs.core_names, h4, PKs.core_names]
      simp only [(rc_parts h3).1, h5]

theorem PKs.get_set_same : ∀ {k : PKs} {s : List UInt8} {x u : PTr}, k.get s = some x → (k.set s u).get s = some u
  | .nil, _, _, _, h => by cases h
  | .cons s' t k, s, x, u, h => by
    simp only [PKs.get] at h
    simp only [PKs.set]
    split at h
    · rename_i e
      rw [if_pos e]
      simp only [PKs.get, if_pos e]
    · rename_i e
      rw [if_neg e]
      simp only [PKs.get, if_neg e]
      exact PKs.get_set_same h
theorem PKs.get_set_ne : ∀ {k : PKs} {s z : List UInt8} {u : PTr}, z ≠ s → (k.set s u).get z = k.get z
  | .nil, _, _, _, _ => rfl
  | .cons s' t k, s, z, u, h => by
    simp only [PKs.set]
    split
    · rename_i e
      subst e
      simp only [PKs.get, if_neg (fun e => h e.symm : ¬ s' = z)]
    · simp only [PKs.get]
      split
      · rfl
      · exact PKs.get_set_ne h
theorem PKs.get_del_ne : ∀ {k : PKs} {s z : List UInt8}, z ≠ s → (k.del s).get z = k.get z
  | .nil, _, _, _ => rfl
  | .cons s' t k, s, z, h => by
    simp only [PKs.del]
    split
    · rename_i e
      subst e
      simp only [PKs.get, if_neg (fun e => h e.symm : ¬ s' = z)]
      exact PKs.get_del_ne h
    · simp only [PKs.get]
      split
      · rfl
      · exact PKs.get_del_ne h
theorem PKs.get_del_same : ∀ (k : PKs) (s : List UInt8), (k.del s).get s = none
  | .nil, _ => rfl
  | .cons s' t k, s => by
    simp only [PKs.del]
    split
    · exact PKs.get_del_same k s
    · rename_i e
      simp only [PKs.get, if_neg e]
      exact PKs.get_del_same k s
theorem PKs.get_ins_ne : ∀ {k : PKs} {s z : List UInt8} {x : PTr}, z ≠ s → (k.ins s x).get z = k.get z
  | .nil, s, z, x, h => by simp only [PKs.ins, PKs.get, if_neg (fun e => h e.symm : ¬ s = z)]
  | .cons s' t k, s, z, x, h => by
    simp only [PKs.ins]
    split
    · simp only [PKs.get, if_neg (fun e => h e.symm : ¬ s = z)]
    · simp only [PKs.get]
      split
      · rfl
      · exact PKs.get_ins_ne h
theorem PKs.del_none : ∀ {k : PKs} {s : List UInt8}, k.get s = none → k.del s = k
  | .nil, _, _ => rfl
  | .cons s' t k, s, h => by
    simp only [PKs.get] at h
    split at h
    · cases h
    · rename_i e
      simp only [PKs.del, if_neg e, PKs.del_none h]
theorem PKs.del_ins : ∀ {k : PKs} {s : List UInt8} {x : PTr}, k.get s = none → (k.ins s x).del s = k
  | .nil, s, x, _ => by simp [PKs.ins, PKs.del]
  | .cons s' t k, s, x, h => by
    have hn := PKs.del_none h
    simp only [PKs.get] at h
    simp only [PKs.ins]
    split
    · rw [PKs.del, if_pos rfl, hn]
    · split at h
      · cases h
      · rename_i e
        simp only [PKs.del, if_neg e, PKs.del_ins h]
theorem PKs.costP_ins : ∀ (k : PKs) (s : List UInt8) (x : PTr), (k.ins s x).costP = k.costP + x.costP
  | .nil, s, x => by simp only [PKs.ins, PKs.costP]; omega
  | .cons s' t k, s, x => by
    simp only [PKs.ins]
    split
    · simp only [PKs.costP]; omega
    · simp only [PKs.costP, PKs.costP_ins k s x]; omega
theorem PKs.len_ins : ∀ (k : PKs) (s : List UInt8) (x : PTr), (k.ins s x).len = k.len + 1
  | .nil, s, x => rfl
  | .cons s' t k, s, x => by
    simp only [PKs.ins]
    split
    · rfl
    · simp only [PKs.len, PKs.len_ins k s x]
theorem PKs.len_del : ∀ (k : PKs) (s : List UInt8), (k.del s).len ≤ k.len
  | .nil, s => Nat.le_refl _
  | .cons s' t k, s => by
    have := PKs.len_del k s
    simp only [PKs.del]
    split
    · simp only [PKs.len]; omega
    · simp only [PKs.len]; omega
mutual
theorem PTr.cost0 (t : PTr) : 0 ≤ t.costP := by
  match t with
  | .node r ks =>
    have h1 := PKs.cost0 ks
    have h2 := (costI_bd r.kind ((if r.kind = 2 then ks.len else r.bytes.length : Nat) : Int)).1
    simp only [PTr.costP]
    omega
theorem PKs.cost0 (k : PKs) : 0 ≤ k.costP := by
  match k with
  | .nil => simp only [PKs.costP]; omega
  | .cons s t k =>
    have h1 := PTr.cost0 t
    have h2 := PKs.cost0 k
    simp only [PKs.costP]
    omega
end
theorem PKs.costP_del : ∀ (k : PKs) (s : List UInt8), (k.del s).costP ≤ k.costP
  | .nil, s => Int.le_refl _
  | .cons s' t k, s => by
    have h1 := PKs.costP_del k s
    have h2 := PTr.cost0 t
    simp only [PKs.del]
    split
    · simp only [PKs.costP]; omega
    · simp only [PKs.costP]; omega
theorem costI_mono {k a b : Int} (h : a ≤ b) (h0 : 0 ≤ a) (hb : k = 2 → b ≤ 16) (hk : k = 2) : costI k a ≤ costI k b := by
  subst hk
  have := hb rfl
  unfold costI dataI
  split <;> split <;> omega

theorem folP_code : ∀ (ns : List (List UInt8)) (t : PTr), ((folP t ns).1 = 0 ∧ ∃ u, (folP t ns).2 = some u) ∨ ((folP t ns).1 ≠ 0 ∧ (folP t ns).2 = none)
  | [], t => .inl ⟨rfl, t, rfl⟩
  | s :: l, t => by
    simp only [folP]
    split
    · cases hg : t.ks.get s with
      | none => exact .inr ⟨(fun e => by cases e), rfl⟩
      | some u => exact folP_code l u
    · exact .inr ⟨(fun e => by cases e), rfl⟩
theorem folP_put : ∀ (ns : List (List UInt8)) {t p x : PTr}, folP t ns = (0, some p) → ∀ ms, folP (t.putP ns x) (ns ++ ms) = folP x ms
  | [], t, p, x, _, ms => by simp only [PTr.putP, List.nil_append]
  | s :: l, t, p, x, h, ms => by
    simp only [folP] at h
    split at h
    · rename_i h2
      cases hg : t.ks.get s with
      | none => rw [hg] at h; cases h
      | some u =>
        rw [hg] at h
        have e : t.putP (s :: l) x = .node t.rc (t.ks.set s (u.putP l x)) := by simp only [PTr.putP, hg]
        rw [e, List.cons_append]
        show (if t.rc.kind = 2 then (match (t.ks.set s (u.putP l x)).get s with | some u => folP u (l ++ ms) | none => (41, none)) else (42, none)) = _
        rw [if_pos h2, PKs.get_set_same hg]
        exact folP_put l h ms
    · cases h
theorem folP_append : ∀ (ns : List (List UInt8)) {t p : PTr}, folP t ns = (0, some p) → ∀ ms, folP t (ns ++ ms) = folP p ms
  | [], t, p, h, ms => by
    simp only [folP] at h
    injection h with _ h
    injection h with h
    rw [h, List.nil_append]
  | s :: l, t, p, h, ms => by
    simp only [folP] at h
    simp only [List.cons_append, folP]
    split at h
    · rename_i h2
      rw [if_pos h2]
      cases hg : t.ks.get s with
      | none => rw [hg] at h; cases h
      | some u =>
        rw [hg] at h
        exact folP_append l h ms
    · cases h
/-- An edit below the root that was done, but for a mode. -/
theorem edit_parts {t u : PTr} {kind mode : Int} {path L : List UInt8} (hk : kind ≠ 2 ∧ kind ≠ 4) (h : t.edit kind mode path L = (0, u)) :
    ∃ ns s p, pathO path = some (ns ++ [s]) ∧ folP t ns = (0, some p) ∧ p.rc.kind = 2 ∧ (p.editE s kind mode L).1 = 0 ∧ u = t.putP ns (p.editE s kind mode L).2 := by
  unfold PTr.edit at h
  split at h
  · injection h with h; cases h
  · rename_i hs
    cases hp : pathO path with
    | none => rw [hp] at h; injection h with h; cases h
    | some ns =>
      rw [hp] at h
      simp only at h
      cases hl : ns.getLast? with
      | none =>
        rw [hl] at h
        simp only [PTr.editR] at h
        split at h
        · injection h with h; cases h
        · split at h
          · injection h with h; cases h
          · exfalso
            unfold soundB at hs
            rename_i h1 h2
            split at hs
            · omega
            · have : ¬ kind = 3 → kind = 5 := by simpa using hs
              omega
      | some s =>
        rw [hl] at h
        have hns : ns = ns.dropLast ++ [s] := by
          obtain ⟨ys, rfl⟩ := List.getLast?_eq_some_iff.1 hl
          rw [List.dropLast_concat]
        rcases folP_code ns.dropLast t with ⟨h1, p, h2⟩ | ⟨h1, h2⟩
        · have hf : folP t ns.dropLast = (0, some p) := Prod.ext h1 h2
          rw [hf] at h
          simp only at h
          split at h
          · rename_i hk2
            injection h with h3 h4
            exact ⟨ns.dropLast, s, p, congrArg some hns, hf, hk2, h3, h4.symm⟩
          · injection h with h; cases h
        · have hf : folP t ns.dropLast = ((folP t ns.dropLast).1, none) := Prod.ext rfl h2
          rw [hf] at h
          injection h with h
          exact absurd h h1
/-- A file that was laid down is there. -/
theorem file_at {t u : PTr} {mode : Int} {path L : List UInt8} (h : t.edit 1 mode path L = (0, u)) :
    ∃ v ns, pathO path = some ns ∧ ns ≠ [] ∧ folP u ns = (0, some v) ∧ v.rc.kind = 1 ∧ v.rc.mode = mode ∧ v.rc.bytes = L := by
  obtain ⟨ns, s, p, h1, h2, h3, h4, h5⟩ := edit_parts (by decide) h
  have he : p.editE s 1 mode L = p.put s 1 mode L := by simp [PTr.editE]
  rw [he] at h4 h5
  subst h5
  have hh : ∀ v, (p.put s 1 mode L).2.rc.kind = 2 → (p.put s 1 mode L).2.ks.get s = some v → folP (t.putP ns (p.put s 1 mode L).2) (ns ++ [s]) = (0, some v) := fun v e1 e2 => by
    rw [folP_put ns h2]
    simp only [folP, if_pos e1, e2]
  unfold PTr.put at h4 hh ⊢
  cases hg : p.ks.get s with
  | some x =>
    rw [hg] at h4 hh
    simp only at h4 hh ⊢
    split at h4
    · rename_i hk
      rw [if_pos hk] at hh ⊢
      exact ⟨_, _, h1, by simp, hh _ h3 (PKs.get_set_same hg), hk, rfl, rfl⟩
    · cases h4
  | none =>
    rw [hg] at h4 hh
    simp only at h4 hh ⊢
    split at h4
    · cases h4
    · rename_i hl
      rw [if_neg hl] at hh ⊢
      refine ⟨.node ⟨1, mode, L, 0, [], 0, !decide ([] = L)⟩ .nil, _, h1, by simp, hh _ h3 ?_, rfl, rfl, rfl⟩
      have := PKs.get_ins (x := .node ⟨1, mode, L, 0, [], 0, !decide ([] = L)⟩ .nil) hg s
      rw [if_pos rfl] at this
      exact this
theorem cutL_app : ∀ (a b : List UInt8), cutL (a ++ 47 :: b) = cutL a ++ cutL b
  | [], b => by simp [cutL]
  | c :: a, b => by
    have ih := cutL_app a b
    simp only [List.cons_append, cutL]
    split
    · rw [ih]; rfl
    · rw [ih]
      cases hc : cutL a with
      | nil => 
        exfalso
        cases a with
        | nil => simp [cutL] at hc
        | cons d a =>
          simp only [cutL] at hc
          split at hc
          · cases hc
          · split at hc <;> cases hc
      | cons p ps => rfl
theorem pathO_some {s : List UInt8} {ns : List (List UInt8)} (h : pathO s = some ns) : (s = [47] ∧ ns = []) ∨ (s ≠ [47] ∧ s.head? = some 47 ∧ ns = cutL s.tail) := by
  unfold pathO at h
  split at h
  · rename_i e
    injection h with h
    exact .inl ⟨e, h.symm⟩
  · rename_i e
    split at h
    · rename_i e2
      injection h with h
      exact .inr ⟨e, e2.2.1, h.symm⟩
    · cases h
/-- Below a file nothing is. -/
theorem below_file {u v : PTr} {path : List UInt8} {ns : List (List UInt8)} (h1 : pathO path = some ns) (h2 : ns ≠ []) (h3 : folP u ns = (0, some v)) (h4 : v.rc.kind = 1) : (atP u (path ++ [47, 97])).1 ≠ 0 := by
  unfold atP
  cases hp : pathO (path ++ [47, 97]) with
  | none => simp
  | some ms =>
    rcases pathO_some h1 with ⟨e, rfl⟩ | ⟨e0, e1, e2⟩
    · exact absurd rfl h2
    · rcases pathO_some hp with ⟨e, _⟩ | ⟨_, _, e4⟩
      · have := congrArg List.length e
        simp at this
      · cases path with
        | nil => cases e1
        | cons c p =>
          have e5 : ms = ns ++ [[97]] := by
            rw [e4, e2]
            show cutL (p ++ 47 :: [97]) = _
            rw [cutL_app]
            rfl
          simp only
          rw [e5, folP_append ns h3]
          simp [folP, h4]
/-- What stands at a path in the place of what was taken away. -/
theorem new_pure {N q : Nat} {t u : PTr} {path B : List UInt8} (h : doP N q t [⟨5, 0, path, []⟩, ⟨1, 77, path, B⟩] = (0, u)) :
    readP u path = (0, B) ∧ (atP u path).1 = 0 ∧ statV (atP u path).2 = .agg #[.int .i64 1, .int .i64 77, .int .i64 (B.length : Int)] ∧ (atP u (path ++ [47, 97])).1 ≠ 0 := by
  have hu : t.edits [⟨5, 0, path, []⟩, ⟨1, 77, path, B⟩] = (0, u) := by
    unfold doP at h
    split at h
    · injection h with h; cases h
    split at h
    · rename_i h1
      injection h with h2
      exact absurd h2 h1
    rename_i h1
    split at h
    · injection h with h; cases h
    split at h
    · injection h with h; cases h
    · injection h with _ h
      refine Prod.ext ?_ h
      exact Classical.not_not.1 h1
  simp only [PTr.edits] at hu
  split at hu
  · have h2 : (t.edit 5 0 path []).2.edit 1 77 path B = (0, u) := by
      split at hu
      · rename_i h3
        refine Prod.ext h3 ?_
        have := congrArg Prod.snd hu
        exact this
      · exact hu
    obtain ⟨v, ns, h3, h4, h5, h6, h7, h8⟩ := file_at h2
    have ha : atP u path = (0, some v) := by unfold atP; rw [h3]; exact h5
    refine ⟨?_, by rw [ha], ?_, below_file h3 h4 h5 h6⟩
    · unfold readP
      rw [ha]
      simp only [h6, h8]
      rfl
    · rw [ha]
      unfold statV
      obtain ⟨r, k⟩ := v
      have h6' : r.kind = 1 := h6
      have h7' : r.mode = 77 := h7
      have h8' : r.bytes = B := h8
      simp [PTr.rc, PTr.sizeP, h6', h7', h8']
  · rename_i hne
    exact absurd (congrArg Prod.fst hu) hne

def zzN : List UInt8 := [122, 122, 45, 110, 101, 119]
def zzP : List UInt8 := 47 :: zzN
theorem zz_path : pathO zzP = some [zzN] := by decide
theorem edit_zz {t : PTr} (hk : t.rc.kind = 2) (kind mode : Int) (L : List UInt8) (hs : soundB kind mode = true) : t.edit kind mode zzP L = t.editE zzN kind mode L := by
  unfold PTr.edit
  rw [if_neg (by rw [hs]; simp), zz_path]
  simp [folP, hk, PTr.putP]
theorem doP_one {N q : Nat} {t : PTr} {x : EdP} (hl : edB x.kind x.bytes ≤ 2432) : doP N q t [x] = if (t.edit x.kind x.mode x.path x.bytes).1 ≠ 0 then ((t.edit x.kind x.mode x.path x.bytes).1, t) else if 64 < (t.edit x.kind x.mode x.path x.bytes).2.recs.length then (44, t) else if (N : Int) - ((233 + q : Nat) : Int) < (t.edit x.kind x.mode x.path x.bytes).2.costP then (3, t) else (0, (t.edit x.kind x.mode x.path x.bytes).2) := by
  have he : t.edits [x] = t.edit x.kind x.mode x.path x.bytes := by
    simp only [PTr.edits]
    split
    · rename_i h
      rw [← h]
    · rfl
  unfold doP
  rw [if_neg (show ¬ (24 < [x].length ∨ 2432 < edsB [x]) by simp only [List.length_cons, List.length_nil, edsB]; omega), he]
theorem doP_big {N q : Nat} {t : PTr} {x : EdP} (hl : 2432 < edB x.kind x.bytes) : doP N q t [x] = (5, t) := by
  unfold doP
  rw [if_pos (show 24 < [x].length ∨ 2432 < edsB [x] by simp only [List.length_cons, List.length_nil, edsB]; omega)]
/-- A tree that a disk of N blocks may have. -/
structure Fits (N q : Nat) (t : PTr) : Prop where
  kind : t.rc.kind = 2
  fine : t.fine
  recs : t.recs.length ≤ 64
  cost : t.costP ≤ (N : Int) - ((233 + q : Nat) : Int)
theorem dropP_some {p : PTr} {s : List UInt8} {x : PTr} (h : p.ks.get s = some x) : p.dropP s = (0, .node { p.rc with fresh := true } (p.ks.del s)) := by
  unfold PTr.dropP
  rw [h]
/-- Taking '/zz-new' away. -/
theorem drop_zz {N q : Nat} {t : PTr} (h : Fits N q t) : ∃ c u, doP N q t [⟨5, 0, zzP, []⟩] = (c, u) ∧ u.ks.get zzN = none ∧ (t.ks.get zzN ≠ none → c = 0 ∧ u = .node { t.rc with fresh := true } (t.ks.del zzN)) := by
  rw [doP_one (by simp [edB])]
  simp only
  rw [edit_zz h.kind _ _ _ (by decide)]
  have he : t.editE zzN 5 0 [] = t.dropP zzN := by simp [PTr.editE]
  rw [he]
  unfold PTr.dropP
  cases hg : t.ks.get zzN with
  | none => exact ⟨_, _, rfl, hg, fun hh => absurd rfl hh⟩
  | some x =>
    simp only
    have h1 : ((PTr.node { t.rc with fresh := true } (t.ks.del zzN))).recs.length ≤ 64 := by
      have := h.recs
      have m := mu_del (fun _ => 1) t.ks zzN
      simp only [mu_one] at m
      rw [recs_ks] at this
      simp only [PTr.recs, List.length_cons] at this ⊢
      omega
    have h2 : ((PTr.node { t.rc with fresh := true } (t.ks.del zzN))).costP ≤ (N : Int) - ((233 + q : Nat) : Int) := by
      have h3 := h.cost
      have h4 := PKs.costP_del t.ks zzN
      have h5 := PKs.len_del t.ks zzN
      obtain ⟨r, k⟩ := t
      have hk : r.kind = 2 := h.kind
      have hf : k.len ≤ 16 := h.fine.2.1
      have h6 := costI_mono (k := 2) (a := ((k.del zzN).len : Int)) (b := (k.len : Int)) (by simp only [PTr.ks] at h5; omega) (by omega) (fun _ => by omega) rfl
      simp only [PTr.costP, PTr.rc, PTr.ks, hk, if_pos] at h3 h4 ⊢
      omega
    rw [if_neg (by simp), if_neg (Nat.not_lt.2 h1), if_neg (Int.not_lt.2 h2)]
    exact ⟨0, _, rfl, PKs.get_del_same _ _, fun _ => ⟨rfl, rfl⟩⟩
/-- A file '/zz-new' laid down where there is none. -/
theorem lay_zz {N q : Nat} {t : PTr} (h : Fits N q t) (hg : t.ks.get zzN = none) (h16 : t.ks.len < 16) (h64 : t.recs.length < 64) (L : List UInt8) (hL : L.length ≤ 2432) :
    (doP N q t [⟨1, 1, zzP, L⟩]).1 = (if (N : Int) - ((233 + q : Nat) : Int) < t.costP + (costI 1 (L.length : Int) + costI 2 ((t.ks.len : Int) + 1) - costI 2 (t.ks.len : Int)) then 3 else 0) ∧
      (doP N q t [⟨1, 1, zzP, L⟩]).2.costP = (if (N : Int) - ((233 + q : Nat) : Int) < t.costP + (costI 1 (L.length : Int) + costI 2 ((t.ks.len : Int) + 1) - costI 2 (t.ks.len : Int)) then t.costP else t.costP + (costI 1 (L.length : Int) + costI 2 ((t.ks.len : Int) + 1) - costI 2 (t.ks.len : Int))) := by
  rw [doP_one (by simp [edB]; omega)]
  simp only
  rw [edit_zz h.kind _ _ _ (by decide)]
  have he : t.editE zzN 1 1 L = t.put zzN 1 1 L := by simp [PTr.editE]
  rw [he]
  unfold PTr.put
  rw [hg]
  simp only
  rw [if_neg (show ¬ t.ks.len = 16 by omega)]
  simp only
  have h1 : (PTr.node { t.rc with fresh := true } (t.ks.ins zzN (.node ⟨1, 1, L, 0, [], 0, !decide ([] = L)⟩ .nil))).recs.length ≤ 64 := by
    have m := mu_ins (fun _ => 1) t.ks zzN (.node ⟨1, 1, L, 0, [], 0, !decide ([] = L)⟩ .nil)
    simp only [mu_one, PTr.recs, PKs.recs, List.length_cons, List.length_nil] at m
    rw [recs_ks] at h64
    simp only [PTr.recs, List.length_cons] at h64 ⊢
    omega
  have h2 : (PTr.node { t.rc with fresh := true } (t.ks.ins zzN (.node ⟨1, 1, L, 0, [], 0, !decide ([] = L)⟩ .nil))).costP = t.costP + (costI 1 (L.length : Int) + costI 2 ((t.ks.len : Int) + 1) - costI 2 (t.ks.len : Int)) := by
    obtain ⟨r, k⟩ := t
    have hk : r.kind = 2 := h.kind
    simp only [PTr.costP, PTr.rc, PTr.ks, hk, if_pos, PKs.costP_ins, PKs.costP, PKs.len_ins]
    rw [if_neg (by decide : ¬ (1 : Int) = 2)]
    rw [show ((k.len + 1 : Nat) : Int) = (k.len : Int) + 1 by omega]
    omega
  rw [if_neg (by simp), if_neg (Nat.not_lt.2 h1), h2]
  split
  · exact ⟨rfl, rfl⟩
  · exact ⟨rfl, h2⟩

/-- A tree with a directory '/zz-new' beside what was there. -/
def Hung (t u : PTr) : Prop := ∃ D : PTr, D.rc.kind = 2 ∧ u.core = (PTr.node t.rc (t.ks.ins zzN D)).core
theorem hung_start {N q : Nat} {t u : PTr} (h : Fits N q t) (hg : t.ks.get zzN = none) (hu : doP N q t [⟨2, 1, zzP, []⟩] = (0, u)) : Hung t u := by
  rw [doP_one (by simp [edB])] at hu
  simp only at hu
  rw [edit_zz h.kind _ _ _ (by decide)] at hu
  have he : t.editE zzN 2 1 [] = t.put zzN 2 1 [] := by simp [PTr.editE]
  rw [he] at hu
  unfold PTr.put at hu
  rw [hg] at hu
  simp only at hu
  split at hu
  · simp at hu
  · simp only at hu
    rw [if_neg (by simp)] at hu
    split at hu
    · injection hu with hu; cases hu
    split at hu
    · injection hu with hu; cases hu
    · injection hu with _ hu
      subst hu
      exact ⟨_, rfl, core_mk rfl rfl⟩
theorem editE_kind (p : PTr) (s : List UInt8) (kind mode : Int) (L : List UInt8) : (p.editE s kind mode L).2.rc.kind = p.rc.kind := by
  unfold PTr.editE
  split
  · unfold PTr.put; split <;> split <;> rfl
  split
  · unfold PTr.put; split <;> split <;> rfl
  split
  · split
    · rfl
    · unfold PTr.put; split <;> split <;> rfl
  split
  · unfold PTr.setM
    split
    · split <;> rfl
    · rfl
  · unfold PTr.dropP; split <;> rfl
theorem doP_two (N q : Nat) (t : PTr) (x : EdP) : (doP N q t [x]).2 = t ∨ (doP N q t [x]).2 = (t.edit x.kind x.mode x.path x.bytes).2 := by
  by_cases hl : edB x.kind x.bytes ≤ 2432
  · rw [doP_one hl]
    split
    · exact .inl rfl
    split
    · exact .inl rfl
    split
    · exact .inl rfl
    · exact .inr rfl
  · rw [doP_big (by omega)]
    exact .inl rfl
theorem hung_step {t u : PTr} (hk : t.rc.kind = 2) (h : Hung t u) (hg : t.ks.get zzN = none) (N q : Nat) (x : EdP) (s : List UInt8) (hp : pathO x.path = some [zzN, s]) : Hung t (doP N q u [x]).2 := by
  obtain ⟨D, h1, h2⟩ := h
  obtain ⟨e1, e2⟩ := doP_congr h2 N q [x]
  rcases doP_two N q (.node t.rc (t.ks.ins zzN D)) x with e | e
  · rw [e] at e2
    exact ⟨D, h1, e2⟩
  · rw [e] at e2
    have hgz : (t.ks.ins zzN D).get zzN = some D := by rw [PKs.get_ins hg, if_pos rfl]
    have he : ((PTr.node t.rc (t.ks.ins zzN D)).edit x.kind x.mode x.path x.bytes).2 = .node t.rc (t.ks.ins zzN D) ∨ ∃ D', D'.rc.kind = 2 ∧ ((PTr.node t.rc (t.ks.ins zzN D)).edit x.kind x.mode x.path x.bytes).2 = .node t.rc (t.ks.ins zzN D') := by
      unfold PTr.edit
      split
      · exact .inl rfl
      · rw [hp]
        right
        refine ⟨(D.editE s x.kind x.mode x.bytes).2, by rw [editE_kind]; exact h1, ?_⟩
        have hd : folP (PTr.node t.rc (t.ks.ins zzN D)) [zzN] = (0, some D) := by
          simp only [folP]
          rw [if_pos (show (PTr.node t.rc (t.ks.ins zzN D)).rc.kind = 2 from hk)]
          rw [show (PTr.node t.rc (t.ks.ins zzN D)).ks = t.ks.ins zzN D from rfl, hgz]
        show (match folP (PTr.node t.rc (t.ks.ins zzN D)) [zzN] with
          | (c, none) => (c, PTr.node t.rc (t.ks.ins zzN D))
          | (_, some p) => if p.rc.kind = 2 then ((p.editE s x.kind x.mode x.bytes).1, (PTr.node t.rc (t.ks.ins zzN D)).putP [zzN] (p.editE s x.kind x.mode x.bytes).2) else (42, PTr.node t.rc (t.ks.ins zzN D))).2 = _
        rw [hd]
        simp only
        rw [if_pos h1]
        show (match (t.ks.ins zzN D).get zzN with | some y => PTr.node t.rc ((t.ks.ins zzN D).set zzN (y.putP [] (D.editE s x.kind x.mode x.bytes).2)) | none => PTr.node t.rc (t.ks.ins zzN D)) = _
        rw [hgz]
        simp only [PTr.putP]
        rw [set_ins _ _ _ _ hg]
    rcases he with he | ⟨D', h3, he⟩
    · rw [he] at e2
      exact ⟨D, h1, e2⟩
    · rw [he] at e2
      exact ⟨D', h3, e2⟩
/-- What was hung in is taken away: the tree is as it was. -/
theorem hung_end {N q : Nat} {t u : PTr} (h : Fits N q t) (hg : t.ks.get zzN = none) (hu : Hung t u) : (doP N q u [⟨5, 0, zzP, []⟩]).1 = 0 ∧ (doP N q u [⟨5, 0, zzP, []⟩]).2.core = t.core := by
  obtain ⟨D, h1, h2⟩ := hu
  obtain ⟨e1, e2⟩ := doP_congr h2 N q [⟨5, 0, zzP, []⟩]
  have hgz : (t.ks.ins zzN D).get zzN = some D := by rw [PKs.get_ins hg, if_pos rfl]
  have hd : doP N q (.node t.rc (t.ks.ins zzN D)) [⟨5, 0, zzP, []⟩] = (0, .node { t.rc with fresh := true } t.ks) := by
    rw [doP_one (by simp [edB])]
    simp only
    rw [edit_zz (t := .node t.rc (t.ks.ins zzN D)) h.kind _ _ _ (by decide)]
    have he : (PTr.node t.rc (t.ks.ins zzN D)).editE zzN 5 0 [] = (0, .node { t.rc with fresh := true } t.ks) := by
      have : (PTr.node t.rc (t.ks.ins zzN D)).editE zzN 5 0 [] = (PTr.node t.rc (t.ks.ins zzN D)).dropP zzN := by simp [PTr.editE]
      rw [this, dropP_some (p := .node t.rc (t.ks.ins zzN D)) (s := zzN) (x := D) hgz]
      show ((0 : Int), PTr.node { t.rc with fresh := true } ((t.ks.ins zzN D).del zzN)) = _
      rw [PKs.del_ins hg]
    rw [he]
    simp only
    have hr := h.recs
    have hc := h.cost
    have h3 : (PTr.node { t.rc with fresh := true } t.ks).recs.length = t.recs.length := by rw [recs_ks t]; simp only [PTr.recs, List.length_cons]
    have h4 : (PTr.node { t.rc with fresh := true } t.ks).costP = t.costP := by obtain ⟨r, k⟩ := t; simp only [PTr.costP, PTr.rc, PTr.ks]; rfl
    rw [if_neg (by simp), if_neg (Nat.not_lt.2 (by rw [h3]; exact hr)), if_neg (Int.not_lt.2 (by rw [h4]; exact hc))]
  rw [hd] at e1 e2
  refine ⟨e1, e2.trans ?_⟩
  obtain ⟨r, k⟩ := t
  exact core_mk rfl rfl
theorem path_head {c : UInt8} {p : List UInt8} {ns : List (List UInt8)} (h : pathO (47 :: c :: p) = some ns) (hc : c ≠ 47) : ∃ hd ms, ns = (c :: hd) :: ms := by
  rcases pathO_some h with ⟨e, _⟩ | ⟨_, _, e⟩
  · simp at e
  · rw [e]
    show ∃ hd ms, cutL (c :: p) = _
    simp only [cutL, if_neg hc]
    cases cutL p with
    | nil => exact ⟨[], [], rfl⟩
    | cons a b => exact ⟨a, b, rfl⟩
theorem editE_get (p : PTr) (s z : List UInt8) (kind mode : Int) (L : List UInt8) (hz : z ≠ s) : (p.editE s kind mode L).2.ks.get z = p.ks.get z := by
  have hput : ∀ (k m : Int) (L : List UInt8), (p.put s k m L).2.ks.get z = p.ks.get z := fun k m L => by
    unfold PTr.put
    split
    · split
      · exact PKs.get_set_ne hz
      · rfl
    · split
      · rfl
      · exact PKs.get_ins_ne hz
  unfold PTr.editE
  split
  · exact hput _ _ _
  split
  · exact hput _ _ _
  split
  · split
    · rfl
    · exact hput _ _ _
  split
  · unfold PTr.setM
    split
    · split
      · rfl
      · exact PKs.get_set_ne hz
    · rfl
  · unfold PTr.dropP
    split
    · exact PKs.get_del_ne hz
    · rfl
/-- An edit below one name of the root leaves what is below another one. -/
theorem edit_apart {t : PTr} {kind mode : Int} {path L : List UInt8} {s z : List UInt8} (hk : t.rc.kind = 2) (hp : pathO path = none ∨ ∃ ms, pathO path = some (s :: ms)) (hz : z ≠ s) :
    (t.edit kind mode path L).2.rc.kind = 2 ∧ (t.edit kind mode path L).2.ks.get z = t.ks.get z := by
  unfold PTr.edit
  split
  · exact ⟨hk, rfl⟩
  rcases hp with hp | ⟨ms, hp⟩
  · rw [hp]; exact ⟨hk, rfl⟩
  · rw [hp]
    simp only
    cases hl : (s :: ms).getLast? with
    | none => simp at hl
    | some x =>
      simp only
      cases ms with
      | nil =>
        obtain rfl : s = x := by simpa using hl
        simp only [List.dropLast, folP, hk, if_pos, PTr.putP]
        exact ⟨by rw [editE_kind]; exact hk, editE_get _ _ _ _ _ _ hz⟩
      | cons a b =>
        rw [List.dropLast_cons_of_ne_nil (by simp)]
        simp only [folP, hk, if_pos, PTr.putP]
        cases hg : t.ks.get s with
        | none => exact ⟨hk, rfl⟩
        | some y =>
          simp only
          split
          · exact ⟨hk, rfl⟩
          · split
            · exact ⟨hk, PKs.get_set_ne hz⟩
            · exact ⟨hk, rfl⟩
theorem at_head {t u : PTr} (hk : t.rc.kind = 2) (hu : u.rc.kind = 2) {path : List UInt8} (h : ∀ s ms, pathO path = some (s :: ms) → u.ks.get s = t.ks.get s) (h0 : pathO path ≠ some []) : atP u path = atP t path := by
  unfold atP
  cases hp : pathO path with
  | none => rfl
  | some ns =>
    cases ns with
    | nil => exact absurd hp h0
    | cons s ms =>
      simp only [folP, hk, hu, if_pos]
      rw [h s ms hp]
def oneP (p : List UInt8) : List UInt8 := [47, 111, 110, 101] ++ p
def twoP (p : List UInt8) : List UInt8 := [47, 116, 119, 111] ++ p
/-- What is told below '/one..' stays as it is behind an edit below '/two..'. -/
theorem apart_step {N q : Nat} {t u : PTr} {x : EdP} {p : List UInt8} (hk : t.rc.kind = 2) (hx : x.path = twoP p) (hu : u.core = (doP N q t [x]).2.core) (look : List UInt8) :
    u.rc.kind = 2 ∧ readP u (oneP look) = readP t (oneP look) ∧ statV (atP u (oneP look)).2 = statV (atP t (oneP look)).2 := by
  have key : ∀ v : PTr, v.rc.kind = 2 → (∀ hd : List UInt8, v.ks.get (111 :: hd) = t.ks.get (111 :: hd)) → u.core = v.core → u.rc.kind = 2 ∧ readP u (oneP look) = readP t (oneP look) ∧ statV (atP u (oneP look)).2 = statV (atP t (oneP look)).2 := fun v hv hg hc => by
    have ha : atP v (oneP look) = atP t (oneP look) := at_head hk hv (fun s ms hp => by
      rw [show oneP look = 47 :: 111 :: ([110, 101] ++ look) from rfl] at hp
      obtain ⟨hd, ms', e⟩ := path_head (c := 111) (p := [110, 101] ++ look) hp (by decide)
      injection e with e _
      rw [e]
      exact hg hd) (fun hp => by
      rw [show oneP look = 47 :: 111 :: ([110, 101] ++ look) from rfl] at hp
      obtain ⟨hd, ms', e⟩ := path_head (c := 111) (p := [110, 101] ++ look) hp (by decide)
      cases e)
    refine ⟨by rw [(rc_parts (tr_parts hc).1).1]; exact hv, ?_, ?_⟩
    · rw [readP_congr hc]
      unfold readP
      rw [ha]
    · rw [(stat_congr hc _).2, ha]
  rcases doP_two N q t x with e | e
  · rw [e] at hu
    exact key t hk (fun _ => rfl) hu
  · rw [e] at hu
    have hp : pathO x.path = none ∨ ∃ hd ms, pathO x.path = some ((116 :: hd) :: ms) := by
      cases hq : pathO x.path with
      | none => exact .inl rfl
      | some ns =>
        rw [hx, show twoP p = 47 :: 116 :: ([119, 111] ++ p) from rfl] at hq
        obtain ⟨hd, ms, e⟩ := path_head (c := 116) (p := [119, 111] ++ p) hq (by decide)
        exact .inr ⟨hd, ms, by rw [e]⟩
    have hz : ∀ hd : List UInt8, (t.edit x.kind x.mode x.path x.bytes).2.rc.kind = 2 ∧ (t.edit x.kind x.mode x.path x.bytes).2.ks.get (111 :: hd) = t.ks.get (111 :: hd) := fun hd => by
      rcases hp with hp | ⟨h2, ms, hp⟩
      · exact edit_apart (s := [116]) hk (.inl hp) (by simp)
      · exact edit_apart (s := 116 :: h2) hk (.inr ⟨ms, hp⟩) (by simp)
    exact key _ (hz []).1 (fun hd => (hz hd).2) hu
def PKs.flat : PKs → Prop
  | .nil => True
  | .cons _ t k => t.ks = .nil ∧ k.flat
theorem ks_nil {t u : PTr} (h : t.core = u.core) (hu : u.ks = .nil) : t.ks = .nil := by
  have h2 := (tr_parts h).2
  rw [hu] at h2
  cases hk : t.ks with
  | nil => rfl
  | cons s x k => rw [hk] at h2; simp [PKs.core] at h2
theorem flat_congr : ∀ {k l : PKs}, k.core = l.core → l.flat → k.flat
  | .nil, _, _, _ => trivial
  | .cons _ _ _, .nil, h, _ => by simp [PKs.core] at h
  | .cons s t k, .cons s2 t2 l, h, hl => by
    simp only [PKs.core] at h
    injection h with _ h1 h2
    exact ⟨ks_nil h1 hl.1, flat_congr h2 hl.2⟩
theorem flat_set : ∀ {k : PKs} {s : List UInt8} {u : PTr}, k.flat → u.ks = .nil → (k.set s u).flat
  | .nil, _, _, h, _ => h
  | .cons s' t k, s, u, h, hu => by
    simp only [PKs.set]
    split
    · exact ⟨hu, h.2⟩
    · exact ⟨h.1, flat_set h.2 hu⟩
theorem flat_ins : ∀ {k : PKs} {s : List UInt8} {u : PTr}, k.flat → u.ks = .nil → (k.ins s u).flat
  | .nil, _, _, _, hu => ⟨hu, trivial⟩
  | .cons s' t k, s, u, h, hu => by
    simp only [PKs.ins]
    split
    · exact ⟨hu, h⟩
    · exact ⟨h.1, flat_ins h.2 hu⟩
theorem flat_get : ∀ {k : PKs} {s : List UInt8} {u : PTr}, k.flat → k.get s = some u → u.ks = .nil
  | .nil, _, _, _, hu => by cases hu
  | .cons s' t k, s, u, h, hu => by
    simp only [PKs.get] at hu
    split at hu
    · injection hu with hu
      rw [← hu]
      exact h.1
    · exact flat_get h.2 hu
theorem flat_recs : ∀ {k : PKs}, k.flat → k.recs.length = k.len ∧ k.costP ≤ 39 * (k.len : Int)
  | .nil, _ => ⟨rfl, by simp [PKs.costP, PKs.len]⟩
  | .cons s t k, h => by
    obtain ⟨h1, h2⟩ := flat_recs h.2
    obtain ⟨r, ks⟩ := t
    have hn : ks = .nil := h.1
    subst hn
    have := (costI_bd r.kind ((if r.kind = 2 then PKs.nil.len else r.bytes.length : Nat) : Int)).2
    refine ⟨?_, ?_⟩
    · simp only [PKs.recs, PTr.recs, List.length_append, List.length_cons, List.length_nil, h1, PKs.len]
      omega
    · have e0 : PKs.nil.len = 0 := rfl
      rw [e0] at this
      simp only [PKs.costP, PTr.costP, PKs.len]
      omega
theorem names_set : ∀ (k : PKs) (s : List UInt8) (u : PTr), (k.set s u).names = k.names
  | .nil, _, _ => rfl
  | .cons s' t k, s, u => by
    simp only [PKs.set]
    split
    · rfl
    · simp only [PKs.names, names_set k s u]
theorem mem_ins : ∀ {k : PKs} {s z : List UInt8} {u : PTr}, z ∈ (k.ins s u).names → z = s ∨ z ∈ k.names
  | .nil, s, z, u, h => by simpa [PKs.ins, PKs.names] using h
  | .cons s' t k, s, z, u, h => by
    simp only [PKs.ins] at h
    split at h
    · simpa [PKs.names] using h
    · simp only [PKs.names, List.mem_cons] at h ⊢
      rcases h with h | h
      · exact .inr (.inl h)
      · rcases mem_ins h with h | h
        · exact .inl h
        · exact .inr (.inr h)
theorem sorted_ins : ∀ {k : PKs} {s : List UInt8} {u : PTr}, k.names.Pairwise (fun p q => bytesBefore p q = true) → k.get s = none → (k.ins s u).names.Pairwise (fun p q => bytesBefore p q = true)
  | .nil, s, u, _, _ => by simp [PKs.ins, PKs.names]
  | .cons s' t k, s, u, h, hg => by
    simp only [PKs.names, List.pairwise_cons] at h
    simp only [PKs.get] at hg
    split at hg
    · cases hg
    rename_i hne
    simp only [PKs.ins]
    split
    · rename_i hb
      simp only [PKs.names, List.pairwise_cons]
      refine ⟨fun z hz => ?_, h⟩
      rcases List.mem_cons.1 hz with rfl | hz
      · exact hb
      · exact Go.WideShapes.bytes_trans _ _ _ hb (h.1 z hz)
    · rename_i hb
      simp only [PKs.names, List.pairwise_cons]
      refine ⟨fun z hz => ?_, sorted_ins h.2 hg⟩
      rcases mem_ins hz with rfl | hz
      · rcases Go.WideAt.bytes_total s' z hne with h1 | h1
        · exact h1
        · exact absurd h1 hb
      · exact h.1 z hz
theorem nodup_len {α : Type} [DecidableEq α] : ∀ {l m : List α}, l.Nodup → (∀ x ∈ l, x ∈ m) → l.length ≤ m.length
  | [], m, _, _ => Nat.zero_le _
  | a :: l, m, hn, h => by
    rw [List.nodup_cons] at hn
    have ha := h a (by simp)
    have := nodup_len (m := m.erase a) hn.2 (fun x hx => (List.mem_erase_of_ne (fun e => hn.1 (by rw [← e]; exact hx))).2 (h x (by simp [hx])))
    rw [List.length_erase_of_mem ha] at this
    have := List.length_pos_of_mem ha
    simp only [List.length_cons]
    omega
/-- The files' names, and what they hold. -/
def fnm (i : Nat) : List UInt8 := [102, UInt8.ofNat (97 + i)]
def fileC (F : Nat → List UInt8) (i : Nat) : PTr := .node ⟨1, i, F i, 0, [], 0, false⟩ .nil
def filE (F : Nat → List UInt8) (i : Nat) : EdP := ⟨1, i, 47 :: fnm i, F i⟩
theorem fnm_inj {i j : Nat} (hi : i < 12) (hj : j < 12) (h : fnm i = fnm j) : i = j := by
  unfold fnm at h
  injection h with _ h
  injection h with h _
  have := congrArg UInt8.toNat h
  simp only [UInt8.toNat_ofNat'] at this
  omega
theorem fnm_path : ∀ i < 12, pathO (47 :: fnm i) = some [fnm i] := by decide
structure FRow (F : Nat → List UInt8) (S : Nat → Bool) (u : PTr) : Prop where
  rc : u.rc.core = ⟨2, 493, [], 0, [], 0, false⟩
  sorted : u.ks.names.Pairwise (fun p q => bytesBefore p q = true)
  flat : u.ks.flat
  yes : ∀ i < 12, S i = true → (u.ks.get (fnm i)).map PTr.core = some (fileC F i)
  no : ∀ z, (∀ i < 12, S i = true → z ≠ fnm i) → u.ks.get z = none
theorem FRow.congr {F : Nat → List UInt8} {S : Nat → Bool} {t u : PTr} (h : FRow F S u) (hc : t.core = u.core) : FRow F S t := by
  obtain ⟨h1, h2⟩ := tr_parts hc
  refine ⟨h1.trans h.rc, ?_, flat_congr h2 h.flat, fun i hi hs => ?_, fun z hz => ?_⟩
  · rw [← PKs.core_names, h2, PKs.core_names]; exact h.sorted
  · rw [core_getE h2]; exact h.yes i hi hs
  · have := core_getE h2 z
    rw [h.no z hz] at this
    simpa using this
theorem FRow.same {F : Nat → List UInt8} {S T : Nat → Bool} {t u : PTr} (h : FRow F S t) (g : FRow F T u) (hST : ∀ i < 12, S i = T i) : t.core = u.core := by
  obtain ⟨r, k⟩ := t
  obtain ⟨s, l⟩ := u
  simp only [PTr.core]
  have h1 : r.core = s.core := h.rc.trans g.rc.symm
  rw [h1]
  congr 1
  refine PKs.ext (by rw [PKs.core_names]; exact h.sorted) (by rw [PKs.core_names]; exact g.sorted) (fun z => ?_)
  rw [PKs.core_get, PKs.core_get]
  by_cases hz : ∃ i, i < 12 ∧ S i = true ∧ z = fnm i
  · obtain ⟨i, hi, hs, rfl⟩ := hz
    have e1 := h.yes i hi hs
    have e2 := g.yes i hi (by rw [← hST i hi]; exact hs)
    exact e1.trans e2.symm
  · have e1 := h.no z (fun i hi hs e => hz ⟨i, hi, hs, e⟩)
    have e2 := g.no z (fun i hi hs e => hz ⟨i, hi, by rw [hST i hi]; exact hs, e⟩)
    have e1 : k.get z = none := e1
    have e2 : l.get z = none := e2
    rw [e1, e2]
theorem FRow.len {F : Nat → List UInt8} {S : Nat → Bool} {u : PTr} (h : FRow F S u) : u.ks.len ≤ 12 := by
  rw [← PKs.len_names]
  have hn : u.ks.names.Nodup := h.sorted.imp (fun hb e => by rw [e, bytesBefore_irrefl] at hb; cases hb)
  have := nodup_len (m := (List.range 12).map fnm) hn (fun z hz => by
    by_cases hh : ∃ i, i < 12 ∧ S i = true ∧ z = fnm i
    · obtain ⟨i, hi, _, rfl⟩ := hh
      exact List.mem_map.2 ⟨i, List.mem_range.2 hi, rfl⟩
    · have := h.no z (fun i hi hs e => hh ⟨i, hi, hs, e⟩)
      have h2 := PKs.get_mem.2 hz
      rw [this] at h2
      cases h2)
  simpa using this
def plusS (S : Nat → Bool) (b : Bool) (i : Nat) : Nat → Bool := fun z => S z || (b && z == i)
/-- One more file. -/
theorem FRow.step {F : Nat → List UInt8} {S : Nat → Bool} {u v : PTr} (h : FRow F S u) {i : Nat} (hi : i < 12) (hv : v.core = (doP 900 2 u [filE F i]).2.core) : FRow F (plusS S (decide ((F i).length ≤ 2432)) i) v := by
  refine FRow.congr ?_ hv
  by_cases hl : (F i).length ≤ 2432
  · have hk : u.rc.kind = 2 := by have := (rc_parts (r := u.rc) (s := ⟨2, 493, [], 0, [], 0, false⟩) h.rc).1; exact this
    have hlen := h.len
    have he : u.edit 1 i (47 :: fnm i) (F i) = u.put (fnm i) 1 i (F i) := by
      unfold PTr.edit
      rw [if_neg (by simp [soundB]; omega), fnm_path i hi]
      simp [folP, hk, PTr.putP, PTr.editE]
    have key : (u.put (fnm i) 1 i (F i)).1 = 0 ∧ FRow F (plusS S (decide ((F i).length ≤ 2432)) i) (u.put (fnm i) 1 i (F i)).2 := by
      unfold PTr.put
      cases hg : u.ks.get (fnm i) with
      | some x =>
        have hS : S i = true := by
          cases hs : S i with
          | true => rfl
          | false =>
            have := h.no (fnm i) (fun j hj hs' e => by rw [fnm_inj hi hj e, hs'] at hs; cases hs)
            rw [this] at hg
            cases hg
        have hx := h.yes i hi hS
        rw [hg] at hx
        injection hx with hx
        have hx' : x.core = (fileC F i).core := by rw [hx]; rfl
        obtain ⟨a, m, b⟩ := rc_parts (tr_parts hx').1
        have a' : x.rc.kind = 1 := a
        simp only
        rw [if_pos a']
        refine ⟨rfl, h.rc, ?_, flat_set h.flat (show x.ks = .nil from flat_get h.flat hg), fun j hj hs => ?_, fun z hz => ?_⟩
        · show (u.ks.set _ _).names.Pairwise _
          rw [names_set]; exact h.sorted
        · show ((u.ks.set _ _).get _).map _ = _
          by_cases hij : j = i
          · subst hij
            rw [PKs.get_set_same hg]
            have hks := flat_get h.flat hg
            simp only [Option.map_some, fileC, PTr.core, NRec.core, hks, PKs.core, a']
          · rw [PKs.get_set_ne (fun e => hij (fnm_inj hj hi e))]
            refine h.yes j hj ?_
            simpa [plusS, hij] using hs
        · show (u.ks.set _ _).get _ = _
          by_cases hzi : z = fnm i
          · exact absurd hzi (hz i hi (by simp [plusS, hS]))
          · rw [PKs.get_set_ne hzi]
            exact h.no z (fun j hj hs => hz j hj (by simp [plusS, hs]))
      | none =>
        simp only
        rw [if_neg (by omega)]
        refine ⟨rfl, ?_, sorted_ins h.sorted hg, flat_ins h.flat rfl, fun j hj hs => ?_, fun z hz => ?_⟩
        · obtain ⟨r, k⟩ := u
          exact h.rc
        · show ((u.ks.ins _ _).get _).map _ = _
          by_cases hij : j = i
          · subst hij
            rw [PKs.get_ins hg, if_pos rfl]
            rfl
          · rw [PKs.get_ins_ne (fun e => hij (fnm_inj hj hi e))]
            refine h.yes j hj ?_
            simpa [plusS, hij] using hs
        · show (u.ks.ins _ _).get _ = _
          by_cases hzi : z = fnm i
          · exact absurd hzi (hz i hi (by simp [plusS, hl]))
          · rw [PKs.get_ins_ne hzi]
            exact h.no z (fun j hj hs => hz j hj (by simp [plusS, hs]))
    have hd : (doP 900 2 u [filE F i]).2 = (u.put (fnm i) 1 i (F i)).2 := by
      rw [doP_one (by simp only [filE, edB, true_or, if_true]; exact hl)]
      have he' : u.edit (filE F i).kind (filE F i).mode (filE F i).path (filE F i).bytes = u.put (fnm i) 1 i (F i) := he
      rw [he']
      obtain ⟨k1, k2⟩ := key
      have h3 := k2.len
      have h4 := flat_recs k2.flat
      obtain ⟨y, hy⟩ : ∃ y, (u.put (fnm i) 1 i (F i)).2 = y := ⟨_, rfl⟩
      rw [hy] at h3 h4 ⊢
      rw [k1, if_neg (by simp)]
      have h5 : y.recs.length ≤ 64 := by rw [recs_ks, List.length_cons, h4.1]; omega
      have h6 : y.costP ≤ ((900 : Nat) : Int) - ((233 + 2 : Nat) : Int) := by
        obtain ⟨r, k⟩ := y
        have := (costI_bd r.kind ((if r.kind = 2 then k.len else r.bytes.length : Nat) : Int)).2
        have h7 : k.costP ≤ 39 * (k.len : Int) := h4.2
        have h8 : k.len ≤ 12 := h3
        simp only [PTr.costP]
        omega
      rw [if_neg (Nat.not_lt.2 h5), if_neg (Int.not_lt.2 h6)]
    rw [hd]
    exact key.2
  · rw [doP_big (by simp only [filE, edB, true_or, if_true]; omega)]
    have e : plusS S (decide ((F i).length ≤ 2432)) i = S := by
      funext z
      simp [plusS, hl]
    rw [e]
    exact h
theorem frow_root (F : Nat → List UInt8) {u : PTr} (h : u.core = (PTr.node ⟨2, 493, [], 0, [], 0, false⟩ .nil).core) : FRow F (fun _ => false) u :=
  FRow.congr (u := .node ⟨2, 493, [], 0, [], 0, false⟩ .nil) ⟨rfl, List.Pairwise.nil, trivial, (fun _ _ hs => by cases hs), fun _ _ => rfl⟩ h
end Go.Proofs.YtiedoocgbajjjaaGreatDoor

namespace Go.Proofs.YtiedoocgbajjjaaGreatDoor
open Go.RowKit Go.Maps
set_option maxRecDepth 100000

/-- A TREE ON A DISK, AS A WALK SEES IT: g: how often it wrote; Z: at most so many writes; B: block 1; ex: other values' blocks; T: the tree, wherever it stands. -/
def FsAt (w : World) (f d j m N q g Z : Nat) (B : List UInt8) (ex : List Nat) (T : PTr) : Prop :=
  ∃ base S t, FsIs w f d j N q g base S t ∧ S.m = m ∧ S.writes ≤ (Z : Int) ∧ S.blk 1 = B ∧ t.er.core = T.core ∧ ∀ b ∈ ex, b < w.heap.size ∧ b ∉ t.foot
theorem SetOk.pre {N d c a0 : Nat} {l : List Nd} (h : SetOk N d c a0 l) : PreOk N d c a0 l :=
  ⟨h.head, h.addrs, h.slots.sublist List.filter_sublist, h.slotlt, h.blks, h.rng, h.low⟩
theorem SetOk.cst {N d c a0 : Nat} {l : List Nd} (h : SetOk N d c a0 l) : (l.map Nd.cst).sum = (blksL l).length := by
  have key : ∀ m : List Nd, (∀ n ∈ m, n.rc.blocks.length = n.cont ∧ (0 < n.rc.more ↔ n.far = true)) → (m.map Nd.cst).sum = (blksL m).length := fun m => by
    induction m with
    | nil => intro _; rfl
    | cons n m ih =>
      intro hm
      obtain ⟨h1, h2⟩ := hm n (by simp)
      have h3 := ih (fun x hx => hm x (by simp [hx]))
      simp only [List.map_cons, List.sum_cons, blksL, List.flatMap_cons, List.length_append] at h3 ⊢
      rw [h3]
      congr 1
      unfold Nd.cst Nd.blks
      rw [List.length_append, h1]
      congr 1
      by_cases hf : n.far = true
      · rw [if_pos hf, if_pos (h2.2 hf)]; rfl
      · rw [if_neg hf, if_neg (fun hh => hf (h2.1 hh))]; rfl
  exact key l h.full
theorem FsIs.fits {w : World} {f d j N q g base : Nat} {S : DiskS} {t : ATr} (h : FsIs w f d j N q g base S t) : Fits N q t.er := by
  refine ⟨by rw [er_rc]; exact h.st.root.2, h.st.fine, by rw [recs_len]; exact h.st.len, ?_⟩
  have hf := h.st.set.pre.free
  have hc := costL_sum t.all (fun s hs => fine_all h.st.fine s hs)
  have hs := h.st.set.cst
  rw [← cost_er, hc]
  have := h.st.set.low
  unfold ATr.nds at hf hs
  omega
theorem Fits.congr {N q : Nat} {t u : PTr} (h : Fits N q u) (hc : t.core = u.core) : Fits N q t :=
  ⟨((rc_parts (tr_parts hc).1).1).trans h.kind, core_fine hc h.fine, by rw [recs_core hc]; exact h.recs, by rw [costP_core hc]; exact h.cost⟩
theorem FsAt.fits {w : World} {f d j m N q g Z : Nat} {B : List UInt8} {ex : List Nat} {T : PTr} (h : FsAt w f d j m N q g Z B ex T) : Fits N q T := by
  obtain ⟨base, S, t, hf, _, _, _, hc, _⟩ := h
  exact hf.fits.congr hc.symm
theorem FsAt.congr {w : World} {f d j m N q g Z : Nat} {B : List UInt8} {ex : List Nat} {T U : PTr} (h : FsAt w f d j m N q g Z B ex T) (hc : T.core = U.core) : FsAt w f d j m N q g Z B ex U := by
  obtain ⟨base, S, t, h1, h2, h3, h4, h5, h6⟩ := h
  exact ⟨base, S, t, h1, h2, h3, h4, h5.trans hc, h6⟩
theorem FsAt.more {w : World} {f d j m N q g Z Y : Nat} {B : List UInt8} {ex : List Nat} {T : PTr} (h : FsAt w f d j m N q g Z B ex T) (hZ : Z ≤ Y) : FsAt w f d j m N q g Y B ex T := by
  obtain ⟨base, S, t, h1, h2, h3, h4, h5, h6⟩ := h
  exact ⟨base, S, t, h1, h2, by omega, h4, h5, h6⟩
theorem FsAt.lt {w : World} {f d j m N q g Z : Nat} {B : List UInt8} {ex : List Nat} {T : PTr} (h : FsAt w f d j m N q g Z B ex T) : ∀ b ∈ [f, d, m, j], b < w.heap.size ∧ NoBytes w b := by
  obtain ⟨base, S, t, h1, rfl, h3, h4, h5, h6⟩ := h
  intro b hb
  refine ⟨?_, h1.nob b hb⟩
  have h2 := h1.jl.live.disk.lt
  have h7 := h1.jl.live.disk.map.lt
  have h8 : w.heap[j]? = _ := h1.jl.jour
  have h9 := (Array.getElem?_eq_some_iff.1 h8).1
  have h10 := (Array.getElem?_eq_some_iff.1 h1.row).1
  simp at hb
  rcases hb with rfl | rfl | rfl | rfl <;> assumption
theorem FsAt.keptX {w w' : World} {f d j m N q g Z : Nat} {B : List UInt8} {ex xs : List Nat} {T : PTr} (h : FsAt w f d j m N q g Z B ex T) (hk : Kept xs w w') (hx : ∀ b ∈ xs, NoBytes w b ∧ b ∈ ex ∧ b ∉ [f, d, m, j]) : FsAt w' f d j m N q g Z B ex T := by
  obtain ⟨base, S, t, h1, rfl, h3, h4, h5, h6⟩ := h
  exact ⟨base, S, t, h1.keptX hk (fun b hb => ⟨(hx b hb).1, (h6 b (hx b hb).2.1).2, (hx b hb).2.2⟩), rfl, h3, h4, h5, fun b hb => ⟨Nat.lt_of_lt_of_le (h6 b hb).1 hk.size, (h6 b hb).2⟩⟩
theorem FsAt.kept {w w' : World} {f d j m N q g Z : Nat} {B : List UInt8} {ex : List Nat} {T : PTr} (h : FsAt w f d j m N q g Z B ex T) (hk : Kept [] w w') : FsAt w' f d j m N q g Z B ex T := h.keptX hk (fun b hb => by cases hb)
/-- More blocks of others, if they are behind. -/
theorem FsAt.ex {w w' : World} {f d j m N q g Z : Nat} {B : List UInt8} {T : PTr} (h : FsAt w f d j m N q g Z B [] T) (hk : Kept [] w w') {ex : List Nat} (hx : ∀ b ∈ ex, w.heap.size ≤ b ∧ b < w'.heap.size) : FsAt w' f d j m N q g Z B ex T := by
  obtain ⟨base, S, t, h1, h2, h3, h4, h5, h6⟩ := h
  refine ⟨base, S, t, h1.kept hk, h2, h3, h4, h5, fun b hb => ⟨(hx b hb).2, fun hh => ?_⟩⟩
  have := (foot_mem h1.tree.ok h1.tree.own b hh).2.1
  have := (hx b hb).1
  omega

def AtDo (f d j m N q g Z : Nat) (B : List UInt8) (ex : List Nat) (T : PTr) (P : List EdP) (w : World) (e : Ending) (w' : World) : Prop :=
  e = .returned (.int .i64 (doP N q T P).1) ∧ Hid ((∃ g', FsAt w' f d j m N q g' (Z + 1000) B ex (doP N q T P).2 ∧ g' ≤ g + 1 ∧ ((doP N q T P).2.core = T.core → g' = g) ∧ ((doP N q T P).2.core ≠ T.core → g' = g + 1)) ∧ Kept [f, d, m, j] w w')
theorem fsat_do (f d j m N q g Z : Nat) (B : List UInt8) (ex : List Nat) (T : PTr) (w : World) (h : FsAt w f d j m N q g Z B ex T) (ao : Option Addr) (len cap : Nat) (H : List EdH) (P : List EdP) (hA : EdArg w ao len H P) (hg : g < 1000) (hZ : Z ≤ 999000) :
    Calls Tryz.prog 14 #[.pointer (some ⟨f, 0, none⟩), .slice ao len cap] w (AtDo f d j m N q g Z B ex T P w) := by
  obtain ⟨base, S, t, h1, rfl, h3, h4, h5, h6⟩ := h
  refine (fDo_any f d j N q g base S t w h1 ao len cap H P hA ⟨hg, by omega⟩).mono ?_
  rintro e w' ⟨rfl, ⟨g', base', S', t', k1, k2, k3, k4, k5, ⟨k6, k7, k8, k9⟩, k10⟩⟩
  obtain ⟨c1, c2⟩ := doP_congr h5 N q P
  refine ⟨by rw [c1], ⟨g', ⟨base', S', t', k1, k4, by omega, k7.trans h4, k2.trans c2, fun b hb => ⟨Nat.lt_of_lt_of_le (h6 b hb).1 k10.size, fun hh => ?_⟩⟩, k6, fun hc => (k8 (c2.trans (hc.trans h5.symm))).1, fun hc => k9 (fun hh => hc (c2.symm.trans (hh.trans h5)))⟩, k10⟩
  rcases k3 b hh with h7 | h7
  · exact (h6 b hb).2 h7
  · have := (h6 b hb).1
    omega
theorem fsat_stat (f d j m N q g Z : Nat) (B : List UInt8) (ex : List Nat) (T : PTr) (w : World) (h : FsAt w f d j m N q g Z B ex T) (path : List UInt8) (hp : path.length ≤ 9223372036854775807) :
    Calls Tryz.prog 20 #[.pointer (some ⟨f, 0, none⟩), .string (strL path)] w fun e w' => e = .returned (.tuple #[statV (atP T path).2, .int .i64 (atP T path).1]) ∧ Kept [] w w' := by
  obtain ⟨base, S, t, h1, rfl, h3, h4, h5, h6⟩ := h
  obtain ⟨c1, c2⟩ := stat_congr h5 path
  rw [← c1, ← c2]
  exact fStat_any f d j N q g base S t w h1 path hp
theorem fsat_read (f d j m N q g Z : Nat) (B : List UInt8) (ex : List Nat) (T : PTr) (w : World) (h : FsAt w f d j m N q g Z B ex T) (path : List UInt8) (hp : path.length ≤ 9223372036854775807) :
    Calls Tryz.prog 22 #[.pointer (some ⟨f, 0, none⟩), .string (strL path)] w (ReadOut T path w) := by
  obtain ⟨base, S, t, h1, rfl, h3, h4, h5, h6⟩ := h
  have c := readP_congr h5 path
  have := fRead_any f d j N q g base S t w h1 path hp
  unfold ReadOut at this ⊢
  rwa [c] at this
theorem fsat_list (f d j m N q g Z : Nat) (B : List UInt8) (ex : List Nat) (T : PTr) (w : World) (h : FsAt w f d j m N q g Z B ex T) (path : List UInt8) (hp : path.length ≤ 9223372036854775807) :
    Calls Tryz.prog 19 #[.pointer (some ⟨f, 0, none⟩), .string (strL path)] w (ListOut T path w) := by
  obtain ⟨base, S, t, h1, rfl, h3, h4, h5, h6⟩ := h
  have c := listP_congr h5 path
  have := fList_any f d j N q g base S t w h1 path hp
  unfold ListOut at this ⊢
  rwa [c] at this
theorem fsat_free (f d j m N q g Z : Nat) (B : List UInt8) (ex : List Nat) (T : PTr) (w : World) (h : FsAt w f d j m N q g Z B ex T) :
    Calls Tryz.prog 18 #[.pointer (some ⟨f, 0, none⟩)] w fun e w' => e = .returned (.int .i64 ((N : Int) - ((233 + q : Nat) : Int) - T.costP)) ∧ Kept [] w w' := by
  obtain ⟨base, S, t, h1, rfl, h3, h4, h5, h6⟩ := h
  rw [← costP_core h5, ← cost_er]
  exact fFree_any f d j N q g base S t w h1
theorem fsat_count (f d j m N q g Z : Nat) (B : List UInt8) (ex : List Nat) (T : PTr) (w : World) (h : FsAt w f d j m N q g Z B ex T) :
    Calls Tryz.prog 16 #[.pointer (some ⟨f, 0, none⟩)] w fun e w' => e = .returned (.int .i64 (T.recs.length : Int)) ∧ Kept [] w w' := by
  obtain ⟨base, S, t, h1, rfl, h3, h4, h5, h6⟩ := h
  rw [← recs_core h5]
  exact fCount_any f d j N q g base S t w h1
theorem fsat_groups (f d j m N q g Z : Nat) (B : List UInt8) (ex : List Nat) (T : PTr) (w : World) (h : FsAt w f d j m N q g Z B ex T) :
    Calls Tryz.prog 29 #[.pointer (some ⟨f, 0, none⟩)] w fun e w' => e = .returned (.int .i64 (g : Int)) ∧ w = w' := by
  obtain ⟨base, S, t, h1, rfl, h3, h4, h5, h6⟩ := h
  exact fGroups_any f d j N q g base S t w h1
end Go.Proofs.YtiedoocgbajjjaaGreatDoor

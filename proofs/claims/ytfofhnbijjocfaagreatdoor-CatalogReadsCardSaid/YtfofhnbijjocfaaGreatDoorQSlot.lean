/-
  Layer 6: function values that tell of a text whether it is taken; the program's oneOf and told; slots, and slices of them.
  Conditions: those that each theorem states.
-/
import Derived.Test.YtfofhnbijjocfaaGreatDoorQPure
import Derived.Shelf.Abstract
import Derived.BigQuiet
namespace Go.Proofs.YtfofhnbijjocfaaGreatDoor
open Go.RowKit Go.Maps
set_option maxRecDepth 100000

/-- A function value that tells of a text whether it is taken. -/
def FnIs (w : World) (v : Value) (p : List UInt8 → Bool) : Prop :=
  ∃ f cap, v = .func (.func f) #[] cap ∧ Enters Tryz.prog f ∧ ∀ w', Kept [] w w' → ∀ s : List UInt8, s.length ≤ 140737488355328 → Calls Tryz.prog f (#[.string (strL s)] ++ cap) w' fun e w2 => e = .returned (.bool (p s)) ∧ Kept [] w' w2
theorem FnIs.kept {w w' : World} {v : Value} {p : List UInt8 → Bool} (h : FnIs w v p) (hk : Kept [] w w') : FnIs w' v p := by
  obtain ⟨f, cap, h1, h2, h3⟩ := h
  exact ⟨f, cap, h1, h2, fun w2 hk2 => h3 w2 (hk.trans hk2)⟩
theorem FnIs.one {w : World} {v : Value} {p : List UInt8 → Bool} (h : FnIs w v p) : v.oneCell' = true := by
  obtain ⟨f, cap, rfl, _⟩ := h
  rfl
theorem enters_key : Enters Tryz.prog 68 := enters_of Tryz.func68 (by kernel_rfl) rfl
theorem enters_word : Enters Tryz.prog 70 := enters_of Tryz.func70 (by kernel_rfl) rfl
theorem enters_id : Enters Tryz.prog 71 := enters_of Tryz.func71 (by kernel_rfl) rfl
theorem enters_fw : Enters Tryz.prog 72 := enters_of Tryz.func72 (by kernel_rfl) rfl
theorem enters_text : Enters Tryz.prog 76 := enters_of Tryz.func76 (by kernel_rfl) rfl
theorem enters_mode : Enters Tryz.prog 78 := enters_of Tryz.func78 (by kernel_rfl) rfl
theorem enters_path : Enters Tryz.prog 80 := enters_of Tryz.func80 (by kernel_rfl) rfl
theorem enters_title : Enters Tryz.prog 66 := enters_of Tryz.func66 (by kernel_rfl) rfl
theorem enters_one : Enters Tryz.prog 86 := enters_of Tryz.func86 (by kernel_rfl) rfl
theorem fn_key (w : World) : FnIs w (.func (.func 68) #[] #[]) keyB := ⟨_, _, rfl, enters_key, fun w' _ s hs => skey_any s w' hs⟩
theorem fn_word (w : World) : FnIs w (.func (.func 70) #[] #[]) wdB := ⟨_, _, rfl, enters_word, fun w' _ s hs => sword_any s w' hs⟩
theorem fn_id (w : World) : FnIs w (.func (.func 71) #[] #[]) idB := ⟨_, _, rfl, enters_id, fun w' _ s hs => (sid_any s w' (by omega)).mono fun e w2 ⟨h1, h2⟩ => ⟨h1, by rw [h2]; exact Kept.refl _ _⟩⟩
theorem fn_fw (w : World) : FnIs w (.func (.func 72) #[] #[]) fwB := ⟨_, _, rfl, enters_fw, fun w' _ s hs => fullWord_any s w' hs⟩
theorem fn_text (w : World) : FnIs w (.func (.func 76) #[] #[]) textB := ⟨_, _, rfl, enters_text, fun w' _ s hs => (stext_any s w' (by omega)).mono fun e w2 ⟨h1, h2⟩ => ⟨h1, by rw [h2]; exact Kept.refl _ _⟩⟩
theorem fn_mode (w : World) : FnIs w (.func (.func 78) #[] #[]) modeB := ⟨_, _, rfl, enters_mode, fun w' _ s hs => (smode_any s w' (by omega)).mono fun e w2 ⟨h1, h2⟩ => ⟨h1, by rw [h2]; exact Kept.refl _ _⟩⟩
theorem fn_path (w : World) : FnIs w (.func (.func 80) #[] #[]) pathB := ⟨_, _, rfl, enters_path, fun w' _ s hs => spath_any s w' (by omega)⟩
theorem fn_title (w : World) : FnIs w (.func (.func 66) #[] #[]) titB := ⟨_, _, rfl, enters_title, fun w' _ s hs => fileTitle_any s w' (by omega)⟩

set_option maxRecDepth 100000 in
set_option maxHeartbeats 1000000 in
theorem idxS_any (v : Value) (l : List (List UInt8)) (s : List UInt8) (w : World) (h : CellsIs w v l) :
    Calls Tryz.prog 91 #[v, .string (strL s)] w fun e w' => ∃ n : Int, e = .returned (.int .i64 n) ∧ Hid (decide (0 ≤ n) = decide (s ∈ l)) ∧ w = w' := by
  have hl : l.length ≤ 140737488355328 := by have := h.len; omega
  obtain ⟨ao, cap, rfl, h2, h3, h4, h5⟩ := h.open
  have H5 := Lib.hid h5
  obtain ⟨m, hm⟩ : ∃ m, l.length = m := ⟨_, rfl⟩
  have HM := Lib.hid hm
  rw [hm] at h2 hl
  rw [hm]
  clear h h5 h4 hm
  go_enter Tryz.func91, Tryz.ntmps91
  go_wp2_with fail
  go_loop [8] (fun i => ∃ k : Nat, k ≤ m ∧ i = .int .i64 k ∧ Hid (∀ j (hj : j < l.length), j < k → l[j] ≠ s)) (fun i => m - (intOf i).toNat)
  case atStart => exact ⟨0, by omega, rfl, fun j hj h0 => by omega⟩
  case round =>
    obtain ⟨k, hk, rfl, HN⟩ := hrel
    by_cases hlt : k < m
    · have hkl : k < l.length := by rw [HM.out]; exact hlt
      obtain ⟨b, o, rfl, hb, hc⟩ := H5.out (by omega)
      have c0 := hc k hkl
      obtain ⟨p, hp⟩ : ∃ p, l[k] = p := ⟨_, rfl⟩
      rw [hp] at c0
      have HP := Lib.hid hp
      clear hc hp
      by_cases hps : s = p
      · have q1 : ((strL s).toList == (strL p).toList) = true := by rw [str_beqP, decide_eq_true hps]
        have HG : Hid (s ∈ l) := by show _ ∈ _; rw [hps, ← HP.out]; exact List.getElem_mem hkl
        clear hps
        go_wp2_with fail
        go_ret
        exact ⟨(k : Int), rfl, by show (_ ↔ _); exact ⟨fun _ => HG.out, fun _ => by omega⟩, rfl⟩
      · have q1 : ((strL s).toList == (strL p).toList) = false := by rw [str_beqP, decide_eq_false hps]
        have HN2 : Hid (∀ j (hj : j < l.length), j < k + 1 → l[j] ≠ s) := fun j hj hjk => by
          by_cases e : j = k
          · subst e; rw [HP.out]; exact fun e => hps e.symm
          · exact HN.out j hj (by omega)
        clear hps
        go_wp2_with fail
        go_round
        case rel => exact ⟨k + 1, by omega, by go_num, HN2⟩
        case measure => simp [intOf]; omega
    · have HG : Hid (¬ s ∈ l) := fun hm => by
        obtain ⟨j, hj, e⟩ := List.getElem_of_mem hm
        exact HN.out j hj (by rw [HM.out] at hj; omega) e
      go_wp2_with fail
      go_ret
      exact ⟨-1, rfl, by show (_ ↔ _); exact ⟨fun h => absurd h (by decide), fun h => absurd h HG.out⟩, rfl⟩

theorem contains_any (v : Value) (l : List (List UInt8)) (s : List UInt8) (w : World) (h : CellsIs w v l) :
    Calls Tryz.prog 87 #[v, .string (strL s)] w fun e w' => e = .returned (.bool (decide (s ∈ l))) ∧ w = w' := by
  have H := Lib.hid h
  clear h
  go_enter Tryz.func87, Tryz.ntmps87
  go_wp2_with fail
  refine (idxS_any v l s _ H.out).mono ?_
  rintro e w' ⟨n, rfl, HB, rfl⟩
  go_wp2_with fail
  go_ret
  exact ⟨retB HB.out, rfl⟩
theorem oneOf1_any (v : Value) (l : List (List UInt8)) (g : Nat) (s : List UInt8) (w : World) (hg : w.heap[g]? = some (.cells #[v] 58)) (h : CellsIs w v l) :
    Calls Tryz.prog 86 #[.string (strL s), .pointer (some ⟨g, 0, none⟩)] w fun e w' => e = .returned (.bool (decide (s ∈ l))) ∧ w = w' := by
  have H := Lib.hid h
  have c0 : w.cell? ⟨g, 0, none⟩ = some v := cell_of_row _ _ 0 _ _ _ hg
  clear h hg
  go_enter Tryz.func86, Tryz.ntmps86
  go_wp2_with fail
  refine (contains_any v l s _ H.out).mono ?_
  rintro e w' ⟨rfl, rfl⟩
  go_wp2_with fail
  go_ret
  exact ⟨rfl, rfl⟩
theorem fn_oneOf {w : World} {v : Value} {l : List (List UInt8)} {g : Nat} (hg : w.heap[g]? = some (.cells #[v] 58)) (h : CellsIs w v l) : FnIs w (.func (.func 86) #[] #[.pointer (some ⟨g, 0, none⟩)]) (fun s => decide (s ∈ l)) :=
  ⟨_, _, rfl, enters_one, fun w' hk s _ => (oneOf1_any v l g s w' (hk.heap (by simp) hg) (h.kept hk)).mono fun e w2 ⟨h1, h2⟩ => ⟨h1, by rw [h2]; exact Kept.refl _ _⟩⟩
theorem oneOf_any (ao : Option Addr) (len cap : Nat) (w : World) :
    Calls Tryz.prog 79 #[.slice ao len cap] w fun e w' => e = .returned (.func (.func 86) #[] #[.pointer (some ⟨w.heap.size, 0, none⟩)]) ∧ Hid (w'.heap[w.heap.size]? = some (.cells #[.slice ao len cap] 58) ∧ Kept [] w w') := by
  have hmf : ∀ (fn : Fn) (first cap : Array Value) (w : World), (Instr.makeFunc fn first cap).run Tryz.prog w = .ok (.func fn first cap) w := fun _ _ _ _ => rfl
  have HK : Hid ((w.alloc (.cells #[.slice ao len cap] 58)).heap[w.heap.size]? = some (.cells #[.slice ao len cap] 58) ∧ Kept [] w (w.alloc (.cells #[.slice ao len cap] 58))) := ⟨heap_alloc_last _ _, Kept.alloc [] w _⟩
  go_enter Tryz.func79, Tryz.ntmps79
  go_wp2_with fail
  go_ret
  exact ⟨rfl, HK.out⟩

/-- A slot as a value. -/
def slotV (n d : List UInt8) (f : Value) : Value := .agg #[.string (strL n), .string (strL d), f]
/-- The cells of slots. -/
def slv : List (Prm × Value) → List Value
  | [] => []
  | x :: l => .string (strL x.1.1) :: .string (strL x.1.2) :: x.2 :: slv l
theorem slv_length : ∀ l : List (Prm × Value), (slv l).length = 3 * l.length
  | [] => rfl
  | x :: l => by have := slv_length l; simp [slv, this]; omega
theorem slv_append : ∀ l m : List (Prm × Value), slv (l ++ m) = slv l ++ slv m
  | [], _ => rfl
  | x :: l, m => by simp [slv, slv_append l m]
theorem slv_get : ∀ (l : List (Prm × Value)) (k : Nat) (hk : k < l.length), (slv l)[3 * k]? = some (.string (strL l[k].1.1)) ∧ (slv l)[3 * k + 1]? = some (.string (strL l[k].1.2)) ∧ (slv l)[3 * k + 2]? = some l[k].2
  | x :: l, 0, _ => ⟨rfl, rfl, rfl⟩
  | x :: l, k + 1, hk => by
    have := slv_get l k (by simpa using hk)
    rw [show 3 * (k + 1) = 3 * k + 3 by omega, show 3 * k + 3 + 1 = 3 * k + 1 + 3 by omega, show 3 * k + 3 + 2 = 3 * k + 2 + 3 by omega]
    simpa [slv] using this
/-- A slice of slots. -/
def SlotRow (w : World) (v : Value) (L : List (Prm × Value)) : Prop :=
  (L = [] ∧ ∃ ao cap, v = .slice ao 0 cap) ∨ ∃ b o cap, v = .slice (some ⟨b, o, none⟩) L.length cap ∧ b < w.heap.size ∧ w.rangeAt b o (slv L)
theorem SlotRow.kept {w w' : World} {v : Value} {L : List (Prm × Value)} (h : SlotRow w v L) (hk : Kept [] w w') : SlotRow w' v L := by
  rcases h with h | ⟨b, o, cap, rfl, hb, hr⟩
  · exact .inl h
  · exact .inr ⟨b, o, cap, rfl, Nat.lt_of_lt_of_le hb hk.size, hk.range hb (by simp) hr⟩
theorem SlotRow.cell {w : World} {v : Value} {L : List (Prm × Value)} (h : SlotRow w v L) : ∃ ao cap, v = .slice ao L.length cap ∧ (0 < L.length → ∃ b o, ao = some ⟨b, o, none⟩ ∧ b < w.heap.size ∧ ∀ k (hk : k < L.length),
    w.cell? ⟨b, o + k * 3, none⟩ = some (.string (strL L[k].1.1)) ∧ w.cell? ⟨b, o + k * 3 + 1, none⟩ = some (.string (strL L[k].1.2)) ∧ w.cell? ⟨b, o + k * 3 + 2, none⟩ = some L[k].2) := by
  rcases h with ⟨rfl, ao, cap, rfl⟩ | ⟨b, o, cap, rfl, hb, hr⟩
  · exact ⟨ao, cap, rfl, fun h => absurd h (by simp)⟩
  · refine ⟨_, cap, rfl, fun _ => ⟨b, o, rfl, hb, fun k hk => ?_⟩⟩
    obtain ⟨e0, e1, e2⟩ := slv_get L k hk
    have f0 := hr _ _ e0
    have f1 := hr _ _ e1
    have f2 := hr _ _ e2
    rw [show o + 3 * k = o + k * 3 by omega] at f0
    rw [show o + (3 * k + 1) = o + k * 3 + 1 by omega] at f1
    rw [show o + (3 * k + 2) = o + k * 3 + 2 by omega] at f2
    exact ⟨f0, f1, f2⟩
theorem SlotRow.made (w : World) (L : List (Prm × Value)) (g n : Nat) (cs : Array Value) (hg : w.heap[g]? = some (.cells cs 108)) (hcs : cs = (slv L).toArray) (hn : L.length = n) : SlotRow w (.slice (some ⟨g, 0, none⟩) n n) L := by
  subst hn hcs
  refine .inr ⟨g, 0, _, rfl, (Array.getElem?_eq_some_iff.1 hg).1, fun j u hu => ?_⟩
  rw [Nat.zero_add, cell_of_row w g j _ _ _ hg]
  simpa using hu
/-- Slots whose functions take what T says. -/
def SlotsIs (w : World) (v : Value) (T : List UInt8 → List UInt8 → Bool) (S : List Prm) : Prop := ∃ L : List (Prm × Value), L.map (·.1) = S ∧ SlotRow w v L ∧ (∀ x ∈ L, FnIs w x.2 (T x.1.1)) ∧ ∀ s ∈ S, s.1.length ≤ 140737488355328 ∧ s.2.length ≤ 140737488355328
theorem SlotsIs.kept {w w' : World} {v : Value} {T : List UInt8 → List UInt8 → Bool} {S : List Prm} (h : SlotsIs w v T S) (hk : Kept [] w w') : SlotsIs w' v T S := by
  obtain ⟨L, h1, h2, h3, h4⟩ := h
  exact ⟨L, h1, h2.kept hk, fun x hx => (h3 x hx).kept hk, h4⟩
theorem SlotsIs.nil (w : World) (T : List UInt8 → List UInt8 → Bool) : SlotsIs w (.slice none 0 0) T [] := ⟨[], rfl, .inl ⟨rfl, _, _, rfl⟩, fun x hx => (by cases hx), fun x hx => (by cases hx)⟩

set_option maxHeartbeats 1000000 in
theorem stold_any (s : List UInt8) (w : World) (hs : s.length ≤ 140737488355328) :
    Calls Tryz.prog 77 #[.string (strL s)] w fun e w' => ∃ f, e = .returned (.agg #[.string ⟨#[101, 110, 115, 117, 114, 101]⟩, .string (strL s), f]) ∧ Hid (FnIs w' f (takesB s nEnsure) ∧ Kept [] w w') := by
  have ht : takesB s nEnsure = fun x => decide (x ∈ [s]) := by funext x; unfold takesB; rw [if_pos rfl]
  have HT := Lib.hid ht
  obtain ⟨wa, hwa⟩ : ∃ wa, w.alloc (.cells #[.string ⟨#[]⟩, .string ⟨#[]⟩, .nilFunc] 108) = wa := ⟨_, rfl⟩
  have HG : Hid (wa.heap[w.heap.size]? = some (.cells #[.string ⟨#[]⟩, .string ⟨#[]⟩, .nilFunc] 108)) := by show _ = _; rw [← hwa]; exact heap_alloc_last _ _
  have HA : Hid (Kept [] w wa ∧ wa.heap.size = w.heap.size + 1) := ⟨by rw [← hwa]; exact Kept.alloc _ _ _, by rw [← hwa, size_alloc]⟩
  obtain ⟨wb, hwb⟩ : ∃ wb, wa.alloc (.cells #[.string (strL s)] 9) = wb := ⟨_, rfl⟩
  have HB : Hid (Kept [] wa wb ∧ wb.heap[wa.heap.size]? = some (.cells #[.string (strL s)] 9) ∧ wb.heap.size = wa.heap.size + 1) := ⟨by rw [← hwb]; exact Kept.alloc _ _ _, by rw [← hwb]; exact heap_alloc_last _ _, by rw [← hwb, size_alloc]⟩
  clear ht
  go_enter Tryz.func77, Tryz.ntmps77
  go_wp2_with fail
  refine (oneOf_any _ 1 1 _).mono ?_
  rintro e w2 ⟨rfl, HF⟩
  have HK2 : Hid (Kept [] wa w2) := HB.out.1.trans HF.out.2
  have hg2 : w2.heap[w.heap.size]? = some (.cells #[.string ⟨#[]⟩, .string ⟨#[]⟩, .nilFunc] 108) := HK2.out.heap (by simp) HG.out
  have z0 := frozen_of_row _ _ 0 _ _ hg2
  have z1 := frozen_of_row _ _ 1 _ _ hg2
  have z2 := frozen_of_row _ _ 2 _ _ hg2
  have d0 : w2.cell? ⟨w.heap.size, 0, none⟩ = some (.string ⟨#[]⟩) := cell_of_row _ _ 0 _ _ _ hg2
  have d1 : w2.cell? ⟨w.heap.size, 1, none⟩ = some (.string ⟨#[]⟩) := cell_of_row _ _ 1 _ _ _ hg2
  have d2 : w2.cell? ⟨w.heap.size, 2, none⟩ = some .nilFunc := cell_of_row _ _ 2 _ _ _ hg2
  have HG2 := Lib.hid hg2
  have hst : ∀ (w3 : World) (a : Addr) (fn : Fn) (cap : Array Value), (store a (.func fn #[] cap)).run Tryz.prog w3 = match w3.cell? a with
      | some _ => if w3.frozen? a then .halt (.unsupported (.unsafePointer "a write to bytes that a string shares")) w3 else .ok () (w3.setCell a (.func fn #[] cap))
      | none => match w3.farStore Tryz.prog a (.func fn #[] cap) false with
        | .ok (w', _) => .ok () w'
        | .error h => .halt h w3 := fun w3 a fn cap => run_store _ w3 a _ _ rfl
  clear hg2 hwa hwb
  go_wp2_with fail
  obtain ⟨g, hg⟩ : ∃ g, wb.heap.size = g := ⟨_, rfl⟩
  obtain ⟨q, hq⟩ : ∃ q, wa.heap.size = q := ⟨_, rfl⟩
  rw [hg] at HF
  rw [hg]
  rw [hq] at HF HB
  have r1 := row_setCell (row_setCell (row_setCell HG2.out 0 (.string ⟨#[101, 110, 115, 117, 114, 101]⟩)) 1 (.string (strL s))) 2 (.func (.func 86) #[] #[.pointer (some ⟨g, 0, none⟩)])
  have hkf : Kept [w.heap.size] w2 (((w2.setCell ⟨w.heap.size, 0, none⟩ (.string ⟨#[101, 110, 115, 117, 114, 101]⟩)).setCell ⟨w.heap.size, 1, none⟩ (.string (strL s))).setCell ⟨w.heap.size, 2, none⟩ (.func (.func 86) #[] #[.pointer (some ⟨g, 0, none⟩)])) := ((Kept.setCell _ _ _ _ (by simp)).trans (Kept.setCell _ _ _ _ (by simp))).trans (Kept.setCell _ _ _ _ (by simp))
  refine bodyPost_ret_by (results_cell_row rfl _ _ (w.heap.size) 108 _ (0, 0) _ rfl r1 Tryz.underlying108 rfl (by kernel_rfl)) rfl ⟨_, rfl, ?_, ?_⟩
  · rw [HT.out]
    have hz := HA.out.2
    have hy := HB.out.2.2
    refine fn_oneOf (v := .slice (some ⟨q, 0, none⟩) 1 1) (hkf.heap (by simp; omega) HF.out.1) ?_
    have hb2 := hkf.heap (b := q) (by simp; omega) (HF.out.2.heap (by simp) HB.out.2.1)
    exact ⟨⟨_, _, rfl, by simp, by omega, fun e => (by cases e), .inr ⟨q, 0, rfl, (Array.getElem?_eq_some_iff.1 hb2).1, fun j u hu => by
      rw [Nat.zero_add, cell_of_row _ _ j _ _ _ hb2]
      simpa [sv] using hu⟩⟩, by simp, fun x hx => by simp at hx; subst hx; exact hs⟩
  · exact (HA.out.1.trans HK2.out).into hkf (by simp)

/-- A slot that tells the state. -/
def toldX (s : List UInt8) (f : Value) : Prm × Value := ((nEnsure, s), f)
theorem valB_content : valB nContent = textB := by funext v; unfold valB; rw [if_pos rfl]
theorem valB_mode : valB nMode = modeB := by funext v; unfold valB; rw [if_neg (by decide), if_pos rfl]
theorem valB_purge : valB nPurge = fun v => decide (v ∈ [nFalse, nTrue]) := by funext v; unfold valB; rw [if_neg (by decide), if_neg (by decide), if_pos rfl]
theorem valB_target : valB nTarget = pathB := by funext v; unfold valB; rw [if_neg (by decide), if_neg (by decide), if_neg (by decide), if_pos rfl]
theorem valB_uid : valB nUid = idB := by funext v; unfold valB; rw [if_neg (by decide), if_neg (by decide), if_neg (by decide), if_neg (by decide), if_pos rfl]
theorem valB_gid : valB nGid = idB := by funext v; unfold valB; rw [if_neg (by decide), if_neg (by decide), if_neg (by decide), if_neg (by decide), if_neg (by decide), if_pos rfl]
theorem valB_group : valB nGroup = keyB := by funext v; unfold valB; rw [if_neg (by decide), if_neg (by decide), if_neg (by decide), if_neg (by decide), if_neg (by decide), if_neg (by decide), if_pos rfl]
theorem valB_shell : valB nShell = wdB := by funext v; unfold valB; rw [if_neg (by decide), if_neg (by decide), if_neg (by decide), if_neg (by decide), if_neg (by decide), if_neg (by decide), if_neg (by decide), if_pos rfl]
theorem valB_version : valB nVersion = fwB := by funext v; unfold valB; rw [if_neg (by decide), if_neg (by decide), if_neg (by decide), if_neg (by decide), if_neg (by decide), if_neg (by decide), if_neg (by decide), if_neg (by decide), if_pos rfl]
theorem takes_of {st n : List UInt8} (h : n ≠ nEnsure) : takesB st n = valB n := by funext v; unfold takesB; rw [if_neg h]
end Go.Proofs.YtfofhnbijjocfaaGreatDoor

/-
  Layer 6: what values and titles may be: digits, identities, modes, texts, keys, words, paths; the program's functions and the document's.
  Conditions: those that each theorem states.
-/
import Derived.Test.YthpfnkanilfohaaDoorQPrm
import Derived.Test.YthpfnkanilfohaaDoorTSound
import Derived.Test.YthpfnkanilfohaaDoorLPath
namespace Go.Proofs.YthpfnkanilfohaaDoor
open Go.RowKit Go.Maps

def dcB (c top : Int) : Bool := decide (48 ≤ c ∧ c ≤ top)
def dgB (l : List UInt8) (top : Int) : Bool := l.all fun c => dcB (c.toNat : Int) top
theorem dgB_no {l : List UInt8} {top : Int} (i : Nat) (hi : i < l.length) (h : dcB (l[i].toNat : Int) top = false) : dgB l top = false := by
  rw [Bool.eq_false_iff]
  intro hh
  unfold dgB at hh
  rw [List.all_eq_true] at hh
  rw [hh _ (List.getElem_mem hi)] at h
  cases h
theorem dgB_yes {l : List UInt8} {top : Int} (h : ∀ i (hi : i < l.length), dcB (l[i].toNat : Int) top = true) : dgB l top = true := by
  unfold dgB
  rw [List.all_eq_true]
  intro x hx
  obtain ⟨i, hi, rfl⟩ := List.getElem_of_mem hx
  exact h i hi
theorem dcB_lo {c top : Int} (h : c < 48) : dcB c top = false := by unfold dcB; rw [decide_eq_false]; omega
theorem dcB_hi {c top : Int} (h : top < c) : dcB c top = false := by unfold dcB; rw [decide_eq_false]; omega
theorem dcB_in {c top : Int} (h : ¬ c < 48) (k : ¬ top < c) : dcB c top = true := by unfold dcB; rw [decide_eq_true]; omega

set_option maxRecDepth 100000 in
set_option maxHeartbeats 2000000 in
theorem sdigitsS_any (S : ByteArray) (top : Int) (w : World) (hs : S.size ≤ 9223372036854775807) :
    Calls Tryd.prog 46 #[.string S, .int .u8 top] w fun e w' => e = .returned (.bool (dgB S.data.toList top)) ∧ w = w' := by
  have HSL := Lib.hid (size_toList S)
  go_enter Tryd.func46, Tryd.ntmps46
  go_wp2_with fail
  go_loop [8] (fun i => ∃ k : Nat, k ≤ S.size ∧ i = .int .i64 k ∧ Hid (∀ j (hj : j < S.data.toList.length), j < k → dcB ((S.data.toList[j]).toNat : Int) top = true)) (fun i => S.size - (intOf i).toNat)
  case atStart => exact ⟨0, by omega, rfl, fun j hj h0 => by omega⟩
  case round =>
    obtain ⟨k, hk, rfl, HK⟩ := hrel
    by_cases hlt : k < S.size
    · have hkl : k < S.data.toList.length := by rw [HSL.out]; exact hlt
      have hc := UInt8.toNat_lt S[k]
      have HE : Hid (S[k] = S.data.toList[k]) := by show _ = _; exact (get_toList S k hlt).symm
      by_cases hlo : (S[k].toNat : Int) < 48
      · have HB : Hid (dgB S.data.toList top = false) := dgB_no k hkl (by rw [← HE.out]; exact dcB_lo hlo)
        go_wp2_with fail
        go_ret
        exact ⟨retB HB.out.symm, rfl⟩
      · by_cases hhi : top < (S[k].toNat : Int)
        · have HB : Hid (dgB S.data.toList top = false) := dgB_no k hkl (by rw [← HE.out]; exact dcB_hi hhi)
          go_wp2_with fail
          go_ret
          exact ⟨retB HB.out.symm, rfl⟩
        · have HC : Hid (dcB (S[k].toNat : Int) top = true) := dcB_in hlo hhi
          go_wp2_with fail
          go_round
          case rel =>
            refine ⟨k + 1, by omega, by go_num, fun j hj h0 => ?_⟩
            by_cases e : j = k
            · subst e; rw [← HE.out]; exact HC.out
            · exact HK.out j hj (by omega)
          case measure => simp [intOf]; omega
    · have HB : Hid (dgB S.data.toList top = true) := dgB_yes fun i hi => HK.out i hi (by rw [HSL.out] at hi; omega)
      go_wp2_with fail
      go_ret
      exact ⟨retB HB.out.symm, rfl⟩
theorem sdigits_any (s : List UInt8) (top : Int) (w : World) (hs : s.length ≤ 9223372036854775807) :
    Calls Tryd.prog 46 #[.string (strL s), .int .u8 top] w fun e w' => e = .returned (.bool (dgB s top)) ∧ w = w' := sdigitsS_any (strL s) top w (by rw [strL_size]; exact hs)

set_option maxRecDepth 100000 in
set_option maxHeartbeats 2000000 in
theorem rsdigitsS_any (S : ByteArray) (least most top : Int) (w : World) (hs : S.size ≤ 9223372036854775807) :
    Calls Tryd.prog 36 #[.string S, .int .i64 least, .int .i64 most, .int .u8 top] w fun e w' => e = .returned (.bool (dgB S.data.toList top && (decide (least ≤ (S.size : Int)) && decide ((S.size : Int) ≤ most)))) ∧ w = w' := by
  have HSL := Lib.hid (size_toList S)
  go_enter Tryd.func36, Tryd.ntmps36
  go_wp2_with fail
  go_loop [9] (fun i => ∃ k : Nat, k ≤ S.size ∧ i = .int .i64 k ∧ Hid (∀ j (hj : j < S.data.toList.length), j < k → dcB ((S.data.toList[j]).toNat : Int) top = true)) (fun i => S.size - (intOf i).toNat)
  case atStart => exact ⟨0, by omega, rfl, fun j hj h0 => by omega⟩
  case round =>
    obtain ⟨k, hk, rfl, HK⟩ := hrel
    by_cases hlt : k < S.size
    · have hkl : k < S.data.toList.length := by rw [HSL.out]; exact hlt
      have hc := UInt8.toNat_lt S[k]
      have HE : Hid (S[k] = S.data.toList[k]) := by show _ = _; exact (get_toList S k hlt).symm
      by_cases hlo : (S[k].toNat : Int) < 48
      · have HB : Hid (dgB S.data.toList top = false) := dgB_no k hkl (by rw [← HE.out]; exact dcB_lo hlo)
        go_wp2_with fail
        go_ret
        exact ⟨retB (by rw [HB.out]; rfl), rfl⟩
      · by_cases hhi : top < (S[k].toNat : Int)
        · have HB : Hid (dgB S.data.toList top = false) := dgB_no k hkl (by rw [← HE.out]; exact dcB_hi hhi)
          go_wp2_with fail
          go_ret
          exact ⟨retB (by rw [HB.out]; rfl), rfl⟩
        · have HC : Hid (dcB (S[k].toNat : Int) top = true) := dcB_in hlo hhi
          go_wp2_with fail
          go_round
          case rel =>
            refine ⟨k + 1, by omega, by go_num, fun j hj h0 => ?_⟩
            by_cases e : j = k
            · subst e; rw [← HE.out]; exact HC.out
            · exact HK.out j hj (by omega)
          case measure => simp [intOf]; omega
    · have HB : Hid (dgB S.data.toList top = true) := dgB_yes fun i hi => HK.out i hi (by rw [HSL.out] at hi; omega)
      by_cases h3 : least ≤ (S.size : Int)
      · by_cases h4 : (S.size : Int) ≤ most
        all_goals
          go_wp2_with fail
          go_ret
          exact ⟨retB (by rw [HB.out] <;> first | rfl | (simp; omega)), rfl⟩
      · go_wp2_with fail
        go_ret
        exact ⟨retB (by rw [HB.out, decide_eq_false (show ¬ least ≤ (S.size : Int) by omega)]; rfl), rfl⟩
theorem rsdigits_any (s : List UInt8) (least most top : Int) (w : World) (hs : s.length ≤ 9223372036854775807) :
    Calls Tryd.prog 36 #[.string (strL s), .int .i64 least, .int .i64 most, .int .u8 top] w fun e w' => e = .returned (.bool (dgB s top && (decide (least ≤ (s.length : Int)) && decide ((s.length : Int) ≤ most)))) ∧ w = w' := by
  have := rsdigitsS_any (strL s) least most top w (by rw [strL_size]; exact hs)
  rw [strL_size] at this
  exact this

def idB (s : List UInt8) : Bool := decide (1 ≤ s.length) && (decide (s.length ≤ 5) && dgB s 57)
def modeB (s : List UInt8) : Bool := decide (s.length = 4) && (decide (s.head? = some 48) && dgB s 55)
def textB (s : List UInt8) : Bool := decide (s.length ≤ 512)
def keyB (s : List UInt8) : Bool := decide (s ≠ []) && wordB s 32
def wdB (s : List UInt8) : Bool := wordB s 64
def fwB (s : List UInt8) : Bool := decide (s ≠ []) && wordB s 64
def pathB (s : List UInt8) : Bool := (pathO s).isSome
def nTab : List UInt8 := [116, 97, 98]
def nRun : List UInt8 := [114, 117, 110]
def titB (s : List UInt8) : Bool := match pathO s with
  | some (n :: _) => decide (n ≠ nTab) && decide (n ≠ nRun)
  | _ => false

set_option maxHeartbeats 1000000 in
theorem sid_any (s : List UInt8) (w : World) (hs : s.length ≤ 9223372036854775807) :
    Calls Tryd.prog 31 #[.string (strL s)] w fun e w' => e = .returned (.bool (idB s)) ∧ w = w' := by
  have hsz := strL_size s
  by_cases h1 : 1 ≤ s.length
  · have h1' : (1 : Int) ≤ ((strL s).size : Int) := by rw [hsz]; omega
    by_cases h2 : s.length ≤ 5
    · have h2' : ((strL s).size : Int) ≤ 5 := by rw [hsz]; omega
      have HB : Hid (idB s = dgB s 57) := by show _ = _; unfold idB; rw [decide_eq_true h1, decide_eq_true h2]; rfl
      clear hsz
      go_enter Tryd.func31, Tryd.ntmps31
      go_wp2_with fail
      refine (sdigits_any s 57 _ (by omega)).mono ?_
      rintro e w' ⟨rfl, rfl⟩
      go_wp2_with fail
      go_ret
      exact ⟨retB HB.out.symm, rfl⟩
    · have h2' : ¬ ((strL s).size : Int) ≤ 5 := by rw [hsz]; omega
      have HB : Hid (idB s = false) := by show _ = _; unfold idB; rw [decide_eq_false h2]; simp
      clear hsz
      go_enter Tryd.func31, Tryd.ntmps31
      go_wp2_with fail
      go_ret
      exact ⟨retB HB.out.symm, rfl⟩
  · have h1' : ¬ (1 : Int) ≤ ((strL s).size : Int) := by rw [hsz]; omega
    have HB : Hid (idB s = false) := by show _ = _; unfold idB; rw [decide_eq_false h1]; simp
    clear hsz
    go_enter Tryd.func31, Tryd.ntmps31
    go_wp2_with fail
    go_ret
    exact ⟨retB HB.out.symm, rfl⟩

theorem head_get (s : List UInt8) (h : 0 < s.length) (c : UInt8) : decide (s.head? = some c) = decide ((s[0]'h).toNat = c.toNat) := by
  rw [List.head?_eq_getElem?, List.getElem?_eq_getElem h, Bool.eq_iff_iff]
  simp [UInt8.toNat_inj]

set_option maxHeartbeats 1000000 in
theorem smode_any (s : List UInt8) (w : World) (hs : s.length ≤ 9223372036854775807) :
    Calls Tryd.prog 41 #[.string (strL s)] w fun e w' => e = .returned (.bool (modeB s)) ∧ w = w' := by
  have hsz := strL_size s
  by_cases h1 : s.length = 4
  · have h1' : (((strL s).size : Int) == 4) = true := by rw [hsz, h1]; rfl
    obtain ⟨c, hc⟩ : ∃ c : Int, ((s[0]'(by omega)).toNat : Int) = c := ⟨_, rfl⟩
    have hix := run_index_str0 s (by omega) w
    have hd := head_get s (by omega) 48
    rw [hc] at hix
    by_cases h2 : s.head? = some 48
    · have q2 : (c == 48) = true := by rw [decide_eq_true h2] at hd; have := of_decide_eq_true hd.symm; rw [← hc, this]; rfl
      have HB : Hid (modeB s = dgB s 55) := by show _ = _; unfold modeB; rw [decide_eq_true h1, decide_eq_true h2]; rfl
      clear hsz h1 h2 hd hc
      go_enter Tryd.func41, Tryd.ntmps41
      go_wp2_with fail
      refine (sdigits_any s 55 _ (by omega)).mono ?_
      rintro e w' ⟨rfl, rfl⟩
      go_wp2_with fail
      go_ret
      exact ⟨retB HB.out.symm, rfl⟩
    · have q2 : (c == 48) = false := by
        rw [decide_eq_false h2] at hd
        have := of_decide_eq_false hd.symm
        rw [beq_eq_false_iff_ne]
        intro e
        apply this
        have h48 : (48 : UInt8).toNat = 48 := rfl
        rw [h48]; omega
      have HB : Hid (modeB s = false) := by show _ = _; unfold modeB; rw [decide_eq_false h2]; simp
      clear hsz h1 h2 hd hc
      go_enter Tryd.func41, Tryd.ntmps41
      go_wp2_with fail
      go_ret
      exact ⟨retB HB.out.symm, rfl⟩
  · have h1' : (((strL s).size : Int) == 4) = false := by rw [hsz, beq_eq_false_iff_ne]; omega
    have HB : Hid (modeB s = false) := by show _ = _; unfold modeB; rw [decide_eq_false h1]; rfl
    clear hsz h1
    go_enter Tryd.func41, Tryd.ntmps41
    go_wp2_with fail
    go_ret
    exact ⟨retB HB.out.symm, rfl⟩

theorem stext_any (s : List UInt8) (w : World) (hs : s.length ≤ 9223372036854775807) :
    Calls Tryd.prog 39 #[.string (strL s)] w fun e w' => e = .returned (.bool (textB s)) ∧ w = w' := by
  have hsz := strL_size s
  by_cases h1 : s.length ≤ 512
  · have h1' : ((strL s).size : Int) ≤ 512 := by rw [hsz]; omega
    have HB : Hid (textB s = true) := decide_eq_true h1
    clear hsz
    go_enter Tryd.func39, Tryd.ntmps39
    go_wp2_with fail
    go_ret
    exact ⟨retB HB.out.symm, rfl⟩
  · have h1' : ¬ ((strL s).size : Int) ≤ 512 := by rw [hsz]; omega
    have HB : Hid (textB s = false) := decide_eq_false h1
    clear hsz
    go_enter Tryd.func39, Tryd.ntmps39
    go_wp2_with fail
    go_ret
    exact ⟨retB HB.out.symm, rfl⟩

theorem widthI_groups : widthI nGroups = 1 := by decide
theorem cells_one {w : World} (s : List UInt8) (hs : s.length ≤ 140737488355328) : CellsIs (w.alloc (.cells #[.string (strL s)] 9)) (.slice (some ⟨w.heap.size, 0, none⟩) 1 1) [s] :=
  ⟨⟨_, _, rfl, by simp, by omega, fun e => (by cases e), .inr ⟨w.heap.size, 0, rfl, by simp, fun j u hu => by
    rw [Nat.zero_add, cell_of_row _ _ j _ _ _ (heap_alloc_last w _)]
    simpa [sv] using hu⟩⟩, by simp, fun x hx => by simp at hx; subst hx; exact hs⟩
def fitB (k c : List UInt8) : Bool := rowB 1 (k, [c])
theorem fit_eq (k c : List UInt8) : decide (checkI nGroups (k, [c]) = 0) = fitB k c := by
  unfold checkI fitB
  rw [widthI_groups]
  cases rowB 1 (k, [c]) <;> simp

set_option maxHeartbeats 1000000 in
theorem sfits_any (k c : List UInt8) (w : World) (hk : k.length ≤ 140737488355328) (hc : c.length ≤ 140737488355328) :
    Calls Tryd.prog 44 #[.string (strL k), .string (strL c)] w fun e w' => e = .returned (.bool (fitB k c)) ∧ Kept [] w w' := by
  have HK := Lib.hid (Kept.alloc [] w (.cells #[.string (strL c)] 9))
  have HC := Lib.hid (cells_one (w := w) c hc)
  obtain ⟨n, hn⟩ : ∃ n, checkI nGroups (k, [c]) = n := ⟨_, rfl⟩
  have HN := Lib.hid hn
  have q1 : strL nGroups = { data := #[103, 114, 111, 117, 112, 115] } := rfl
  have HCK : Hid (∀ w', Kept [] (w.alloc (.cells #[.string (strL c)] 9)) w' → Calls Tryd.prog 53 #[.string { data := #[103, 114, 111, 117, 112, 115] }, .agg #[.string (strL k), .slice (some ⟨w.heap.size, 0, none⟩) 1 1]] w' fun e w2 => e = .returned (.int .i64 n) ∧ Kept [] w' w2) := fun w' hk' => by
    rw [← hn, ← q1]
    exact check_any nGroups k _ [c] w' (by decide) hk (HC.out.kept hk')
  have HB : Hid (decide (n = 0) = fitB k c) := by show _ = _; rw [← hn]; exact fit_eq k c
  clear hn q1
  by_cases h0 : n = 0
  · subst h0
    go_enter Tryd.func44, Tryd.ntmps44
    go_wp2_with fail
    refine (HCK.out _ (Kept.refl _ _)).mono ?_
    rintro e w2 ⟨rfl, hk2⟩
    have HK2 := Lib.hid hk2
    clear hk2
    go_wp2_with fail
    go_ret
    exact ⟨retB (by rw [← HB.out]; rfl), HK.out.trans HK2.out⟩
  · have q0 : (n == 0) = false := by simpa using h0
    have HB2 : Hid (fitB k c = false) := by show _ = _; rw [← HB.out]; exact decide_eq_false h0
    clear h0
    go_enter Tryd.func44, Tryd.ntmps44
    go_wp2_with fail
    refine (HCK.out _ (Kept.refl _ _)).mono ?_
    rintro e w2 ⟨rfl, hk2⟩
    have HK2 := Lib.hid hk2
    clear hk2
    go_wp2_with fail
    go_ret
    exact ⟨retB HB2.out.symm, HK.out.trans HK2.out⟩

theorem fit_key (s : List UInt8) : fitB s [] = keyB s := by
  unfold fitB rowB keyB
  simp [show wordB [] 64 = true by decide]
theorem fit_word (s : List UInt8) : fitB [107] s = wdB s := by
  unfold fitB rowB wdB
  simp [show wordB [107] 32 = true by decide]

theorem skey_any (s : List UInt8) (w : World) (hs : s.length ≤ 140737488355328) :
    Calls Tryd.prog 28 #[.string (strL s)] w fun e w' => e = .returned (.bool (keyB s)) ∧ Kept [] w w' := by
  have q1 : strL [] = { data := #[] } := rfl
  have HC : Hid (∀ w', Calls Tryd.prog 44 #[.string (strL s), .string { data := #[] }] w' fun e w2 => e = .returned (.bool (keyB s)) ∧ Kept [] w' w2) := fun w' => by
    rw [← fit_key, ← q1]
    exact sfits_any s [] w' hs (by simp)
  clear q1
  go_enter Tryd.func28, Tryd.ntmps28
  go_wp2_with fail
  refine (HC.out _).mono ?_
  rintro e w2 ⟨rfl, hk2⟩
  have HK2 := Lib.hid hk2
  clear hk2
  go_wp2_with fail
  go_ret
  exact ⟨rfl, HK2.out⟩
theorem sword_any (s : List UInt8) (w : World) (hs : s.length ≤ 140737488355328) :
    Calls Tryd.prog 30 #[.string (strL s)] w fun e w' => e = .returned (.bool (wdB s)) ∧ Kept [] w w' := by
  have q1 : strL [107] = { data := #[107] } := rfl
  have HC : Hid (∀ w', Calls Tryd.prog 44 #[.string { data := #[107] }, .string (strL s)] w' fun e w2 => e = .returned (.bool (wdB s)) ∧ Kept [] w' w2) := fun w' => by
    rw [← fit_word, ← q1]
    exact sfits_any [107] s w' (by simp) hs
  clear q1
  go_enter Tryd.func30, Tryd.ntmps30
  go_wp2_with fail
  refine (HC.out _).mono ?_
  rintro e w2 ⟨rfl, hk2⟩
  have HK2 := Lib.hid hk2
  clear hk2
  go_wp2_with fail
  go_ret
  exact ⟨rfl, HK2.out⟩
theorem fullWord_any (s : List UInt8) (w : World) (hs : s.length ≤ 140737488355328) :
    Calls Tryd.prog 32 #[.string (strL s)] w fun e w' => e = .returned (.bool (fwB s)) ∧ Kept [] w w' := by
  by_cases h0 : s = []
  · have q1 : (strL s).toList.isEmpty = true := by rw [strL_bytes, h0]; rfl
    have HB : Hid (fwB s = false) := by show _ = _; unfold fwB; rw [h0]; rfl
    clear h0
    go_enter Tryd.func32, Tryd.ntmps32
    go_wp2_with fail
    go_ret
    exact ⟨retB HB.out.symm, Kept.refl _ _⟩
  · have q1 : (strL s).toList.isEmpty = false := by rw [strL_bytes]; simpa using h0
    have HB : Hid (fwB s = wdB s) := by show _ = _; unfold fwB wdB; rw [decide_eq_true h0]; rfl
    clear h0
    go_enter Tryd.func32, Tryd.ntmps32
    go_wp2_with fail
    refine (sword_any s _ hs).mono ?_
    rintro e w2 ⟨rfl, hk2⟩
    have HK2 := Lib.hid hk2
    clear hk2
    go_wp2_with fail
    go_ret
    exact ⟨retB HB.out.symm, HK2.out⟩
theorem rskey_any (s : List UInt8) (w : World) (hs : s.length ≤ 9223372036854775807) :
    Calls Tryd.prog 34 #[.string (strL s)] w fun e w' => e = .returned (.bool (keyB s)) ∧ w = w' := by
  by_cases h0 : s = []
  · have q1 : (strL s).toList.isEmpty = true := by rw [strL_bytes, h0]; rfl
    have HB : Hid (keyB s = false) := by show _ = _; unfold keyB; rw [h0]; rfl
    clear h0
    go_enter Tryd.func34, Tryd.ntmps34
    go_wp2_with fail
    go_ret
    exact ⟨retB HB.out.symm, rfl⟩
  · have q1 : (strL s).toList.isEmpty = false := by rw [strL_bytes]; simpa using h0
    have HB : Hid (keyB s = wordB s 32) := by show _ = _; unfold keyB; rw [decide_eq_true h0]; rfl
    clear h0
    go_enter Tryd.func34, Tryd.ntmps34
    go_wp2_with fail
    refine (rword_any s 32 _ hs).mono ?_
    rintro e w2 ⟨rfl, rfl⟩
    go_wp2_with fail
    go_ret
    exact ⟨retB HB.out.symm, rfl⟩

set_option maxHeartbeats 1000000 in
theorem spath_any (s : List UInt8) (w : World) (hs : s.length ≤ 9223372036854775807) :
    Calls Tryd.prog 43 #[.string (strL s)] w fun e w' => e = .returned (.bool (pathB s)) ∧ Kept [] w w' := by
  have HP : Hid (Calls Tryd.prog 38 #[.string (strL s)] w (PathOut s w)) := path_any s w hs
  go_enter Tryd.func43, Tryd.ntmps43
  go_wp2_with fail
  refine HP.out.mono ?_
  rintro e w' ⟨hk, ⟨hp, rfl⟩ | ⟨ps, v, hp, rfl, _⟩⟩
  · have HB : Hid (pathB s = false ∧ Kept [] w w') := ⟨by unfold pathB; rw [hp]; rfl, hk⟩
    clear hk hp
    go_wp2_with fail
    go_ret
    exact ⟨retB HB.out.1.symm, HB.out.2⟩
  · have HB : Hid (pathB s = true ∧ Kept [] w w') := ⟨by unfold pathB; rw [hp]; rfl, hk⟩
    clear hk hp
    go_wp2_with fail
    go_ret
    exact ⟨retB HB.out.1.symm, HB.out.2⟩

/-- What is told of a path's names, by either. -/
theorem strs_head {w : World} {v : Value} {ps : List (List UInt8)} (h : StrsIs w v ps) : ∃ ao cap, v = .slice ao ps.length cap ∧ (0 < ps.length → ∃ b o, ao = some ⟨b, o, none⟩ ∧ ∀ x r, ps = x :: r → w.cell? ⟨b, o, none⟩ = some (.string (strL x))) := by
  rcases h with ⟨b, o, cap, rfl, _, hr⟩ | ⟨rfl, rfl⟩
  · refine ⟨_, _, rfl, fun _ => ⟨b, o, rfl, ?_⟩⟩
    rintro x r rfl
    have := hr 0 _ rfl
    rwa [Nat.add_zero] at this
  · exact ⟨_, _, rfl, fun h => absurd h (by simp)⟩

set_option maxRecDepth 100000 in
set_option maxHeartbeats 2000000 in
theorem fileTitle_any (s : List UInt8) (w : World) (hs : s.length ≤ 9223372036854775807) :
    Calls Tryd.prog 26 #[.string (strL s)] w fun e w' => e = .returned (.bool (titB s)) ∧ Kept [] w w' := by
  have HP : Hid (Calls Tryd.prog 38 #[.string (strL s)] w (PathOut s w)) := path_any s w hs
  go_enter Tryd.func26, Tryd.ntmps26
  go_wp2_with fail
  refine HP.out.mono ?_
  rintro e w' ⟨hk, ⟨hp, rfl⟩ | ⟨ps, v, hp, rfl, hsv⟩⟩
  · have HB : Hid (titB s = false ∧ Kept [] w w') := ⟨by unfold titB; rw [hp], hk⟩
    clear hk hp
    go_wp2_with fail
    go_ret
    exact ⟨retB HB.out.1.symm, HB.out.2⟩
  · obtain ⟨ao, cap, rfl, hh⟩ := strs_head hsv
    cases ps with
    | nil =>
      have HB : Hid (titB s = false ∧ Kept [] w w') := ⟨by unfold titB; rw [hp], hk⟩
      clear hk hp hh hsv
      simp only [List.length_nil]
      go_wp2_with fail
      go_ret
      exact ⟨retB HB.out.1.symm, HB.out.2⟩
    | cons x r =>
      obtain ⟨b, o, rfl, hc⟩ := hh (by simp)
      have c0 := hc x r rfl
      have hx : (x :: r).length ≤ 9223372036854775807 := by
        have hpo := hp
        unfold pathO at hpo
        split at hpo
        · cases hpo
        · split at hpo
          · rename_i h8
            injection hpo with hpo
            rw [← hpo]
            omega
          · cases hpo
      have HB : Hid (titB s = (decide (x ≠ nTab) && decide (x ≠ nRun)) ∧ Kept [] w w') := ⟨by unfold titB; rw [hp], hk⟩
      obtain ⟨n, hn⟩ : ∃ n, (x :: r).length = n := ⟨_, rfl⟩
      have hn0 : 0 < n := by rw [← hn]; simp
      rw [hn] at hx
      rw [hn]
      clear hk hp hh hsv hc hn
      by_cases h1 : x = nTab
      · have q1 : ((strL x).toList == [116, 97, 98]) = true := by rw [strL_bytes, h1]; rfl
        have HB2 : Hid (titB s = false) := by show _ = _; rw [HB.out.1, decide_eq_false (by simpa using h1)]; rfl
        clear h1
        go_wp2_with fail
        go_ret
        exact ⟨retB HB2.out.symm, HB.out.2⟩
      · have q1 : ((strL x).toList == [116, 97, 98]) = false := by rw [strL_bytes]; simpa [nTab] using h1
        by_cases h2 : x = nRun
        · have q2 : ((strL x).toList == [114, 117, 110]) = true := by rw [strL_bytes, h2]; rfl
          have HB2 : Hid (titB s = false) := by show _ = _; rw [HB.out.1, decide_eq_false (p := x ≠ nRun) (by simpa using h2)]; simp
          clear h1 h2
          go_wp2_with fail
          go_ret
          exact ⟨retB HB2.out.symm, HB.out.2⟩
        · have q2 : ((strL x).toList == [114, 117, 110]) = false := by rw [strL_bytes]; simpa [nRun] using h2
          have HB2 : Hid (titB s = true) := by show _ = _; rw [HB.out.1, decide_eq_true h1, decide_eq_true h2]; rfl
          clear h1 h2
          go_wp2_with fail
          go_ret
          exact ⟨retB HB2.out.symm, HB.out.2⟩
end Go.Proofs.YthpfnkanilfohaaDoor

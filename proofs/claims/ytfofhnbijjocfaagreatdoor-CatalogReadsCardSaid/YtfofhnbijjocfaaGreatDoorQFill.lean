/-
  Layer 6: the program's kinds: a map of types.
  Conditions: those that each theorem states.
  Layer 6: the program's fill: a value for each slot.
  Conditions: those that each theorem states.
-/
import Derived.Test.YtfofhnbijjocfaaGreatDoorQKinds
namespace Go.Proofs.YtfofhnbijjocfaaGreatDoor
open Go.RowKit Go.Maps
set_option maxRecDepth 100000

/-- What an entry of the map of kinds is. -/
def KindIs (w : World) (x : Value) (k : Nat) : Prop := ∃ f0 f2, x = .agg #[f0, .string (strL (dfltK k)), f2] ∧ FnIs w f0 (titleK k) ∧ StFnIs w f2 (slotsK k)
theorem KindIs.kept {w w' : World} {x : Value} {k : Nat} (h : KindIs w x k) (hk : Kept [] w w') : KindIs w' x k := by
  obtain ⟨f0, f2, h1, h2, h3⟩ := h
  exact ⟨f0, f2, h1, h2.kept hk, h3.kept hk⟩
/-- What kinds answers. -/
def KindsOut (w : World) (e : Ending) (w' : World) : Prop :=
  ∃ m f, e = .returned (.map (some m)) ∧ Hid (KdMap w' m 5 f ∧ (∀ s, (kindI s = 0 → f s = none) ∧ (kindI s ≠ 0 → ∃ x, f s = some x ∧ ∀ ex w2, (∀ k ∈ ex, k < w.heap.size) → Kept ex w' w2 → KindIs w2 x (kindI s))) ∧ Kept [] w w')

/-- The closure that record makes, as it lies. -/
def RecRaw (w : World) (g b : Nat) (L : List (Prm × Value)) : Prop := w.heap[g]? = some (.cells #[.slice (some ⟨b, 0, none⟩) L.length L.length] 101) ∧ w.heap[b]? = some (.cells (slv L).toArray 108)
theorem RecRaw.kept {w w' : World} {g b : Nat} {L : List (Prm × Value)} {ex : List Nat} (h : RecRaw w g b L) (hk : Kept ex w w') (hg : g ∉ ex) (hb : b ∉ ex) : RecRaw w' g b L := ⟨hk.heap hg h.1, hk.heap hb h.2⟩
theorem RecRaw.fn {w : World} {g b : Nat} {L : List (Prm × Value)} {l : List Prm} (h : RecRaw w g b L) (hl : L.map (·.1) = l) (h0 : 0 < L.length) (h1 : L.length ≤ 1000) (hf : ∀ x ∈ L, x.1.1 ≠ nEnsure ∧ FnIs w x.2 (valB x.1.1)) (hs : ∀ s ∈ l, s.1.length ≤ 140737488355328 ∧ s.2.length ≤ 140737488355328) :
    StFnIs w (.func (.func 82) #[] #[.pointer (some ⟨g, 0, none⟩)]) (fun s => recK s l) :=
  st_rec h.1 ⟨L, hl, rfl, h0, h1, ⟨b, 0, rfl, (Array.getElem?_eq_some_iff.1 h.2).1, fun j u hu => by
    rw [Nat.zero_add, cell_of_row w b j _ _ _ h.2]
    simpa using hu⟩, hf, hs, by omega⟩
def LAccount : List (Prm × Value) := [((nGroup, vUsers), .func (.func 68) #[] #[]), ((nShell, vSh), .func (.func 70) #[] #[]), ((nUid, v1000), .func (.func 71) #[] #[])]
def LGroup : List (Prm × Value) := [((nGid, v1000), .func (.func 71) #[] #[])]
def LPackage : List (Prm × Value) := [((nVersion, vLatest), .func (.func 72) #[] #[])]
theorem rec_account {w : World} {g b : Nat} (h : RecRaw w g b LAccount) : StFnIs w (.func (.func 82) #[] #[.pointer (some ⟨g, 0, none⟩)]) (slotsK 2) := by
  have := h.fn (l := lAccount) rfl (by decide) (by decide) (fun x hx => by
    simp only [LAccount, List.mem_cons, List.not_mem_nil, or_false] at hx
    rcases hx with rfl | rfl | rfl
    · exact ⟨by decide, by rw [valB_group]; exact fn_key _⟩
    · exact ⟨by decide, by rw [valB_shell]; exact fn_word _⟩
    · exact ⟨by decide, by rw [valB_uid]; exact fn_id _⟩) (by decide)
  exact this
theorem rec_group {w : World} {g b : Nat} (h : RecRaw w g b LGroup) : StFnIs w (.func (.func 82) #[] #[.pointer (some ⟨g, 0, none⟩)]) (slotsK 3) := by
  have := h.fn (l := lGroup) rfl (by decide) (by decide) (fun x hx => by
    simp only [LGroup, List.mem_cons, List.not_mem_nil, or_false] at hx
    subst hx
    exact ⟨by decide, by rw [valB_gid]; exact fn_id _⟩) (by decide)
  exact this
theorem rec_package {w : World} {g b : Nat} (h : RecRaw w g b LPackage) : StFnIs w (.func (.func 82) #[] #[.pointer (some ⟨g, 0, none⟩)]) (slotsK 4) := by
  have := h.fn (l := lPackage) rfl (by decide) (by decide) (fun x hx => by
    simp only [LPackage, List.mem_cons, List.not_mem_nil, or_false] at hx
    subst hx
    exact ⟨by decide, by rw [valB_version]; exact fn_fw _⟩) (by decide)
  exact this
theorem kind_rec {w : World} {k : Nat} {f : Value} (hk : k = 2 ∨ k = 3 ∨ k = 4) (h : StFnIs w f (slotsK k)) : KindIs w (.agg #[.func (.func 68) #[] #[], .string (strL nPresent), f]) k := by
  have e1 : titleK k = keyB := by funext s; unfold titleK; rw [if_neg (by omega)]
  have e2 : dfltK k = nPresent := by unfold dfltK; rw [if_neg (by omega), if_neg (by omega), if_neg (by omega)]
  refine ⟨_, _, by rw [e2], ?_, h⟩
  rw [e1]
  exact fn_key w

/-- What is known while the map is made. -/
structure KdSt (w : World) (m n : Nat) (f : List UInt8 → Option Value) (wr : World) : Prop where
  map : KdMap wr m n f
  kept : Kept [] w wr
  own : w.heap.size ≤ m
theorem KdSt.go {w wr w' : World} {m n : Nat} {f : List UInt8 → Option Value} (h : KdSt w m n f wr) (hk : Kept [] wr w') : KdSt w m n f w' := ⟨h.map.kept hk (by simp), h.kept.trans hk, h.own⟩
theorem KdSt.upd {w wr : World} {m n : Nat} {f : List UInt8 → Option Value} (h : KdSt w m n f wr) (hn : n < 1000) (s : List UInt8) (hs : s.length ≤ 1000) (x : Value) :
    ∃ w', (Instr.mapUpdate 97 (.map (some m)) (.string (strL s)) x).run Tryz.prog wr = .ok () w' ∧ KdSt w m (n + 1) (fun t => if t = s then some x else f t) w' ∧ Kept [m] wr w' := by
  obtain ⟨w', h1, h2, h3⟩ := h.map.upd hn s hs x
  exact ⟨w', h1, ⟨h2, h.kept.into h3 (by simp; exact h.own), h.own⟩, h3⟩

set_option maxRecDepth 100000 in
set_option maxHeartbeats 4000000 in
theorem kinds_any (w : World) : Calls Tryz.prog 59 #[] w (KindsOut w) := by
  have s0 : KdSt w w.heap.size 0 (fun _ => none) (w.alloc (.map #[] 0)) := ⟨KdMap.made w, Kept.alloc _ _ _, Nat.le_refl _⟩
  have r0 : (Instr.makeMap 97 none).run Tryz.prog w = .ok (.map (some w.heap.size)) (w.alloc (.map #[] 0)) := by kernel_rfl
  obtain ⟨m, hm⟩ : ∃ m, w.heap.size = m := ⟨_, rfl⟩
  rw [hm] at r0 s0
  obtain ⟨w1, r1, s1, _⟩ := s0.upd (by omega) nFile (by decide) (.agg #[.func (.func 66) #[] #[], .string (strL nFile), .func (.func 67) #[] #[]])
  have q1 : strL nFile = { data := #[102, 105, 108, 101] } := rfl
  rw [q1] at r1
  obtain ⟨w2, hw2⟩ : ∃ w2, w1.alloc (.cells #[.string ⟨#[103, 114, 111, 117, 112]⟩, .string ⟨#[117, 115, 101, 114, 115]⟩, .func (.func 68) #[] #[], .string ⟨#[115, 104, 101, 108, 108]⟩, .string ⟨#[47, 98, 105, 110, 47, 115, 104]⟩, .func (.func 70) #[] #[], .string ⟨#[117, 105, 100]⟩, .string ⟨#[49, 48, 48, 48]⟩, .func (.func 71) #[] #[]] 108) = w2 := ⟨_, rfl⟩
  have S2 : Hid (KdSt w m 1 (fun t => if t = nFile then some (.agg #[.func (.func 66) #[] #[], .string (strL nFile), .func (.func 67) #[] #[]]) else none) w2 ∧ w2.heap[w1.heap.size]? = some (.cells (slv LAccount).toArray 108) ∧ m < w1.heap.size) :=
    ⟨by rw [← hw2]; exact s1.go (Kept.alloc _ _ _), by rw [← hw2]; exact heap_alloc_last _ _, s1.map.lt⟩
  have HM := Lib.hid hm
  clear s0 s1 q1 hm
  go_enter Tryz.func59, Tryz.ntmps59
  go_wp2_with fail
  refine (record_any _ 3 3 _).mono ?_
  rintro e w3 ⟨rfl, H3⟩
  have S3 : Hid (KdSt w m 1 (fun t => if t = nFile then some (.agg #[.func (.func 66) #[] #[], .string (strL nFile), .func (.func 67) #[] #[]]) else none) w3 ∧ RecRaw w3 w2.heap.size w1.heap.size LAccount ∧ m < w1.heap.size ∧ m < w2.heap.size) :=
    ⟨S2.out.1.go H3.out.2, ⟨H3.out.1, H3.out.2.heap (by simp) S2.out.2.1⟩, S2.out.2.2, S2.out.1.map.lt⟩
  obtain ⟨w4, r4, s4, k4⟩ := S3.out.1.upd (by omega) nAccount (by decide) (.agg #[.func (.func 68) #[] #[], .string (strL nPresent), .func (.func 82) #[] #[.pointer (some ⟨w2.heap.size, 0, none⟩)]])
  have q1 : strL nAccount = { data := #[97, 99, 99, 111, 117, 110, 116] } := rfl
  have q2 : strL nPresent = { data := #[112, 114, 101, 115, 101, 110, 116] } := rfl
  rw [q1, q2] at r4
  obtain ⟨f4, hf4⟩ : ∃ f4 : List UInt8 → Option Value, (fun t => if t = nAccount then some (.agg #[.func (.func 68) #[] #[], .string (strL nPresent), .func (.func 82) #[] #[.pointer (some ⟨w2.heap.size, 0, none⟩)]]) else if t = nFile then some (.agg #[.func (.func 66) #[] #[], .string (strL nFile), .func (.func 67) #[] #[]]) else none) = f4 := ⟨_, rfl⟩
  rw [hf4] at s4
  have F4 := Lib.hid hf4
  obtain ⟨w5, hw5⟩ : ∃ w5, w4.alloc (.cells #[.string ⟨#[103, 105, 100]⟩, .string ⟨#[49, 48, 48, 48]⟩, .func (.func 71) #[] #[]] 108) = w5 := ⟨_, rfl⟩
  have kk5 : Kept [] w4 w5 := by rw [← hw5]; exact Kept.alloc _ _ _
  have S5 : Hid (KdSt w m 2 f4 w5 ∧ w5.heap[w4.heap.size]? = some (.cells (slv LGroup).toArray 108) ∧ m < w4.heap.size ∧ RecRaw w5 w2.heap.size w1.heap.size LAccount) :=
    ⟨s4.go kk5, by rw [← hw5]; exact heap_alloc_last _ _, s4.map.lt, (S3.out.2.1.kept k4 (by have := S3.out.2.2; simp; omega) (by have := S3.out.2.2; simp; omega)).kept kk5 (by simp) (by simp)⟩
  clear s4 k4 kk5 q1 q2 hf4 r1 hw2 r0
  go_wp2_with fail
  refine (record_any _ 1 1 _).mono ?_
  rintro e w6 ⟨rfl, H6⟩
  have S6 : Hid (KdSt w m 2 f4 w6 ∧ RecRaw w6 w5.heap.size w4.heap.size LGroup ∧ RecRaw w6 w2.heap.size w1.heap.size LAccount ∧ m < w4.heap.size ∧ m < w5.heap.size) :=
    ⟨S5.out.1.go H6.out.2, ⟨H6.out.1, H6.out.2.heap (by simp) S5.out.2.1⟩, S5.out.2.2.2.kept H6.out.2 (by simp) (by simp), S5.out.2.2.1, S5.out.1.map.lt⟩
  obtain ⟨w7, r7, s7, k7⟩ := S6.out.1.upd (by omega) nGroup (by decide) (.agg #[.func (.func 68) #[] #[], .string (strL nPresent), .func (.func 82) #[] #[.pointer (some ⟨w5.heap.size, 0, none⟩)]])
  have q1 : strL nGroup = { data := #[103, 114, 111, 117, 112] } := rfl
  have q2 : strL nPresent = { data := #[112, 114, 101, 115, 101, 110, 116] } := rfl
  rw [q1, q2] at r7
  obtain ⟨f7, hf7⟩ : ∃ f7 : List UInt8 → Option Value, (fun t => if t = nGroup then some (.agg #[.func (.func 68) #[] #[], .string (strL nPresent), .func (.func 82) #[] #[.pointer (some ⟨w5.heap.size, 0, none⟩)]]) else f4 t) = f7 := ⟨_, rfl⟩
  rw [hf7] at s7
  have F7 := Lib.hid hf7
  obtain ⟨w8, hw8⟩ : ∃ w8, w7.alloc (.cells #[.string ⟨#[118, 101, 114, 115, 105, 111, 110]⟩, .string ⟨#[108, 97, 116, 101, 115, 116]⟩, .func (.func 72) #[] #[]] 108) = w8 := ⟨_, rfl⟩
  have kk8 : Kept [] w7 w8 := by rw [← hw8]; exact Kept.alloc _ _ _
  have S8 : Hid (KdSt w m 3 f7 w8 ∧ w8.heap[w7.heap.size]? = some (.cells (slv LPackage).toArray 108) ∧ m < w7.heap.size ∧ RecRaw w8 w2.heap.size w1.heap.size LAccount ∧ RecRaw w8 w5.heap.size w4.heap.size LGroup) :=
    ⟨s7.go kk8, by rw [← hw8]; exact heap_alloc_last _ _, s7.map.lt, (S6.out.2.2.1.kept k7 (by have := S3.out.2.2; simp; omega) (by have := S3.out.2.2; simp; omega)).kept kk8 (by simp) (by simp), (S6.out.2.1.kept k7 (by have := S6.out.2.2.2; simp; omega) (by have := S6.out.2.2.2; simp; omega)).kept kk8 (by simp) (by simp)⟩
  clear s7 k7 kk8 q1 q2 hf7 r4 hw5
  go_wp2_with fail
  refine (record_any _ 1 1 _).mono ?_
  rintro e w9 ⟨rfl, H9⟩
  have S9 : Hid (KdSt w m 3 f7 w9 ∧ RecRaw w9 w8.heap.size w7.heap.size LPackage ∧ RecRaw w9 w2.heap.size w1.heap.size LAccount ∧ RecRaw w9 w5.heap.size w4.heap.size LGroup ∧ m < w7.heap.size ∧ m < w8.heap.size) :=
    ⟨S8.out.1.go H9.out.2, ⟨H9.out.1, H9.out.2.heap (by simp) S8.out.2.1⟩, S8.out.2.2.2.1.kept H9.out.2 (by simp) (by simp), S8.out.2.2.2.2.kept H9.out.2 (by simp) (by simp), S8.out.2.2.1, S8.out.1.map.lt⟩
  obtain ⟨wa, ra, sa, ka⟩ := S9.out.1.upd (by omega) nPackage (by decide) (.agg #[.func (.func 68) #[] #[], .string (strL nPresent), .func (.func 82) #[] #[.pointer (some ⟨w8.heap.size, 0, none⟩)]])
  have q1 : strL nPackage = { data := #[112, 97, 99, 107, 97, 103, 101] } := rfl
  have q2 : strL nPresent = { data := #[112, 114, 101, 115, 101, 110, 116] } := rfl
  rw [q1, q2] at ra
  obtain ⟨fa, hfa⟩ : ∃ fa : List UInt8 → Option Value, (fun t => if t = nPackage then some (.agg #[.func (.func 68) #[] #[], .string (strL nPresent), .func (.func 82) #[] #[.pointer (some ⟨w8.heap.size, 0, none⟩)]]) else f7 t) = fa := ⟨_, rfl⟩
  rw [hfa] at sa
  have FA := Lib.hid hfa
  obtain ⟨wb, rb, sb, kb⟩ := sa.upd (by omega) nService (by decide) (.agg #[.func (.func 68) #[] #[], .string (strL nRunning), .func (.func 73) #[] #[]])
  have q3 : strL nService = { data := #[115, 101, 114, 118, 105, 99, 101] } := rfl
  have q4 : strL nRunning = { data := #[114, 117, 110, 110, 105, 110, 103] } := rfl
  rw [q3, q4] at rb
  obtain ⟨fb, hfb⟩ : ∃ fb : List UInt8 → Option Value, (fun t => if t = nService then some (.agg #[.func (.func 68) #[] #[], .string (strL nRunning), .func (.func 73) #[] #[]]) else fa t) = fb := ⟨_, rfl⟩
  rw [hfb] at sb
  have FB := Lib.hid hfb
  have h1 := S3.out.2.2
  have h2 := S6.out.2.2.2
  have h3 := S9.out.2.2.2.2
  have RB : Hid (KdSt w m 5 fb wb ∧ RecRaw wb w2.heap.size w1.heap.size LAccount ∧ RecRaw wb w5.heap.size w4.heap.size LGroup ∧ RecRaw wb w8.heap.size w7.heap.size LPackage) :=
    ⟨sb, (S9.out.2.2.1.kept ka (by simp; omega) (by simp; omega)).kept kb (by simp; omega) (by simp; omega), (S9.out.2.2.2.1.kept ka (by simp; omega) (by simp; omega)).kept kb (by simp; omega) (by simp; omega), (S9.out.2.1.kept ka (by simp; omega) (by simp; omega)).kept kb (by simp; omega) (by simp; omega)⟩
  clear sa ka sb kb q1 q2 q3 q4 hfa hfb r7 hw8 h1 h2 h3
  go_wp2_with fail
  go_ret
  refine ⟨m, fb, rfl, RB.out.1.map, fun s => ?_, RB.out.1.kept⟩
  obtain ⟨R0, R1, R2, R3⟩ := RB.out
  have hmm := HM.out
  have g1 := S3.out.2.2
  have g2 := S6.out.2.2.2
  have g3 := S9.out.2.2.2.2
  have fr : ∀ {ex : List Nat} {w2' : World} {g b : Nat} {L : List (Prm × Value)}, (∀ k ∈ ex, k < w.heap.size) → Kept ex wb w2' → RecRaw wb g b L → m < g → m < b → RecRaw w2' g b L := fun hx hk h k1 k2 =>
    h.kept hk (fun hm' => by have := hx _ hm'; omega) (fun hm' => by have := hx _ hm'; omega)
  rw [← FB.out, ← FA.out, ← F7.out, ← F4.out]
  simp only []
  unfold kindI
  by_cases e1 : s = nFile
  · subst e1
    rw [if_pos rfl]
    refine ⟨fun h => absurd h (by decide), fun _ => ⟨.agg #[.func (.func 66) #[] #[], .string (strL nFile), .func (.func 67) #[] #[]], by rw [if_neg (by decide), if_neg (by decide), if_neg (by decide), if_neg (by decide), if_pos rfl], fun ex w2' hx hk => ⟨_, _, rfl, fn_title w2', st_file w2'⟩⟩⟩
  by_cases e2 : s = nAccount
  · subst e2
    rw [if_neg (by decide), if_pos rfl]
    exact ⟨fun h => absurd h (by decide), fun _ => ⟨_, by rw [if_neg (by decide), if_neg (by decide), if_neg (by decide), if_pos rfl], fun ex w2' hx hk => kind_rec (.inl rfl) (rec_account (fr hx hk R1 g1.2 g1.1))⟩⟩
  by_cases e3 : s = nGroup
  · subst e3
    rw [if_neg (by decide), if_neg (by decide), if_pos rfl]
    exact ⟨fun h => absurd h (by decide), fun _ => ⟨_, by rw [if_neg (by decide), if_neg (by decide), if_pos rfl], fun ex w2' hx hk => kind_rec (.inr (.inl rfl)) (rec_group (fr hx hk R2 g2.2 g2.1))⟩⟩
  by_cases e4 : s = nPackage
  · subst e4
    rw [if_neg (by decide), if_neg (by decide), if_neg (by decide), if_pos rfl]
    exact ⟨fun h => absurd h (by decide), fun _ => ⟨_, by rw [if_neg (by decide), if_pos rfl], fun ex w2' hx hk => kind_rec (.inr (.inr rfl)) (rec_package (fr hx hk R3 g3.2 g3.1))⟩⟩
  by_cases e5 : s = nService
  · subst e5
    rw [if_neg (by decide), if_neg (by decide), if_neg (by decide), if_neg (by decide), if_pos rfl]
    exact ⟨fun h => absurd h (by decide), fun _ => ⟨.agg #[.func (.func 68) #[] #[], .string (strL nRunning), .func (.func 73) #[] #[]], by rw [if_pos rfl], fun ex w2' hx hk => ⟨_, _, rfl, fn_key w2', st_serv w2'⟩⟩⟩
  rw [if_neg e1, if_neg e2, if_neg e3, if_neg e4, if_neg e5]
  exact ⟨fun _ => by rw [if_neg e5, if_neg e4, if_neg e3, if_neg e2, if_neg e1], fun h => absurd rfl h⟩
end Go.Proofs.YtfofhnbijjocfaaGreatDoor

namespace Go.Proofs.YtfofhnbijjocfaaGreatDoor
open Go.RowKit Go.Maps
set_option maxRecDepth 100000

/-- The state of fill's loop. -/
structure FiSt (w : World) (T : List UInt8 → List UInt8 → Bool) (S P : List Prm) (k : Nat) (g out : List Prm) (gv ov : Value) (wr : World) : Prop where
  ans : fillA T S P [] = fillA T (S.drop k) g out
  ps : PsIs w gv g
  own : OwnP w.heap.size wr ov out
  few : out.length ≤ k
  kept : Kept [] w wr
/-- What fill answers. -/
def FillOut (T : List UInt8 → List UInt8 → Bool) (S P : List Prm) (w : World) (e : Ending) (w' : World) : Prop :=
  ∃ v b, e = .returned (.tuple #[v, .bool b]) ∧ Hid ((b = (fillA T S P []).isSome) ∧ OwnP w.heap.size w' v ((fillA T S P []).getD []) ∧ Kept [] w w')
theorem FillOut.no {T : List UInt8 → List UInt8 → Bool} {S P : List Prm} {w w' : World} (h : fillA T S P [] = none) (hk : Kept [] w w') : FillOut T S P w (.returned (.tuple #[.slice none 0 0, .bool false])) w' :=
  ⟨_, _, rfl, by rw [h]; rfl, by rw [h]; exact OwnP.nil _ _, hk⟩
theorem fillA_yes {T : List UInt8 → List UInt8 → Bool} {s : Prm} {S g out : List Prm} {p : Prm} (h : p.1 = s.1) (ht : T s.1 p.2 = true) : fillA T (s :: S) (p :: g) out = fillA T S g (out ++ [(s.1, p.2)]) := by
  rw [fillA, if_pos h, if_pos ht]
theorem fillA_yes_no {T : List UInt8 → List UInt8 → Bool} {s : Prm} {S g out : List Prm} {p : Prm} (h : p.1 = s.1) (ht : T s.1 p.2 = false) : fillA T (s :: S) (p :: g) out = none := by
  rw [fillA, if_pos h, if_neg (by rw [ht]; simp)]
theorem fillA_dflt {T : List UInt8 → List UInt8 → Bool} {s : Prm} {S g out : List Prm} (h : ∀ p r, g = p :: r → p.1 ≠ s.1) (ht : T s.1 s.2 = true) : fillA T (s :: S) g out = fillA T S g (out ++ [(s.1, s.2)]) := by
  cases g with
  | nil => rw [fillA, if_pos ht]
  | cons p g => rw [fillA, if_neg (h p g rfl), if_pos ht]
theorem fillA_dflt_no {T : List UInt8 → List UInt8 → Bool} {s : Prm} {S g out : List Prm} (h : ∀ p r, g = p :: r → p.1 ≠ s.1) (ht : T s.1 s.2 = false) : fillA T (s :: S) g out = none := by
  cases g with
  | nil => rw [fillA, if_neg (by rw [ht]; simp)]
  | cons p g => rw [fillA, if_neg (h p g rfl), if_neg (by rw [ht]; simp)]
theorem prm_val (v : Value) (base : Nat) (w : World) (l : List Prm) (h : OwnP base w v l) : ∃ u m c, v = .slice u m c := by
  obtain ⟨ao, cap, rfl, _⟩ := h.ps.open
  exact ⟨_, _, _, rfl⟩

set_option maxRecDepth 100000 in
set_option maxHeartbeats 4000000 in
theorem sfill_any (T : List UInt8 → List UInt8 → Bool) (S P : List Prm) (sv gv : Value) (w : World) (hS : SlotsIs w sv T S) (hP : PsIs w gv P) (hn : S.length ≤ 100) :
    Calls Tryz.prog 61 #[sv, gv] w (FillOut T S P w) := by
  obtain ⟨L, hL, hrow, hfn, hle⟩ := hS
  obtain ⟨ao, cap, rfl, hc⟩ := hrow.cell
  have HC := Lib.hid hc
  have HL := Lib.hid hL
  have HFN := Lib.hid hfn
  have HLE := Lib.hid hle
  obtain ⟨m, hm⟩ : ∃ m, L.length = m := ⟨_, rfl⟩
  have HM := Lib.hid hm
  have hm100 : m ≤ 100 := by rw [← hm, ← List.length_map (f := (·.1)), hL]; exact hn
  rw [hm]
  have HP := Lib.hid hP
  obtain ⟨pao, pcap, rfl, _⟩ := hP.open
  clear hc hL hfn hle hm hrow hP hn
  go_enter Tryz.func61, Tryz.ntmps61
  go_wp2_with fail
  go_loopw [1, 6, 12] (fun gv ov i wr => ∃ (k : Nat) (g out : List Prm), k ≤ m ∧ i = .int .i64 k ∧ Hid (FiSt w T S P k g out gv ov wr)) (fun _ _ i _ => m - (intOf i).toNat)
  case atStart => exact ⟨0, P, [], by omega, rfl, ⟨by rw [List.drop_zero], HP.out, OwnP.nil _ _, by simp, Kept.refl _ _⟩⟩
  case round =>
    obtain ⟨k, g, out, hk, rfl, HS⟩ := hrel
    by_cases hlt : k < m
    · have hkl : k < L.length := by rw [HM.out]; exact hlt
      obtain ⟨b, o, rfl, hb, hcc⟩ := HC.out (by omega)
      obtain ⟨a0, a1, a2⟩ := hcc k hkl
      have c0 := (HS.out.kept.cell (p := ⟨b, o + k * 3, none⟩) hb (by simp)).trans a0
      have c1 := (HS.out.kept.cell (p := ⟨b, o + k * 3 + 1, none⟩) hb (by simp)).trans a1
      have c2 := (HS.out.kept.cell (p := ⟨b, o + k * 3 + 2, none⟩) hb (by simp)).trans a2
      have hfk := (HFN.out _ (List.getElem_mem hkl)).kept HS.out.kept
      obtain ⟨s, hs⟩ : ∃ s, L[k].1 = s := ⟨_, rfl⟩
      have hsS : s ∈ S := by rw [← hs, ← HL.out]; exact List.mem_map_of_mem (List.getElem_mem hkl)
      have HD : Hid (S.drop k = s :: S.drop (k + 1)) := by
        show _ = _
        have hkS : k < S.length := by rw [← HL.out, List.length_map]; exact hkl
        rw [List.drop_eq_getElem_cons hkS]
        congr 1
        rw [← hs]
        simp [← HL.out]
      have HSL : Hid (s.1.length ≤ 140737488355328 ∧ s.2.length ≤ 140737488355328) := HLE.out s hsS
      obtain ⟨f, hf⟩ : ∃ f, L[k].2 = f := ⟨_, rfl⟩
      rw [hs] at c0 c1 hfk
      rw [hf] at c2 hfk
      obtain ⟨fi, fc, rfl, hE, hcall⟩ := hfk
      have HCALL := Lib.hid hcall
      have hsv : ∃ x1 x2 x3, u6 = .slice x1 x2 x3 := prm_val _ _ _ _ HS.out.own
      obtain ⟨ou, om, oc, rfl⟩ := hsv
      obtain ⟨wa, hwa⟩ : ∃ wa, wr.alloc (.cells #[.string (strL s.1), .string (strL s.2), .func (.func fi) #[] fc] 108) = wa := ⟨_, rfl⟩
      have HA : Hid (Kept [] wr wa) := by rw [← hwa]; exact Kept.alloc _ _ _
      have HAG : Hid (wa.heap[wr.heap.size]? = some (.cells #[.string (strL s.1), .string (strL s.2), .func (.func fi) #[] fc] 108)) := by show _ = _; rw [← hwa]; exact heap_alloc_last _ _
      have HSA : Hid (OwnP w.heap.size wa (.slice ou om oc) out ∧ Kept [] w wa) := ⟨HS.out.own.kept HA.out, HS.out.kept.trans HA.out⟩
      have z0 : wa.cell? ⟨wr.heap.size, 0, none⟩ = some (.string (strL s.1)) := cell_of_row _ _ 0 _ _ _ HAG.out
      have z1 : wa.cell? ⟨wr.heap.size, 1, none⟩ = some (.string (strL s.2)) := cell_of_row _ _ 1 _ _ _ HAG.out
      have z2 : wa.cell? ⟨wr.heap.size, 2, none⟩ = some (.func (.func fi) #[] fc) := cell_of_row _ _ 2 _ _ _ HAG.out
      have hst : ∀ (w3 : World) (a : Addr) (fn : Fn) (cap : Array Value), (store a (.func fn #[] cap)).run Tryz.prog w3 = match w3.cell? a with
          | some _ => if w3.frozen? a then .halt (.unsupported (.unsafePointer "a write to bytes that a string shares")) w3 else .ok () (w3.setCell a (.func fn #[] cap))
          | none => match w3.farStore Tryz.prog a (.func fn #[] cap) false with
            | .ok (w', _) => .ok () w'
            | .error h => .halt h w3 := fun w3 a fn cap => run_store _ w3 a _ _ rfl
      have hE2 : ∀ (args : Array Value) (w : World), (callFunc fi args).run Tryz.prog w = .ok (.enter fi args) w := hE
      clear hcc a0 a1 a2 hcall hs hf hsS
      cases g with
      | nil =>
        obtain ⟨gao, gcap, rfl, _⟩ := HS.out.ps.open
        simp only [List.length_nil] at HS
        have HNE : Hid (∀ (p : Prm) (r : List Prm), ([] : List Prm) = p :: r → p.1 ≠ s.1) := fun p r h => by cases h
        have q6 : decide ((0 : Int) < ((0 : Nat) : Int)) = false := by decide
        simp only [List.length_nil]
        go_wp2_with fail
        go_quiet (fail)
        generalize hwq : World.drewN wa _ = wq
        have HQ : Hid (Kept [] wa wq) := by rw [← hwq]; exact Kept.drewN _ _ _
        have y0 : wq.cell? ⟨wr.heap.size, 0, none⟩ = some (.string (strL s.1)) := by rw [← hwq]; exact z0
        have y2 : wq.cell? ⟨wr.heap.size, 2, none⟩ = some (.func (.func fi) #[] fc) := by rw [← hwq]; exact z2
        have y1 : wq.cell? ⟨wr.heap.size, 1, none⟩ = some (.string (strL s.2)) := by rw [← hwq]; exact z1
        clear hwq z0 z1 z2
        go_wp2_with fail
        refine (HCALL.out wq (HA.out.trans HQ.out) s.2 HSL.out.2).mono ?_
        cases ht : T s.1 s.2
        · have HT := Lib.hid ht
          clear ht
          rintro e w3 ⟨rfl, hk3⟩
          have HK3 : Hid (Kept [] w w3) := (HSA.out.2.trans HQ.out).trans hk3
          clear hk3
          go_wp2_with fail
          go_ret2
          exact FillOut.no (by rw [HS.out.ans, HD.out]; exact fillA_dflt_no HNE.out HT.out) HK3.out
        · have HT := Lib.hid ht
          clear ht
          rintro e w3 ⟨rfl, hk3⟩
          have x0 : w3.cell? ⟨wr.heap.size, 0, none⟩ = some (.string (strL s.1)) := by
            rw [hk3.cell (p := ⟨wr.heap.size, 0, none⟩) (World.block_lt_of_cell? wq _ y0) (by simp)]; exact y0
          have HK3 : Hid (Kept [] wa w3) := HQ.out.trans hk3
          obtain ⟨v4, w4, hrun, hown, hap, _⟩ := (HSA.out.1.kept HK3.out).app (by have := HSA.out.2.size; have := HK3.out.size; omega) (s.1, s.2) (by have := HS.out.few; omega) ⟨HSL.out.1, HSL.out.2⟩
          have HRUN := Lib.hid hrun
          have HN : Hid (FiSt w T S P (k + 1) [] (out ++ [(s.1, s.2)]) (.slice gao 0 gcap) v4 w4) :=
            ⟨by rw [HS.out.ans, HD.out]; exact fillA_dflt HNE.out HT.out, HS.out.ps, hown, by have := HS.out.few; simp; omega, OwnP.into (HSA.out.2.trans HK3.out) hap (HSA.out.1.kept HK3.out) (Nat.le_refl _)⟩
          clear hrun hown hap hk3 y0 y1 y2
          go_wp2_with (at_builtin; refine wpList_append_run rfl _ _ 38 rfl _ _ _ rfl rfl HRUN.out ?_)
          go_roundw
          case rel => exact ⟨k + 1, _, _, by omega, by go_num, HN⟩
          case measure => simp [intOf]; omega
      | cons p r =>
        obtain ⟨gao, gcap, rfl, g1, g2, g3, g4⟩ := HS.out.ps.open
        obtain ⟨pb, po, rfl, hpb, hpc⟩ := g4 (by simp)
        obtain ⟨p0, p1⟩ := hpc 0 (by simp)
        simp only [List.getElem_cons_zero, Nat.zero_mul, Nat.add_zero] at p0 p1
        have p0' := ((HSA.out.2.trans (Kept.refl _ _)).cell (p := ⟨pb, po, none⟩) hpb (by simp)).trans p0
        have p1' := ((HSA.out.2.trans (Kept.refl _ _)).cell (p := ⟨pb, po + 1, none⟩) hpb (by simp)).trans p1
        have HPL : Hid (p.1.length ≤ 140737488355328 ∧ p.2.length ≤ 140737488355328) := HS.out.ps.each p (by simp)
        obtain ⟨n, hn⟩ : ∃ n, r.length = n := ⟨_, rfl⟩
        simp only [List.length_cons] at g1 HS ⊢
        rw [hn] at g1 HS ⊢
        have HNN := Lib.hid hn
        have hn63 : n + 1 ≤ 9223372036854775807 := by omega
        clear hn hpc p0 p1 g3 g4
        by_cases hps : p.1 = s.1
        · have q1 : ((strL p.1).toList == (strL s.1).toList) = true := by rw [str_beqP, decide_eq_true hps]
          have HE := Lib.hid hps
          obtain ⟨tb, to, he, htl⟩ := HS.out.ps.tail HNN.out
          injection he with he
          injection he with he1 he2 he3
          subst he1 he2
          have HTL := Lib.hid htl
          clear hps htl he3
          by_cases hcap : gcap = 1
          · subst hcap
            have HTL1 : Hid (PsIs w (.slice (some ⟨pb, po, none⟩) n (1 - 1)) r) := HTL.out
            have hn0 : n = 0 := by omega
            subst hn0
            go_wp2_with fail
            go_quiet (fail)
            generalize hwq : World.drewN wa _ = wq
            have HQ : Hid (Kept [] wa wq) := by rw [← hwq]; exact Kept.drewN _ _ _
            have y0 : wq.cell? ⟨wr.heap.size, 0, none⟩ = some (.string (strL s.1)) := by rw [← hwq]; exact z0
            have y2 : wq.cell? ⟨wr.heap.size, 2, none⟩ = some (.func (.func fi) #[] fc) := by rw [← hwq]; exact z2
            have y1 : wq.cell? ⟨wr.heap.size, 1, none⟩ = some (.string (strL s.2)) := by rw [← hwq]; exact z1
            have yp : wq.cell? ⟨pb, po + 1, none⟩ = some (.string (strL p.2)) := by rw [← hwq]; exact p1'
            clear p0' p1' q1
            clear hwq z0 z1 z2
            go_wp2_with fail
            refine (HCALL.out wq (HA.out.trans HQ.out) p.2 HPL.out.2).mono ?_
            cases ht : T s.1 p.2
            · have HT := Lib.hid ht
              clear ht
              rintro e w3 ⟨rfl, hk3⟩
              have HK3 : Hid (Kept [] w w3) := (HSA.out.2.trans HQ.out).trans hk3
              clear hk3
              go_wp2_with fail
              go_ret2
              exact FillOut.no (by rw [HS.out.ans, HD.out]; exact fillA_yes_no HE.out HT.out) HK3.out
            · have HT := Lib.hid ht
              clear ht
              rintro e w3 ⟨rfl, hk3⟩
              have x0 : w3.cell? ⟨wr.heap.size, 0, none⟩ = some (.string (strL s.1)) := by
                rw [hk3.cell (p := ⟨wr.heap.size, 0, none⟩) (World.block_lt_of_cell? wq _ y0) (by simp)]; exact y0
              have HK3 : Hid (Kept [] wa w3) := HQ.out.trans hk3
              obtain ⟨v4, w4, hrun, hown, hap, _⟩ := (HSA.out.1.kept HK3.out).app (by have := HSA.out.2.size; have := HK3.out.size; omega) (s.1, p.2) (by have := HS.out.few; omega) ⟨HSL.out.1, HPL.out.2⟩
              have HRUN := Lib.hid hrun
              have HN : Hid (FiSt w T S P (k + 1) r (out ++ [(s.1, p.2)]) (.slice (some ⟨pb, po, none⟩) 0 0) v4 w4) :=
                ⟨by rw [HS.out.ans, HD.out]; exact fillA_yes HE.out HT.out, HTL1.out, hown, by have := HS.out.few; simp; omega, OwnP.into (HSA.out.2.trans HK3.out) hap (HSA.out.1.kept HK3.out) (Nat.le_refl _)⟩
              clear hrun hown hap hk3 y0 y1 y2
              go_wp2_with (at_builtin; refine wpList_append_run rfl _ _ 38 rfl _ _ _ rfl rfl HRUN.out ?_)
              go_roundw
              case rel => exact ⟨k + 1, _, _, by omega, by go_num, HN⟩
              case measure => simp [intOf]; omega
          · have HTL1 : Hid (PsIs w (.slice (some ⟨pb, po + 2, none⟩) n (gcap - 1)) r) := by
              have := HTL.out
              rw [if_neg hcap] at this
              exact this
            go_wp2_with fail
            go_quiet (fail)
            generalize hwq : World.drewN wa _ = wq
            have HQ : Hid (Kept [] wa wq) := by rw [← hwq]; exact Kept.drewN _ _ _
            have y0 : wq.cell? ⟨wr.heap.size, 0, none⟩ = some (.string (strL s.1)) := by rw [← hwq]; exact z0
            have y2 : wq.cell? ⟨wr.heap.size, 2, none⟩ = some (.func (.func fi) #[] fc) := by rw [← hwq]; exact z2
            have y1 : wq.cell? ⟨wr.heap.size, 1, none⟩ = some (.string (strL s.2)) := by rw [← hwq]; exact z1
            have yp : wq.cell? ⟨pb, po + 1, none⟩ = some (.string (strL p.2)) := by rw [← hwq]; exact p1'
            clear p0' p1' q1
            clear hwq z0 z1 z2
            go_wp2_with fail
            refine (HCALL.out wq (HA.out.trans HQ.out) p.2 HPL.out.2).mono ?_
            cases ht : T s.1 p.2
            · have HT := Lib.hid ht
              clear ht
              rintro e w3 ⟨rfl, hk3⟩
              have HK3 : Hid (Kept [] w w3) := (HSA.out.2.trans HQ.out).trans hk3
              clear hk3
              go_wp2_with fail
              go_ret2
              exact FillOut.no (by rw [HS.out.ans, HD.out]; exact fillA_yes_no HE.out HT.out) HK3.out
            · have HT := Lib.hid ht
              clear ht
              rintro e w3 ⟨rfl, hk3⟩
              have x0 : w3.cell? ⟨wr.heap.size, 0, none⟩ = some (.string (strL s.1)) := by
                rw [hk3.cell (p := ⟨wr.heap.size, 0, none⟩) (World.block_lt_of_cell? wq _ y0) (by simp)]; exact y0
              have HK3 : Hid (Kept [] wa w3) := HQ.out.trans hk3
              obtain ⟨v4, w4, hrun, hown, hap, _⟩ := (HSA.out.1.kept HK3.out).app (by have := HSA.out.2.size; have := HK3.out.size; omega) (s.1, p.2) (by have := HS.out.few; omega) ⟨HSL.out.1, HPL.out.2⟩
              have HRUN := Lib.hid hrun
              have HN : Hid (FiSt w T S P (k + 1) r (out ++ [(s.1, p.2)]) (.slice (some ⟨pb, po + 2, none⟩) n (gcap - 1)) v4 w4) :=
                ⟨by rw [HS.out.ans, HD.out]; exact fillA_yes HE.out HT.out, HTL1.out, hown, by have := HS.out.few; simp; omega, OwnP.into (HSA.out.2.trans HK3.out) hap (HSA.out.1.kept HK3.out) (Nat.le_refl _)⟩
              clear hrun hown hap hk3 y0 y1 y2
              go_wp2_with (at_builtin; refine wpList_append_run rfl _ _ 38 rfl _ _ _ rfl rfl HRUN.out ?_)
              go_roundw
              case rel => exact ⟨k + 1, _, _, by omega, by go_num, HN⟩
              case measure => simp [intOf]; omega
        · have q1 : ((strL p.1).toList == (strL s.1).toList) = false := by rw [str_beqP, decide_eq_false hps]
          have HNE : Hid (∀ (x : Prm) (r' : List Prm), p :: r = x :: r' → x.1 ≠ s.1) := fun x r' h => by injection h with h1 h2; rw [← h1]; exact hps
          clear hps
          go_wp2_with fail
          go_quiet (fail)
          generalize hwq : World.drewN wa _ = wq
          have HQ : Hid (Kept [] wa wq) := by rw [← hwq]; exact Kept.drewN _ _ _
          have y0 : wq.cell? ⟨wr.heap.size, 0, none⟩ = some (.string (strL s.1)) := by rw [← hwq]; exact z0
          have y2 : wq.cell? ⟨wr.heap.size, 2, none⟩ = some (.func (.func fi) #[] fc) := by rw [← hwq]; exact z2
          have y1 : wq.cell? ⟨wr.heap.size, 1, none⟩ = some (.string (strL s.2)) := by rw [← hwq]; exact z1
          clear p0' p1' q1
          clear hwq z0 z1 z2
          go_wp2_with fail
          refine (HCALL.out wq (HA.out.trans HQ.out) s.2 HSL.out.2).mono ?_
          cases ht : T s.1 s.2
          · have HT := Lib.hid ht
            clear ht
            rintro e w3 ⟨rfl, hk3⟩
            have HK3 : Hid (Kept [] w w3) := (HSA.out.2.trans HQ.out).trans hk3
            clear hk3
            go_wp2_with fail
            go_ret2
            exact FillOut.no (by rw [HS.out.ans, HD.out]; exact fillA_dflt_no HNE.out HT.out) HK3.out
          · have HT := Lib.hid ht
            clear ht
            rintro e w3 ⟨rfl, hk3⟩
            have x0 : w3.cell? ⟨wr.heap.size, 0, none⟩ = some (.string (strL s.1)) := by
              rw [hk3.cell (p := ⟨wr.heap.size, 0, none⟩) (World.block_lt_of_cell? wq _ y0) (by simp)]; exact y0
            have HK3 : Hid (Kept [] wa w3) := HQ.out.trans hk3
            obtain ⟨v4, w4, hrun, hown, hap, _⟩ := (HSA.out.1.kept HK3.out).app (by have := HSA.out.2.size; have := HK3.out.size; omega) (s.1, s.2) (by have := HS.out.few; omega) ⟨HSL.out.1, HSL.out.2⟩
            have HRUN := Lib.hid hrun
            have HN : Hid (FiSt w T S P (k + 1) (p :: r) (out ++ [(s.1, s.2)]) (.slice (some ⟨pb, po, none⟩) (n + 1) gcap) v4 w4) :=
              ⟨by rw [HS.out.ans, HD.out]; exact fillA_dflt HNE.out HT.out, HS.out.ps, hown, by have := HS.out.few; simp; omega, OwnP.into (HSA.out.2.trans HK3.out) hap (HSA.out.1.kept HK3.out) (Nat.le_refl _)⟩
            clear hrun hown hap hk3 y0 y1 y2
            go_wp2_with (at_builtin; refine wpList_append_run rfl _ _ 38 rfl _ _ _ rfl rfl HRUN.out ?_)
            go_roundw
            case rel => exact ⟨k + 1, _, _, by omega, by go_num, HN⟩
            case measure => simp [intOf]; omega
    · have hkm : k = m := by omega
      have HF : Hid (fillA T S P [] = if g = [] then some out else none) := by
        show _ = _
        have hdr : S.drop k = [] := List.drop_of_length_le (by rw [← HL.out, List.length_map, HM.out]; omega)
        rw [HS.out.ans, hdr]; rfl
      have hsv : ∃ x1 x2 x3, u6 = .slice x1 x2 x3 := prm_val _ _ _ _ HS.out.own
      obtain ⟨ou, om, oc, rfl⟩ := hsv
      obtain ⟨gao, gcap, rfl, g1, g2, g3, g4⟩ := HS.out.ps.open
      cases g with
      | nil =>
        have HF2 : Hid (fillA T S P [] = some out) := by show _ = _; rw [HF.out, if_pos rfl]
        have q6 : decide ((0 : Int) < ((0 : Nat) : Int)) = false := by decide
        simp only [List.length_nil]
        clear g1 g2 g3 g4
        go_wp2_with fail
        go_ret2
        exact ⟨_, _, rfl, by rw [HF2.out]; rfl, by rw [HF2.out]; exact HS.out.own, HS.out.kept⟩
      | cons p r =>
        have HF2 : Hid (fillA T S P [] = none) := by show _ = _; rw [HF.out, if_neg (by simp)]
        simp only [List.length_cons] at g1 ⊢
        obtain ⟨n, hn⟩ : ∃ n, r.length = n := ⟨_, rfl⟩
        rw [hn] at g1 ⊢
        have hn63 : n + 1 ≤ 9223372036854775807 := by omega
        clear g3 g4 hn
        go_wp2_with fail
        go_ret2
        exact FillOut.no HF2.out HS.out.kept
end Go.Proofs.YtfofhnbijjocfaaGreatDoor

/-
  Layer 6: the program's kinds: a map of types.
  Conditions: those that each theorem states.
-/
import Derived.Test.YthpfnkanilfohaaDoorQKinds
namespace Go.Proofs.YthpfnkanilfohaaDoor
open Go.RowKit Go.Maps

/-- What an entry of the map of kinds is. -/
def KindIs (w : World) (x : Value) (k : Nat) : Prop := ∃ f0 f2, x = .agg #[f0, .string (strL (dfltK k)), f2] ∧ FnIs w f0 (titleK k) ∧ StFnIs w f2 (slotsK k)
theorem KindIs.kept {w w' : World} {x : Value} {k : Nat} (h : KindIs w x k) (hk : Kept [] w w') : KindIs w' x k := by
  obtain ⟨f0, f2, h1, h2, h3⟩ := h
  exact ⟨f0, f2, h1, h2.kept hk, h3.kept hk⟩
/-- What kinds answers. -/
def KindsOut (w : World) (e : Ending) (w' : World) : Prop :=
  ∃ m f, e = .returned (.map (some m)) ∧ Hid (KdMap w' m 5 f ∧ (∀ s, (kindI s = 0 → f s = none) ∧ (kindI s ≠ 0 → ∃ x, f s = some x ∧ ∀ ex w2, (∀ k ∈ ex, k < w.heap.size) → Kept ex w' w2 → KindIs w2 x (kindI s))) ∧ Kept [] w w')

/-- The closure that record makes, as it lies. -/
def RecRaw (w : World) (g b : Nat) (L : List (Prm × Value)) : Prop := w.heap[g]? = some (.cells #[.slice (some ⟨b, 0, none⟩) L.length L.length] 49) ∧ w.heap[b]? = some (.cells (slv L).toArray 59)
theorem RecRaw.kept {w w' : World} {g b : Nat} {L : List (Prm × Value)} {ex : List Nat} (h : RecRaw w g b L) (hk : Kept ex w w') (hg : g ∉ ex) (hb : b ∉ ex) : RecRaw w' g b L := ⟨hk.heap hg h.1, hk.heap hb h.2⟩
theorem RecRaw.fn {w : World} {g b : Nat} {L : List (Prm × Value)} {l : List Prm} (h : RecRaw w g b L) (hl : L.map (·.1) = l) (h0 : 0 < L.length) (h1 : L.length ≤ 1000) (hf : ∀ x ∈ L, x.1.1 ≠ nEnsure ∧ FnIs w x.2 (valB x.1.1)) (hs : ∀ s ∈ l, s.1.length ≤ 140737488355328 ∧ s.2.length ≤ 140737488355328) :
    StFnIs w (.func (.func 45) #[] #[.pointer (some ⟨g, 0, none⟩)]) (fun s => recK s l) :=
  st_rec h.1 ⟨L, hl, rfl, h0, h1, ⟨b, 0, rfl, (Array.getElem?_eq_some_iff.1 h.2).1, fun j u hu => by
    rw [Nat.zero_add, cell_of_row w b j _ _ _ h.2]
    simpa using hu⟩, hf, hs, by omega⟩
def LAccount : List (Prm × Value) := [((nGroup, vUsers), .func (.func 28) #[] #[]), ((nShell, vSh), .func (.func 30) #[] #[]), ((nUid, v1000), .func (.func 31) #[] #[])]
def LGroup : List (Prm × Value) := [((nGid, v1000), .func (.func 31) #[] #[])]
def LPackage : List (Prm × Value) := [((nVersion, vLatest), .func (.func 32) #[] #[])]
theorem rec_account {w : World} {g b : Nat} (h : RecRaw w g b LAccount) : StFnIs w (.func (.func 45) #[] #[.pointer (some ⟨g, 0, none⟩)]) (slotsK 2) := by
  have := h.fn (l := lAccount) rfl (by decide) (by decide) (fun x hx => by
    simp only [LAccount, List.mem_cons, List.not_mem_nil, or_false] at hx
    rcases hx with rfl | rfl | rfl
    · exact ⟨by decide, by rw [valB_group]; exact fn_key _⟩
    · exact ⟨by decide, by rw [valB_shell]; exact fn_word _⟩
    · exact ⟨by decide, by rw [valB_uid]; exact fn_id _⟩) (by decide)
  exact this
theorem rec_group {w : World} {g b : Nat} (h : RecRaw w g b LGroup) : StFnIs w (.func (.func 45) #[] #[.pointer (some ⟨g, 0, none⟩)]) (slotsK 3) := by
  have := h.fn (l := lGroup) rfl (by decide) (by decide) (fun x hx => by
    simp only [LGroup, List.mem_cons, List.not_mem_nil, or_false] at hx
    subst hx
    exact ⟨by decide, by rw [valB_gid]; exact fn_id _⟩) (by decide)
  exact this
theorem rec_package {w : World} {g b : Nat} (h : RecRaw w g b LPackage) : StFnIs w (.func (.func 45) #[] #[.pointer (some ⟨g, 0, none⟩)]) (slotsK 4) := by
  have := h.fn (l := lPackage) rfl (by decide) (by decide) (fun x hx => by
    simp only [LPackage, List.mem_cons, List.not_mem_nil, or_false] at hx
    subst hx
    exact ⟨by decide, by rw [valB_version]; exact fn_fw _⟩) (by decide)
  exact this
theorem kind_rec {w : World} {k : Nat} {f : Value} (hk : k = 2 ∨ k = 3 ∨ k = 4) (h : StFnIs w f (slotsK k)) : KindIs w (.agg #[.func (.func 28) #[] #[], .string (strL nPresent), f]) k := by
  have e1 : titleK k = keyB := by funext s; unfold titleK; rw [if_neg (by omega)]
  have e2 : dfltK k = nPresent := by unfold dfltK; rw [if_neg (by omega), if_neg (by omega), if_neg (by omega)]
  refine ⟨_, _, by rw [e2], ?_, h⟩
  rw [e1]
  exact fn_key w

/-- What is known while the map is made. -/
structure KdSt (w : World) (m n : Nat) (f : List UInt8 → Option Value) (wr : World) : Prop where
  map : KdMap wr m n f
  kept : Kept [] w wr
  own : w.heap.size ≤ m
theorem KdSt.go {w wr w' : World} {m n : Nat} {f : List UInt8 → Option Value} (h : KdSt w m n f wr) (hk : Kept [] wr w') : KdSt w m n f w' := ⟨h.map.kept hk (by simp), h.kept.trans hk, h.own⟩
theorem KdSt.upd {w wr : World} {m n : Nat} {f : List UInt8 → Option Value} (h : KdSt w m n f wr) (hn : n < 1000) (s : List UInt8) (hs : s.length ≤ 1000) (x : Value) :
    ∃ w', (Instr.mapUpdate 45 (.map (some m)) (.string (strL s)) x).run Tryd.prog wr = .ok () w' ∧ KdSt w m (n + 1) (fun t => if t = s then some x else f t) w' ∧ Kept [m] wr w' := by
  obtain ⟨w', h1, h2, h3⟩ := h.map.upd hn s hs x
  exact ⟨w', h1, ⟨h2, h.kept.into h3 (by simp; exact h.own), h.own⟩, h3⟩

set_option maxRecDepth 100000 in
set_option maxHeartbeats 4000000 in
theorem kinds_any (w : World) : Calls Tryd.prog 20 #[] w (KindsOut w) := by
  have s0 : KdSt w w.heap.size 0 (fun _ => none) (w.alloc (.map #[] 0)) := ⟨KdMap.made w, Kept.alloc _ _ _, Nat.le_refl _⟩
  have r0 : (Instr.makeMap 45 none).run Tryd.prog w = .ok (.map (some w.heap.size)) (w.alloc (.map #[] 0)) := by kernel_rfl
  obtain ⟨m, hm⟩ : ∃ m, w.heap.size = m := ⟨_, rfl⟩
  rw [hm] at r0 s0
  obtain ⟨w1, r1, s1, _⟩ := s0.upd (by omega) nFile (by decide) (.agg #[.func (.func 26) #[] #[], .string (strL nFile), .func (.func 27) #[] #[]])
  have q1 : strL nFile = { data := #[102, 105, 108, 101] } := rfl
  rw [q1] at r1
  obtain ⟨w2, hw2⟩ : ∃ w2, w1.alloc (.cells #[.string ⟨#[103, 114, 111, 117, 112]⟩, .string ⟨#[117, 115, 101, 114, 115]⟩, .func (.func 28) #[] #[], .string ⟨#[115, 104, 101, 108, 108]⟩, .string ⟨#[47, 98, 105, 110, 47, 115, 104]⟩, .func (.func 30) #[] #[], .string ⟨#[117, 105, 100]⟩, .string ⟨#[49, 48, 48, 48]⟩, .func (.func 31) #[] #[]] 59) = w2 := ⟨_, rfl⟩
  have S2 : Hid (KdSt w m 1 (fun t => if t = nFile then some (.agg #[.func (.func 26) #[] #[], .string (strL nFile), .func (.func 27) #[] #[]]) else none) w2 ∧ w2.heap[w1.heap.size]? = some (.cells (slv LAccount).toArray 59) ∧ m < w1.heap.size) :=
    ⟨by rw [← hw2]; exact s1.go (Kept.alloc _ _ _), by rw [← hw2]; exact heap_alloc_last _ _, s1.map.lt⟩
  have HM := Lib.hid hm
  clear s0 s1 q1 hm
  go_enter Tryd.func20, Tryd.ntmps20
  go_wp2_with fail
  refine (record_any _ 3 3 _).mono ?_
  rintro e w3 ⟨rfl, H3⟩
  have S3 : Hid (KdSt w m 1 (fun t => if t = nFile then some (.agg #[.func (.func 26) #[] #[], .string (strL nFile), .func (.func 27) #[] #[]]) else none) w3 ∧ RecRaw w3 w2.heap.size w1.heap.size LAccount ∧ m < w1.heap.size ∧ m < w2.heap.size) :=
    ⟨S2.out.1.go H3.out.2, ⟨H3.out.1, H3.out.2.heap (by simp) S2.out.2.1⟩, S2.out.2.2, S2.out.1.map.lt⟩
  obtain ⟨w4, r4, s4, k4⟩ := S3.out.1.upd (by omega) nAccount (by decide) (.agg #[.func (.func 28) #[] #[], .string (strL nPresent), .func (.func 45) #[] #[.pointer (some ⟨w2.heap.size, 0, none⟩)]])
  have q1 : strL nAccount = { data := #[97, 99, 99, 111, 117, 110, 116] } := rfl
  have q2 : strL nPresent = { data := #[112, 114, 101, 115, 101, 110, 116] } := rfl
  rw [q1, q2] at r4
  obtain ⟨f4, hf4⟩ : ∃ f4 : List UInt8 → Option Value, (fun t => if t = nAccount then some (.agg #[.func (.func 28) #[] #[], .string (strL nPresent), .func (.func 45) #[] #[.pointer (some ⟨w2.heap.size, 0, none⟩)]]) else if t = nFile then some (.agg #[.func (.func 26) #[] #[], .string (strL nFile), .func (.func 27) #[] #[]]) else none) = f4 := ⟨_, rfl⟩
  rw [hf4] at s4
  have F4 := Lib.hid hf4
  obtain ⟨w5, hw5⟩ : ∃ w5, w4.alloc (.cells #[.string ⟨#[103, 105, 100]⟩, .string ⟨#[49, 48, 48, 48]⟩, .func (.func 31) #[] #[]] 59) = w5 := ⟨_, rfl⟩
  have kk5 : Kept [] w4 w5 := by rw [← hw5]; exact Kept.alloc _ _ _
  have S5 : Hid (KdSt w m 2 f4 w5 ∧ w5.heap[w4.heap.size]? = some (.cells (slv LGroup).toArray 59) ∧ m < w4.heap.size ∧ RecRaw w5 w2.heap.size w1.heap.size LAccount) :=
    ⟨s4.go kk5, by rw [← hw5]; exact heap_alloc_last _ _, s4.map.lt, (S3.out.2.1.kept k4 (by have := S3.out.2.2; simp; omega) (by have := S3.out.2.2; simp; omega)).kept kk5 (by simp) (by simp)⟩
  clear s4 k4 kk5 q1 q2 hf4 r1 hw2 r0
  go_wp2_with fail
  refine (record_any _ 1 1 _).mono ?_
  rintro e w6 ⟨rfl, H6⟩
  have S6 : Hid (KdSt w m 2 f4 w6 ∧ RecRaw w6 w5.heap.size w4.heap.size LGroup ∧ RecRaw w6 w2.heap.size w1.heap.size LAccount ∧ m < w4.heap.size ∧ m < w5.heap.size) :=
    ⟨S5.out.1.go H6.out.2, ⟨H6.out.1, H6.out.2.heap (by simp) S5.out.2.1⟩, S5.out.2.2.2.kept H6.out.2 (by simp) (by simp), S5.out.2.2.1, S5.out.1.map.lt⟩
  obtain ⟨w7, r7, s7, k7⟩ := S6.out.1.upd (by omega) nGroup (by decide) (.agg #[.func (.func 28) #[] #[], .string (strL nPresent), .func (.func 45) #[] #[.pointer (some ⟨w5.heap.size, 0, none⟩)]])
  have q1 : strL nGroup = { data := #[103, 114, 111, 117, 112] } := rfl
  have q2 : strL nPresent = { data := #[112, 114, 101, 115, 101, 110, 116] } := rfl
  rw [q1, q2] at r7
  obtain ⟨f7, hf7⟩ : ∃ f7 : List UInt8 → Option Value, (fun t => if t = nGroup then some (.agg #[.func (.func 28) #[] #[], .string (strL nPresent), .func (.func 45) #[] #[.pointer (some ⟨w5.heap.size, 0, none⟩)]]) else f4 t) = f7 := ⟨_, rfl⟩
  rw [hf7] at s7
  have F7 := Lib.hid hf7
  obtain ⟨w8, hw8⟩ : ∃ w8, w7.alloc (.cells #[.string ⟨#[118, 101, 114, 115, 105, 111, 110]⟩, .string ⟨#[108, 97, 116, 101, 115, 116]⟩, .func (.func 32) #[] #[]] 59) = w8 := ⟨_, rfl⟩
  have kk8 : Kept [] w7 w8 := by rw [← hw8]; exact Kept.alloc _ _ _
  have S8 : Hid (KdSt w m 3 f7 w8 ∧ w8.heap[w7.heap.size]? = some (.cells (slv LPackage).toArray 59) ∧ m < w7.heap.size ∧ RecRaw w8 w2.heap.size w1.heap.size LAccount ∧ RecRaw w8 w5.heap.size w4.heap.size LGroup) :=
    ⟨s7.go kk8, by rw [← hw8]; exact heap_alloc_last _ _, s7.map.lt, (S6.out.2.2.1.kept k7 (by have := S3.out.2.2; simp; omega) (by have := S3.out.2.2; simp; omega)).kept kk8 (by simp) (by simp), (S6.out.2.1.kept k7 (by have := S6.out.2.2.2; simp; omega) (by have := S6.out.2.2.2; simp; omega)).kept kk8 (by simp) (by simp)⟩
  clear s7 k7 kk8 q1 q2 hf7 r4 hw5
  go_wp2_with fail
  refine (record_any _ 1 1 _).mono ?_
  rintro e w9 ⟨rfl, H9⟩
  have S9 : Hid (KdSt w m 3 f7 w9 ∧ RecRaw w9 w8.heap.size w7.heap.size LPackage ∧ RecRaw w9 w2.heap.size w1.heap.size LAccount ∧ RecRaw w9 w5.heap.size w4.heap.size LGroup ∧ m < w7.heap.size ∧ m < w8.heap.size) :=
    ⟨S8.out.1.go H9.out.2, ⟨H9.out.1, H9.out.2.heap (by simp) S8.out.2.1⟩, S8.out.2.2.2.1.kept H9.out.2 (by simp) (by simp), S8.out.2.2.2.2.kept H9.out.2 (by simp) (by simp), S8.out.2.2.1, S8.out.1.map.lt⟩
  obtain ⟨wa, ra, sa, ka⟩ := S9.out.1.upd (by omega) nPackage (by decide) (.agg #[.func (.func 28) #[] #[], .string (strL nPresent), .func (.func 45) #[] #[.pointer (some ⟨w8.heap.size, 0, none⟩)]])
  have q1 : strL nPackage = { data := #[112, 97, 99, 107, 97, 103, 101] } := rfl
  have q2 : strL nPresent = { data := #[112, 114, 101, 115, 101, 110, 116] } := rfl
  rw [q1, q2] at ra
  obtain ⟨fa, hfa⟩ : ∃ fa : List UInt8 → Option Value, (fun t => if t = nPackage then some (.agg #[.func (.func 28) #[] #[], .string (strL nPresent), .func (.func 45) #[] #[.pointer (some ⟨w8.heap.size, 0, none⟩)]]) else f7 t) = fa := ⟨_, rfl⟩
  rw [hfa] at sa
  have FA := Lib.hid hfa
  obtain ⟨wb, rb, sb, kb⟩ := sa.upd (by omega) nService (by decide) (.agg #[.func (.func 28) #[] #[], .string (strL nRunning), .func (.func 33) #[] #[]])
  have q3 : strL nService = { data := #[115, 101, 114, 118, 105, 99, 101] } := rfl
  have q4 : strL nRunning = { data := #[114, 117, 110, 110, 105, 110, 103] } := rfl
  rw [q3, q4] at rb
  obtain ⟨fb, hfb⟩ : ∃ fb : List UInt8 → Option Value, (fun t => if t = nService then some (.agg #[.func (.func 28) #[] #[], .string (strL nRunning), .func (.func 33) #[] #[]]) else fa t) = fb := ⟨_, rfl⟩
  rw [hfb] at sb
  have FB := Lib.hid hfb
  have h1 := S3.out.2.2
  have h2 := S6.out.2.2.2
  have h3 := S9.out.2.2.2.2
  have RB : Hid (KdSt w m 5 fb wb ∧ RecRaw wb w2.heap.size w1.heap.size LAccount ∧ RecRaw wb w5.heap.size w4.heap.size LGroup ∧ RecRaw wb w8.heap.size w7.heap.size LPackage) :=
    ⟨sb, (S9.out.2.2.1.kept ka (by simp; omega) (by simp; omega)).kept kb (by simp; omega) (by simp; omega), (S9.out.2.2.2.1.kept ka (by simp; omega) (by simp; omega)).kept kb (by simp; omega) (by simp; omega), (S9.out.2.1.kept ka (by simp; omega) (by simp; omega)).kept kb (by simp; omega) (by simp; omega)⟩
  clear sa ka sb kb q1 q2 q3 q4 hfa hfb r7 hw8 h1 h2 h3
  go_wp2_with fail
  go_ret
  refine ⟨m, fb, rfl, RB.out.1.map, fun s => ?_, RB.out.1.kept⟩
  obtain ⟨R0, R1, R2, R3⟩ := RB.out
  have hmm := HM.out
  have g1 := S3.out.2.2
  have g2 := S6.out.2.2.2
  have g3 := S9.out.2.2.2.2
  have fr : ∀ {ex : List Nat} {w2' : World} {g b : Nat} {L : List (Prm × Value)}, (∀ k ∈ ex, k < w.heap.size) → Kept ex wb w2' → RecRaw wb g b L → m < g → m < b → RecRaw w2' g b L := fun hx hk h k1 k2 =>
    h.kept hk (fun hm' => by have := hx _ hm'; omega) (fun hm' => by have := hx _ hm'; omega)
  rw [← FB.out, ← FA.out, ← F7.out, ← F4.out]
  simp only []
  unfold kindI
  by_cases e1 : s = nFile
  · subst e1
    rw [if_pos rfl]
    refine ⟨fun h => absurd h (by decide), fun _ => ⟨.agg #[.func (.func 26) #[] #[], .string (strL nFile), .func (.func 27) #[] #[]], by rw [if_neg (by decide), if_neg (by decide), if_neg (by decide), if_neg (by decide), if_pos rfl], fun ex w2' hx hk => ⟨_, _, rfl, fn_title w2', st_file w2'⟩⟩⟩
  by_cases e2 : s = nAccount
  · subst e2
    rw [if_neg (by decide), if_pos rfl]
    exact ⟨fun h => absurd h (by decide), fun _ => ⟨_, by rw [if_neg (by decide), if_neg (by decide), if_neg (by decide), if_pos rfl], fun ex w2' hx hk => kind_rec (.inl rfl) (rec_account (fr hx hk R1 g1.2 g1.1))⟩⟩
  by_cases e3 : s = nGroup
  · subst e3
    rw [if_neg (by decide), if_neg (by decide), if_pos rfl]
    exact ⟨fun h => absurd h (by decide), fun _ => ⟨_, by rw [if_neg (by decide), if_neg (by decide), if_pos rfl], fun ex w2' hx hk => kind_rec (.inr (.inl rfl)) (rec_group (fr hx hk R2 g2.2 g2.1))⟩⟩
  by_cases e4 : s = nPackage
  · subst e4
    rw [if_neg (by decide), if_neg (by decide), if_neg (by decide), if_pos rfl]
    exact ⟨fun h => absurd h (by decide), fun _ => ⟨_, by rw [if_neg (by decide), if_pos rfl], fun ex w2' hx hk => kind_rec (.inr (.inr rfl)) (rec_package (fr hx hk R3 g3.2 g3.1))⟩⟩
  by_cases e5 : s = nService
  · subst e5
    rw [if_neg (by decide), if_neg (by decide), if_neg (by decide), if_neg (by decide), if_pos rfl]
    exact ⟨fun h => absurd h (by decide), fun _ => ⟨.agg #[.func (.func 28) #[] #[], .string (strL nRunning), .func (.func 33) #[] #[]], by rw [if_pos rfl], fun ex w2' hx hk => ⟨_, _, rfl, fn_key w2', st_serv w2'⟩⟩⟩
  rw [if_neg e1, if_neg e2, if_neg e3, if_neg e4, if_neg e5]
  exact ⟨fun _ => by rw [if_neg e5, if_neg e4, if_neg e3, if_neg e2, if_neg e1], fun h => absurd rfl h⟩
end Go.Proofs.YthpfnkanilfohaaDoor

/-
  Commit on a disk whose power may go off, and Open behind it; a group that is made write by write in new memory.
  Conditions: those that each theorem states.
-/
import Derived.Test.YtmckapfncnoddaaOwnPuts
namespace Go.Proofs.Ytmckapfncnoddaa
open Go.RowKit Go.Maps

/-- What Commit of the group l leaves, wherever the power goes off. -/
def CmtOut (at_ g : Nat) (S S' : DiskS) (l : List PutL) (x : Int) : Prop :=
  (x = 0 ∧ S'.off = false ∧ Ready S' at_ (g + 1) ∧ (∀ i, Out at_ i → S'.blk i = applyL S.blk l i) ∧ (S.fused = false → S'.fused = false)) ∨
  (x = 2 ∧ S'.off = true ∧ S.fused = true ∧ ((Ready S' at_ g ∧ ∀ i, Out at_ i → S'.blk i = S.blk i) ∨ (Owes S' at_ g l ∧ ∀ i, Out at_ i → (∀ p ∈ l, p.1 ≠ i) → S'.blk i = S.blk i)))

theorem commit_fz (w : World) (a j at_ g : Nat) (S : DiskS) (hd : IsDisk w a S) (hj : IsJour w j ⟨a, at_, g, false, 0⟩) (hoff : S.off = false) (hr : Ready S at_ g) (hat : (at_ : Int) + 199 ≤ S.size)
    (ao : Option Addr) (len cap : Nat) (l : List PutL) (hl : PutsIs w ao len l) (hg : Grp at_ S.size l) (hgb : g < 1000000) (hlw : S.writes < 1000000000) :
    Calls Try.prog 14 #[.pointer (some ⟨j, 0, none⟩), .slice ao len cap] w fun e w' => ∃ x S', e = .returned (.int .i64 x) ∧ IsDisk w' a S' ∧ S'.size = S.size ∧ S'.m = S.m ∧ S'.writes ≤ S.writes + 600 ∧ CmtOut at_ g S S' l x ∧
      (∃ J', IsJour w' j J' ∧ (x = 0 → J' = ⟨a, at_, g + 1, false, 0⟩)) ∧ Kept [a, S.m, j] w w' := by
  have hs1 := hd.s1
  have hlen := hg.len
  have hsp := spanN_le hlen
  refine (commit_yes j ⟨a, at_, g, false, 0⟩ S ao len cap l w hj hd hl (by show at_ < _; omega) hg rfl (by show g < _; omega) (by omega)).mono ?_
  rintro e w' ⟨M, hM, hMl, rfl, hd', ⟨J', hj', _, _, hJ'⟩, hk⟩
  have hwf := cmt_wf (g := g) hg hat hMl
  have hc := wrs_cut S hoff hd.l0 _ hwf
  have hcc := commit_cut hr hs1 hg hM hMl hc
  have hwr := S.wrs_writes (cmtL at_ g M l)
  have hm := S.wrs_m (cmtL at_ g M l)
  refine ⟨_, _, rfl, hd', hm.2, hm.1, ?_, ?_, ⟨J', hj', fun h => hJ' h⟩, hk⟩
  · have : (cmtL at_ g M l).length ≤ 600 := by
      simp only [cmtL, List.length_append, storeL_length, List.length_cons, List.length_nil]
      omega
    simp only at hwr ⊢
    omega
  · simp only
    generalize S.wrs (cmtL at_ g M l) = r at hc hcc
    obtain ⟨x, S'⟩ := r
    simp only at hc hcc
    cases hc with
    | all _ c1 c2 c3 c4 c5 c6 c7 =>
      rcases hcc with ⟨h1, h2, h3⟩ | ⟨h1, _⟩ | ⟨h1, _⟩
      · exact .inl ⟨rfl, c1, h2, h3, c6⟩
      · cases h1
      · cases h1
    | cut k _ c0 c1 c2 c3 c4 c5 c6 c7 c8 =>
      rcases hcc with ⟨h1, _⟩ | ⟨_, h2, h3⟩ | ⟨_, h2, h3⟩
      · cases h1
      · exact .inr ⟨rfl, c1, c6, .inl ⟨h2, h3⟩⟩
      · exact .inr ⟨rfl, c1, c6, .inr ⟨h2, h3⟩⟩

/-- Open of a journal that owes a group, on a disk that answers. f0: what the blocks had ahead of the group. -/
theorem open_owes (w : World) (a at_ g : Nat) (at' : Int) (hat' : at' = at_) (S : DiskS) (hd : Live w a S) (hat : (at_ : Int) + 199 ≤ S.size) (l : List PutL) (f0 : Int → List UInt8)
    (ho : Owes S at_ g l) (hmid : ∀ i, Out at_ i → (∀ p ∈ l, p.1 ≠ i) → S.blk i = f0 i) (hgb : g < 1000000) (hlw : S.writes < 1000000000) :
    Calls Try.prog 18 #[.pointer (some ⟨a, 0, none⟩), .int .i64 at'] w fun e w' => ∃ j S', e = .returned (.tuple #[.pointer (some ⟨j, 0, none⟩), .int .i64 0]) ∧ JLive w' a j at_ (g + 1) S' ∧ S'.size = S.size ∧ S'.m = S.m ∧ S'.writes ≤ S.writes + 200 ∧
      (∀ i, Out at_ i → S'.blk i = applyL f0 l i) ∧ w.heap.size ≤ j ∧ Kept [a, S.m] w w' := by
  have hwf := prf_wf (g := g + 1) ho.grp hat
  have hc := wrs_cut S hd.off hd.disk.l0 _ hwf
  have hcc := perform_cut f0 ho hmid hc
  have hwr := S.wrs_writes (l ++ [((at_ : Int), encL at_ (g + 1) 0 false)])
  obtain ⟨f1, f2, f3, f4, f5, f6, f7⟩ := wrs_free S hd.off hd.fused hd.disk.l0 _ hwf
  have hlen := ho.grp.len
  refine (open_owed a S _ _ at_ at' g l w hd.disk hat' hat hd.off ho.head ho.flat ho.grp (by omega) (by omega) rfl).mono ?_
  rintro e w' ⟨j, hj, hd', hk⟩
  rw [f1] at hj hcc
  rcases hj with ⟨_, he, hj, hjl⟩ | ⟨h, _⟩
  · rcases hcc with ⟨_, h2, h3⟩ | ⟨h, _⟩
    · refine ⟨j, _, he, ⟨⟨hd', f2, f7⟩, hj, h2, by rw [f3]; exact hat⟩, f3, f4, ?_, h3, hjl, hk⟩
      simp only [List.length_append, List.length_cons, List.length_nil] at hwr
      omega
    · cases h
  · exact absurd rfl h

/-- A group that is made write by write, all of it in memory from 'base' on (but for the empty one). -/
def GPuts (w : World) (base : Nat) (v : Value) (l : List PutL) : Prop :=
  (l = [] ∧ ∃ p, v = .slice (some ⟨p, 0, none⟩) 0 0) ∨ ∃ xs, OwnPuts w base v l xs

theorem GPuts.start (w : World) (base p : Nat) : GPuts w base (.slice (some ⟨p, 0, none⟩) 0 0) [] := .inl ⟨rfl, p, rfl⟩
theorem GPuts.kept {w w' : World} {base : Nat} {v : Value} {l : List PutL} (h : GPuts w base v l) (hk : Kept [] w w') : GPuts w' base v l := by
  rcases h with h | ⟨xs, h⟩
  · exact .inl h
  · exact .inr ⟨xs, h.kept hk (by simp)⟩
theorem GPuts.puts {w : World} {base : Nat} {v : Value} {l : List PutL} (h : GPuts w base v l) (hl : l.length ≤ 4096) : ∃ ao cap, v = .slice ao l.length cap ∧ PutsIs w ao l.length l := by
  rcases h with ⟨rfl, p, rfl⟩ | ⟨xs, h⟩
  · exact ⟨_, 0, rfl, rfl, by simp, fun h => absurd h (by simp)⟩
  · exact h.puts hl

theorem GPuts.append {w : World} {base : Nat} {v : Value} {l : List PutL} (h : GPuts w base v l) (p : Int) (b : List UInt8) (s t : Nat) (hs : w.heap[s]? = some (.cells (bvA b) 5)) (h64 : b.length = 64)
    (ht : w.heap[t]? = some (.cells #[.int .i64 p, .slice (some ⟨s, 0, none⟩) 64 64] 54)) (hbase : base ≤ w.heap.size) (hl : l.length ≤ 4095) (hp0 : 0 ≤ p) (hp1 : p < 4096) :
    ∃ v' w', (Builtin.append_ #[32, 32] 32 #[v, .slice (some ⟨t, 0, none⟩) 1 1]).run Try.prog w = .ok v' w' ∧ GPuts w' base v' (l ++ [(p, b)]) ∧ ∃ ex, Kept ex w w' ∧ ∀ q ∈ ex, base ≤ q := by
  rcases h with ⟨rfl, q, rfl⟩ | ⟨xs, h⟩
  · obtain ⟨i, hi', hz, hsz, hby⟩ := info_parts infoPut
    have hrun := run_append_grow (P := Try.prog) w 32 32 54 i _ Try.underlying32 hi' hz ⟨q, 0, none⟩ 0 0 [] (by simp) (by simp) ⟨t, 0, none⟩ 1 1 [.int .i64 p, .slice (some ⟨s, 0, none⟩) 64 64] (by rw [hsz]; rfl)
      (fun k x hx => by
        rw [Addr.add_mid, cell_of_row w t _ _ _ _ ht, Nat.zero_add]
        simpa using hx) (by omega) (by omega) (by rw [hby]; decide)
    refine ⟨_, _, hrun, .inr ⟨[.int .i64 p, .slice (some ⟨s, 0, none⟩) 64 64], ?_⟩, [], (Kept.drew _ _).trans (Kept.alloc _ _ _), by simp⟩
    have hge := grownCap_ge w (0 + 1) 0 54
    refine ⟨⟨by simp, .inr ⟨w.heap.size, _, _, rfl, hbase, heap_alloc_last w.drew _, hge, grownCap_le_maxLen w _ _ _ (by unfold maxLen; omega), ?_, ?_⟩⟩, by simp [Value.ownBlock], fun k hk => ?_⟩
    · simp only [Array.size_append, List.size_toArray, size_zeroCells, List.length_nil, List.length_cons, Value.cells]
      show 0 + (0 + 1 + 1) + (grownCap w (0 + 1) 0 54 - (0 + 1)) * 2 = grownCap w (0 + 1) 0 54 * 2
      omega
    · simp
    · obtain rfl : k = 0 := by simp at hk; omega
      exact ⟨s, rfl, rfl, ((Kept.drew [] w).trans (Kept.alloc _ _ _)).heap (by simp) hs, h64, hp0, hp1⟩
  · obtain ⟨v', w', xs', hrun, hown, hk⟩ := h.append p b s t hs h64 ht hbase hl hp0 hp1
    exact ⟨v', w', hrun, .inr ⟨xs', hown⟩, _, hk, h.lt⟩

/-- A write for each byte. -/
def grpG (pos : Nat → Nat) (d : Nat → UInt8) (l : List UInt8) : List PutL := l.mapIdx fun i c => ((pos i : Int), fullE c (d i))
theorem grpG_length (pos : Nat → Nat) (d : Nat → UInt8) (l : List UInt8) : (grpG pos d l).length = l.length := by simp [grpG]
theorem grpG_get (pos : Nat → Nat) (d : Nat → UInt8) (l : List UInt8) (k : Nat) (h : k < (grpG pos d l).length) : (grpG pos d l)[k] = ((pos k : Int), fullE (l[k]'(by simpa [grpG] using h)) (d k)) := by simp [grpG]
theorem grpG_take (pos : Nat → Nat) (d : Nat → UInt8) (l : List UInt8) (k : Nat) (h : k < l.length) : grpG pos d (l.take (k + 1)) = grpG pos d (l.take k) ++ [((pos k : Int), fullE l[k] (d k))] := by
  unfold grpG
  rw [List.take_succ_eq_append_getElem h, List.mapIdx_append]
  congr 1
  simp [Nat.min_eq_left (Nat.le_of_lt h)]
theorem grpG_grp (pos : Nat → Nat) (d : Nat → UInt8) (l : List UInt8) (at_ : Nat) (size : Int) (h1 : ∀ i, i < l.length → at_ + 199 ≤ pos i ∧ (pos i : Int) < size) (h2 : ∀ i j, i < j → j < l.length → pos i ≠ pos j) (h3 : l.length ≤ 192) : Grp at_ size (grpG pos d l) := by
  refine ⟨by rw [grpG_length]; exact h3, fun p hp => ?_, ?_⟩
  · obtain ⟨k, hk, rfl⟩ := List.getElem_of_mem hp
    rw [grpG_get]
    rw [grpG_length] at hk
    have := h1 k hk
    exact ⟨by simp only; omega, by simp only; omega, fullE_length _ _, by simp only; omega⟩
  · rw [List.nodup_iff_pairwise_ne, List.pairwise_map, List.pairwise_iff_getElem]
    intro i j hi hj hij
    rw [grpG_get, grpG_get]
    simp only
    rw [grpG_length] at hj
    have := h2 i j hij hj
    omega
end Go.Proofs.Ytmckapfncnoddaa

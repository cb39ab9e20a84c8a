/-
  What writes leave on a disk whose power may go off between any two of them, and what a journal's blocks say then. No program text.
  Conditions: those that each theorem states.
-/
import Derived.Test.YtmckapfncnoddaaOpen
namespace Go.Proofs.Ytmckapfncnoddaa
open Go.RowKit Go.Maps

def applyL (f : Int → List UInt8) : List PutL → Int → List UInt8
  | [] => f
  | p :: r => applyL (updL f p.1 p.2) r

theorem applyL_append (f : Int → List UInt8) (l r : List PutL) : applyL f (l ++ r) = applyL (applyL f l) r := by
  induction l generalizing f with
  | nil => rfl
  | cons p l ih => exact ih _

theorem applyL_other {f : Int → List UInt8} {l : List PutL} {i : Int} (h : ∀ p ∈ l, p.1 ≠ i) : applyL f l i = f i := by
  induction l generalizing f with
  | nil => rfl
  | cons p l ih =>
    rw [applyL, ih (fun q hq => h q (by simp [hq])), updL, if_neg (fun e => h p (by simp) e.symm)]

/-- Where something is written, what was there does not count. -/
theorem applyL_hit {f g : Int → List UInt8} {l : List PutL} {i : Int} (h : ∃ p ∈ l, p.1 = i) : applyL f l i = applyL g l i := by
  induction l generalizing f g with
  | nil => obtain ⟨p, hp, _⟩ := h; simp at hp
  | cons p l ih =>
    simp only [applyL]
    by_cases hl : ∃ q ∈ l, q.1 = i
    · exact ih hl
    · have hn : ∀ q ∈ l, q.1 ≠ i := fun q hq e => hl ⟨q, hq, e⟩
      rw [applyL_other hn, applyL_other hn]
      obtain ⟨q, hq, he⟩ := h
      rcases List.mem_cons.1 hq with rfl | hq
      · simp [updL, he]
      · exact absurd he (hn q hq)

/-- Alike but where l writes: alike behind l. -/
theorem applyL_mid {f g : Int → List UInt8} {l : List PutL} {i : Int} (h : (∀ p ∈ l, p.1 ≠ i) → f i = g i) : applyL f l i = applyL g l i := by
  by_cases hl : ∃ q ∈ l, q.1 = i
  · exact applyL_hit hl
  · have hn : ∀ q ∈ l, q.1 ≠ i := fun q hq e => hl ⟨q, hq, e⟩
    rw [applyL_other hn, applyL_other hn]; exact h hn

theorem applyL_get {f : Int → List UInt8} {l : List PutL} (hn : (l.map (·.1)).Nodup) {p : PutL} (hp : p ∈ l) : applyL f l p.1 = p.2 := by
  induction l generalizing f with
  | nil => simp at hp
  | cons q l ih =>
    simp only [List.map_cons, List.nodup_cons] at hn
    rcases List.mem_cons.1 hp with rfl | hp
    · rw [applyL, applyL_other, updL, if_pos rfl]
      intro q hq e
      exact hn.1 (e ▸ List.mem_map_of_mem hq)
    · exact ih hn.2 hp

/-- Writes that a disk can do. -/
def Wf (size : Int) (l : List PutL) : Prop := ∀ p ∈ l, 0 ≤ p.1 ∧ p.1 < size ∧ p.2.length = 64

/-- What a row of writes comes to: all done; or the power went off ahead of number k. -/
inductive Cut (S : DiskS) (l : List PutL) : Int → DiskS → Prop
  | all (S' : DiskS) (off : S'.off = false) (size : S'.size = S.size) (m : S'.m = S.m) (blk : S'.blk = applyL S.blk l) (writes : S'.writes = S.writes + l.length) (free : S.fused = false → S'.fused = false)
      (room : S.fused = true → (l.length : Int) ≤ S.left) : Cut S l 0 S'
  | cut (k : Nat) (S' : DiskS) (hk : k < l.length) (off : S'.off = true) (size : S'.size = S.size) (m : S'.m = S.m) (blk : S'.blk = applyL S.blk (l.take k)) (writes : S'.writes = S.writes + k) (fused : S.fused = true) (left : (k : Int) = S.left) (burnt : S'.fused = false) : Cut S l 2 S'

theorem wr_cases (S : DiskS) (hoff : S.off = false) (i : Int) (b : List UInt8) (h0 : 0 ≤ i) (h1 : i < S.size) (h64 : b.length = 64) :
    (S.fused = false ∧ S.wr i b = (0, { S with blk := updL S.blk i b, writes := S.writes + 1 })) ∨
    (S.fused = true ∧ S.left ≠ 0 ∧ S.wr i b = (0, { S with left := S.left - 1, blk := updL S.blk i b, writes := S.writes + 1 })) ∨
    (S.fused = true ∧ S.left = 0 ∧ S.wr i b = (2, { S with off := true, fused := false, left := 0 })) := by
  have hr : S.reach i = 0 := reach_in h0 h1 hoff
  unfold DiskS.wr DiskS.burn
  rw [if_pos hr, if_pos h64]
  cases hf : S.fused
  · exact .inl ⟨rfl, by simp [hf]⟩
  · by_cases hl : S.left = 0
    · exact .inr (.inr ⟨rfl, hl, by simp [hl]⟩)
    · exact .inr (.inl ⟨rfl, hl, by simp [hl]⟩)

theorem wrs_cut (S : DiskS) (hoff : S.off = false) (hl0 : 0 ≤ S.left) (l : List PutL) (hw : Wf S.size l) : Cut S l (S.wrs l).1 (S.wrs l).2 := by
  induction l generalizing S with
  | nil => exact .all S hoff rfl rfl rfl (by simp) (fun h => h) (fun _ => by simpa using hl0)
  | cons p l ih =>
    obtain ⟨h0, h1, h64⟩ := hw p (by simp)
    have hw' : Wf S.size l := fun q hq => hw q (by simp [hq])
    rw [DiskS.wrs_cons]
    rcases wr_cases S hoff p.1 p.2 h0 h1 h64 with ⟨hf, he⟩ | ⟨hf, hl, he⟩ | ⟨hf, hl, he⟩
    · rw [he, if_pos rfl]
      have := ih { S with blk := updL S.blk p.1 p.2, writes := S.writes + 1 } hoff hl0 hw'
      generalize DiskS.wrs { S with blk := updL S.blk p.1 p.2, writes := S.writes + 1 } l = r at this
      obtain ⟨x, S'⟩ := r
      cases this with
      | all _ a b c d e f g => exact .all _ a b c d (by rw [e]; simp; omega) (fun _ => f hf) (fun h => by rw [hf] at h; cases h)
      | cut k _ hk a b c d e f _ _ => simp only at f; rw [hf] at f; cases f
    · rw [he, if_pos rfl]
      have := ih { S with left := S.left - 1, blk := updL S.blk p.1 p.2, writes := S.writes + 1 } hoff (by simp only; omega) hw'
      generalize DiskS.wrs { S with left := S.left - 1, blk := updL S.blk p.1 p.2, writes := S.writes + 1 } l = r at this
      obtain ⟨x, S'⟩ := r
      cases this with
      | all _ a b c d e f g => exact .all _ a b c d (by rw [e]; simp; omega) (fun h => by rw [hf] at h; cases h) (fun h => by have := g hf; simp at this ⊢; omega)
      | cut k _ hk a b c d e f g h => exact .cut (k + 1) _ (by simp; omega) a b c (by rw [d]; rfl) (by rw [e]; push_cast; omega) hf (by simp only at g; omega) h
    · rw [he, if_neg (by simp)]
      exact .cut 0 _ (by simp) rfl rfl rfl rfl (by simp) hf (by simp [hl]) rfl

/-- No fuse: all is done. -/
theorem wrs_free (S : DiskS) (hoff : S.off = false) (hf : S.fused = false) (hl0 : 0 ≤ S.left) (l : List PutL) (hw : Wf S.size l) :
    (S.wrs l).1 = 0 ∧ (S.wrs l).2.off = false ∧ (S.wrs l).2.size = S.size ∧ (S.wrs l).2.m = S.m ∧ (S.wrs l).2.blk = applyL S.blk l ∧ (S.wrs l).2.writes = S.writes + l.length ∧ (S.wrs l).2.fused = false := by
  have := wrs_cut S hoff hl0 l hw
  generalize S.wrs l = r at this
  obtain ⟨x, S'⟩ := r
  cases this with
  | all _ a b c d e f g => exact ⟨rfl, a, b, c, d, e, f hf⟩
  | cut k _ hk a b c d e f _ _ => rw [hf] at f; cases f

theorem flatL_congr {S T : DiskS} {at_ k : Nat} (h : ∀ i : Nat, i < k → S.blk ((at_ : Int) + 1 + i) = T.blk ((at_ : Int) + 1 + i)) : flatL S at_ k = flatL T at_ k := by
  induction k with
  | zero => rfl
  | succ k ih => rw [flatL, flatL, ih (fun i hi => h i (by omega)), h k (by omega)]

theorem flat_take {S : DiskS} {at_ n : Nat} {M : List UInt8} (h : ∀ i : Nat, i < n → S.blk ((at_ : Int) + 1 + i) = blkOf M i) (k : Nat) (hk : k ≤ n) : flatL S at_ k = M.take (k * 64) := by
  induction k with
  | zero => simp [flatL]
  | succ k ih =>
    rw [flatL, ih (by omega), h k (by omega), blkOf, show (k + 1) * 64 = k * 64 + 64 by omega, List.take_add]
theorem flat_all {S : DiskS} {at_ n : Nat} {M : List UInt8} (hM : M.length = n * 64) (h : ∀ i : Nat, i < n → S.blk ((at_ : Int) + 1 + i) = blkOf M i) : flatL S at_ n = M := by
  rw [flat_take h n (Nat.le_refl _), ← hM, List.take_length]

theorem unpack_pack {M : List UInt8} {at_ : Nat} {size : Int} {l : List PutL} (hs : size ≤ 4096) (hg : Grp at_ size l) (hp : PackK M (tabN l.length) l l.length) : unpackL M l.length = l := by
  apply List.ext_getElem
  · rw [unpackL_length]
  · intro k h1 h2
    rw [unpackL_get]
    obtain ⟨p1, p2, p3⟩ := hp k h2 h2
    obtain ⟨q1, q2, q3, _⟩ := hg.each _ (List.getElem_mem h2)
    have e1 : numM M k = l[k].1.toNat := by
      unfold numM
      rw [List.getD_eq_getElem?_getD, List.getD_eq_getElem?_getD, p1, p2]
      simp [hiB, loB]; omega
    have e2 : blkOf M (tabN l.length + k) = l[k].2 := by
      apply List.ext_getElem?
      intro q
      unfold blkOf
      by_cases hq : q < 64
      · rw [List.getElem?_take_of_lt hq, List.getElem?_drop]; exact p3 q hq
      · rw [List.getElem?_eq_none (by simp; omega), List.getElem?_eq_none (by omega)]
    rw [e1, e2]
    ext
    · simp only; omega
    · rfl

/-- Outside the journal. -/
def Out (at_ : Nat) (i : Int) : Prop := ¬ ((at_ : Int) ≤ i ∧ i < at_ + 199)

/-- A disk with a journal at which no group is at hand. -/
def Ready (S : DiskS) (at_ g : Nat) : Prop := S.blk at_ = encL at_ g 0 false
/-- A disk with a journal that owes the group l. -/
structure Owes (S : DiskS) (at_ g : Nat) (l : List PutL) : Prop where
  head : S.blk at_ = encL at_ g l.length true
  grp : Grp at_ S.size l
  flat : unpackL (flatL S at_ (spanN l.length)) l.length = l

theorem spanN_le {n : Nat} (h : n ≤ 192) : spanN n ≤ 198 := by unfold spanN tabN; omega

theorem grp_out {at_ : Nat} {size : Int} {l : List PutL} (hg : Grp at_ size l) {i : Int} (hi : (at_ : Int) ≤ i ∧ i < at_ + 199) : ∀ p ∈ l, p.1 ≠ i := fun p hp e => (hg.each p hp).2.2.2 (e ▸ hi)

theorem storeL_mem {at_ n : Nat} {M : List UInt8} {p : PutL} (h : p ∈ storeL at_ M n) : ∃ i : Nat, i < n ∧ p = ((at_ : Int) + 1 + i, blkOf M i) := by
  simp only [storeL, List.mem_map, List.mem_range] at h
  obtain ⟨i, hi, rfl⟩ := h
  exact ⟨i, hi, rfl⟩
theorem storeL_nodup (at_ n : Nat) (M : List UInt8) : ((storeL at_ M n).map (·.1)).Nodup := by
  simp only [storeL, List.map_map]
  exact List.pairwise_map.2 ((List.nodup_range (n := n)).imp (fun h e => h (by simp at e; omega)))

theorem cmt_wf {size : Int} {at_ g : Nat} {M : List UInt8} {l : List PutL} (hg : Grp at_ size l) (hat : (at_ : Int) + 199 ≤ size) (hM : M.length = spanN l.length * 64) : Wf size (cmtL at_ g M l) := by
  have hsp := spanN_le hg.len
  intro p hp
  unfold cmtL at hp
  rcases List.mem_append.1 hp with h | h
  · obtain ⟨i, hi, rfl⟩ := storeL_mem h
    refine ⟨by simp only; omega, by simp only; omega, blkOf_length (by rw [hM]; omega)⟩
  · rcases List.mem_cons.1 h with rfl | h
    · exact ⟨by simp only; omega, by simp only; omega, encL_length _ _ _ _⟩
    · rcases List.mem_append.1 h with h | h
      · have := hg.each p h
        exact ⟨this.1, this.2.1, this.2.2.1⟩
      · simp at h
        subst h
        exact ⟨by simp only; omega, by simp only; omega, encL_length _ _ _ _⟩
theorem prf_wf {size : Int} {at_ g : Nat} {l : List PutL} (hg : Grp at_ size l) (hat : (at_ : Int) + 199 ≤ size) : Wf size (l ++ [((at_ : Int), encL at_ g 0 false)]) := by
  intro p hp
  rcases List.mem_append.1 hp with h | h
  · have := hg.each p h
    exact ⟨this.1, this.2.1, this.2.2.1⟩
  · simp at h
    subst h
    exact ⟨by simp only; omega, by simp only; omega, encL_length _ _ _ _⟩

theorem Owes.congr {S T : DiskS} {at_ g : Nat} {l : List PutL} (h : Owes S at_ g l) (hs : T.size = S.size) (hb : ∀ i : Int, (at_ : Int) ≤ i ∧ i < at_ + 199 → T.blk i = S.blk i) : Owes T at_ g l := by
  have hsp := spanN_le h.grp.len
  refine ⟨by rw [hb _ (by omega)]; exact h.head, by rw [hs]; exact h.grp, ?_⟩
  rw [flatL_congr (T := S) (fun i hi => hb _ (by omega))]
  exact h.flat

/-- What a group that is at hand leaves, wherever the power goes off while it is done. f0: what the blocks had ahead of it. -/
theorem perform_cut {S S' : DiskS} {at_ g : Nat} {l : List PutL} {x : Int} (f0 : Int → List UInt8) (ho : Owes S at_ g l) (hmid : ∀ i, Out at_ i → (∀ p ∈ l, p.1 ≠ i) → S.blk i = f0 i)
    (hc : Cut S (l ++ [((at_ : Int), encL at_ (g + 1) 0 false)]) x S') :
    (x = 0 ∧ Ready S' at_ (g + 1) ∧ ∀ i, Out at_ i → S'.blk i = applyL f0 l i) ∨ (x = 2 ∧ Owes S' at_ g l ∧ ∀ i, Out at_ i → (∀ p ∈ l, p.1 ≠ i) → S'.blk i = f0 i) := by
  cases hc with
  | all _ a b c d e f gg =>
    refine .inl ⟨rfl, ?_, fun i hi => ?_⟩
    · unfold Ready
      rw [d, applyL_append]
      simp [applyL, updL]
    · rw [d, applyL_append]
      simp only [applyL, updL]
      rw [if_neg (by unfold Out at hi; omega)]
      exact applyL_mid (fun h => hmid i hi h)
  | cut k _ hk a b c d e f _ _ =>
    have hk' : k ≤ l.length := by simp at hk; omega
    rw [List.take_append_of_le_length hk'] at d
    refine .inr ⟨rfl, ho.congr b (fun i hi => ?_), fun i hi hn => ?_⟩
    · rw [d]
      exact applyL_other (fun p hp => grp_out ho.grp hi p (List.mem_of_mem_take hp))
    · rw [d, applyL_other (fun p hp => hn p (List.mem_of_mem_take hp))]
      exact hmid i hi hn

theorem commit_cut {S S' : DiskS} {at_ g : Nat} {M : List UInt8} {l : List PutL} {x : Int} (hr : Ready S at_ g) (hs : S.size ≤ 4096) (hg : Grp at_ S.size l) (hp : PackK M (tabN l.length) l l.length) (hM : M.length = spanN l.length * 64)
    (hc : Cut S (cmtL at_ g M l) x S') :
    (x = 0 ∧ Ready S' at_ (g + 1) ∧ ∀ i, Out at_ i → S'.blk i = applyL S.blk l i) ∨
    (x = 2 ∧ Ready S' at_ g ∧ ∀ i, Out at_ i → S'.blk i = S.blk i) ∨
    (x = 2 ∧ Owes S' at_ g l ∧ ∀ i, Out at_ i → (∀ p ∈ l, p.1 ≠ i) → S'.blk i = S.blk i) := by
  have hsp := spanN_le hg.len
  -- what was laid into the journal
  have hst : ∀ i : Nat, i < spanN l.length → applyL S.blk (storeL at_ M (spanN l.length)) ((at_ : Int) + 1 + i) = blkOf M i := fun i hi =>
    applyL_get (storeL_nodup _ _ _) (p := ((at_ : Int) + 1 + i, blkOf M i)) (by
      simp only [storeL, List.mem_map, List.mem_range]
      exact ⟨i, hi, rfl⟩)
  have hsto : ∀ (k : Nat) i, Out at_ i ∨ i = at_ → applyL S.blk ((storeL at_ M (spanN l.length)).take k) i = S.blk i := fun k i hi =>
    applyL_other (fun p hp e => by
      obtain ⟨q, hq, rfl⟩ := storeL_mem (List.mem_of_mem_take hp)
      simp only at e
      unfold Out at hi
      omega)
  cases hc with
  | all _ a b c d e f gg =>
    refine .inl ⟨rfl, ?_, fun i hi => ?_⟩
    · unfold Ready
      rw [d, cmtL, applyL_append, applyL, applyL_append]
      simp [applyL, updL]
    · rw [d, cmtL, applyL_append, applyL, applyL_append]
      simp only [applyL, updL]
      have hne : ¬ i = (at_ : Int) := by unfold Out at hi; omega
      rw [if_neg hne]
      refine applyL_mid (fun _ => ?_)
      rw [updL, if_neg hne]
      have := hsto (spanN l.length) i (.inl hi)
      rwa [List.take_of_length_le (by rw [storeL_length]; omega)] at this
  | cut k _ hk a b c d e f _ _ =>
    right
    by_cases h1 : k ≤ spanN l.length
    · left
      rw [cmtL, List.take_append_of_le_length (by rw [storeL_length]; exact h1)] at d
      refine ⟨rfl, ?_, fun i hi => ?_⟩
      · unfold Ready
        rw [d, hsto k _ (.inr rfl)]; exact hr
      · rw [d, hsto k i (.inl hi)]
    · right
      obtain ⟨q, hq⟩ : ∃ q, k = spanN l.length + (q + 1) := ⟨k - spanN l.length - 1, by omega⟩
      have hql : q ≤ l.length := by
        simp only [cmtL, List.length_append, storeL_length, List.length_cons, List.length_nil] at hk
        omega
      have ht : (cmtL at_ g M l).take k = storeL at_ M (spanN l.length) ++ (((at_ : Int), encL at_ g l.length true) :: l.take q) := by
        rw [cmtL, List.take_append, List.take_of_length_le (by rw [storeL_length]; omega), storeL_length, hq, show spanN l.length + (q + 1) - spanN l.length = q + 1 by omega, List.take_succ_cons, List.take_append_of_le_length hql]
      rw [ht, applyL_append, applyL] at d
      have hat : ∀ i, (at_ : Int) ≤ i ∧ i < at_ + 199 → S'.blk i = updL (applyL S.blk (storeL at_ M (spanN l.length))) at_ (encL at_ g l.length true) i := fun i hi => by
        rw [d]
        exact applyL_other (fun p hp => grp_out hg hi p (List.mem_of_mem_take hp))
      refine ⟨rfl, ⟨?_, by rw [b]; exact hg, ?_⟩, fun i hi hn => ?_⟩
      · rw [hat _ (by omega)]
        simp [updL]
      · rw [flat_all (M := M) hM]
        · exact unpack_pack hs hg hp
        · intro i hi
          rw [hat _ (by omega), updL, if_neg (by omega)]
          exact hst i hi
      · rw [d, applyL_other (fun p hp => hn p (List.mem_of_mem_take hp)), updL, if_neg (by unfold Out at hi; omega)]
        have := hsto (spanN l.length) i (.inl hi)
        rwa [List.take_of_length_le (by rw [storeL_length]; omega)] at this
end Go.Proofs.Ytmckapfncnoddaa

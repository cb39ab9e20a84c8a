/-
  Layer 8: fewer edges, one edge more, the edges of a cycle; parts of a slice of edges. No walk.
  Conditions: those that each theorem states.
-/
import Derived.Test.YtpdngekolhcndaaGApp
import Derived.Test.YtpdngekolhcndaaGBehW
namespace Go.Proofs.Ytpdngekolhcndaa
open Go.RowKit Go.Maps

theorem ordE_zero {n : Int} {L : List Edg} (h : ordE n L = 0) : GOk n L ∧ ∃ r, ordO n.toNat (adjL L) = some r := by
  unfold ordE at h
  split at h
  · rename_i hg
    refine ⟨hg, ?_⟩
    cases ho : ordO n.toNat (adjL L) with
    | none => rw [ho] at h; cases h
    | some r => exact ⟨r, rfl⟩
  · cases h
theorem ordE_rank {n : Int} {L : List Edg} (hg : GOk n L) (f : Nat → Nat) (hf : RankOk n.toNat (adjL L) f) : ordE n L = 0 := by
  obtain ⟨r, hr⟩ := ordO_rank f hf
  unfold ordE
  rw [if_pos hg, hr]; rfl
theorem ordE_noRank {n : Int} {L : List Edg} (hg : GOk n L) (hf : ∀ f, ¬ RankOk n.toNat (adjL L) f) : ordE n L = 80 := by
  unfold ordE
  rw [if_pos hg]
  cases ho : ordO n.toNat (adjL L) with
  | none => rfl
  | some r => exact absurd (ordO_some ho).2.2.2.2 (hf _)
theorem sub_yes {n : Int} {L B : List Edg} (h : ordE n L = 0) (hs : ∀ x ∈ B, x ∈ L) : ordE n B = 0 := by
  obtain ⟨hg, r, hr⟩ := ordE_zero h
  have hB : GOk n B := ⟨hg.1, fun x hx => hg.2 x (hs x hx)⟩
  refine ordE_rank hB _ (fun i j hi hj ha => (ordO_some hr).2.2.2.2 i j hi hj ?_)
  obtain ⟨x, hx, e⟩ := adjL_iff.1 ha
  exact adjL_iff.2 ⟨x, hs x hx, e⟩
/-- A cycle's edges. -/
def cycE (c : List Nat) : List Edg := (List.range c.length).map fun i => ⟨(c.getD i 0 : Int), (c.getD ((i + 1) % c.length) 0 : Int), false⟩
theorem cycE_length (c : List Nat) : (cycE c).length = c.length := by simp [cycE]
theorem cycE_get (c : List Nat) (i : Nat) (hi : i < (cycE c).length) : (cycE c)[i] = ⟨(c.getD i 0 : Int), (c.getD ((i + 1) % c.length) 0 : Int), false⟩ := by simp [cycE]
theorem cyc_no {n : Int} {L : List Edg} {c : List Nat} (hg : GOk n L) (hc : Cyc (adjL L) c) (hl : ∀ i ∈ c, i < n.toNat) : ordE n (cycE c) = 80 := by
  have hm : ∀ k, k < c.length → c.getD k 0 ∈ c := fun k hk => by
    rw [List.getD_eq_getElem?_getD, List.getElem?_eq_getElem hk]
    exact List.getElem_mem hk
  have hB : GOk n (cycE c) := by
    refine ⟨hg.1, fun x hx => ?_⟩
    unfold cycE at hx
    rw [List.mem_map] at hx
    obtain ⟨i, hi, rfl⟩ := hx
    have hi2 : i < c.length := by simpa using hi
    have h1 := hl _ (hm i hi2)
    have h2 := hl _ (hm ((i + 1) % c.length) (Nat.mod_lt _ hc.ne))
    unfold EdOk
    show 0 ≤ ((c.getD i 0 : Nat) : Int) ∧ ((c.getD i 0 : Nat) : Int) < n ∧ 0 ≤ ((c.getD ((i + 1) % c.length) 0 : Nat) : Int) ∧ ((c.getD ((i + 1) % c.length) 0 : Nat) : Int) < n
    omega
  have hcy : Cyc (adjL (cycE c)) c := by
    refine ⟨hc.ne, hc.nodup, fun k hk => adjL_iff.2 ⟨_, List.getElem_mem (by rw [cycE_length]; exact hk : k < (cycE c).length), ?_⟩⟩
    rw [cycE_get]
    have hk2 := Nat.mod_lt (k + 1) hc.ne
    refine ⟨?_, ?_⟩
    · show ((c.getD k 0 : Nat) : Int) = _
      rw [List.getD_eq_getElem?_getD, List.getElem?_eq_getElem hk]; rfl
    · show ((c.getD ((k + 1) % c.length) 0 : Nat) : Int) = _
      rw [List.getD_eq_getElem?_getD, List.getElem?_eq_getElem hk2]; rfl
  exact ordE_noRank hB fun f hf => hcy.noRank hl f hf
theorem EsIs.take {w : World} {ao : Option Addr} {m cap : Nat} {L : List Edg} (h : EsIs w (.slice ao m cap) L) (hm : L.length = m) (i : Nat) (hi : i ≤ m) : EsIs w (.slice ao i cap) (L.take i) := by
  obtain ⟨⟨ao', cap', e, h2, h3, h4, h5⟩, h6⟩ := h
  injection e with e1 e2 e3
  subst e1 e3
  have hl : (L.take i).length = i := by rw [List.length_take]; omega
  refine ⟨⟨ao, cap, by rw [hl], by omega, h3, h4, ?_⟩, by omega⟩
  rcases h5 with h5 | ⟨b, o, rfl, hb, hr⟩
  · exact .inl (by omega)
  · refine .inr ⟨b, o, rfl, hb, fun q u hu => hr q u ?_⟩
    have e : ecv L = ecv (L.take i) ++ ecv (L.drop i) := by rw [← ecv_append, List.take_append_drop]
    rw [e, List.getElem?_append_left (List.getElem?_eq_some_iff.1 hu).1]
    exact hu
theorem EsIs.drop {w : World} {b o m cap : Nat} {L : List Edg} (h : EsIs w (.slice (some ⟨b, o, none⟩) m cap) L) (hm : L.length = m) (i : Nat) (hi : i ≤ m) : EsIs w (.slice (some ⟨b, o + i * 3, none⟩) (m - i) (cap - i)) (L.drop i) := by
  obtain ⟨⟨ao', cap', e, h2, h3, h4, h5⟩, h6⟩ := h
  injection e with e1 e2 e3
  subst e1 e3
  have hl : (L.drop i).length = m - i := by rw [List.length_drop]; omega
  refine ⟨⟨_, _, by rw [hl], by omega, by omega, fun e => (by cases e), ?_⟩, by omega⟩
  rcases h5 with h5 | ⟨b', o', e, hb, hr⟩
  · exact .inl (by omega)
  · injection e with e
    injection e with e1 e2
    subst e1 e2
    refine .inr ⟨b, _, rfl, hb, fun q u hu => ?_⟩
    have e : ecv L = ecv (L.take i) ++ ecv (L.drop i) := by rw [← ecv_append, List.take_append_drop]
    have hi3 : (ecv (L.take i)).length = i * 3 := by rw [ecv_length, List.length_take]; omega
    have := hr (i * 3 + q) u (by rw [e, List.getElem?_append_right (by omega), hi3, show i * 3 + q - i * 3 = q by omega]; exact hu)
    rw [show o + i * 3 + q = o + (i * 3 + q) by omega]
    exact this
theorem EsIs.none0 (w : World) (ao : Option Addr) (cap : Nat) (h : ao = none → cap = 0) (hc : cap ≤ 9223372036854775807) : EsIs w (.slice ao 0 cap) [] := ⟨⟨ao, cap, rfl, by simp, hc, h, .inl rfl⟩, by simp⟩
theorem normI8 (n : Int) (hb : -9223372036854775808 ≤ n ∧ n ≤ 9223372036854775807) : ∃ I : Nat, (if n < 0 then -(n + 1) else n) = (I : Int) ∧ I ≤ 9223372036854775807 := by
  refine ⟨(if n < 0 then -(n + 1) else n).toNat, by split <;> omega, by split <;> omega⟩
end Go.Proofs.Ytpdngekolhcndaa

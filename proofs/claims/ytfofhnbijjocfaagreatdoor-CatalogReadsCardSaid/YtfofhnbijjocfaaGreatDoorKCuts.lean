/-
  Layer 7: the walk of CatalogCuts.
  Conditions: those that each theorem states.
-/
import Derived.Test.YtfofhnbijjocfaaGreatDoorKShown
import Derived.Deep.DeepCutAuto
namespace Go.Proofs.YtfofhnbijjocfaaGreatDoor
open Go.RowKit Go.Maps
set_option maxRecDepth 100000

/-- Bytes of the call's own, as a slice that is read. -/
theorem OwnB.arg {base : Nat} {w : World} {v : Value} {L : List UInt8} (h : OwnB base w v L) (hl : L.length ≤ 140737488355328) : ∃ ao cap, v = .slice ao L.length cap ∧ ArgB w ao L.length cap L := by
  rcases owns_range h with ⟨g, cap, rfl, _, hg, hc, hm, hr⟩ | ⟨rfl, hn, _⟩
  · exact ⟨_, _, rfl, rfl, hl, hc, by unfold maxLen at hm; omega, fun e => (by cases e), .inr ⟨g, 0, rfl, hg, hr⟩⟩
  · exact ⟨_, _, by rw [hn], rfl, hl, by omega, by omega, fun _ => rfl, .inl hn⟩
/-- A slice that is read is appended to bytes of the call's own. -/
theorem kapp_arg (base : Nat) (w : World) (v : Value) (L B : List UInt8) (ao : Option Addr) (len cap : Nat) (hown : OwnB base w v L) (hb : base ≤ w.heap.size) (h : ArgB w ao len cap B) (hl : L.length + len ≤ 140737488355328) :
    ∃ v' w', (Builtin.append_ #[28, 28] 28 #[v, .slice ao len cap]).run Tryz.prog w = .ok v' w' ∧ OwnB base w' v' (L ++ B) ∧ Kept v.ownBlock.toList w w' := by
  have go : ∀ ad, (∀ j u, (bv B)[j]? = some u → w.cell? (Addr.add ad j) = some u) → ao = some ad → ∃ v' w', (Builtin.append_ #[28, 28] 28 #[v, .slice ao len cap]).run Tryz.prog w = .ok v' w' ∧ OwnB base w' v' (L ++ B) ∧ Kept v.ownBlock.toList w w' := by
    rintro ad hsrc rfl
    obtain ⟨v', w', hrun, ho, hk, _⟩ := own_app elemByte 28 w base v L.length (bv L) hown ad len cap (bv B) (by rw [bv_length, h.hlen]; omega) hsrc (bv_one _) (by unfold maxLen; omega) (by omega) hb
    refine ⟨v', w', hrun, ?_, hk⟩
    unfold OwnB
    rw [List.length_append, h.hlen, show bv (L ++ B) = bv L ++ bv B by simp [bv]]
    exact ho
  rcases h.at' with h0 | ⟨b, o, rfl, hbl, hr⟩
  · have hB : B = [] := List.eq_nil_of_length_eq_zero (by rw [h.hlen, h0])
    cases ao with
    | some ad => exact go ad (fun j u hu => by rw [hB] at hu; simp [bv] at hu) rfl
    | none =>
      obtain ⟨i, hi, _, hsz, _⟩ := info_parts elemByte.info
      have hrun := run_append_owned_none (P := Tryz.prog) (w := w) base 28 28 5 i 1 Tryz.underlying28 hi v L.length (bv L) hown
      rw [h0, h.hnil rfl, hB, List.append_nil]
      exact ⟨_, _, hrun, hown, Kept.refl _ _⟩
  · exact go ⟨b, o, none⟩ (fun j u hu => by rw [Addr.add_mid]; exact hr j u hu) rfl

theorem decE_none {B : List UInt8} (h : decO B = none) : decE B = 70 := by unfold decE; rw [h]
theorem catB_pos (c : Cat) : 0 < (catB c).length := by simp [catB, two]

end Go.Proofs.YtfofhnbijjocfaaGreatDoor

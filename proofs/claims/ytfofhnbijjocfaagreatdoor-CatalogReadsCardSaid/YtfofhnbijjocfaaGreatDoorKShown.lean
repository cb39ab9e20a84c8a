/-
  Layer 7: the document's Find; the examples at the head of all statements.
  Conditions: those that each theorem states.
-/
import Derived.Test.YtfofhnbijjocfaaGreatDoorKDecode
namespace Go.Proofs.YtfofhnbijjocfaaGreatDoor
open Go.RowKit Go.Maps
set_option maxRecDepth 100000

def cat1 : Cat := ⟨0, [110, 49], [], []⟩
def cat2 : Cat := ⟨0, [110, 49], [⟨nFile, [47, 97], []⟩], []⟩
theorem cat1_ok : checkO cat1 = 0 := by decide +kernel
theorem cat1_enc : encL cat1 = [0, 0, 0, 2, 110, 49, 0, 0] := by decide +kernel
theorem cat2_no : checkO cat2 = 70 := by decide +kernel
theorem dec_nil : decE [] = 70 := rfl
theorem cat1_is (w : World) : CatIs w (.agg #[.int .i64 0, .string ⟨#[110, 49]⟩, .slice none 0 0, .slice none 0 0]) cat1 := ⟨⟨_, _, rfl, RsIs.nil _, EsIs.nil _⟩, by decide⟩
theorem cat2_is (w : World) (g : Nat) (h : w.heap[g]? = some (.cells #[.string ⟨#[102, 105, 108, 101]⟩, .string ⟨#[47, 97]⟩, .slice none 0 0] 40)) : CatIs w (.agg #[.int .i64 0, .string ⟨#[110, 49]⟩, .slice (some ⟨g, 0, none⟩) 1 1, .slice none 0 0]) cat2 := by
  refine ⟨⟨_, _, rfl, ⟨⟨some ⟨g, 0, none⟩, 1, [.slice none 0 0], rfl, by decide, by decide, fun e => (by cases e), ⟨rfl, fun i hi hv => ?_⟩, .inr ⟨g, 0, rfl, (Array.getElem?_eq_some_iff.1 h).1, fun j u hu => ?_⟩⟩, by decide, fun r hr => ?_⟩, EsIs.nil _⟩, by decide⟩
  · have : i = 0 := by simp at hv; exact hv
    subst this
    exact PsIs.nil w
  · rw [Nat.zero_add, cell_of_row _ _ j _ _ _ h]
    simpa [rcv, cat2, strL, nFile] using hu
  · simp [cat2] at hr
    subst hr
    exact ⟨by decide, by decide⟩

set_option maxRecDepth 100000 in
set_option maxHeartbeats 4000000 in
theorem shown7_any (w : World) (ht : TysIs w) : Calls Tryz.prog 5 #[] w fun e w' => e = .returned (.bool true) ∧ Kept [] w w' := by
  have HTY := Lib.hid ht
  have H1 : Hid (Calls Tryz.prog 7 #[.agg #[.int .i64 0, .string ⟨#[110, 49]⟩, .slice none 0 0, .slice none 0 0]] w (EncOut cat1 w)) := Encode_any cat1 _ w (cat1_is w) ht
  clear ht
  go_enter Tryz.func5, Tryz.ntmps5
  go_wp2_with fail
  refine H1.out.mono ?_
  rintro e w2 ⟨v2, rfl, H2⟩
  rw [cat1_ok]
  rw [cat1_enc] at H2
  obtain ⟨ga, gn, gk, rfl⟩ : ∃ ga gn gk, v2 = .slice ga gn gk := by obtain ⟨x, y, e, _⟩ := H2.out.1.val; exact ⟨x, _, y, e⟩
  obtain ⟨w3, hw3⟩ : ∃ w3, w2.alloc (.cells #[.string ⟨#[102, 105, 108, 101]⟩, .string ⟨#[47, 97]⟩, .slice none 0 0] 40) = w3 := ⟨_, rfl⟩
  have HA3 : Hid (Kept [] w2 w3 ∧ w3.heap[w2.heap.size]? = some (.cells #[.string ⟨#[102, 105, 108, 101]⟩, .string ⟨#[47, 97]⟩, .slice none 0 0] 40)) := ⟨by rw [← hw3]; exact Kept.alloc _ _ _, by rw [← hw3]; exact heap_alloc_last _ _⟩
  have HK3 : Hid (Kept [] w w3) := H2.out.2.trans HA3.out.1
  have HCK := Lib.hid (Check_any cat2 _ w3 (cat2_is w3 _ HA3.out.2) (HTY.out.kept HK3.out))
  go_wp2_with fail
  refine HCK.out.mono ?_
  rw [cat2_no]
  rintro e w4 ⟨rfl, hk4⟩
  have HK4 : Hid (Kept [] w w4 ∧ Kept [] w2 w4) := ⟨HK3.out.trans hk4, HA3.out.1.trans hk4⟩
  clear hk4 hw3
  have HDN : Hid (Calls Tryz.prog 12 #[.slice none 0 0] w4 (DecodeOut [] w4)) := Decode_any [] none 0 0 w4 ⟨rfl, by omega, by omega, by omega, fun _ => rfl, .inl rfl⟩ (HTY.out.kept HK4.out.1)
  go_wp2_with fail
  refine HDN.out.mono ?_
  rintro e w5 ⟨v5, rfl, H5⟩
  rw [dec_nil]
  obtain ⟨ra, rc, ea, ec, rfl, _⟩ := H5.out.1.is.box
  generalize (decC []).ver = z1
  generalize strL (decC []).node = z2
  generalize (decC []).R.length = z3
  generalize (decC []).E.length = z4
  have HK6 : Hid (Kept [] w2 (w5.alloc (.cells #[.int .i64 z1, .string z2, .slice ra z3 rc, .slice ea z4 ec] 25))) := (HK4.out.2.trans H5.out.2).trans (Kept.alloc _ _ _)
  have hcv : (convert 28 9 (.slice ga gn gk)).run Tryz.prog (w5.alloc (.cells #[.int .i64 z1, .string z2, .slice ra z3 rc, .slice ea z4 ec] 25)) = .ok (.string (strL [0, 0, 0, 2, 110, 49, 0, 0])) (w5.alloc (.cells #[.int .i64 z1, .string z2, .slice ra z3 rc, .slice ea z4 ec] 25)) := (H2.out.1.kept HK6.out (by simp)).slIs.conv
  have q1 : ((strL [0, 0, 0, 2, 110, 49, 0, 0]).toList == [0, 0, 0, 2, 110, 49, 0, 0]) = true := by rw [strL_bytes]; rfl
  go_wp2_with fail
  go_ret
  exact ⟨rfl, H2.out.2.trans HK6.out⟩
end Go.Proofs.YtfofhnbijjocfaaGreatDoor

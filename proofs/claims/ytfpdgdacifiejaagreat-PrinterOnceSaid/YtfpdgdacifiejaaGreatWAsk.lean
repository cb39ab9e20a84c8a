/-
  Layer 13: what Print answers; read, printed, cut, read again.
  Conditions: those that each theorem states.
-/
import Derived.Test.YtfpdgdacifiejaaGreatWLs
import Derived.Test.YtfpdgdacifiejaaGreatWSame
import Derived.Test.YtfpdgdacifiejaaGreatULex
namespace Go.Proofs.YtfpdgdacifiejaaGreat
open Go.RowKit Go.Maps

/-- What is printed of a manifest. -/
def prtO (b : SlT) : List UInt8 := if 65536 < (b.txt []).length then [] else b.txt []
def prtE (b : SlT) : Nat := if 65536 < (b.txt []).length then 5 else 0
/-- Print, as a contract: of a tree that words were read as. -/
def PrC : Prop := ∀ (v : Value) (b : SlT) (w : World), b.Ok TkC → (topL b).length ≤ 1024 → depN (topL b) ≤ 32 → NdIs w v (topL b) →
  Calls Tryz.prog 9 #[.agg #[v]] w fun e w' => e = .returned (.tuple #[.string (strL (prtO b)), .int .i64 (prtE b : Int)]) ∧ Kept [] w w'
/-- The document's examples hold. -/
def ShP : Prop := ∀ w : World, Calls Tryz.prog 6 #[] w fun e w' => e = .returned (.bool true) ∧ Kept [] w w'
theorem bl_strL (l : List UInt8) : bl (strL l) = l := by
  show (strL l).data.toList = l
  simp [strL]
theorem back_all {l : List Tok} (h : (parO l).2.2 = 0) (hw : ∀ w ∈ l, TkC w) :
    ∃ b : SlT, b.Ok TkC ∧ (topL b).length ≤ 1024 ∧ depN (topL b) ≤ 32 ∧ parO l = (topL b, 0, 0) ∧ (lexL (b.txt []) 0).2 = none ∧ parO ((lexL (b.txt []) 0).1.map tkW) = (topL b, 0, 0) := by
  obtain ⟨b, h1, h2, h3, h4⟩ := par_tree TkC h hw
  obtain ⟨h5, h6⟩ := top_lx b (SlT.okm (fun _ ht => ht.ok) b h1)
  refine ⟨b, h1, h3, h4, ?_, h5, by rw [h6]; exact par_back h1 h3 h4⟩
  have h7 : (parO l).2.1 = 0 := by
    unfold parO at h ⊢
    by_cases c : 4096 < l.length
    · rw [if_pos c] at h; cases h
    · rw [if_neg c] at h ⊢
      cases hq : topF (stmtF 5000) 5000 [] ⟨l, []⟩ with
      | err r => rw [hq] at h; cases h
      | ok s a =>
        rw [hq] at h
        simp only at h ⊢
        by_cases d : 1024 < s.ns.length ∨ 32 < depN s.ns
        · rw [if_pos d]
        · rw [if_neg d]
  exact Prod.ext h2 (Prod.ext h7 h)
theorem lxW_tk (L : List UInt8) : ∀ w ∈ (lxW L).map tkW, TkC w := by
  unfold lxW
  split
  · simp
  · split
    · exact fun w hw => lxW_tkc L w hw (by omega)
    · simp
theorem lx_of {L : List UInt8} (h : (lexL L 0).2 = none) (hl : L.length ≤ 65536) : lxW L = (lexL L 0).1 ∧ lxE L = 0 := by
  have h0 : ¬ 65536 < L.length := by omega
  unfold lxW lxE
  rw [if_neg h0, if_neg h0, if_pos h, if_pos h]
  exact ⟨rfl, rfl⟩
end Go.Proofs.YtfpdgdacifiejaaGreat

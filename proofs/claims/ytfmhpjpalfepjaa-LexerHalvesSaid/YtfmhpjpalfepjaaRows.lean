/-
  No cell of these rows narrows 'for every input' (looked for: loops, veiled, ifaces, maps, wideKeys, modest, calm, conditions, laid).
  DERIVED. THE GIVEN ROWS OF THIS SEAT. 5 by the template 'for every input the law returns true; each argument reads behind the call as it read before'; 0 by the template 'total and deterministic' (their statements: YtfmhpjpalfepjaaTotals.lean).
  GIVEN WITH THE SEED: the statements are not yours to turn. If you find one false, say at which input.
  Laid BY PROGRAM, IN A SANDBOX (cutbox-rows.mjs): the forced cells as the released guide's own fill.sh prints them over the translation 577413874e916a4e… (all of the seat's roots in one cut). By AI agents, Wed Nov 11 2026. No macro, syntax, notation, axiom, sorry.
-/
import Derived.Test.YtfmhpjpalfepjaaChecked
import GoSem.Claim
import GoSem.ClaimJoined
import GoSem.ClaimMapViews
import Derived.JoinedTies
import Derived.KernelRfl
namespace Go.Proofs.Ytfmhpjpalfepjaa
/- THE CELL 'sum', in the pinned program and in every row, IS THE sha256 OF THE DUMP (.gsa) THAT YtfmhpjpalfepjaaProg.lean LOADS. Nothing in Lean hashes anything: it is a label: what it is worth is what the hold of that sum in a sandbox is worth. -/
noncomputable def Try.pinned : Pinned := { name := "ytfmhpjpalfepjaa", sum := "577413874e916a4e9400132d2382ff961297e25d21680311ea179685e44ff339", checked := Try.checked }
namespace Rows
def none {H : Type} : Left H := { results := [], args := [] }

/-- 'majordomolaw11.LexerCuts': WHATEVER THE INPUT: true; the input reads as it did. -/
def lexerCutsSpec : ChangeSpec := { name := "lexerCuts", fn := fun _ => fun
  | [d] => { results := [.lit (.bool true)], args := [d] }
  | _ => none }
def lexerCutsRow : OpenClaim := { program := "ytfmhpjpalfepjaa", sum := "577413874e916a4e9400132d2382ff961297e25d21680311ea179685e44ff339", func := "majordomo/majordomolaw11.LexerCuts", spec := "lexerCuts", inPlace := ["internal/bytealg.IndexByteString"], apart := false }
def LexerCutsSaid : Prop := lexerCutsRow.holds Try.pinned (OpenSpec.ofChange lexerCutsSpec)

/-- ITS FALSE NEIGHBOUR: 'it returns false'. Refute it at one input. -/
def lexerCutsWrong : ChangeSpec := { name := "lexerCuts", fn := fun _ => fun
  | [d] => { results := [.lit (.bool false)], args := [d] }
  | _ => none }
def LexerCutsWrongFalsely : Prop := lexerCutsRow.holds Try.pinned (OpenSpec.ofChange lexerCutsWrong)

/-- 'majordomolaw11.LexerBetween': WHATEVER THE INPUT: true; the input reads as it did. -/
def lexerBetweenSpec : ChangeSpec := { name := "lexerBetween", fn := fun _ => fun
  | [d] => { results := [.lit (.bool true)], args := [d] }
  | _ => none }
def lexerBetweenRow : OpenClaim := { program := "ytfmhpjpalfepjaa", sum := "577413874e916a4e9400132d2382ff961297e25d21680311ea179685e44ff339", func := "majordomo/majordomolaw11.LexerBetween", spec := "lexerBetween", inPlace := ["internal/bytealg.IndexByteString"], apart := false }
def LexerBetweenSaid : Prop := lexerBetweenRow.holds Try.pinned (OpenSpec.ofChange lexerBetweenSpec)

/-- ITS FALSE NEIGHBOUR: 'it returns false'. Refute it at one input. -/
def lexerBetweenWrong : ChangeSpec := { name := "lexerBetween", fn := fun _ => fun
  | [d] => { results := [.lit (.bool false)], args := [d] }
  | _ => none }
def LexerBetweenWrongFalsely : Prop := lexerBetweenRow.holds Try.pinned (OpenSpec.ofChange lexerBetweenWrong)

/-- 'majordomolaw11.LexerJoins': WHATEVER THE INPUT: true; the input reads as it did. -/
def lexerJoinsSpec : ChangeSpec := { name := "lexerJoins", fn := fun _ => fun
  | [d] => { results := [.lit (.bool true)], args := [d] }
  | _ => none }
def lexerJoinsRow : OpenClaim := { program := "ytfmhpjpalfepjaa", sum := "577413874e916a4e9400132d2382ff961297e25d21680311ea179685e44ff339", func := "majordomo/majordomolaw11.LexerJoins", spec := "lexerJoins", inPlace := ["internal/bytealg.IndexByteString"], apart := false }
def LexerJoinsSaid : Prop := lexerJoinsRow.holds Try.pinned (OpenSpec.ofChange lexerJoinsSpec)

/-- ITS FALSE NEIGHBOUR: 'it returns false'. Refute it at one input. -/
def lexerJoinsWrong : ChangeSpec := { name := "lexerJoins", fn := fun _ => fun
  | [d] => { results := [.lit (.bool false)], args := [d] }
  | _ => none }
def LexerJoinsWrongFalsely : Prop := lexerJoinsRow.holds Try.pinned (OpenSpec.ofChange lexerJoinsWrong)

/-- 'majordomolaw11.LexerComments': WHATEVER THE INPUT: true; the input reads as it did. -/
def lexerCommentsSpec : ChangeSpec := { name := "lexerComments", fn := fun _ => fun
  | [d1, d2] => { results := [.lit (.bool true)], args := [d1, d2] }
  | _ => none }
def lexerCommentsRow : OpenClaim := { program := "ytfmhpjpalfepjaa", sum := "577413874e916a4e9400132d2382ff961297e25d21680311ea179685e44ff339", func := "majordomo/majordomolaw11.LexerComments", spec := "lexerComments", inPlace := ["internal/bytealg.IndexByteString"], apart := false }
def LexerCommentsSaid : Prop := lexerCommentsRow.holds Try.pinned (OpenSpec.ofChange lexerCommentsSpec)

/-- ITS FALSE NEIGHBOUR: 'it returns false'. Refute it at one input. -/
def lexerCommentsWrong : ChangeSpec := { name := "lexerComments", fn := fun _ => fun
  | [d1, d2] => { results := [.lit (.bool false)], args := [d1, d2] }
  | _ => none }
def LexerCommentsWrongFalsely : Prop := lexerCommentsRow.holds Try.pinned (OpenSpec.ofChange lexerCommentsWrong)

/-- 'majordomolaw11.LexerHalves': WHATEVER THE INPUT: true; the input reads as it did. -/
def lexerHalvesSpec : ChangeSpec := { name := "lexerHalves", fn := fun _ => fun
  | [d1, d2] => { results := [.lit (.bool true)], args := [d1, d2] }
  | _ => none }
def lexerHalvesRow : OpenClaim := { program := "ytfmhpjpalfepjaa", sum := "577413874e916a4e9400132d2382ff961297e25d21680311ea179685e44ff339", func := "majordomo/majordomolaw11.LexerHalves", spec := "lexerHalves", inPlace := ["internal/bytealg.IndexByteString"], apart := false }
def LexerHalvesSaid : Prop := lexerHalvesRow.holds Try.pinned (OpenSpec.ofChange lexerHalvesSpec)

/-- ITS FALSE NEIGHBOUR: 'it returns false'. Refute it at one input. -/
def lexerHalvesWrong : ChangeSpec := { name := "lexerHalves", fn := fun _ => fun
  | [d1, d2] => { results := [.lit (.bool false)], args := [d1, d2] }
  | _ => none }
def LexerHalvesWrongFalsely : Prop := lexerHalvesRow.holds Try.pinned (OpenSpec.ofChange lexerHalvesWrong)

/- THE SECOND FORM. 'bulk': how many values and letters a reading holds, each counted each time it is reached (what is shared counts as often as it is met; a slice's spare places count too). A statement '..UptoSaid' is the law's where the arguments, and the package variables that the reading takes, are together of bulk at most 1048576: NARROWER than '..Said'. Prove '..Said' where nothing that the law and all that it calls make is longer than what came in: it says more and counts as full. Else prove '..UptoSaid'. A law counts once. -/
mutual
def uptoBulk {H : Type} : DataW H → Nat
  | .lit (.string bytes) => bytes.length + 1
  | .lit _ => 1
  | .nil => 1
  | .ptr d => uptoBulk d + 1
  | .slice elems spare => uptoBulkAll elems + uptoBulkAll spare + 1
  | .agg parts => uptoBulkAll parts + 1
  | .iface _ d => uptoBulk d + 1
  | .map entries => uptoBulkEntries entries + 1
  | .held _ => 1
def uptoBulkAll {H : Type} : List (DataW H) → Nat
  | [] => 0
  | d :: r => uptoBulk d + uptoBulkAll r
def uptoBulkEntries {H : Type} : List (Lit × DataW H) → Nat
  | [] => 0
  | x :: r => uptoBulkEntry x + uptoBulkEntries r
def uptoBulkEntry {H : Type} : Lit × DataW H → Nat
  | (.string bytes, d) => bytes.length + uptoBulk d + 1
  | (_, d) => uptoBulk d + 1
 end
def uptoSmall : (H : Type) → List (DataW H) → Bool := fun _ ds => decide (uptoBulkAll ds ≤ 1048576)
def OpenSpec.upto (s : _root_.Go.ChangeSpec) : _root_.Go.OpenSpec := { _root_.Go.OpenSpec.ofChange s with cond := some uptoSmall }

/-- 'majordomolaw11.LexerCuts', WHERE WHAT IT READS IS OF BULK AT MOST 1048576: true; the input reads as it did. -/
def lexerCutsUptoRow : OpenClaim := { program := "ytfmhpjpalfepjaa", sum := "577413874e916a4e9400132d2382ff961297e25d21680311ea179685e44ff339", func := "majordomo/majordomolaw11.LexerCuts", spec := "lexerCuts", inPlace := ["internal/bytealg.IndexByteString"], apart := false, narrowed := true }
def LexerCutsUptoSaid : Prop := lexerCutsUptoRow.holds Try.pinned (OpenSpec.upto lexerCutsSpec)

/-- 'majordomolaw11.LexerBetween', WHERE WHAT IT READS IS OF BULK AT MOST 1048576: true; the input reads as it did. -/
def lexerBetweenUptoRow : OpenClaim := { program := "ytfmhpjpalfepjaa", sum := "577413874e916a4e9400132d2382ff961297e25d21680311ea179685e44ff339", func := "majordomo/majordomolaw11.LexerBetween", spec := "lexerBetween", inPlace := ["internal/bytealg.IndexByteString"], apart := false, narrowed := true }
def LexerBetweenUptoSaid : Prop := lexerBetweenUptoRow.holds Try.pinned (OpenSpec.upto lexerBetweenSpec)

/-- 'majordomolaw11.LexerJoins', WHERE WHAT IT READS IS OF BULK AT MOST 1048576: true; the input reads as it did. -/
def lexerJoinsUptoRow : OpenClaim := { program := "ytfmhpjpalfepjaa", sum := "577413874e916a4e9400132d2382ff961297e25d21680311ea179685e44ff339", func := "majordomo/majordomolaw11.LexerJoins", spec := "lexerJoins", inPlace := ["internal/bytealg.IndexByteString"], apart := false, narrowed := true }
def LexerJoinsUptoSaid : Prop := lexerJoinsUptoRow.holds Try.pinned (OpenSpec.upto lexerJoinsSpec)

/-- 'majordomolaw11.LexerComments', WHERE WHAT IT READS IS OF BULK AT MOST 1048576: true; the input reads as it did. -/
def lexerCommentsUptoRow : OpenClaim := { program := "ytfmhpjpalfepjaa", sum := "577413874e916a4e9400132d2382ff961297e25d21680311ea179685e44ff339", func := "majordomo/majordomolaw11.LexerComments", spec := "lexerComments", inPlace := ["internal/bytealg.IndexByteString"], apart := false, narrowed := true }
def LexerCommentsUptoSaid : Prop := lexerCommentsUptoRow.holds Try.pinned (OpenSpec.upto lexerCommentsSpec)

/-- 'majordomolaw11.LexerHalves', WHERE WHAT IT READS IS OF BULK AT MOST 1048576: true; the input reads as it did. -/
def lexerHalvesUptoRow : OpenClaim := { program := "ytfmhpjpalfepjaa", sum := "577413874e916a4e9400132d2382ff961297e25d21680311ea179685e44ff339", func := "majordomo/majordomolaw11.LexerHalves", spec := "lexerHalves", inPlace := ["internal/bytealg.IndexByteString"], apart := false, narrowed := true }
def LexerHalvesUptoSaid : Prop := lexerHalvesUptoRow.holds Try.pinned (OpenSpec.upto lexerHalvesSpec)

end Rows
end Go.Proofs.Ytfmhpjpalfepjaa

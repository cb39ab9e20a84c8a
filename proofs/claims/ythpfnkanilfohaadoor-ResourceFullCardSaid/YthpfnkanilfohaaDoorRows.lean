/-
  NARROWER THAN 'FOR EVERY INPUT', by the rows' own cells (each row's printed sentence says how): ResourceChecks: laid · ResourceFull: laid · ResourceNames: laid · ResourceEnsures: laid · ResourceTold: laid.
  DERIVED. THE GIVEN ROWS OF THIS SEAT. 5 by the template 'for every input the law returns true; each argument reads behind the call as it read before'; 0 by the template 'total and deterministic' (their statements: YthpfnkanilfohaaDoorTotals.lean).
  GIVEN WITH THE SEED: the statements are not yours to turn. If you find one false, say at which input.
  Laid BY PROGRAM, IN A SANDBOX (cutbox-rows.mjs): the forced cells as the released guide's own fill.sh prints them over the translation 11d716cb3a772fd6… (all of the seat's roots in one cut). By AI agents, Wed Nov 11 2026. No macro, syntax, notation, axiom, sorry.
-/
import Derived.Test.YthpfnkanilfohaaDoorChecked
import GoSem.PinnedTables
import GoSem.Claim
import GoSem.ClaimJoined
import GoSem.ClaimMapViews
import Derived.JoinedTies
import Derived.KernelRfl
namespace Go.Proofs.YthpfnkanilfohaaDoor
/- THE CELL 'sum', in the pinned program and in every row, IS THE sha256 OF THE DUMP (.gsa) THAT YthpfnkanilfohaaDoorProg.lean LOADS. Nothing in Lean hashes anything: it is a label: what it is worth is what the hold of that sum in a sandbox is worth. -/
noncomputable def Tryd.pinned : Pinned := { name := "ythpfnkanilfohaadoor", sum := "11d716cb3a772fd64d0bf9edcf6cc13023616d288b8be1f0a00ee9e311984b0b", checked := Tryd.checked }
namespace Rows
def none {H : Type} : Left H := { results := [], args := [] }

/- WHAT THE LISTED PACKAGE-LEVEL VARIABLES READ AS WHEN THE CALL BEGINS. Each datum BY PROGRAM (the guide's laid-datum.mjs) off the statement by which the dump's own 'gosem.cut.vars' lays the variable. In a bare row this is a premise. The card (YthpfnkanilfohaaDoorCards.lean) ties it to the program's text. -/
def laid_unicode_utf8_acceptRanges {H : Type} : DataW H := .agg [.agg [.lit (.int .u8 128), .lit (.int .u8 191)], .agg [.lit (.int .u8 160), .lit (.int .u8 191)], .agg [.lit (.int .u8 128), .lit (.int .u8 159)], .agg [.lit (.int .u8 144), .lit (.int .u8 191)], .agg [.lit (.int .u8 128), .lit (.int .u8 143)], .agg [.lit (.int .u8 0), .lit (.int .u8 0)], .agg [.lit (.int .u8 0), .lit (.int .u8 0)], .agg [.lit (.int .u8 0), .lit (.int .u8 0)], .agg [.lit (.int .u8 0), .lit (.int .u8 0)], .agg [.lit (.int .u8 0), .lit (.int .u8 0)], .agg [.lit (.int .u8 0), .lit (.int .u8 0)], .agg [.lit (.int .u8 0), .lit (.int .u8 0)], .agg [.lit (.int .u8 0), .lit (.int .u8 0)], .agg [.lit (.int .u8 0), .lit (.int .u8 0)], .agg [.lit (.int .u8 0), .lit (.int .u8 0)], .agg [.lit (.int .u8 0), .lit (.int .u8 0)]]
/-- One of Go's own tables, pinned by name: the form's constant. -/
def laid_unicode_utf8_first : DataW Unit := Go.Pinned.utf8First

/-- 'majordomolaw06.ResourceChecks': WHATEVER THE INPUT: true; the input reads as it did. -/
def resourceChecksSpec : ChangeSpec := { name := "resourceChecks", fn := fun _ => fun
  | [d] => { results := [.lit (.bool true)], args := [d] }
  | _ => none }
def resourceChecksRow : OpenClaim := { program := "ythpfnkanilfohaadoor", sum := "11d716cb3a772fd64d0bf9edcf6cc13023616d288b8be1f0a00ee9e311984b0b", func := "majordomo/majordomolaw06.ResourceChecks", spec := "resourceChecks", inPlace := ["internal/bytealg.CountString", "internal/bytealg.IndexByteString", "internal/bytealg.IndexString"], unfollowed := true, recurses := true, named := ["unicode/utf8.first", "unicode/utf8.acceptRanges", "internal/bytealg.MaxLen"], apart := false, laid := [("unicode/utf8.acceptRanges", laid_unicode_utf8_acceptRanges), ("unicode/utf8.first", laid_unicode_utf8_first)] }
def ResourceChecksSaid : Prop := resourceChecksRow.holds Tryd.pinned (OpenSpec.ofChange resourceChecksSpec)

/-- ITS FALSE NEIGHBOUR: 'it returns false'. Refute it at one input. -/
def resourceChecksWrong : ChangeSpec := { name := "resourceChecks", fn := fun _ => fun
  | [d] => { results := [.lit (.bool false)], args := [d] }
  | _ => none }
def ResourceChecksWrongFalsely : Prop := resourceChecksRow.holds Tryd.pinned (OpenSpec.ofChange resourceChecksWrong)

/-- 'majordomolaw06.ResourceFull': WHATEVER THE INPUT: true; the input reads as it did. -/
def resourceFullSpec : ChangeSpec := { name := "resourceFull", fn := fun _ => fun
  | [d] => { results := [.lit (.bool true)], args := [d] }
  | _ => none }
def resourceFullRow : OpenClaim := { program := "ythpfnkanilfohaadoor", sum := "11d716cb3a772fd64d0bf9edcf6cc13023616d288b8be1f0a00ee9e311984b0b", func := "majordomo/majordomolaw06.ResourceFull", spec := "resourceFull", inPlace := ["internal/bytealg.CountString", "internal/bytealg.IndexByteString", "internal/bytealg.IndexString"], unfollowed := true, recurses := true, named := ["unicode/utf8.first", "unicode/utf8.acceptRanges", "internal/bytealg.MaxLen"], apart := false, laid := [("unicode/utf8.acceptRanges", laid_unicode_utf8_acceptRanges), ("unicode/utf8.first", laid_unicode_utf8_first)] }
def ResourceFullSaid : Prop := resourceFullRow.holds Tryd.pinned (OpenSpec.ofChange resourceFullSpec)

/-- ITS FALSE NEIGHBOUR: 'it returns false'. Refute it at one input. -/
def resourceFullWrong : ChangeSpec := { name := "resourceFull", fn := fun _ => fun
  | [d] => { results := [.lit (.bool false)], args := [d] }
  | _ => none }
def ResourceFullWrongFalsely : Prop := resourceFullRow.holds Tryd.pinned (OpenSpec.ofChange resourceFullWrong)

/-- 'majordomolaw06.ResourceNames': WHATEVER THE INPUT: true; the input reads as it did. -/
def resourceNamesSpec : ChangeSpec := { name := "resourceNames", fn := fun _ => fun
  | [d1, d2, d3] => { results := [.lit (.bool true)], args := [d1, d2, d3] }
  | _ => none }
def resourceNamesRow : OpenClaim := { program := "ythpfnkanilfohaadoor", sum := "11d716cb3a772fd64d0bf9edcf6cc13023616d288b8be1f0a00ee9e311984b0b", func := "majordomo/majordomolaw06.ResourceNames", spec := "resourceNames", inPlace := ["internal/bytealg.CountString", "internal/bytealg.IndexByteString", "internal/bytealg.IndexString"], unfollowed := true, recurses := true, named := ["unicode/utf8.first", "unicode/utf8.acceptRanges", "internal/bytealg.MaxLen"], apart := false, laid := [("unicode/utf8.acceptRanges", laid_unicode_utf8_acceptRanges), ("unicode/utf8.first", laid_unicode_utf8_first)] }
def ResourceNamesSaid : Prop := resourceNamesRow.holds Tryd.pinned (OpenSpec.ofChange resourceNamesSpec)

/-- ITS FALSE NEIGHBOUR: 'it returns false'. Refute it at one input. -/
def resourceNamesWrong : ChangeSpec := { name := "resourceNames", fn := fun _ => fun
  | [d1, d2, d3] => { results := [.lit (.bool false)], args := [d1, d2, d3] }
  | _ => none }
def ResourceNamesWrongFalsely : Prop := resourceNamesRow.holds Tryd.pinned (OpenSpec.ofChange resourceNamesWrong)

/-- 'majordomolaw06.ResourceEnsures': WHATEVER THE INPUT: true; the input reads as it did. -/
def resourceEnsuresSpec : ChangeSpec := { name := "resourceEnsures", fn := fun _ => fun
  | [d1, d2, d3] => { results := [.lit (.bool true)], args := [d1, d2, d3] }
  | _ => none }
def resourceEnsuresRow : OpenClaim := { program := "ythpfnkanilfohaadoor", sum := "11d716cb3a772fd64d0bf9edcf6cc13023616d288b8be1f0a00ee9e311984b0b", func := "majordomo/majordomolaw06.ResourceEnsures", spec := "resourceEnsures", inPlace := ["internal/bytealg.CountString", "internal/bytealg.IndexByteString", "internal/bytealg.IndexString"], unfollowed := true, recurses := true, named := ["unicode/utf8.first", "unicode/utf8.acceptRanges", "internal/bytealg.MaxLen"], apart := false, laid := [("unicode/utf8.acceptRanges", laid_unicode_utf8_acceptRanges), ("unicode/utf8.first", laid_unicode_utf8_first)] }
def ResourceEnsuresSaid : Prop := resourceEnsuresRow.holds Tryd.pinned (OpenSpec.ofChange resourceEnsuresSpec)

/-- ITS FALSE NEIGHBOUR: 'it returns false'. Refute it at one input. -/
def resourceEnsuresWrong : ChangeSpec := { name := "resourceEnsures", fn := fun _ => fun
  | [d1, d2, d3] => { results := [.lit (.bool false)], args := [d1, d2, d3] }
  | _ => none }
def ResourceEnsuresWrongFalsely : Prop := resourceEnsuresRow.holds Tryd.pinned (OpenSpec.ofChange resourceEnsuresWrong)

/-- 'majordomolaw06.ResourceTold': WHATEVER THE INPUT: true; the input reads as it did. -/
def resourceToldSpec : ChangeSpec := { name := "resourceTold", fn := fun _ => fun
  | [d1, d2] => { results := [.lit (.bool true)], args := [d1, d2] }
  | _ => none }
def resourceToldRow : OpenClaim := { program := "ythpfnkanilfohaadoor", sum := "11d716cb3a772fd64d0bf9edcf6cc13023616d288b8be1f0a00ee9e311984b0b", func := "majordomo/majordomolaw06.ResourceTold", spec := "resourceTold", inPlace := ["internal/bytealg.CountString", "internal/bytealg.IndexByteString", "internal/bytealg.IndexString"], unfollowed := true, recurses := true, named := ["unicode/utf8.first", "unicode/utf8.acceptRanges", "internal/bytealg.MaxLen"], apart := false, laid := [("unicode/utf8.acceptRanges", laid_unicode_utf8_acceptRanges), ("unicode/utf8.first", laid_unicode_utf8_first)] }
def ResourceToldSaid : Prop := resourceToldRow.holds Tryd.pinned (OpenSpec.ofChange resourceToldSpec)

/-- ITS FALSE NEIGHBOUR: 'it returns false'. Refute it at one input. -/
def resourceToldWrong : ChangeSpec := { name := "resourceTold", fn := fun _ => fun
  | [d1, d2] => { results := [.lit (.bool false)], args := [d1, d2] }
  | _ => none }
def ResourceToldWrongFalsely : Prop := resourceToldRow.holds Tryd.pinned (OpenSpec.ofChange resourceToldWrong)

/- THE SECOND FORM. 'bulk': how many values and letters a reading holds, each counted each time it is reached (what is shared counts as often as it is met; a slice's spare places count too). A statement '..UptoSaid' is the law's where the arguments, and the package variables that the reading takes, are together of bulk at most 1048576: NARROWER than '..Said'. Prove '..Said' where nothing that the law and all that it calls make is longer than what came in: it says more and counts as full. Else prove '..UptoSaid'. A law counts once. -/
mutual
def uptoBulk {H : Type} : DataW H → Nat
  | .lit (.string bytes) => bytes.length + 1
  | .lit _ => 1
  | .nil => 1
  | .ptr d => uptoBulk d + 1
  | .slice elems spare => uptoBulkAll elems + uptoBulkAll spare + 1
  | .agg parts => uptoBulkAll parts + 1
  | .iface _ d => uptoBulk d + 1
  | .map entries => uptoBulkEntries entries + 1
  | .held _ => 1
def uptoBulkAll {H : Type} : List (DataW H) → Nat
  | [] => 0
  | d :: r => uptoBulk d + uptoBulkAll r
def uptoBulkEntries {H : Type} : List (Lit × DataW H) → Nat
  | [] => 0
  | x :: r => uptoBulkEntry x + uptoBulkEntries r
def uptoBulkEntry {H : Type} : Lit × DataW H → Nat
  | (.string bytes, d) => bytes.length + uptoBulk d + 1
  | (_, d) => uptoBulk d + 1
 end
def uptoSmall : (H : Type) → List (DataW H) → Bool := fun _ ds => decide (uptoBulkAll ds ≤ 1048576)
def OpenSpec.upto (s : _root_.Go.ChangeSpec) : _root_.Go.OpenSpec := { _root_.Go.OpenSpec.ofChange s with cond := some uptoSmall }

/-- 'majordomolaw06.ResourceChecks', WHERE WHAT IT READS IS OF BULK AT MOST 1048576: true; the input reads as it did. -/
def resourceChecksUptoRow : OpenClaim := { program := "ythpfnkanilfohaadoor", sum := "11d716cb3a772fd64d0bf9edcf6cc13023616d288b8be1f0a00ee9e311984b0b", func := "majordomo/majordomolaw06.ResourceChecks", spec := "resourceChecks", inPlace := ["internal/bytealg.CountString", "internal/bytealg.IndexByteString", "internal/bytealg.IndexString"], unfollowed := true, recurses := true, named := ["unicode/utf8.first", "unicode/utf8.acceptRanges", "internal/bytealg.MaxLen"], apart := false, laid := [("unicode/utf8.acceptRanges", laid_unicode_utf8_acceptRanges), ("unicode/utf8.first", laid_unicode_utf8_first)], narrowed := true }
def ResourceChecksUptoSaid : Prop := resourceChecksUptoRow.holds Tryd.pinned (OpenSpec.upto resourceChecksSpec)

/-- 'majordomolaw06.ResourceFull', WHERE WHAT IT READS IS OF BULK AT MOST 1048576: true; the input reads as it did. -/
def resourceFullUptoRow : OpenClaim := { program := "ythpfnkanilfohaadoor", sum := "11d716cb3a772fd64d0bf9edcf6cc13023616d288b8be1f0a00ee9e311984b0b", func := "majordomo/majordomolaw06.ResourceFull", spec := "resourceFull", inPlace := ["internal/bytealg.CountString", "internal/bytealg.IndexByteString", "internal/bytealg.IndexString"], unfollowed := true, recurses := true, named := ["unicode/utf8.first", "unicode/utf8.acceptRanges", "internal/bytealg.MaxLen"], apart := false, laid := [("unicode/utf8.acceptRanges", laid_unicode_utf8_acceptRanges), ("unicode/utf8.first", laid_unicode_utf8_first)], narrowed := true }
def ResourceFullUptoSaid : Prop := resourceFullUptoRow.holds Tryd.pinned (OpenSpec.upto resourceFullSpec)

/-- 'majordomolaw06.ResourceNames', WHERE WHAT IT READS IS OF BULK AT MOST 1048576: true; the input reads as it did. -/
def resourceNamesUptoRow : OpenClaim := { program := "ythpfnkanilfohaadoor", sum := "11d716cb3a772fd64d0bf9edcf6cc13023616d288b8be1f0a00ee9e311984b0b", func := "majordomo/majordomolaw06.ResourceNames", spec := "resourceNames", inPlace := ["internal/bytealg.CountString", "internal/bytealg.IndexByteString", "internal/bytealg.IndexString"], unfollowed := true, recurses := true, named := ["unicode/utf8.first", "unicode/utf8.acceptRanges", "internal/bytealg.MaxLen"], apart := false, laid := [("unicode/utf8.acceptRanges", laid_unicode_utf8_acceptRanges), ("unicode/utf8.first", laid_unicode_utf8_first)], narrowed := true }
def ResourceNamesUptoSaid : Prop := resourceNamesUptoRow.holds Tryd.pinned (OpenSpec.upto resourceNamesSpec)

/-- 'majordomolaw06.ResourceEnsures', WHERE WHAT IT READS IS OF BULK AT MOST 1048576: true; the input reads as it did. -/
def resourceEnsuresUptoRow : OpenClaim := { program := "ythpfnkanilfohaadoor", sum := "11d716cb3a772fd64d0bf9edcf6cc13023616d288b8be1f0a00ee9e311984b0b", func := "majordomo/majordomolaw06.ResourceEnsures", spec := "resourceEnsures", inPlace := ["internal/bytealg.CountString", "internal/bytealg.IndexByteString", "internal/bytealg.IndexString"], unfollowed := true, recurses := true, named := ["unicode/utf8.first", "unicode/utf8.acceptRanges", "internal/bytealg.MaxLen"], apart := false, laid := [("unicode/utf8.acceptRanges", laid_unicode_utf8_acceptRanges), ("unicode/utf8.first", laid_unicode_utf8_first)], narrowed := true }
def ResourceEnsuresUptoSaid : Prop := resourceEnsuresUptoRow.holds Tryd.pinned (OpenSpec.upto resourceEnsuresSpec)

/-- 'majordomolaw06.ResourceTold', WHERE WHAT IT READS IS OF BULK AT MOST 1048576: true; the input reads as it did. -/
def resourceToldUptoRow : OpenClaim := { program := "ythpfnkanilfohaadoor", sum := "11d716cb3a772fd64d0bf9edcf6cc13023616d288b8be1f0a00ee9e311984b0b", func := "majordomo/majordomolaw06.ResourceTold", spec := "resourceTold", inPlace := ["internal/bytealg.CountString", "internal/bytealg.IndexByteString", "internal/bytealg.IndexString"], unfollowed := true, recurses := true, named := ["unicode/utf8.first", "unicode/utf8.acceptRanges", "internal/bytealg.MaxLen"], apart := false, laid := [("unicode/utf8.acceptRanges", laid_unicode_utf8_acceptRanges), ("unicode/utf8.first", laid_unicode_utf8_first)], narrowed := true }
def ResourceToldUptoSaid : Prop := resourceToldUptoRow.holds Tryd.pinned (OpenSpec.upto resourceToldSpec)

end Rows
end Go.Proofs.YthpfnkanilfohaaDoor

/-
  NARROWER THAN 'FOR EVERY INPUT', by the rows' own cells (each row's printed sentence says how): CatalogFinds: laid · CatalogUnlike: laid · CatalogCuts: laid · CatalogSwaps: laid.
  DERIVED. THE GIVEN ROWS OF THIS SEAT. 4 by the template 'for every input the law returns true; each argument reads behind the call as it read before'; 0 by the template 'total and deterministic' (their statements: YteanhjfdpjekbaaDoorTotals.lean).
  GIVEN WITH THE SEED: the statements are not yours to turn. If you find one false, say at which input.
  Laid BY PROGRAM, IN A SANDBOX (cutbox-rows.mjs): the forced cells as the released guide's own fill.sh prints them over the translation 830c9e77c2b59aee… (all of the seat's roots in one cut). By AI agents, Wed Nov 11 2026. No macro, syntax, notation, axiom, sorry.
-/
import Derived.Test.YteanhjfdpjekbaaDoorChecked
import GoSem.PinnedTables
import GoSem.Claim
import GoSem.ClaimJoined
import GoSem.ClaimMapViews
import Derived.JoinedTies
import Derived.KernelRfl
namespace Go.Proofs.YteanhjfdpjekbaaDoor
/- THE CELL 'sum', in the pinned program and in every row, IS THE sha256 OF THE DUMP (.gsa) THAT YteanhjfdpjekbaaDoorProg.lean LOADS. Nothing in Lean hashes anything: it is a label: what it is worth is what the hold of that sum in a sandbox is worth. -/
noncomputable def Tryd.pinned : Pinned := { name := "yteanhjfdpjekbaadoor", sum := "830c9e77c2b59aeee4400f9e60f59c0d220ca66b62fd8a630050e61dfb486937", checked := Tryd.checked }
namespace Rows
def none {H : Type} : Left H := { results := [], args := [] }

/- WHAT THE LISTED PACKAGE-LEVEL VARIABLES READ AS WHEN THE CALL BEGINS. Each datum BY PROGRAM (the guide's laid-datum.mjs) off the statement by which the dump's own 'gosem.cut.vars' lays the variable. In a bare row this is a premise. The card (YteanhjfdpjekbaaDoorCards.lean) ties it to the program's text. -/
def laid_unicode_utf8_acceptRanges {H : Type} : DataW H := .agg [.agg [.lit (.int .u8 128), .lit (.int .u8 191)], .agg [.lit (.int .u8 160), .lit (.int .u8 191)], .agg [.lit (.int .u8 128), .lit (.int .u8 159)], .agg [.lit (.int .u8 144), .lit (.int .u8 191)], .agg [.lit (.int .u8 128), .lit (.int .u8 143)], .agg [.lit (.int .u8 0), .lit (.int .u8 0)], .agg [.lit (.int .u8 0), .lit (.int .u8 0)], .agg [.lit (.int .u8 0), .lit (.int .u8 0)], .agg [.lit (.int .u8 0), .lit (.int .u8 0)], .agg [.lit (.int .u8 0), .lit (.int .u8 0)], .agg [.lit (.int .u8 0), .lit (.int .u8 0)], .agg [.lit (.int .u8 0), .lit (.int .u8 0)], .agg [.lit (.int .u8 0), .lit (.int .u8 0)], .agg [.lit (.int .u8 0), .lit (.int .u8 0)], .agg [.lit (.int .u8 0), .lit (.int .u8 0)], .agg [.lit (.int .u8 0), .lit (.int .u8 0)]]
def laid_majordomo_catalog_types {H : Type} : DataW H := .agg [.lit (.string [102, 105, 108, 101]), .lit (.string [97, 99, 99, 111, 117, 110, 116]), .lit (.string [103, 114, 111, 117, 112]), .lit (.string [112, 97, 99, 107, 97, 103, 101]), .lit (.string [115, 101, 114, 118, 105, 99, 101])]
/-- One of Go's own tables, pinned by name: the form's constant. -/
def laid_unicode_utf8_first : DataW Unit := Go.Pinned.utf8First

/-- 'majordomolaw07.CatalogFinds': WHATEVER THE INPUT: true; the input reads as it did. -/
def catalogFindsSpec : ChangeSpec := { name := "catalogFinds", fn := fun _ => fun
  | [d1, d2, d3] => { results := [.lit (.bool true)], args := [d1, d2, d3] }
  | _ => none }
def catalogFindsRow : OpenClaim := { program := "yteanhjfdpjekbaadoor", sum := "830c9e77c2b59aeee4400f9e60f59c0d220ca66b62fd8a630050e61dfb486937", func := "majordomo/majordomolaw07.CatalogFinds", spec := "catalogFinds", inPlace := ["internal/bytealg.CountString", "internal/bytealg.IndexByteString", "internal/bytealg.IndexString"], unfollowed := true, recurses := true, named := ["unicode/utf8.first", "unicode/utf8.acceptRanges", "internal/bytealg.MaxLen", "majordomo/catalog.types"], apart := false, laid := [("unicode/utf8.acceptRanges", laid_unicode_utf8_acceptRanges), ("majordomo/catalog.types", laid_majordomo_catalog_types), ("unicode/utf8.first", laid_unicode_utf8_first)] }
def CatalogFindsSaid : Prop := catalogFindsRow.holds Tryd.pinned (OpenSpec.ofChange catalogFindsSpec)

/-- ITS FALSE NEIGHBOUR: 'it returns false'. Refute it at one input. -/
def catalogFindsWrong : ChangeSpec := { name := "catalogFinds", fn := fun _ => fun
  | [d1, d2, d3] => { results := [.lit (.bool false)], args := [d1, d2, d3] }
  | _ => none }
def CatalogFindsWrongFalsely : Prop := catalogFindsRow.holds Tryd.pinned (OpenSpec.ofChange catalogFindsWrong)

/-- 'majordomolaw07.CatalogUnlike': WHATEVER THE INPUT: true; the input reads as it did. -/
def catalogUnlikeSpec : ChangeSpec := { name := "catalogUnlike", fn := fun _ => fun
  | [d1, d2] => { results := [.lit (.bool true)], args := [d1, d2] }
  | _ => none }
def catalogUnlikeRow : OpenClaim := { program := "yteanhjfdpjekbaadoor", sum := "830c9e77c2b59aeee4400f9e60f59c0d220ca66b62fd8a630050e61dfb486937", func := "majordomo/majordomolaw07.CatalogUnlike", spec := "catalogUnlike", inPlace := ["internal/bytealg.CountString", "internal/bytealg.IndexByteString", "internal/bytealg.IndexString"], unfollowed := true, recurses := true, named := ["unicode/utf8.first", "unicode/utf8.acceptRanges", "internal/bytealg.MaxLen", "majordomo/catalog.types"], apart := false, laid := [("unicode/utf8.acceptRanges", laid_unicode_utf8_acceptRanges), ("majordomo/catalog.types", laid_majordomo_catalog_types), ("unicode/utf8.first", laid_unicode_utf8_first)] }
def CatalogUnlikeSaid : Prop := catalogUnlikeRow.holds Tryd.pinned (OpenSpec.ofChange catalogUnlikeSpec)

/-- ITS FALSE NEIGHBOUR: 'it returns false'. Refute it at one input. -/
def catalogUnlikeWrong : ChangeSpec := { name := "catalogUnlike", fn := fun _ => fun
  | [d1, d2] => { results := [.lit (.bool false)], args := [d1, d2] }
  | _ => none }
def CatalogUnlikeWrongFalsely : Prop := catalogUnlikeRow.holds Tryd.pinned (OpenSpec.ofChange catalogUnlikeWrong)

/-- 'majordomolaw07.CatalogCuts': WHATEVER THE INPUT: true; the input reads as it did. -/
def catalogCutsSpec : ChangeSpec := { name := "catalogCuts", fn := fun _ => fun
  | [d1, d2, d3] => { results := [.lit (.bool true)], args := [d1, d2, d3] }
  | _ => none }
def catalogCutsRow : OpenClaim := { program := "yteanhjfdpjekbaadoor", sum := "830c9e77c2b59aeee4400f9e60f59c0d220ca66b62fd8a630050e61dfb486937", func := "majordomo/majordomolaw07.CatalogCuts", spec := "catalogCuts", inPlace := ["internal/bytealg.CountString", "internal/bytealg.IndexByteString", "internal/bytealg.IndexString"], unfollowed := true, recurses := true, named := ["unicode/utf8.first", "unicode/utf8.acceptRanges", "internal/bytealg.MaxLen", "majordomo/catalog.types"], apart := false, laid := [("unicode/utf8.acceptRanges", laid_unicode_utf8_acceptRanges), ("majordomo/catalog.types", laid_majordomo_catalog_types), ("unicode/utf8.first", laid_unicode_utf8_first)] }
def CatalogCutsSaid : Prop := catalogCutsRow.holds Tryd.pinned (OpenSpec.ofChange catalogCutsSpec)

/-- ITS FALSE NEIGHBOUR: 'it returns false'. Refute it at one input. -/
def catalogCutsWrong : ChangeSpec := { name := "catalogCuts", fn := fun _ => fun
  | [d1, d2, d3] => { results := [.lit (.bool false)], args := [d1, d2, d3] }
  | _ => none }
def CatalogCutsWrongFalsely : Prop := catalogCutsRow.holds Tryd.pinned (OpenSpec.ofChange catalogCutsWrong)

/-- 'majordomolaw07.CatalogSwaps': WHATEVER THE INPUT: true; the input reads as it did. -/
def catalogSwapsSpec : ChangeSpec := { name := "catalogSwaps", fn := fun _ => fun
  | [d1, d2, d3] => { results := [.lit (.bool true)], args := [d1, d2, d3] }
  | _ => none }
def catalogSwapsRow : OpenClaim := { program := "yteanhjfdpjekbaadoor", sum := "830c9e77c2b59aeee4400f9e60f59c0d220ca66b62fd8a630050e61dfb486937", func := "majordomo/majordomolaw07.CatalogSwaps", spec := "catalogSwaps", inPlace := ["internal/bytealg.CountString", "internal/bytealg.IndexByteString", "internal/bytealg.IndexString"], unfollowed := true, recurses := true, named := ["unicode/utf8.first", "unicode/utf8.acceptRanges", "internal/bytealg.MaxLen", "majordomo/catalog.types"], apart := false, laid := [("unicode/utf8.acceptRanges", laid_unicode_utf8_acceptRanges), ("majordomo/catalog.types", laid_majordomo_catalog_types), ("unicode/utf8.first", laid_unicode_utf8_first)] }
def CatalogSwapsSaid : Prop := catalogSwapsRow.holds Tryd.pinned (OpenSpec.ofChange catalogSwapsSpec)

/-- ITS FALSE NEIGHBOUR: 'it returns false'. Refute it at one input. -/
def catalogSwapsWrong : ChangeSpec := { name := "catalogSwaps", fn := fun _ => fun
  | [d1, d2, d3] => { results := [.lit (.bool false)], args := [d1, d2, d3] }
  | _ => none }
def CatalogSwapsWrongFalsely : Prop := catalogSwapsRow.holds Tryd.pinned (OpenSpec.ofChange catalogSwapsWrong)

/- THE SECOND FORM. 'bulk': how many values and letters a reading holds, each counted each time it is reached (what is shared counts as often as it is met; a slice's spare places count too). A statement '..UptoSaid' is the law's where the arguments, and the package variables that the reading takes, are together of bulk at most 1048576: NARROWER than '..Said'. Prove '..Said' where nothing that the law and all that it calls make is longer than what came in: it says more and counts as full. Else prove '..UptoSaid'. A law counts once. -/
mutual
def uptoBulk {H : Type} : DataW H → Nat
  | .lit (.string bytes) => bytes.length + 1
  | .lit _ => 1
  | .nil => 1
  | .ptr d => uptoBulk d + 1
  | .slice elems spare => uptoBulkAll elems + uptoBulkAll spare + 1
  | .agg parts => uptoBulkAll parts + 1
  | .iface _ d => uptoBulk d + 1
  | .map entries => uptoBulkEntries entries + 1
  | .held _ => 1
def uptoBulkAll {H : Type} : List (DataW H) → Nat
  | [] => 0
  | d :: r => uptoBulk d + uptoBulkAll r
def uptoBulkEntries {H : Type} : List (Lit × DataW H) → Nat
  | [] => 0
  | x :: r => uptoBulkEntry x + uptoBulkEntries r
def uptoBulkEntry {H : Type} : Lit × DataW H → Nat
  | (.string bytes, d) => bytes.length + uptoBulk d + 1
  | (_, d) => uptoBulk d + 1
 end
def uptoSmall : (H : Type) → List (DataW H) → Bool := fun _ ds => decide (uptoBulkAll ds ≤ 1048576)
def OpenSpec.upto (s : _root_.Go.ChangeSpec) : _root_.Go.OpenSpec := { _root_.Go.OpenSpec.ofChange s with cond := some uptoSmall }

/-- 'majordomolaw07.CatalogFinds', WHERE WHAT IT READS IS OF BULK AT MOST 1048576: true; the input reads as it did. -/
def catalogFindsUptoRow : OpenClaim := { program := "yteanhjfdpjekbaadoor", sum := "830c9e77c2b59aeee4400f9e60f59c0d220ca66b62fd8a630050e61dfb486937", func := "majordomo/majordomolaw07.CatalogFinds", spec := "catalogFinds", inPlace := ["internal/bytealg.CountString", "internal/bytealg.IndexByteString", "internal/bytealg.IndexString"], unfollowed := true, recurses := true, named := ["unicode/utf8.first", "unicode/utf8.acceptRanges", "internal/bytealg.MaxLen", "majordomo/catalog.types"], apart := false, laid := [("unicode/utf8.acceptRanges", laid_unicode_utf8_acceptRanges), ("majordomo/catalog.types", laid_majordomo_catalog_types), ("unicode/utf8.first", laid_unicode_utf8_first)], narrowed := true }
def CatalogFindsUptoSaid : Prop := catalogFindsUptoRow.holds Tryd.pinned (OpenSpec.upto catalogFindsSpec)

/-- 'majordomolaw07.CatalogUnlike', WHERE WHAT IT READS IS OF BULK AT MOST 1048576: true; the input reads as it did. -/
def catalogUnlikeUptoRow : OpenClaim := { program := "yteanhjfdpjekbaadoor", sum := "830c9e77c2b59aeee4400f9e60f59c0d220ca66b62fd8a630050e61dfb486937", func := "majordomo/majordomolaw07.CatalogUnlike", spec := "catalogUnlike", inPlace := ["internal/bytealg.CountString", "internal/bytealg.IndexByteString", "internal/bytealg.IndexString"], unfollowed := true, recurses := true, named := ["unicode/utf8.first", "unicode/utf8.acceptRanges", "internal/bytealg.MaxLen", "majordomo/catalog.types"], apart := false, laid := [("unicode/utf8.acceptRanges", laid_unicode_utf8_acceptRanges), ("majordomo/catalog.types", laid_majordomo_catalog_types), ("unicode/utf8.first", laid_unicode_utf8_first)], narrowed := true }
def CatalogUnlikeUptoSaid : Prop := catalogUnlikeUptoRow.holds Tryd.pinned (OpenSpec.upto catalogUnlikeSpec)

/-- 'majordomolaw07.CatalogCuts', WHERE WHAT IT READS IS OF BULK AT MOST 1048576: true; the input reads as it did. -/
def catalogCutsUptoRow : OpenClaim := { program := "yteanhjfdpjekbaadoor", sum := "830c9e77c2b59aeee4400f9e60f59c0d220ca66b62fd8a630050e61dfb486937", func := "majordomo/majordomolaw07.CatalogCuts", spec := "catalogCuts", inPlace := ["internal/bytealg.CountString", "internal/bytealg.IndexByteString", "internal/bytealg.IndexString"], unfollowed := true, recurses := true, named := ["unicode/utf8.first", "unicode/utf8.acceptRanges", "internal/bytealg.MaxLen", "majordomo/catalog.types"], apart := false, laid := [("unicode/utf8.acceptRanges", laid_unicode_utf8_acceptRanges), ("majordomo/catalog.types", laid_majordomo_catalog_types), ("unicode/utf8.first", laid_unicode_utf8_first)], narrowed := true }
def CatalogCutsUptoSaid : Prop := catalogCutsUptoRow.holds Tryd.pinned (OpenSpec.upto catalogCutsSpec)

/-- 'majordomolaw07.CatalogSwaps', WHERE WHAT IT READS IS OF BULK AT MOST 1048576: true; the input reads as it did. -/
def catalogSwapsUptoRow : OpenClaim := { program := "yteanhjfdpjekbaadoor", sum := "830c9e77c2b59aeee4400f9e60f59c0d220ca66b62fd8a630050e61dfb486937", func := "majordomo/majordomolaw07.CatalogSwaps", spec := "catalogSwaps", inPlace := ["internal/bytealg.CountString", "internal/bytealg.IndexByteString", "internal/bytealg.IndexString"], unfollowed := true, recurses := true, named := ["unicode/utf8.first", "unicode/utf8.acceptRanges", "internal/bytealg.MaxLen", "majordomo/catalog.types"], apart := false, laid := [("unicode/utf8.acceptRanges", laid_unicode_utf8_acceptRanges), ("majordomo/catalog.types", laid_majordomo_catalog_types), ("unicode/utf8.first", laid_unicode_utf8_first)], narrowed := true }
def CatalogSwapsUptoSaid : Prop := catalogSwapsUptoRow.holds Tryd.pinned (OpenSpec.upto catalogSwapsSpec)

end Rows
end Go.Proofs.YteanhjfdpjekbaaDoor

/-
  NARROWER THAN 'FOR EVERY INPUT', by the rows' own cells (each row's printed sentence says how): BlockfsArgs: laid · BlockfsGone: laid · BlockfsApart: laid · BlockfsRoom: laid · BlockfsOrder: laid · BlockfsNew: laid.
  DERIVED. THE GIVEN ROWS OF THIS SEAT. 6 by the template 'for every input the law returns true; each argument reads behind the call as it read before'; 0 by the template 'total and deterministic' (their statements: YtiedoocgbajjjaaGreatDoorTotals.lean).
  GIVEN WITH THE SEED: the statements are not yours to turn. If you find one false, say at which input.
  Laid BY PROGRAM, IN A SANDBOX (cutbox-rows.mjs): the forced cells as the released guide's own fill.sh prints them over the translation c7a8476a311b5a6f… (all of the seat's roots in one cut). By AI agents, Wed Nov 11 2026. No macro, syntax, notation, axiom, sorry.
-/
import Derived.Test.YtiedoocgbajjjaaGreatDoorChecked
import GoSem.PinnedTables
import GoSem.Claim
import GoSem.ClaimJoined
import GoSem.ClaimMapViews
import Derived.JoinedTies
import Derived.KernelRfl
namespace Go.Proofs.YtiedoocgbajjjaaGreatDoor
/- THE CELL 'sum', in the pinned program and in every row, IS THE sha256 OF THE DUMP (.gsa) THAT YtiedoocgbajjjaaGreatDoorProg.lean LOADS. Nothing in Lean hashes anything: it is a label: what it is worth is what the hold of that sum in a sandbox is worth. -/
noncomputable def Tryz.pinned : Pinned := { name := "ytiedoocgbajjjaagreatdoor", sum := "c7a8476a311b5a6f3ea1eb111f19177fdd3b4d712d18c4e789fc5bca77c1ef0c", checked := Tryz.checked }
namespace Rows
def none {H : Type} : Left H := { results := [], args := [] }

/- WHAT THE LISTED PACKAGE-LEVEL VARIABLES READ AS WHEN THE CALL BEGINS. Each datum BY PROGRAM (the guide's laid-datum.mjs) off the statement by which the dump's own 'gosem.cut.vars' lays the variable. In a bare row this is a premise. The card (YtiedoocgbajjjaaGreatDoorCards.lean) ties it to the program's text. -/
def laid_unicode_utf8_acceptRanges {H : Type} : DataW H := .agg [.agg [.lit (.int .u8 128), .lit (.int .u8 191)], .agg [.lit (.int .u8 160), .lit (.int .u8 191)], .agg [.lit (.int .u8 128), .lit (.int .u8 159)], .agg [.lit (.int .u8 144), .lit (.int .u8 191)], .agg [.lit (.int .u8 128), .lit (.int .u8 143)], .agg [.lit (.int .u8 0), .lit (.int .u8 0)], .agg [.lit (.int .u8 0), .lit (.int .u8 0)], .agg [.lit (.int .u8 0), .lit (.int .u8 0)], .agg [.lit (.int .u8 0), .lit (.int .u8 0)], .agg [.lit (.int .u8 0), .lit (.int .u8 0)], .agg [.lit (.int .u8 0), .lit (.int .u8 0)], .agg [.lit (.int .u8 0), .lit (.int .u8 0)], .agg [.lit (.int .u8 0), .lit (.int .u8 0)], .agg [.lit (.int .u8 0), .lit (.int .u8 0)], .agg [.lit (.int .u8 0), .lit (.int .u8 0)], .agg [.lit (.int .u8 0), .lit (.int .u8 0)]]
/-- One of Go's own tables, pinned by name: the form's constant. -/
def laid_unicode_utf8_first : DataW Unit := Go.Pinned.utf8First

/-- 'majordomolaw04.BlockfsArgs': WHATEVER THE INPUT: true; the input reads as it did. -/
def blockfsArgsSpec : ChangeSpec := { name := "blockfsArgs", fn := fun _ => fun
  | [d1, d2] => { results := [.lit (.bool true)], args := [d1, d2] }
  | _ => none }
def blockfsArgsRow : OpenClaim := { program := "ytiedoocgbajjjaagreatdoor", sum := "c7a8476a311b5a6f3ea1eb111f19177fdd3b4d712d18c4e789fc5bca77c1ef0c", func := "majordomo/majordomolaw04.BlockfsArgs", spec := "blockfsArgs", inPlace := ["internal/bytealg.CountString", "internal/bytealg.IndexByteString", "internal/bytealg.IndexString"], unfollowed := true, recurses := true, named := ["unicode/utf8.first", "unicode/utf8.acceptRanges", "internal/bytealg.MaxLen"], apart := false, laid := [("unicode/utf8.acceptRanges", laid_unicode_utf8_acceptRanges), ("unicode/utf8.first", laid_unicode_utf8_first)] }
def BlockfsArgsSaid : Prop := blockfsArgsRow.holds Tryz.pinned (OpenSpec.ofChange blockfsArgsSpec)

/-- ITS FALSE NEIGHBOUR: 'it returns false'. Refute it at one input. -/
def blockfsArgsWrong : ChangeSpec := { name := "blockfsArgs", fn := fun _ => fun
  | [d1, d2] => { results := [.lit (.bool false)], args := [d1, d2] }
  | _ => none }
def BlockfsArgsWrongFalsely : Prop := blockfsArgsRow.holds Tryz.pinned (OpenSpec.ofChange blockfsArgsWrong)

/-- 'majordomolaw04.BlockfsGone': WHATEVER THE INPUT: true; the input reads as it did. -/
def blockfsGoneSpec : ChangeSpec := { name := "blockfsGone", fn := fun _ => fun
  | [d1, d2] => { results := [.lit (.bool true)], args := [d1, d2] }
  | _ => none }
def blockfsGoneRow : OpenClaim := { program := "ytiedoocgbajjjaagreatdoor", sum := "c7a8476a311b5a6f3ea1eb111f19177fdd3b4d712d18c4e789fc5bca77c1ef0c", func := "majordomo/majordomolaw04.BlockfsGone", spec := "blockfsGone", inPlace := ["internal/bytealg.CountString", "internal/bytealg.IndexByteString", "internal/bytealg.IndexString"], unfollowed := true, recurses := true, named := ["unicode/utf8.first", "unicode/utf8.acceptRanges", "internal/bytealg.MaxLen"], apart := false, laid := [("unicode/utf8.acceptRanges", laid_unicode_utf8_acceptRanges), ("unicode/utf8.first", laid_unicode_utf8_first)] }
def BlockfsGoneSaid : Prop := blockfsGoneRow.holds Tryz.pinned (OpenSpec.ofChange blockfsGoneSpec)

/-- ITS FALSE NEIGHBOUR: 'it returns false'. Refute it at one input. -/
def blockfsGoneWrong : ChangeSpec := { name := "blockfsGone", fn := fun _ => fun
  | [d1, d2] => { results := [.lit (.bool false)], args := [d1, d2] }
  | _ => none }
def BlockfsGoneWrongFalsely : Prop := blockfsGoneRow.holds Tryz.pinned (OpenSpec.ofChange blockfsGoneWrong)

/-- 'majordomolaw04.BlockfsApart': WHATEVER THE INPUT: true; the input reads as it did. -/
def blockfsApartSpec : ChangeSpec := { name := "blockfsApart", fn := fun _ => fun
  | [d1, d2, d3] => { results := [.lit (.bool true)], args := [d1, d2, d3] }
  | _ => none }
def blockfsApartRow : OpenClaim := { program := "ytiedoocgbajjjaagreatdoor", sum := "c7a8476a311b5a6f3ea1eb111f19177fdd3b4d712d18c4e789fc5bca77c1ef0c", func := "majordomo/majordomolaw04.BlockfsApart", spec := "blockfsApart", inPlace := ["internal/bytealg.CountString", "internal/bytealg.IndexByteString", "internal/bytealg.IndexString"], unfollowed := true, recurses := true, named := ["unicode/utf8.first", "unicode/utf8.acceptRanges", "internal/bytealg.MaxLen"], apart := false, laid := [("unicode/utf8.acceptRanges", laid_unicode_utf8_acceptRanges), ("unicode/utf8.first", laid_unicode_utf8_first)] }
def BlockfsApartSaid : Prop := blockfsApartRow.holds Tryz.pinned (OpenSpec.ofChange blockfsApartSpec)

/-- ITS FALSE NEIGHBOUR: 'it returns false'. Refute it at one input. -/
def blockfsApartWrong : ChangeSpec := { name := "blockfsApart", fn := fun _ => fun
  | [d1, d2, d3] => { results := [.lit (.bool false)], args := [d1, d2, d3] }
  | _ => none }
def BlockfsApartWrongFalsely : Prop := blockfsApartRow.holds Tryz.pinned (OpenSpec.ofChange blockfsApartWrong)

/-- 'majordomolaw04.BlockfsRoom': WHATEVER THE INPUT: true; the input reads as it did. -/
def blockfsRoomSpec : ChangeSpec := { name := "blockfsRoom", fn := fun _ => fun
  | [d1, d2] => { results := [.lit (.bool true)], args := [d1, d2] }
  | _ => none }
def blockfsRoomRow : OpenClaim := { program := "ytiedoocgbajjjaagreatdoor", sum := "c7a8476a311b5a6f3ea1eb111f19177fdd3b4d712d18c4e789fc5bca77c1ef0c", func := "majordomo/majordomolaw04.BlockfsRoom", spec := "blockfsRoom", inPlace := ["internal/bytealg.CountString", "internal/bytealg.IndexByteString", "internal/bytealg.IndexString"], unfollowed := true, recurses := true, named := ["unicode/utf8.first", "unicode/utf8.acceptRanges", "internal/bytealg.MaxLen"], apart := false, laid := [("unicode/utf8.acceptRanges", laid_unicode_utf8_acceptRanges), ("unicode/utf8.first", laid_unicode_utf8_first)] }
def BlockfsRoomSaid : Prop := blockfsRoomRow.holds Tryz.pinned (OpenSpec.ofChange blockfsRoomSpec)

/-- ITS FALSE NEIGHBOUR: 'it returns false'. Refute it at one input. -/
def blockfsRoomWrong : ChangeSpec := { name := "blockfsRoom", fn := fun _ => fun
  | [d1, d2] => { results := [.lit (.bool false)], args := [d1, d2] }
  | _ => none }
def BlockfsRoomWrongFalsely : Prop := blockfsRoomRow.holds Tryz.pinned (OpenSpec.ofChange blockfsRoomWrong)

/-- 'majordomolaw04.BlockfsOrder': WHATEVER THE INPUT: true; the input reads as it did. -/
def blockfsOrderSpec : ChangeSpec := { name := "blockfsOrder", fn := fun _ => fun
  | [d1, d2] => { results := [.lit (.bool true)], args := [d1, d2] }
  | _ => none }
def blockfsOrderRow : OpenClaim := { program := "ytiedoocgbajjjaagreatdoor", sum := "c7a8476a311b5a6f3ea1eb111f19177fdd3b4d712d18c4e789fc5bca77c1ef0c", func := "majordomo/majordomolaw04.BlockfsOrder", spec := "blockfsOrder", inPlace := ["internal/bytealg.CountString", "internal/bytealg.IndexByteString", "internal/bytealg.IndexString"], unfollowed := true, recurses := true, named := ["unicode/utf8.first", "unicode/utf8.acceptRanges", "internal/bytealg.MaxLen"], apart := false, laid := [("unicode/utf8.acceptRanges", laid_unicode_utf8_acceptRanges), ("unicode/utf8.first", laid_unicode_utf8_first)] }
def BlockfsOrderSaid : Prop := blockfsOrderRow.holds Tryz.pinned (OpenSpec.ofChange blockfsOrderSpec)

/-- ITS FALSE NEIGHBOUR: 'it returns false'. Refute it at one input. -/
def blockfsOrderWrong : ChangeSpec := { name := "blockfsOrder", fn := fun _ => fun
  | [d1, d2] => { results := [.lit (.bool false)], args := [d1, d2] }
  | _ => none }
def BlockfsOrderWrongFalsely : Prop := blockfsOrderRow.holds Tryz.pinned (OpenSpec.ofChange blockfsOrderWrong)

/-- 'majordomolaw04.BlockfsNew': WHATEVER THE INPUT: true; the input reads as it did. -/
def blockfsNewSpec : ChangeSpec := { name := "blockfsNew", fn := fun _ => fun
  | [d1, d2, d3] => { results := [.lit (.bool true)], args := [d1, d2, d3] }
  | _ => none }
def blockfsNewRow : OpenClaim := { program := "ytiedoocgbajjjaagreatdoor", sum := "c7a8476a311b5a6f3ea1eb111f19177fdd3b4d712d18c4e789fc5bca77c1ef0c", func := "majordomo/majordomolaw04.BlockfsNew", spec := "blockfsNew", inPlace := ["internal/bytealg.CountString", "internal/bytealg.IndexByteString", "internal/bytealg.IndexString"], unfollowed := true, recurses := true, named := ["unicode/utf8.first", "unicode/utf8.acceptRanges", "internal/bytealg.MaxLen"], apart := false, laid := [("unicode/utf8.acceptRanges", laid_unicode_utf8_acceptRanges), ("unicode/utf8.first", laid_unicode_utf8_first)] }
def BlockfsNewSaid : Prop := blockfsNewRow.holds Tryz.pinned (OpenSpec.ofChange blockfsNewSpec)

/-- ITS FALSE NEIGHBOUR: 'it returns false'. Refute it at one input. -/
def blockfsNewWrong : ChangeSpec := { name := "blockfsNew", fn := fun _ => fun
  | [d1, d2, d3] => { results := [.lit (.bool false)], args := [d1, d2, d3] }
  | _ => none }
def BlockfsNewWrongFalsely : Prop := blockfsNewRow.holds Tryz.pinned (OpenSpec.ofChange blockfsNewWrong)

/- THE SECOND FORM. 'bulk': how many values and letters a reading holds, each counted each time it is reached (what is shared counts as often as it is met; a slice's spare places count too). A statement '..UptoSaid' is the law's where the arguments, and the package variables that the reading takes, are together of bulk at most 1048576: NARROWER than '..Said'. Prove '..Said' where nothing that the law and all that it calls make is longer than what came in: it says more and counts as full. Else prove '..UptoSaid'. A law counts once. -/
mutual
def uptoBulk {H : Type} : DataW H → Nat
  | .lit (.string bytes) => bytes.length + 1
  | .lit _ => 1
  | .nil => 1
  | .ptr d => uptoBulk d + 1
  | .slice elems spare => uptoBulkAll elems + uptoBulkAll spare + 1
  | .agg parts => uptoBulkAll parts + 1
  | .iface _ d => uptoBulk d + 1
  | .map entries => uptoBulkEntries entries + 1
  | .held _ => 1
def uptoBulkAll {H : Type} : List (DataW H) → Nat
  | [] => 0
  | d :: r => uptoBulk d + uptoBulkAll r
def uptoBulkEntries {H : Type} : List (Lit × DataW H) → Nat
  | [] => 0
  | x :: r => uptoBulkEntry x + uptoBulkEntries r
def uptoBulkEntry {H : Type} : Lit × DataW H → Nat
  | (.string bytes, d) => bytes.length + uptoBulk d + 1
  | (_, d) => uptoBulk d + 1
 end
def uptoSmall : (H : Type) → List (DataW H) → Bool := fun _ ds => decide (uptoBulkAll ds ≤ 1048576)
def OpenSpec.upto (s : _root_.Go.ChangeSpec) : _root_.Go.OpenSpec := { _root_.Go.OpenSpec.ofChange s with cond := some uptoSmall }

/-- 'majordomolaw04.BlockfsArgs', WHERE WHAT IT READS IS OF BULK AT MOST 1048576: true; the input reads as it did. -/
def blockfsArgsUptoRow : OpenClaim := { program := "ytiedoocgbajjjaagreatdoor", sum := "c7a8476a311b5a6f3ea1eb111f19177fdd3b4d712d18c4e789fc5bca77c1ef0c", func := "majordomo/majordomolaw04.BlockfsArgs", spec := "blockfsArgs", inPlace := ["internal/bytealg.CountString", "internal/bytealg.IndexByteString", "internal/bytealg.IndexString"], unfollowed := true, recurses := true, named := ["unicode/utf8.first", "unicode/utf8.acceptRanges", "internal/bytealg.MaxLen"], apart := false, laid := [("unicode/utf8.acceptRanges", laid_unicode_utf8_acceptRanges), ("unicode/utf8.first", laid_unicode_utf8_first)], narrowed := true }
def BlockfsArgsUptoSaid : Prop := blockfsArgsUptoRow.holds Tryz.pinned (OpenSpec.upto blockfsArgsSpec)

/-- 'majordomolaw04.BlockfsGone', WHERE WHAT IT READS IS OF BULK AT MOST 1048576: true; the input reads as it did. -/
def blockfsGoneUptoRow : OpenClaim := { program := "ytiedoocgbajjjaagreatdoor", sum := "c7a8476a311b5a6f3ea1eb111f19177fdd3b4d712d18c4e789fc5bca77c1ef0c", func := "majordomo/majordomolaw04.BlockfsGone", spec := "blockfsGone", inPlace := ["internal/bytealg.CountString", "internal/bytealg.IndexByteString", "internal/bytealg.IndexString"], unfollowed := true, recurses := true, named := ["unicode/utf8.first", "unicode/utf8.acceptRanges", "internal/bytealg.MaxLen"], apart := false, laid := [("unicode/utf8.acceptRanges", laid_unicode_utf8_acceptRanges), ("unicode/utf8.first", laid_unicode_utf8_first)], narrowed := true }
def BlockfsGoneUptoSaid : Prop := blockfsGoneUptoRow.holds Tryz.pinned (OpenSpec.upto blockfsGoneSpec)

/-- 'majordomolaw04.BlockfsApart', WHERE WHAT IT READS IS OF BULK AT MOST 1048576: true; the input reads as it did. -/
def blockfsApartUptoRow : OpenClaim := { program := "ytiedoocgbajjjaagreatdoor", sum := "c7a8476a311b5a6f3ea1eb111f19177fdd3b4d712d18c4e789fc5bca77c1ef0c", func := "majordomo/majordomolaw04.BlockfsApart", spec := "blockfsApart", inPlace := ["internal/bytealg.CountString", "internal/bytealg.IndexByteString", "internal/bytealg.IndexString"], unfollowed := true, recurses := true, named := ["unicode/utf8.first", "unicode/utf8.acceptRanges", "internal/bytealg.MaxLen"], apart := false, laid := [("unicode/utf8.acceptRanges", laid_unicode_utf8_acceptRanges), ("unicode/utf8.first", laid_unicode_utf8_first)], narrowed := true }
def BlockfsApartUptoSaid : Prop := blockfsApartUptoRow.holds Tryz.pinned (OpenSpec.upto blockfsApartSpec)

/-- 'majordomolaw04.BlockfsRoom', WHERE WHAT IT READS IS OF BULK AT MOST 1048576: true; the input reads as it did. -/
def blockfsRoomUptoRow : OpenClaim := { program := "ytiedoocgbajjjaagreatdoor", sum := "c7a8476a311b5a6f3ea1eb111f19177fdd3b4d712d18c4e789fc5bca77c1ef0c", func := "majordomo/majordomolaw04.BlockfsRoom", spec := "blockfsRoom", inPlace := ["internal/bytealg.CountString", "internal/bytealg.IndexByteString", "internal/bytealg.IndexString"], unfollowed := true, recurses := true, named := ["unicode/utf8.first", "unicode/utf8.acceptRanges", "internal/bytealg.MaxLen"], apart := false, laid := [("unicode/utf8.acceptRanges", laid_unicode_utf8_acceptRanges), ("unicode/utf8.first", laid_unicode_utf8_first)], narrowed := true }
def BlockfsRoomUptoSaid : Prop := blockfsRoomUptoRow.holds Tryz.pinned (OpenSpec.upto blockfsRoomSpec)

/-- 'majordomolaw04.BlockfsOrder', WHERE WHAT IT READS IS OF BULK AT MOST 1048576: true; the input reads as it did. -/
def blockfsOrderUptoRow : OpenClaim := { program := "ytiedoocgbajjjaagreatdoor", sum := "c7a8476a311b5a6f3ea1eb111f19177fdd3b4d712d18c4e789fc5bca77c1ef0c", func := "majordomo/majordomolaw04.BlockfsOrder", spec := "blockfsOrder", inPlace := ["internal/bytealg.CountString", "internal/bytealg.IndexByteString", "internal/bytealg.IndexString"], unfollowed := true, recurses := true, named := ["unicode/utf8.first", "unicode/utf8.acceptRanges", "internal/bytealg.MaxLen"], apart := false, laid := [("unicode/utf8.acceptRanges", laid_unicode_utf8_acceptRanges), ("unicode/utf8.first", laid_unicode_utf8_first)], narrowed := true }
def BlockfsOrderUptoSaid : Prop := blockfsOrderUptoRow.holds Tryz.pinned (OpenSpec.upto blockfsOrderSpec)

/-- 'majordomolaw04.BlockfsNew', WHERE WHAT IT READS IS OF BULK AT MOST 1048576: true; the input reads as it did. -/
def blockfsNewUptoRow : OpenClaim := { program := "ytiedoocgbajjjaagreatdoor", sum := "c7a8476a311b5a6f3ea1eb111f19177fdd3b4d712d18c4e789fc5bca77c1ef0c", func := "majordomo/majordomolaw04.BlockfsNew", spec := "blockfsNew", inPlace := ["internal/bytealg.CountString", "internal/bytealg.IndexByteString", "internal/bytealg.IndexString"], unfollowed := true, recurses := true, named := ["unicode/utf8.first", "unicode/utf8.acceptRanges", "internal/bytealg.MaxLen"], apart := false, laid := [("unicode/utf8.acceptRanges", laid_unicode_utf8_acceptRanges), ("unicode/utf8.first", laid_unicode_utf8_first)], narrowed := true }
def BlockfsNewUptoSaid : Prop := blockfsNewUptoRow.holds Tryz.pinned (OpenSpec.upto blockfsNewSpec)

end Rows
end Go.Proofs.YtiedoocgbajjjaaGreatDoor

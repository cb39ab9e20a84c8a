/-
  What JournalSteps is walked with: its two groups, and what each round is held against.
  Conditions: none.
-/
import Derived.Test.YthojnkdhaoankaaFused
import Derived.Test.YthojnkdhaoankaaBytesArg
import Derived.Test.YthojnkdhaoankaaClone
import Derived.Test.YthojnkdhaoankaaOrdl
namespace Go.Proofs.Ythojnkdhaoankaa
open Go.RowKit Go.Maps

def posA (i : Nat) : Nat := 199 + i
def posB (i : Nat) : Nat := 199 + (7 * i) % 60

theorem grpA (m : Nat) (l : List UInt8) (hl : l.length ≤ 40) : Grp 0 (grS m 0).size (grpG posA UInt8.ofNat l) :=
  grpG_grp _ _ _ _ _ (fun i hi => ⟨by unfold posA; omega, by show _ < (259 : Int); unfold posA; omega⟩) (fun i j hij hj => by unfold posA; omega) (by omega)
theorem grpB (S : DiskS) (hs : S.size = 259) (l : List UInt8) (hl : l.length ≤ 40) : Grp 0 S.size (grpG posB UInt8.ofNat l) :=
  grpG_grp _ _ _ _ _ (fun i hi => ⟨by unfold posB; omega, by rw [hs]; unfold posB; omega⟩) (fun i j hij hj => by unfold posB; omega) (by omega)

theorem JLive.off {w : World} {a j at_ g : Nat} {S : DiskS} (h : JLive w a j at_ g S) : Off w [a, S.m, j] := (h.live.disk.off.append h.jour.off).mono (by intro k hk; simpa using hk)

/-- What each round of the power's going off is held against. -/
structure StSt (w : World) (ba mb : Nat) (S1 S2 : DiskS) (vb va : Value) (gao : Option Addr) (lenb : Nat) (lb : List PutL) (NB : Nat) (wr : World) : Prop where
  base : IsDisk wr ba (S1.at mb)
  rb : RowsIs wr vb (rowsK S1.blk 0 NB)
  ra : RowsIs wr va (rowsK S2.blk 0 NB)
  puts : PutsIs wr gao lenb lb
  kept : Kept [] w wr
theorem StSt.grow {w : World} {ba mb : Nat} {S1 S2 : DiskS} {vb va : Value} {gao : Option Addr} {lenb : Nat} {lb : List PutL} {NB : Nat} {wr w' : World} (h : StSt w ba mb S1 S2 vb va gao lenb lb NB wr) (hk : Kept [] wr w') : StSt w ba mb S1 S2 vb va gao lenb lb NB w' :=
  ⟨h.base.kept hk (by simp) (by simp), h.rb.kept hk (Off.nil _), h.ra.kept hk (Off.nil _), h.puts.kept hk (Off.nil _), h.kept.trans hk⟩

end Go.Proofs.Ythojnkdhaoankaa

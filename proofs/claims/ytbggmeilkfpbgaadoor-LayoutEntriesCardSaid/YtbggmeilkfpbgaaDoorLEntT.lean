/-
  Layer 3: the program's TakeEntries.
  Conditions: those that each theorem states.
-/
import Derived.Test.YtbggmeilkfpbgaaDoorLEntD
import Derived.Test.YtbggmeilkfpbgaaDoorLTake
namespace Go.Proofs.YtbggmeilkfpbgaaDoor
open Go.RowKit Go.Maps

theorem elemEnt : ElemOk Tryd.prog 34 38 (.agg #[.int .i64 0, .string (strL [])]) 2 24 := ⟨Tryd.underlying34, by kernel_rfl, rfl, by omega⟩

def recAt (B : List UInt8) (i : Nat) : List UInt8 := (B.drop (32 * i)).take 32
def entAt (B : List UInt8) (i : Nat) : Ent := ((byteN (recAt B i) 0 : Int), nmL (recAt B i))
def entsOf (B : List UInt8) (k : Nat) : List Ent := (List.range k).map (entAt B)
theorem entsOf_length (B : List UInt8) (k : Nat) : (entsOf B k).length = k := by simp [entsOf]
theorem entsOf_succ (B : List UInt8) (k : Nat) : entsOf B (k + 1) = entsOf B k ++ [entAt B k] := by simp [entsOf, List.range_succ]
theorem recAt_length {B : List UInt8} {i : Nat} (h : 32 * i + 32 ≤ B.length) : (recAt B i).length = 32 := by simp [recAt]; omega
theorem ev_one : ∀ (l : List Ent), ∀ u ∈ ev l, u.oneCell' = true
  | [], u, h => by cases h
  | x :: l, u, h => by
    simp only [ev, List.mem_cons] at h
    rcases h with rfl | rfl | h
    · rfl
    · rfl
    · exact ev_one l u h

structure TeSt (w : World) (B : List UInt8) (k : Nat) (v : Value) (wr : World) : Prop where
  own : wr.ownsRow w.heap.size 38 2 v k (ev (entsOf B k))
  kept : Kept [] w wr

theorem TeSt.next {w : World} {B : List UInt8} {k : Nat} {v : Value} {wr : World} (R : TeSt w B k v wr) (hk : k < 16) (n : Nat) (p : List UInt8) (hx : entAt B k = ((n : Int), p)) :
    ∃ v' w7, (Builtin.append_ #[34, 34] 34 #[v, .slice (some ⟨wr.heap.size, 0, none⟩) 1 1]).run Tryd.prog (wr.alloc (.cells #[.int .i64 (n : Int), .string (strL p)] 38)) = .ok v' w7 ∧ TeSt w B (k + 1) v' w7 := by
  have hs0 : w.heap.size ≤ (wr.alloc (.cells #[.int .i64 (n : Int), .string (strL p)] 38)).heap.size := by rw [size_alloc]; have := R.kept.size; omega
  obtain ⟨v', w7, hrun, hown, hk7, _⟩ := own_app elemEnt 34 (wr.alloc (.cells #[.int .i64 (n : Int), .string (strL p)] 38)) w.heap.size v k _ (World.ownsRow.alloc R.own _) ⟨wr.heap.size, 0, none⟩ 1 1 (ev [((n : Int), p)]) (by rw [ev_length]; rfl)
    (fun j u hu => by
      rw [Addr.add_mid, Nat.zero_add, cell_of_row _ _ j _ _ _ (heap_alloc_last wr _)]
      simpa [ev] using hu) (ev_one _) (by unfold maxLen; omega) (by omega) hs0
  refine ⟨v', w7, hrun, ?_, (R.kept.trans (Kept.alloc _ _ _)).own (World.ownsRow.alloc R.own _) (Nat.le_refl _) hk7⟩
  rw [entsOf_succ, hx, ev_append]
  exact hown
end Go.Proofs.YtbggmeilkfpbgaaDoor

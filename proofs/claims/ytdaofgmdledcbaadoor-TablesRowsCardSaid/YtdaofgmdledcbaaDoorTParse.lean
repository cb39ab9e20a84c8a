/-
  Layer 5: the program's Parse.
  Conditions: those that each theorem states.
-/
import Derived.Test.YtdaofgmdledcbaaDoorTRead
namespace Go.Proofs.YtdaofgmdledcbaaDoor
open Go.RowKit Go.Maps

/-- What Parse answers: the error and the rows. -/
def parseE (t b : List UInt8) : Int × List TRow :=
  if widthI t = 0 then (50, []) else if 2432 < b.length then (51, []) else if printE t (readL b) = (0, b) then (0, readL b) else (51, [])
def ParseOut (t b : List UInt8) (w : World) (e : Ending) (w' : World) : Prop :=
  ∃ ao len cap n L, e = .returned (.tuple #[.slice ao len cap, .int .i64 n]) ∧ Hid (parseE t b = (n, L) ∧ RowsIs w' ao len L ∧ (∀ q o, ao = some ⟨q, o, none⟩ → w.heap.size ≤ q) ∧ Kept [] w w')
theorem OwnRows.out {D : Option Nat} {base : Nat} {w : World} {v : Value} {l : List TRow} (h : OwnRows D base w v l) : ∃ ao cap, v = .slice ao l.length cap ∧ RowsIs w ao l.length l ∧ (∀ q o, ao = some ⟨q, o, none⟩ → base ≤ q) := by
  have hb := h.blk
  obtain ⟨⟨vs, h1, _⟩, _⟩ := id h
  obtain ⟨ao, cap, rfl, _, _, _, hr⟩ := h.rows
  refine ⟨ao, cap, rfl, hr, ?_⟩
  rintro q o rfl
  obtain ⟨_, ⟨he, _⟩ | ⟨g, c2, cur, he, hg, _⟩⟩ := h1
  · simp at he
  · simp at he
    omega

set_option maxRecDepth 100000 in
set_option maxHeartbeats 2000000 in
theorem parse_any (t : List UInt8) (ao : Option Addr) (len cap : Nat) (b : List UInt8) (w : World) (ht : t.length ≤ 9223372036854775807) (hb : ArgB w ao len cap b) :
    Calls Tryd.prog 17 #[.string (strL t), .slice ao len cap] w (ParseOut t b w) := by
  have HB := Lib.hid hb
  have hlen : len ≤ 140737488355328 := hb.hle
  have HLL := Lib.hid hb.hlen
  clear hb
  obtain ⟨n, hn⟩ : ∃ n, widthI t = n := ⟨_, rfl⟩
  have HR : Hid (parseE t b = if n = 0 then (50, []) else if 2432 < b.length then (51, []) else if printE t (readL b) = (0, b) then (0, readL b) else (51, [])) := by show _ = _; rw [← hn]; rfl
  have HN := Lib.hid hn
  clear hn
  have HNO : Hid (∀ q o, (none : Option Addr) = some ⟨q, o, none⟩ → w.heap.size ≤ q) := fun q o h => by cases h
  by_cases h0 : n = 0
  · have q0 : (n == 0) = true := by simpa using h0
    have HR2 : Hid (parseE t b = (50, [])) := by show _ = _; rw [HR.out, if_pos h0]
    clear h0 HR
    go_enter Tryd.func17, Tryd.ntmps17
    go_wp2_with fail
    refine (width_any t _ ht).mono ?_
    rw [HN.out]
    rintro e w1 ⟨rfl, hk1⟩
    have HK1 := Lib.hid hk1
    clear hk1
    go_wp2_with fail
    go_ret2
    exact ⟨_, _, _, _, [], rfl, HR2.out, RowsIs.nil _ _, HNO.out, HK1.out⟩
  · have q0 : (n == 0) = false := by simpa using h0
    by_cases hbig : 2432 < len
    · have q1 : (2432 : Int) < (len : Int) := by omega
      have HR2 : Hid (parseE t b = (51, [])) := by show _ = _; rw [HR.out, if_neg h0, if_pos (by rw [HLL.out]; exact hbig)]
      clear h0 HR
      go_enter Tryd.func17, Tryd.ntmps17
      go_wp2_with fail
      refine (width_any t _ ht).mono ?_
      rw [HN.out]
      rintro e w1 ⟨rfl, hk1⟩
      have HK1 := Lib.hid hk1
      clear hk1
      go_wp2_with fail
      go_ret2
      exact ⟨_, _, _, _, [], rfl, HR2.out, RowsIs.nil _ _, HNO.out, HK1.out⟩
    · have q1 : ¬ (2432 : Int) < (len : Int) := by omega
      have HR2 : Hid (parseE t b = if printE t (readL b) = (0, b) then (0, readL b) else (51, [])) := by show _ = _; rw [HR.out, if_neg h0, if_neg (by rw [HLL.out]; exact hbig)]
      clear h0 HR
      go_enter Tryd.func17, Tryd.ntmps17
      go_wp2_with fail
      refine (width_any t _ ht).mono ?_
      rw [HN.out]
      rintro e w1 ⟨rfl, hk1⟩
      have HK1 := Lib.hid hk1
      have hcv : (convert 25 9 (.slice ao len cap)).run Tryd.prog w1 = .ok (.string (strL b)) w1 := (HB.out.kept hk1).conv
      clear hk1
      go_wp2_with fail
      refine (readRows_any b _ (by rw [HLL.out]; omega)).mono ?_
      rintro e w2 ⟨v, rfl, HV⟩
      obtain ⟨L, hL⟩ : ∃ L, readL b = L := ⟨_, rfl⟩
      rw [hL] at HV HR2
      clear hL hcv
      obtain ⟨rao, rcap, hv, hrows, hblk⟩ := HV.out.1.out
      subst hv
      have HRW := Lib.hid hrows
      have HBK : Hid (∀ q o, rao = some ⟨q, o, none⟩ → w.heap.size ≤ q) := fun q o h => Nat.le_trans HK1.out.size (hblk q o h)
      have HK2 := Lib.hid (HK1.out.trans HV.out.2)
      have hLl : L.length ≤ 140737488355328 := by have := hrows.bytes; omega
      clear hrows hblk HV HK1
      go_wp2_with fail
      refine (print_any t rao L.length rcap L _ ht HRW.out).mono ?_
      rintro e w3 ⟨v3, m, c, rfl, HP⟩
      have hcv3 : (convert 25 9 v3).run Tryd.prog w3 = .ok (.string (strL c)) w3 := convL HP.out.2.1
      have HRW3 := Lib.hid (HRW.out.kept HP.out.2.2.2)
      have HK3 := Lib.hid (HK2.out.trans HP.out.2.2.2)
      by_cases hm : m = 0
      · have q2 : (m != 0) = false := by simpa using hm
        have q2' : (m == 0) = true := by simpa using hm
        by_cases hc : c = b
        · have HF : Hid (parseE t b = (0, L)) := by show _ = _; rw [HR2.out, HP.out.1, hm, hc, if_pos rfl]
          have q3 : ((strL c).toList != (strL b).toList) = false := by rw [strL_bytes, strL_bytes, hc]; simp
          have q3' : ((strL c).toList == (strL b).toList) = true := by rw [strL_bytes, strL_bytes, hc]; simp
          clear hc hm HP HR2
          go_wp2_with fail
          go_ret2
          exact ⟨_, _, _, _, L, rfl, HF.out, HRW3.out, HBK.out, HK3.out⟩
        · have HF : Hid (parseE t b = (51, [])) := by show _ = _; rw [HR2.out, HP.out.1, hm, if_neg (by simpa using hc)]
          have q3 : ((strL c).toList != (strL b).toList) = true := by rw [strL_bytes, strL_bytes]; simpa using hc
          have q3' : ((strL c).toList == (strL b).toList) = false := by rw [strL_bytes, strL_bytes]; simpa using hc
          clear hc hm HP HR2
          go_wp2_with fail
          go_ret2
          exact ⟨_, _, _, _, [], rfl, HF.out, RowsIs.nil _ _, HNO.out, HK3.out⟩
      · have q2 : (m != 0) = true := by simpa using hm
        have q2' : (m == 0) = false := by simpa using hm
        have HF : Hid (parseE t b = (51, [])) := by
          show _ = _
          rw [HR2.out, HP.out.1, if_neg]
          intro h
          injection h with h1 h2
          exact hm h1
        clear hm HP HR2
        go_wp2_with fail
        go_ret2
        exact ⟨_, _, _, _, [], rfl, HF.out, RowsIs.nil _ _, HNO.out, HK3.out⟩
end Go.Proofs.YtdaofgmdledcbaaDoor

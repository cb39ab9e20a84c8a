/-
  Layer 7: the document's Check: what comes ahead of the resources.
  Conditions: those that each theorem states.
-/
import Derived.Test.YtfofhnbijjocfaaGreatDoorKRefY
import Derived.Test.YtfofhnbijjocfaaGreatDoorQDFull
import Derived.Test.YtfofhnbijjocfaaGreatDoorQSame
import Derived.BigQuiet
namespace Go.Proofs.YtfofhnbijjocfaaGreatDoor
open Go.RowKit Go.Maps
set_option maxRecDepth 100000

theorem strL_take (b : List UInt8) (k : Nat) : ((strL b).extract 0 k).toList = b.take k := by
  have : (strL b).extract 0 k = strL (b.take k) := by
    apply ByteArray.ext
    simp [strL]
  rw [this, strL_bytes]
theorem strL_at (b : List UInt8) (k : Nat) (_ : k < (strL b).size) (h' : k < b.length) : (strL b)[k] = b[k] := by
  simp [strL, ByteArray.getElem_eq_getElem_data]
theorem pre_iff {a b : List UInt8} (h : a.length < b.length) : (a ++ [47]) <+: b ↔ b.take a.length = a ∧ b[a.length] = 47 := by
  rw [List.prefix_iff_eq_take]
  simp only [List.length_append, List.length_singleton]
  rw [List.take_succ_eq_append_getElem h]
  constructor
  · intro e
    have := List.append_inj e (by simp; omega)
    exact ⟨this.1.symm, by have := this.2; simpa using this.symm⟩
  · rintro ⟨e1, e2⟩
    rw [e1, e2]
theorem txO_ok {t ti : List UInt8} {P : List Prm} {y : List UInt8} (h : codeO t ti P = 0) : txO t ti P y = y := by
  unfold txO; simp [h]

/-- What comes ahead of the resources is well. -/
def GoodC (c : Cat) : Prop := (0 ≤ c.ver ∧ c.ver ≤ 65535 ∧ keyB c.node = true) ∧ ¬ (32 < c.R.length ∨ 96 < c.E.length)

set_option maxRecDepth 100000 in
set_option maxHeartbeats 16000000 in
theorem rcCheck_head (c : Cat) (v : Value) (w : World) (h : CatIs w v c) (hbad : ¬ GoodC c) :
    Calls Tryz.prog 11 #[v] w fun e w' => e = .returned (.int .i64 (checkO c)) ∧ Kept [] w w' := by
  have hnode := h.node
  have HH := Lib.hid h
  obtain ⟨ra, rc, ea, ec, rfl, hb⟩ := h.box
  have hrl : c.R.length ≤ 140737488355328 := by have := hb.rs.len; omega
  have hel : c.E.length ≤ 140737488355328 := by have := hb.es.len; omega
  have HA := Lib.hid (Kept.alloc [] w (.cells #[.int .i64 c.ver, .string (strL c.node), .slice ra c.R.length rc, .slice ea c.E.length ec] 25))
  obtain ⟨w1, hw1⟩ : ∃ w1, w.alloc (.cells #[.int .i64 c.ver, .string (strL c.node), .slice ra c.R.length rc, .slice ea c.E.length ec] 25) = w1 := ⟨_, rfl⟩
  rw [hw1] at hb HA
  have HB := Lib.hid hb
  clear h hb
  obtain ⟨wb, hwb⟩ : ∃ b, wordB c.node 32 = b := ⟨_, rfl⟩
  have HWD : Hid (∀ w', Calls Tryz.prog 18 #[.string (strL c.node), .int .i64 32] w' fun e w2 => e = .returned (.bool wb) ∧ w' = w2) := fun w' => by rw [← hwb]; exact rword_any c.node 32 w' (by omega)
  obtain ⟨n, hn⟩ : ∃ n, c.R.length = n := ⟨_, rfl⟩
  obtain ⟨m, hm⟩ : ∃ m, c.E.length = m := ⟨_, rfl⟩
  obtain ⟨vv, hvv⟩ : ∃ vv, c.ver = vv := ⟨_, rfl⟩
  have HC : Hid (∀ w', Kept [] w1 w' → w'.cell? ⟨w.heap.size, 0, none⟩ = some (.int .i64 vv) ∧ w'.cell? ⟨w.heap.size, 1, none⟩ = some (.string (strL c.node)) ∧ w'.cell? ⟨w.heap.size, 2, none⟩ = some (.slice ra n rc) ∧ w'.cell? ⟨w.heap.size, 3, none⟩ = some (.slice ea m ec)) := fun w' hk => by
    rw [← hn, ← hm, ← hvv]
    exact ⟨(HB.out.kept hk).c0, (HB.out.kept hk).c1, (HB.out.kept hk).c2, (HB.out.kept hk).c3⟩
  have HRS : Hid (∀ w', Kept [] w1 w' → RsIs w' (.slice ra n rc) c.R) := fun w' hk => by rw [← hn]; exact HB.out.rs.kept hk
  have HES : Hid (∀ w', Kept [] w1 w' → EsIs w' (.slice ea m ec) c.E) := fun w' hk => by rw [← hm]; exact HB.out.es.kept hk
  have HBY : Hid (partsO c = 0 → ∀ w', Kept [] w1 w' → Calls Tryz.prog 16 #[.agg #[.int .i64 vv, .string (strL c.node), .slice ra n rc, .slice ea m ec]] w' fun e w2 => ∃ v', e = .returned v' ∧ Hid (OwnB w'.heap.size w2 v' (catB c) ∧ Kept [] w' w2)) := fun hp w' hk => by
    rw [← hn, ← hm, ← hvv]
    exact rcbytes_any c _ w' (HH.out.kept (HA.out.trans hk)) hp
  rw [hn] at hrl hw1
  rw [hm] at hel hw1
  rw [hvv] at hw1
  rw [hn, hm, hvv]
  have HPA : Hid (¬ (0 ≤ vv ∧ vv ≤ 65535 ∧ c.node ≠ [] ∧ wb = true) → checkO c = 70) := fun hh => by
    have : partsO c = 70 := partsO_A (by
      rw [hvv]
      intro h
      apply hh
      have h3 := h.2.2
      unfold keyB at h3
      rw [Bool.and_eq_true, decide_eq_true_eq, hwb] at h3
      exact ⟨h.1, h.2.1, h3.1, h3.2⟩)
    unfold checkO
    rw [this]
    rfl
  have hkey : 0 ≤ vv ∧ vv ≤ 65535 ∧ c.node ≠ [] ∧ wb = true → 0 ≤ c.ver ∧ c.ver ≤ 65535 ∧ keyB c.node = true := fun hh => by
    rw [hvv]
    refine ⟨hh.1, hh.2.1, ?_⟩
    unfold keyB
    rw [Bool.and_eq_true, decide_eq_true_eq, hwb]
    exact hh.2.2
  have HPB : Hid (0 ≤ vv ∧ vv ≤ 65535 ∧ c.node ≠ [] ∧ wb = true → 32 < n ∨ 96 < m → checkO c = 5) := fun h1 h2 => by
    have : partsO c = 5 := partsO_B (hkey h1) (by rw [hn, hm]; exact h2)
    unfold checkO
    rw [this]
    rfl
  have HPC : Hid (0 ≤ vv ∧ vv ≤ 65535 ∧ c.node ≠ [] ∧ wb = true → ¬ (32 < n ∨ 96 < m) → partsO c = if resL none c.R ≠ 0 then resL none c.R else if blkB c.R = true then 90 else if edgB n c.E = true then 0 else 72) := fun h1 h2 => by
    rw [← hn]; exact partsO_C (hkey h1) (by rw [hn, hm]; exact h2)
  have HN := Lib.hid hn
  have HM := Lib.hid hm
  have HBAD : Hid (¬ ((0 ≤ vv ∧ vv ≤ 65535 ∧ c.node ≠ [] ∧ wb = true) ∧ ¬ (32 < n ∨ 96 < m))) := fun hh => hbad ⟨hkey hh.1, by rw [hn, hm]; exact hh.2⟩
  clear HRS HES HBY hbad
  clear hwb hn hm hvv hkey
  obtain ⟨c0, c1, c2, c3⟩ := HC.out w1 (Kept.refl _ _)
  rcases (by omega : vv < 0 ∨ (¬ vv < 0 ∧ 65535 < vv) ∨ (¬ vv < 0 ∧ ¬ 65535 < vv)) with g1 | ⟨g1, g2⟩ | ⟨g1, g2⟩
  · have HZ := Lib.hid (HPA.out (by omega))
    go_enter Tryz.func11, Tryz.ntmps11
    go_wp2_with fail
    go_ret
    exact ⟨ret64 HZ.out.symm, HA.out⟩
  · have HZ := Lib.hid (HPA.out (by omega))
    go_enter Tryz.func11, Tryz.ntmps11
    go_wp2_with fail
    go_ret
    exact ⟨ret64 HZ.out.symm, HA.out⟩
  by_cases hdn : c.node = []
  · have e1 : ((strL c.node).toList == []) = true := by rw [strL_bytes, hdn]; rfl
    have HZ := Lib.hid (HPA.out (fun hh => hh.2.2.1 hdn))
    clear hdn
    go_enter Tryz.func11, Tryz.ntmps11
    go_wp2_with fail
    go_ret
    exact ⟨ret64 HZ.out.symm, HA.out⟩
  have e1 : ((strL c.node).toList == []) = false := by rw [strL_bytes, beq_eq_false_iff_ne]; exact hdn
  have HDN := Lib.hid hdn
  clear hdn
  cases wb
  · have HZ := Lib.hid (HPA.out (by simp))
    go_enter Tryz.func11, Tryz.ntmps11
    go_wp2_with fail
    refine (HWD.out _).mono ?_
    rintro e w2 ⟨rfl, rfl⟩
    go_wp2_with fail
    go_ret
    exact ⟨ret64 HZ.out.symm, HA.out⟩
  have HPB2 := Lib.hid (HPB.out ⟨by omega, by omega, HDN.out, rfl⟩)
  clear HPA HPB HPC
  by_cases g3 : (32 : Int) < (n : Int)
  · have HZ := Lib.hid (HPB2.out (by omega))
    go_enter Tryz.func11, Tryz.ntmps11
    go_wp2_with fail
    refine (HWD.out _).mono ?_
    rintro e w2 ⟨rfl, rfl⟩
    go_wp2_with fail
    go_ret
    exact ⟨ret64 HZ.out.symm, HA.out⟩
  by_cases g4 : (96 : Int) < (m : Int)
  · have HZ := Lib.hid (HPB2.out (by omega))
    go_enter Tryz.func11, Tryz.ntmps11
    go_wp2_with fail
    refine (HWD.out _).mono ?_
    rintro e w2 ⟨rfl, rfl⟩
    go_wp2_with fail
    go_ret
    exact ⟨ret64 HZ.out.symm, HA.out⟩
  exact absurd ⟨⟨by omega, by omega, HDN.out, rfl⟩, by omega⟩ HBAD.out
end Go.Proofs.YtfofhnbijjocfaaGreatDoor

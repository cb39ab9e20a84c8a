/-
  Layer 12: which reader a statement has; statements; the manifest.
  Conditions: those that each theorem states.
-/
import Derived.Test.YtfpdgdacifiejaaGreatVChain
namespace Go.Proofs.YtfpdgdacifiejaaGreat
open Go.RowKit Go.Maps Go.Shelf

def namF (t : List UInt8) : FuncId :=
  if t = [99, 108, 97, 115, 115] then 139 else if t = [100, 101, 102, 105, 110, 101] then 140 else if t = [105, 110, 99, 108, 117, 100, 101] then 141 else if t = [105, 102] then 142 else 143
def rdrF (k : Int) (t : List UInt8) : FuncId := if k = 3 then 106 else if k = 2 then 107 else if k = 1 then namF t else 109
def fnV (g : Nat) (f : FuncId) : Value := .func (.func f) #[.pointer (some ⟨g, 0, none⟩)] #[]
set_option maxRecDepth 100000 in
set_option maxHeartbeats 4000000 in
theorem ynamed_any (g : Nat) (t : List UInt8) (w : World) : Calls Tryz.prog 108 #[.pointer (some ⟨g, 0, none⟩), .string (strL t)] w fun e w' => e = .returned (fnV g (namF t)) ∧ w = w' := by
  have hmf := noFn
  have ht : (strL t).toList = t := strL_bytes t
  unfold namF fnV
  by_cases h1 : t = [99, 108, 97, 115, 115]
  · subst h1
    rw [if_pos rfl]
    go_enter Tryz.func108, Tryz.ntmps108
    go_wp2_with fail
    go_ret
    exact ⟨rfl, rfl⟩
  rw [if_neg h1]
  by_cases h2 : t = [100, 101, 102, 105, 110, 101]
  · subst h2
    rw [if_pos rfl]
    go_enter Tryz.func108, Tryz.ntmps108
    go_wp2_with fail
    go_ret
    exact ⟨rfl, rfl⟩
  rw [if_neg h2]
  by_cases h3 : t = [105, 110, 99, 108, 117, 100, 101]
  · subst h3
    rw [if_pos rfl]
    go_enter Tryz.func108, Tryz.ntmps108
    go_wp2_with fail
    go_ret
    exact ⟨rfl, rfl⟩
  rw [if_neg h3]
  by_cases h4 : t = [105, 102]
  · subst h4
    rw [if_pos rfl]
    go_enter Tryz.func108, Tryz.ntmps108
    go_wp2_with fail
    go_ret
    exact ⟨rfl, rfl⟩
  rw [if_neg h4]
  have q1 : ((strL t).toList == [99, 108, 97, 115, 115]) = false := by rw [ht]; simpa using h1
  have q2 : ((strL t).toList == [100, 101, 102, 105, 110, 101]) = false := by rw [ht]; simpa using h2
  have q3 : ((strL t).toList == [105, 110, 99, 108, 117, 100, 101]) = false := by rw [ht]; simpa using h3
  have q4 : ((strL t).toList == [105, 102]) = false := by rw [ht]; simpa using h4
  clear h1 h2 h3 h4 ht
  go_enter Tryz.func108, Tryz.ntmps108
  go_wp2_with fail
  go_ret
  exact ⟨rfl, rfl⟩
set_option maxRecDepth 100000 in
set_option maxHeartbeats 4000000 in
theorem yreader_any (g : Nat) (k a : Int) (t : List UInt8) (w : World) : Calls Tryz.prog 62 #[.pointer (some ⟨g, 0, none⟩), .agg #[.int .i64 k, .string (strL t), .int .i64 a]] w fun e w' => e = .returned (fnV g (rdrF k t)) ∧ Kept [] w w' := by
  have hmf := noFn
  have HN := Lib.hid (fun w => ynamed_any g t w)
  obtain ⟨w1, hw1⟩ : ∃ w1, w.alloc (.cells #[.int .i64 k, .string (strL t), .int .i64 a] 38) = w1 := ⟨_, rfl⟩
  have HA : Hid (Kept [] w w1) := by show Kept _ _ _; rw [← hw1]; exact Kept.alloc _ _ _
  have hrow : w1.heap[w.heap.size]? = some (.cells #[.int .i64 k, .string (strL t), .int .i64 a] 38) := by rw [← hw1]; exact heap_alloc_last _ _
  have v0 : w1.cell? ⟨w.heap.size, 0, none⟩ = some (.int .i64 k) := cell_of_row _ _ 0 _ _ _ hrow
  have v1 : w1.cell? ⟨w.heap.size, 1, none⟩ = some (.string (strL t)) := cell_of_row _ _ 1 _ _ _ hrow
  clear hrow
  unfold rdrF
  by_cases h3 : k = 3
  · subst h3
    rw [if_pos rfl]
    unfold fnV
    go_enter Tryz.func62, Tryz.ntmps62
    go_wp2_with fail
    go_ret
    exact ⟨rfl, HA.out⟩
  rw [if_neg h3]
  by_cases h2 : k = 2
  · subst h2
    rw [if_pos rfl]
    unfold fnV
    go_enter Tryz.func62, Tryz.ntmps62
    go_wp2_with fail
    go_ret
    exact ⟨rfl, HA.out⟩
  rw [if_neg h2]
  by_cases h1 : k = 1
  · subst h1
    rw [if_pos rfl]
    clear h2 h3
    obtain ⟨f, hf⟩ : ∃ f, namF t = f := ⟨_, rfl⟩
    rw [hf] at HN
    rw [hf]
    unfold fnV at HN ⊢
    clear hf
    go_enter Tryz.func62, Tryz.ntmps62
    go_wp2_with fail
    refine (HN.out w1).mono ?_
    rintro e w2 ⟨rfl, rfl⟩
    go_wp2_with fail
    go_ret
    exact ⟨rfl, HA.out⟩
  rw [if_neg h1]
  have q1 : (k == 1) = false := by simpa using h1
  have q2 : (k == 2) = false := by simpa using h2
  have q3 : (k == 3) = false := by simpa using h3
  unfold fnV
  clear h1 h2 h3
  go_enter Tryz.func62, Tryz.ntmps62
  go_wp2_with fail
  go_ret
  exact ⟨rfl, HA.out⟩
/-- The reader of a statement reads it. -/
theorem reads_stmt (c : PCx) (n : Nat) (hst : PC c 39 (stmtF n) n) (A : List Nat) (m : Nat) (s : PSt) (w : World) (hm : m ≤ 5000) (hr : s.r.length < n + 1) (h : PrSt c A m s w) :
    Enters Tryz.prog (rdrF (hdK s.r) (hdT s.r)) ∧ Calls Tryz.prog (rdrF (hdK s.r) (hdT s.r)) #[.pointer (some ⟨c.g, 0, none⟩)] w (PRes c (stmtF (n + 1) s) nV A m w) := by
  have hval := (values_pc c n).2
  have hbl : PC c 153 (blockOf n (stmtF n)) n := block_pc c n (stmtF n) hst (Eats.stmt n)
  unfold rdrF
  by_cases h3 : hdK s.r = 3
  · rw [if_pos h3, stmt_var h3]
    exact ⟨enters_of Tryz.func106 (by kernel_rfl) rfl, set_pc c n hval A m s w hm hr h⟩
  rw [if_neg h3]
  by_cases h2 : hdK s.r = 2
  · rw [if_pos h2, stmt_type h2]
    exact ⟨enters_of Tryz.func107 (by kernel_rfl) rfl, ychain_any c n hval A m s w hm hr (by
      cases hq : s.r with
      | nil => rw [hq] at h2; simp [hdK] at h2
      | cons t r => rw [hq] at hr; simp at hr; omega) h⟩
  rw [if_neg h2]
  by_cases h1 : hdK s.r = 1
  · rw [if_pos h1]
    have hb : tkB (isKd 1) s.r = true := by rw [is_kd (by decide)]; simpa using h1
    unfold namF
    by_cases t1 : hdT s.r = [99, 108, 97, 115, 115]
    · rw [if_pos t1, stmt_class h1 t1]
      exact ⟨enters_of Tryz.func139 (by kernel_rfl) rfl, yclass_any c n (stmtF n) hbl hval (isKd 1) A m s w hm hr h hb⟩
    rw [if_neg t1]
    by_cases t2 : hdT s.r = [100, 101, 102, 105, 110, 101]
    · rw [if_pos t2, stmt_define h1 t2]
      exact ⟨enters_of Tryz.func140 (by kernel_rfl) rfl, ydefine_any c n (stmtF n) hbl hval (isKd 1) A m s w hm hr h hb⟩
    rw [if_neg t2]
    by_cases t3 : hdT s.r = [105, 110, 99, 108, 117, 100, 101]
    · rw [if_pos t3, stmt_include h1 t3]
      exact ⟨enters_of Tryz.func141 (by kernel_rfl) rfl, include_pc c n (isKd 1) A m s w hm hr h hb⟩
    rw [if_neg t3]
    by_cases t4 : hdT s.r = [105, 102]
    · rw [if_pos t4, stmt_if h1 t4]
      exact ⟨enters_of Tryz.func142 (by kernel_rfl) rfl, ycondition_any c n (stmtF n) (Lc.stmt n) hbl hval (isKd 1) A m s w hm hr h hb⟩
    rw [if_neg t4, stmt_res h1 t1 t2 t3 t4]
    exact ⟨enters_of Tryz.func143 (by kernel_rfl) rfl, yresource_any c n hval A m s w hm hr h⟩
  rw [if_neg h1, stmt_none h1 h2 h3]
  exact ⟨enters_of Tryz.func109 (by kernel_rfl) rfl, (yrefuse_any c A m s w h).mono fun e w' ⟨h5, h6⟩ => by subst h6; exact ⟨h5, h.kept, h.le⟩⟩
set_option maxRecDepth 100000 in
set_option maxHeartbeats 4000000 in
theorem stmt_step (c : PCx) (n : Nat) (hst : PC c 39 (stmtF n) n) : PC c 39 (stmtF (n + 1)) (n + 1) := by
  intro A m s w hm hr h
  have HW := Lib.hid (yword_any c A m s w h)
  have HH := Lib.hid h
  have HR := Lib.hid (fun w' (hk : Kept [] w w') => reads_stmt c n hst A m s w' hm hr (h.keep hk))
  have hE : ∀ (args : Array Value) (w : World), (callFunc (rdrF (hdK s.r) (hdT s.r)) args).run Tryz.prog w = .ok (.enter (rdrF (hdK s.r) (hdT s.r)) args) w := (HR.out w (Kept.refl _ _)).1
  have HRD := Lib.hid (fun a w => yreader_any c.g (hdK s.r) a (hdT s.r) w)
  unfold wdV at HW
  unfold fnV at HRD
  obtain ⟨f, hf⟩ : ∃ f, rdrF (hdK s.r) (hdT s.r) = f := ⟨_, rfl⟩
  rw [hf] at hE HR HRD
  clear h hm hr hst hf
  go_enter Tryz.func39, Tryz.ntmps39
  go_wp2_with fail
  refine HW.out.mono ?_
  rintro e w1 ⟨a, rfl, hk1⟩
  have HK1 := Lib.hid hk1
  clear hk1
  go_wp2_with fail
  refine (HRD.out a w1).mono ?_
  rintro e w2 ⟨rfl, hk2⟩
  have HK2 : Hid (Kept [] w w2) := HK1.out.trans hk2
  have HC := Lib.hid (HR.out w2 HK2.out).2
  clear hk2
  go_wp2_with fail
  refine HC.out.mono ?_
  intro e w3 h3
  rcases (h3.pre (KA.of HK2.out)).way with ⟨r, q, rfl, ha⟩ | ⟨s3, x3, q, rfl, ha, hd⟩
  · exact ⟨rfl, PRes.err q rfl ha.1 ha.2⟩
  have HF : Hid (PRes c (stmtF (n + 1) s) nV A m w (.returned (nV x3)) w3) := PRes.ok q rfl ha hd
  unfold nV at HF ⊢
  clear h3 q ha hd
  go_wp2_with fail
  go_ret
  exact HF.out
theorem stmt_pc (c : PCx) : ∀ n, PC c 39 (stmtF n) n
  | 0 => fun _ _ _ _ _ hr _ => absurd hr (Nat.not_lt_zero _)
  | n + 1 => stmt_step c n (stmt_pc c n)
end Go.Proofs.YtfpdgdacifiejaaGreat

/-
  Law 2's with: rows of blocks behind a group.
  Conditions: those that each theorem states.
-/
import Derived.Test.YtmckapfncnoddaaFused
namespace Go.Proofs.Ytmckapfncnoddaa
open Go.RowKit Go.Maps

theorem rowsK_len (f : Int → List UInt8) (at_ n : Nat) : (rowsK f at_ n).length = min n at_ + (n - (at_ + 199)) := by
  induction n with
  | zero => simp [rowsK]
  | succ n ih =>
    unfold rowsK
    split
    · omega
    · simp; omega

def ixOf (at_ i : Nat) : Nat := if i < at_ then i else i - 199

theorem rowsK_upd (f : Int → List UInt8) (at_ i : Nat) (b : List UInt8) (ho : ¬ (at_ ≤ i ∧ i < at_ + 199)) (n : Nat) : rowsK (updL f i b) at_ n = (rowsK f at_ n).set (ixOf at_ i) b := by
  induction n with
  | zero => simp [rowsK]
  | succ n ih =>
    have hl := rowsK_len f at_ n
    unfold rowsK
    split
    · exact ih
    · rename_i hn
      rw [ih, List.set_append]
      by_cases e : i = n
      · subst e
        have hx : ixOf at_ i = (rowsK f at_ i).length := by unfold ixOf; split <;> omega
        rw [hx, if_neg (by omega), List.set_eq_of_length_le (Nat.le_refl _)]
        simp [updL]
      · have hv : updL f i b n = f n := by simp only [updL]; rw [if_neg (by omega)]
        rw [hv]
        by_cases hlt : i < n
        · have hx : ixOf at_ i < (rowsK f at_ n).length := by unfold ixOf; split <;> omega
          rw [if_pos hx]
        · have hx : (rowsK f at_ n).length < ixOf at_ i := by unfold ixOf; split <;> omega
          rw [if_neg (by omega), List.set_eq_of_length_le (by omega), List.set_eq_of_length_le (by simp; omega)]

theorem own_cells {w : World} {base : Nat} {e : TypeId} {v : Value} {n : Nat} {xs : List Value} (h : w.ownsRow base e 1 v n xs) (hn : 0 < n) :
    ∃ g cap cs, v = .slice (some ⟨g, 0, none⟩) n cap ∧ base ≤ g ∧ w.heap[g]? = some (.cells cs e) ∧ ∀ q, q < n → cs[q]? = xs[q]? := by
  obtain ⟨h1, ⟨rfl, h2⟩ | ⟨g, cap, cur, rfl, hb, hg, hc1, hc2, hcs, htk⟩⟩ := h
  · omega
  · refine ⟨g, cap, cur, rfl, hb, hg, fun q hq => ?_⟩
    rw [← htk, List.getElem?_take_of_lt (by omega)]
    simp

theorem own_start (w : World) (e : TypeId) : (w.alloc (.cells #[] e)).ownsRow w.heap.size e 1 (.slice (some ⟨w.heap.size, 0, none⟩) 0 0) 0 [] :=
  ⟨by simp, .inr ⟨w.heap.size, 0, #[], rfl, Nat.le_refl _, heap_alloc_last _ _, by simp, by unfold maxLen; omega, by simp, by simp⟩⟩

/-- Rows that are held in a block of one's own. -/
def OutIs (wr : World) (g : Nat) (cs : Array Value) (L : List (List UInt8)) : Prop :=
  wr.heap[g]? = some (.cells cs 48) ∧ ∀ q (hq : q < L.length), ∃ u, cs[q]? = some u ∧ RowV wr u L[q]

theorem OutIs.kept {w w' : World} {g : Nat} {cs : Array Value} {L : List (List UInt8)} (h : OutIs w g cs L) (hk : Kept [] w w') : OutIs w' g cs L :=
  ⟨hk.heap (by simp) h.1, fun q hq => by obtain ⟨u, h1, h2⟩ := h.2 q hq; exact ⟨u, h1, h2.kept hk (Off.nil _)⟩⟩

theorem OutIs.rows {w : World} {g cap : Nat} {cs : Array Value} {L : List (List UInt8)} (h : OutIs w g cs L) : RowsIs w (.slice (some ⟨g, 0, none⟩) L.length cap) L :=
  ⟨g, cap, rfl, fun k hk => by
    obtain ⟨u, h1, h2⟩ := h.2 k hk
    exact ⟨u, by rw [cell_of_row w g k _ _ _ h.1]; exact h1, h2⟩⟩

theorem OutIs.set {w : World} {g ix : Nat} {cs : Array Value} {L : List (List UInt8)} (h : OutIs w g cs L) {u : Value} {l : List UInt8} (hu : RowV w u l) :
    OutIs (w.setCell ⟨g, ix, none⟩ u) g (cs.setIfInBounds ix u) (L.set ix l) := by
  have hk : Kept [g] w (w.setCell ⟨g, ix, none⟩ u) := Kept.setCell _ _ _ _ (by simp)
  have ht : ∀ b ∈ [g], ∀ cs' t, w.heap[b]? = some (.cells cs' t) → t = 48 := fun b hb cs' t hc => by
    simp at hb
    subst hb
    rw [h.1] at hc
    simp at hc
    exact hc.2.symm
  refine ⟨heap_setCell_same _ _ _ _ _ _ h.1, fun q hq => ?_⟩
  simp only [List.length_set] at hq
  obtain ⟨u', h1, h2⟩ := h.2 q hq
  by_cases e : ix = q
  · subst e
    refine ⟨u, ?_, by simpa using hu.kept' hk ht⟩
    have := (Array.getElem?_eq_some_iff.1 h1).1
    simp [this]
  · refine ⟨u', by rw [Array.getElem?_setIfInBounds_ne e]; exact h1, ?_⟩
    rw [List.getElem_set_ne e]
    exact h2.kept' hk ht

theorem copy_rows {w : World} {v : Value} {L : List (List UInt8)} (h : RowsIs w v L) (hl : L.length ≤ 4096) (hl0 : 0 < L.length) :
    ∃ g cap w5 cs, (Builtin.append_ #[29, 29] 29 #[.slice (some ⟨w.heap.size, 0, none⟩) 0 0, v]).run Try.prog (w.alloc (.cells #[] 48)) = .ok (.slice (some ⟨g, 0, none⟩) L.length cap) w5 ∧ OutIs w5 g cs L ∧ w.heap.size ≤ g ∧ Kept [] w w5 := by
  obtain ⟨b, cap, rfl, hr⟩ := h
  obtain ⟨i, hi', hz, hsz, hby⟩ := info_parts infoRow
  have hk1 : Kept [] w (w.alloc (.cells #[] 48)) := Kept.alloc _ _ _
  obtain ⟨us, hul, hus⟩ : ∃ us : List Value, us.length = L.length ∧ ∀ q u, us[q]? = some u → ∃ hq : q < L.length, w.cell? ⟨b, q, none⟩ = some u ∧ RowV w u L[q] := by
    refine ⟨(List.range L.length).map fun q => (w.cell? ⟨b, q, none⟩).getD default, by simp, fun q u hu => ?_⟩
    have hq : q < L.length := by
      have := (List.getElem?_eq_some_iff.1 hu).1
      simpa using this
    obtain ⟨u', h1, h2⟩ := hr q hq
    simp [hq, h1] at hu
    subst hu
    exact ⟨hq, h1, h2⟩
  obtain ⟨v', w5, hrun, hown, hgr, _⟩ := run_append_own (P := Try.prog) (w.alloc (.cells #[] 48)) w.heap.size 29 29 48 i _ 1 24 Try.underlying29 hi' hz hsz hby rfl (by omega) _ 0 [] (own_start w _) ⟨b, 0, none⟩ L.length cap us (by omega)
    (fun q u hu => by
      obtain ⟨hq, h1, _⟩ := hus q u hu
      rw [Addr.add_mid, Nat.zero_add, hk1.cell (p := ⟨b, q, none⟩) (World.block_lt_of_cell? w _ h1) (by simp)]
      exact h1)
    (fun u hu => by
      obtain ⟨q, hq⟩ := List.mem_iff_getElem?.1 hu
      obtain ⟨_, _, rb, c, cs, t, rfl, _⟩ := hus q u hq
      rfl) (by unfold maxLen; omega) (by omega) (by simp)
  rw [Nat.zero_add] at hown
  obtain ⟨g, cap', cs, rfl, hg, hh, hcs⟩ := own_cells hown hl0
  have hk5 : Kept [] w w5 := hk1.into (Kept.grown (ex := [w.heap.size]) hgr (fun q hq => by simp [Value.ownBlock] at hq; simp [hq])) (by simp)
  refine ⟨g, cap', w5, cs, hrun, ⟨hh, fun q hq => ?_⟩, hg, hk5⟩
  obtain ⟨u, hu⟩ : ∃ u, us[q]? = some u := ⟨us[q]'(by omega), by simp [hul, hq]⟩
  obtain ⟨_, _, h2⟩ := hus q u hu
  refine ⟨u, by rw [hcs q hq]; simpa using hu, h2.kept hk5 (Off.nil _)⟩

theorem copy_bytes {w : World} {sl : Value} {l : List UInt8} (h : SlW w sl l) (h64 : l.length = 64) :
    ∃ rb c w5, (Builtin.append_ #[48, 48] 48 #[.slice (some ⟨w.heap.size, 0, none⟩) 0 0, sl]).run Try.prog (w.alloc (.cells #[] 5)) = .ok (.slice (some ⟨rb, 0, none⟩) 64 c) w5 ∧ RowV w5 (.slice (some ⟨rb, 0, none⟩) 64 c) l ∧ Kept [] w w5 := by
  obtain ⟨b, o, c', rfl, hb, hr⟩ : ∃ b o c', sl = .slice (some ⟨b, o, none⟩) l.length c' ∧ b < w.heap.size ∧ w.rangeAt b o (bv l) := by
    rcases h with (⟨b', o', c', he, h1, h2⟩ | ⟨he, hnil⟩) | ⟨a', c', he, hnil⟩
    · exact ⟨b', o', c', he, h1, h2⟩
    · rw [hnil] at h64; simp at h64
    · rw [hnil] at h64; simp at h64
  obtain ⟨i, hi', hz, hsz, hby⟩ := info_parts infoByte
  have hk1 : Kept [] w (w.alloc (.cells #[] 5)) := Kept.alloc _ _ _
  obtain ⟨v', w5, hrun, hown, hgr, _⟩ := run_append_own (P := Try.prog) (w.alloc (.cells #[] 5)) w.heap.size 48 48 5 i _ 1 1 Try.underlying48 hi' hz hsz hby rfl (by omega) _ 0 [] (own_start w _) ⟨b, o, none⟩ l.length c' (bv l) (by rw [bv_length]; omega)
    (fun q u hu => by rw [Addr.add_mid]; exact hk1.range hb (by simp) hr q u hu) (bv_one _) (by unfold maxLen; omega) (by omega) (by simp)
  rw [Nat.zero_add] at hown
  obtain ⟨g, cap', cs, rfl, hg, hh, hcs⟩ := own_cells hown (by omega)
  rw [h64] at hrun hcs
  rw [h64]
  refine ⟨g, cap', w5, hrun, ⟨g, cap', cs, _, rfl, hh, by decide, fun q u hu => ?_, h64⟩, hk1.into (Kept.grown (ex := [w.heap.size]) hgr (fun q hq => by simp [Value.ownBlock] at hq; simp [hq])) (by simp)⟩
  have hq : q < 64 := by
    have := (List.getElem?_eq_some_iff.1 hu).1
    rw [bv_length] at this
    omega
  rw [Nat.zero_add, cell_of_row w5 g q _ _ _ hh, hcs q hq]
  simpa using hu

structure WiSt (w : World) (f : Int → List UInt8) (at_ : Nat) (l : List PutL) (k g : Nat) (cs : Array Value) (L : List (List UInt8)) (wr : World) : Prop where
  out : OutIs wr g cs L
  rows : L = rowsK (applyL f (l.take k)) at_ 259
  kept : Kept [] w wr

set_option maxRecDepth 100000 in
set_option maxHeartbeats 4000000 in
theorem with_any (w : World) (v : Value) (f : Int → List UInt8) (at_ : Nat) (at' : Int) (hat' : at' = at_) (hat : at_ ≤ 60) (L0 : List (List UInt8)) (hL0 : L0 = rowsK f at_ 259) (h : RowsIs w v L0)
    (ao : Option Addr) (len cap : Nat) (l : List PutL) (hl : PutsIs w ao len l) (hg : Grp at_ 259 l) :
    Calls Try.prog 17 #[v, .int .i64 at', .slice ao len cap] w fun e w' => ∃ v', e = .returned v' ∧ RowsIs w' v' (rowsK (applyL f l) at_ 259) ∧ Kept [] w w' := by
  subst hat'
  have HL := Lib.hid hl
  have HG := Lib.hid hg
  have HL0 := Lib.hid hL0
  have hlen : len ≤ 192 := by rw [← hl.1]; exact hg.len
  have h60 : L0.length = 60 := by rw [hL0, rowsK_len]; omega
  obtain ⟨g, cap5, w5, cs5, hrun, hout, hg5, hk5⟩ := copy_rows h (by omega) (by omega)
  obtain ⟨b, vcap, rfl, _⟩ := h
  rw [h60] at hrun ⊢
  have HRUN := Lib.hid hrun
  have HO := Lib.hid hout
  have HK5 := Lib.hid hk5
  have HG5 := Lib.hid hg5
  have H60 := Lib.hid h60
  clear hl hg hL0 hrun hout hk5 hg5 h60
  go_enter Try.func17, Try.ntmps17
  go_wp2_with (refine wpList_append_run rfl _ _ 29 rfl _ _ _ rfl rfl HRUN.out ?_)
  go_loopw [8] (fun i wr => ∃ (k : Nat) (cs : Array Value) (L : List (List UInt8)), k ≤ len ∧ i = .int .i64 k ∧ Hid (WiSt w f at_ l k g cs L wr)) (fun i _ => len - (intOf i).toNat)
  case atStart => exact ⟨0, cs5, L0, by omega, rfl, HO.out, by rw [HL0.out]; rfl, HK5.out⟩
  case round =>
    obtain ⟨k, cs, L, hkl, rfl, HS⟩ := hrel
    by_cases hlt : k < len
    · have hkl' : k < l.length := by rw [HL.out.1]; exact hlt
      obtain ⟨b2, o2, hao, hat'⟩ := HL.out.2.2 (by omega)
      subst hao
      obtain ⟨ao', n', cap', q1, q2, q3, q4, q5, q6⟩ := hat'.kept HS.out.kept (Off.nil _) k hkl'
      obtain ⟨⟨pb, pl⟩, hp⟩ : ∃ p, p = l[k] := ⟨_, rfl⟩
      have hok := HG.out.each l[k] (List.getElem_mem _)
      rw [← hp] at hok q1 q3 q4 q5
      simp only at q1 q3 q4 q5
      obtain ⟨B, hB⟩ : ∃ B : Nat, pb = B := ⟨pb.toNat, by have := hok.1; simp only at this; omega⟩
      subst hB
      have hB1 : B < 259 := by have := hok.2.1; simp only at this; omega
      have hBo : ¬ (at_ ≤ B ∧ B < at_ + 199) := by have := hok.2.2.2; simp only at this; omega
      have hpl : pl.length = 64 := hok.2.2.1
      have hlL : L.length = 60 := by rw [HS.out.rows, rowsK_len]; omega
      obtain ⟨rb, c, w6, hrun6, hrow6, hk6⟩ := copy_bytes q3 hpl
      have ho6 := HS.out.out.kept hk6
      have hix : ixOf at_ B < L.length := by rw [hlL]; unfold ixOf; split <;> omega
      have HN : Hid (WiSt w f at_ l (k + 1) g (cs.setIfInBounds (ixOf at_ B) (.slice (some ⟨rb, 0, none⟩) 64 c)) (L.set (ixOf at_ B) pl) (w6.setCell ⟨g, ixOf at_ B, none⟩ (.slice (some ⟨rb, 0, none⟩) 64 c))) := by
        refine ⟨ho6.set hrow6, ?_, (HS.out.kept.trans hk6).into (Kept.setCell [g] _ _ _ (by simp)) (by simpa using HG5.out)⟩
        rw [List.take_succ_eq_append_getElem hkl', applyL_append, ← hp, HS.out.rows]
        exact (rowsK_upd _ at_ B pl hBo 259).symm
      obtain ⟨u0, hu0, _⟩ := ho6.2 _ hix
      have cg : w6.cell? ⟨g, ixOf at_ B, none⟩ = some u0 := by rw [cell_of_row w6 g _ _ _ _ ho6.1]; exact hu0
      have fg : ∀ r, w6.frozen? ⟨g, r, none⟩ = false := fun r => frozen_of_row w6 _ r _ _ ho6.1
      obtain ⟨ix, hixe⟩ : ∃ ix, ix = ixOf at_ B := ⟨_, rfl⟩
      rw [← hixe] at HN cg hix
      have hixI : (ix : Int) < 60 := by omega
      have tt : ((B : Int) < at_ + 199 ∧ (B : Int) = ix) ∨ ((at_ : Int) + 199 ≤ B ∧ (B : Int) - 199 = ix) := by
        rw [hixe]
        unfold ixOf
        by_cases e : B < at_
        · exact .inl ⟨by omega, by rw [if_pos e]⟩
        · exact .inr ⟨by omega, by rw [if_neg e]; omega⟩
      have q2' : (wr.alloc (.cells #[] 5)).cell? ⟨b2, o2 + k * 2 + 1, none⟩ = some (.slice ao' n' cap') := by
        rw [(Kept.alloc [] wr _).cell (p := ⟨b2, o2 + k * 2 + 1, none⟩) (World.block_lt_of_cell? wr _ q2) (by simp)]; exact q2
      have HRUN6 := Lib.hid hrun6
      clear hat' hp hok hBo hpl hlL hrun6 hrow6 hk6 ho6 hix hu0 hixe q3
      rcases tt with ⟨t1, t2⟩ | ⟨t1, t2⟩
      · obtain rfl : B = ix := by omega
        clear t2
        go_wp2_with (refine wpList_append_run rfl _ _ 48 rfl _ _ _ rfl rfl HRUN6.out ?_)
        go_roundw
        case rel => exact ⟨k + 1, _, _, by omega, by go_num, HN⟩
        case measure => simp [intOf]; omega
      · go_wp2_with (refine wpList_append_run rfl _ _ 48 rfl _ _ _ rfl rfl HRUN6.out ?_)
        go_roundw
        case rel => exact ⟨k + 1, _, _, by omega, by go_num, HN⟩
        case measure => simp [intOf]; omega
    · obtain rfl : k = len := by omega
      have hr := HS.out.out.rows (cap := cap5)
      have hL : L = rowsK (applyL f l) at_ 259 := by rw [HS.out.rows, ← HL.out.1, List.take_length]
      have hlL : L.length = 60 := by rw [HS.out.rows, rowsK_len]; omega
      rw [hlL, hL] at hr
      have HR := Lib.hid hr
      clear hr hL hlL
      go_wp2_with fail
      go_ret
      exact ⟨_, rfl, HR.out, HS.out.kept⟩
end Go.Proofs.Ytmckapfncnoddaa

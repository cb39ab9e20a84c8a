/-
  A group of writes in memory; a row of writes done one behind the other; the journal's call perform.
  Conditions: those that each theorem states.
-/
import Derived.Test.YtmckapfncnoddaaJour
namespace Go.Proofs.Ytmckapfncnoddaa
open Go.RowKit Go.Maps

abbrev PutL := Int × List UInt8

/-- Block b holds a byte or a slice. -/
def Plain (w : World) (b : Nat) : Prop := ∃ k v, w.cell? ⟨b, k, none⟩ = some v ∧ ((∃ x, v = .int .u8 x) ∨ ∃ a n c, v = .slice a n c)
/-- No block of ex does. -/
def Off (w : World) (ex : List Nat) : Prop := ∀ b, Plain w b → b ∉ ex

theorem Off.nil (w : World) : Off w [] := fun _ _ => by simp

theorem BlkMap.nocell {P : Program} {k : TypeId} {w : World} {m n : Nat} {f : Int → List UInt8} (h : BlkMap P k w m n f) (o : Nat) : w.cell? ⟨m, o, none⟩ = none := by
  obtain ⟨D, ⟨es, clock, hb, _⟩, _⟩ := h
  simp [World.cell?, hb]

theorem IsDisk.off {w : World} {a : Nat} {S : DiskS} (h : IsDisk w a S) : Off w [a, S.m] := by
  rintro b ⟨k, v, hc, hv⟩ hm
  simp at hm
  rcases hm with rfl | rfl
  · rw [h.cell k] at hc
    rcases k with _ | _ | _ | _ | _ | _ | k <;> simp [DiskS.cells] at hc <;> subst hc <;> simp at hv
  · rw [h.map.nocell] at hc
    cases hc
theorem IsJour.off {w : World} {j : Nat} {J : JourS} (h : IsJour w j J) : Off w [j] := by
  rintro b ⟨k, v, hc, hv⟩ hm
  simp at hm
  subst hm
  rw [h.cell k] at hc
  rcases k with _ | _ | _ | _ | _ | k <;> simp [JourS.cells] at hc <;> subst hc <;> simp at hv
theorem Off.append {w : World} {e1 e2 : List Nat} (h1 : Off w e1) (h2 : Off w e2) : Off w (e1 ++ e2) := fun b hb hm => by
  rcases List.mem_append.1 hm with h | h
  · exact h1 b hb h
  · exact h2 b hb h
theorem Off.mono {w : World} {e1 e2 : List Nat} (h1 : Off w e1) (h : ∀ k ∈ e2, k ∈ e1) : Off w e2 := fun b hb hm => h1 b hb (h b hm)

theorem plain_slIs {w : World} {b o n cap : Nat} {l : List UInt8} (h : SlIs w (.slice (some ⟨b, o, none⟩) n cap) l) (hl : 0 < l.length) : Plain w b := by
  rcases h with ⟨b', o', cap', he, hlt, hc⟩ | ⟨he, _⟩
  · simp at he
    obtain ⟨⟨rfl, rfl⟩, _⟩ := he
    exact ⟨o + 0, _, hc 0 _ (by simp [bv, hl]; rfl), .inl ⟨_, rfl⟩⟩
  · simp at he

theorem SlIs.kept {w w' : World} {v : Value} {l : List UInt8} (h : SlIs w v l) {ex : List Nat} (hk : Kept ex w w') (hx : Off w ex) : SlIs w' v l := by
  have h0 := h
  rcases h with ⟨b, o, cap, rfl, hlt, hc⟩ | h
  · refine .inl ⟨b, o, cap, rfl, Nat.lt_of_lt_of_le hlt hk.size, ?_⟩
    by_cases hl : 0 < l.length
    · exact hk.range hlt (hx b (plain_slIs h0 hl)) hc
    · intro j v hv
      have : l = [] := List.length_eq_zero_iff.1 (by omega)
      subst this
      simp [bv] at hv
  · exact .inr h

/-- .. or an empty slice, wherever it lies. -/
def SlW (w : World) (v : Value) (l : List UInt8) : Prop := SlIs w v l ∨ ∃ a cap, v = .slice a 0 cap ∧ l = []
theorem SlW.kept {w w' : World} {v : Value} {l : List UInt8} (h : SlW w v l) {ex : List Nat} (hk : Kept ex w w') (hx : Off w ex) : SlW w' v l := by
  rcases h with h | h
  · exact .inl (h.kept hk hx)
  · exact .inr h

/-- 'Write', whatever is asked; bytes never lie where the disk does. -/
theorem write_put (a : Nat) (S : DiskS) (i : Int) (v : Value) (l : List UInt8) (w : World) (h : IsDisk w a S) (hlw : S.writes < 4611686018427387904) (hv0 : SlW w v l) (x : Int) (S' : DiskS) (hx : S.wr i l = (x, S')) :
    Calls Try.prog 42 #[.pointer (some ⟨a, 0, none⟩), .int .i64 i, v] w fun e w' => e = .returned (.int .i64 x) ∧ IsDisk w' a S' ∧ Kept [a, S.m] w w' := by
  have key : Calls Try.prog 42 #[.pointer (some ⟨a, 0, none⟩), .int .i64 i, v] w fun e w' => e = .returned (.int .i64 (S.wr i l).1) ∧ IsDisk w' a (S.wr i l).2 ∧ Kept [a, S.m] w w' := by
    by_cases hl : 0 < l.length
    · have hv : SlIs w v l := by
        rcases hv0 with h | ⟨a', c', _, h⟩
        · exact h
        · rw [h] at hl; simp at hl
      refine write_any a S i v l w h hlw hv fun b o n c he hb => ?_
      subst he
      exact h.off b (plain_slIs hv hl) (by simp [hb])
    · have hl0 : l = [] := List.length_eq_zero_iff.1 (by omega)
      subst hl0
      unfold DiskS.wr
      by_cases hr : S.reach i = 0
      · rw [if_pos hr, if_neg (by simp)]
        rcases hv0 with (⟨b, o, cap, rfl, _⟩ | ⟨rfl, _⟩) | ⟨a', c', rfl, _⟩
        · exact (write_len a S i _ 0 cap w h hr (by decide)).mono fun e w' ⟨he, hw⟩ => ⟨he, hw ▸ h, hw ▸ Kept.refl _ _⟩
        · exact (write_len a S i _ 0 0 w h hr (by decide)).mono fun e w' ⟨he, hw⟩ => ⟨he, hw ▸ h, hw ▸ Kept.refl _ _⟩
        · exact (write_len a S i _ 0 c' w h hr (by decide)).mono fun e w' ⟨he, hw⟩ => ⟨he, hw ▸ h, hw ▸ Kept.refl _ _⟩
      · rw [if_neg hr]
        exact (write_away a S i v w h (by rw [bne_iff_ne]; exact hr)).mono fun e w' ⟨he, hw⟩ => ⟨he, hw ▸ h, hw ▸ Kept.refl _ _⟩
  rw [hx] at key
  exact key

def PutsAt (w : World) (b o : Nat) (l : List PutL) : Prop :=
  ∀ k (hk : k < l.length), ∃ ao n cap, w.cell? ⟨b, o + k * 2, none⟩ = some (.int .i64 l[k].1) ∧ w.cell? ⟨b, o + k * 2 + 1, none⟩ = some (.slice ao n cap) ∧ SlW w (.slice ao n cap) l[k].2 ∧
    -9223372036854775808 ≤ l[k].1 ∧ l[k].1 ≤ 9223372036854775807 ∧ n ≤ 9223372036854775807

theorem PutsAt.kept {w w' : World} {b o : Nat} {l : List PutL} (h : PutsAt w b o l) {ex : List Nat} (hk : Kept ex w w') (hx : Off w ex) : PutsAt w' b o l := by
  intro k hkl
  obtain ⟨ao, n, cap, h1, h2, h3, h4⟩ := h k hkl
  have hp : b ∉ ex := hx b ⟨_, _, h2, .inr ⟨_, _, _, rfl⟩⟩
  have hb := World.block_lt_of_cell? w _ h2
  exact ⟨ao, n, cap, by rw [hk.cell (p := ⟨b, o + k * 2, none⟩) hb hp]; exact h1, by rw [hk.cell (p := ⟨b, o + k * 2 + 1, none⟩) hb hp]; exact h2, h3.kept hk hx, h4⟩

/-- A slice value of writes. -/
def PutsIs (w : World) (ao : Option Addr) (len : Nat) (l : List PutL) : Prop :=
  l.length = len ∧ len ≤ 9223372036854775807 ∧ (0 < len → ∃ b o, ao = some ⟨b, o, none⟩ ∧ PutsAt w b o l)
theorem PutsIs.kept {w w' : World} {ao : Option Addr} {len : Nat} {l : List PutL} (h : PutsIs w ao len l) {ex : List Nat} (hk : Kept ex w w') (hx : Off w ex) : PutsIs w' ao len l := by
  obtain ⟨h1, h2, h3⟩ := h
  refine ⟨h1, h2, fun h0 => ?_⟩
  obtain ⟨b, o, rfl, h4⟩ := h3 h0
  exact ⟨b, o, rfl, h4.kept hk hx⟩

/-- Writes, one behind the other, up to the first that is refused. -/
def DiskS.wrs (S : DiskS) : List PutL → Int × DiskS
  | [] => (0, S)
  | p :: r => if (S.wr p.1 p.2).1 = 0 then (S.wr p.1 p.2).2.wrs r else S.wr p.1 p.2

theorem DiskS.wrs_append (S : DiskS) (l r : List PutL) : S.wrs (l ++ r) = if (S.wrs l).1 = 0 then (S.wrs l).2.wrs r else S.wrs l := by
  induction l generalizing S with
  | nil => simp [DiskS.wrs]
  | cons p l ih =>
    by_cases h : (S.wr p.1 p.2).1 = 0
    · rw [show S.wrs (p :: l ++ r) = (S.wr p.1 p.2).2.wrs (l ++ r) from if_pos h, show S.wrs (p :: l) = (S.wr p.1 p.2).2.wrs l from if_pos h]
      exact ih _
    · rw [show S.wrs (p :: l ++ r) = S.wr p.1 p.2 from if_neg h, show S.wrs (p :: l) = S.wr p.1 p.2 from if_neg h, if_neg h]

theorem DiskS.wrs_m (S : DiskS) (l : List PutL) : (S.wrs l).2.m = S.m ∧ (S.wrs l).2.size = S.size := by
  induction l generalizing S with
  | nil => exact ⟨rfl, rfl⟩
  | cons p l ih =>
    unfold DiskS.wrs
    split
    · have := ih (S.wr p.1 p.2).2
      exact ⟨this.1.trans (S.wr_m _ _).1, this.2.trans (S.wr_m _ _).2⟩
    · exact S.wr_m _ _

theorem DiskS.wr_writes (S : DiskS) (i : Int) (l : List UInt8) : (S.wr i l).2.writes ≤ S.writes + 1 := by
  unfold DiskS.wr
  split
  · split
    · split
      · exact Int.le_refl _
      · simp only; rw [S.burn_m.2.2.1]; omega
    · simp only; omega
  · simp only; omega
theorem DiskS.wrs_writes (S : DiskS) (l : List PutL) : (S.wrs l).2.writes ≤ S.writes + l.length := by
  induction l generalizing S with
  | nil => simp [DiskS.wrs]
  | cons p l ih =>
    have h1 := S.wr_writes p.1 p.2
    unfold DiskS.wrs
    simp only [List.length_cons]
    split
    · have := ih (S.wr p.1 p.2).2; omega
    · omega

/-- What a loop of writes knows when it has done k of them. -/
structure WrsSt (w : World) (a : Nat) (S : DiskS) (l : List PutL) (k : Nat) (Sk : DiskS) (wr : World) : Prop where
  disk : IsDisk wr a Sk
  m : Sk.m = S.m
  size : Sk.size = S.size
  writes : Sk.writes ≤ S.writes + k
  same : S.wrs l = Sk.wrs (l.drop k)
  kept : Kept [a, S.m] w wr

theorem WrsSt.start {w w' : World} {a : Nat} {S : DiskS} (l : List PutL) (hd : IsDisk w' a S) (hk : Kept [a, S.m] w w') : WrsSt w a S l 0 S w' :=
  ⟨hd, rfl, rfl, by simp, rfl, hk⟩

theorem WrsSt.ok {w : World} {a : Nat} {S : DiskS} {l : List PutL} {k : Nat} {Sk : DiskS} {wr w' : World} (R : WrsSt w a S l k Sk wr) (hk : k < l.length) (S' : DiskS) (hr : Sk.wr l[k].1 l[k].2 = (0, S'))
    (hd : IsDisk w' a S') (hkk : Kept [a, S.m] wr w') : WrsSt w a S l (k + 1) S' w' := by
  have e1 := Sk.wr_m l[k].1 l[k].2
  have e2 := Sk.wr_writes l[k].1 l[k].2
  rw [hr] at e1 e2
  refine ⟨hd, e1.1.trans R.m, e1.2.trans R.size, ?_, ?_, R.kept.trans hkk⟩
  · have := R.writes
    simp only at e2
    push_cast
    omega
  · rw [R.same, List.drop_eq_getElem_cons hk]
    simp only [DiskS.wrs, hr, if_true]

theorem WrsSt.bad {w : World} {a : Nat} {S : DiskS} {l : List PutL} {k : Nat} {Sk : DiskS} {wr : World} (R : WrsSt w a S l k Sk wr) (hk : k < l.length) (x : Int) (S' : DiskS) (hr : Sk.wr l[k].1 l[k].2 = (x, S')) (hx : x ≠ 0) :
    S.wrs l = (x, S') := by
  rw [R.same, List.drop_eq_getElem_cons hk]
  simp only [DiskS.wrs, hr, if_neg hx]

theorem WrsSt.all {w : World} {a : Nat} {S : DiskS} {l : List PutL} {Sk : DiskS} {wr : World} (R : WrsSt w a S l l.length Sk wr) : S.wrs l = (0, Sk) := by
  rw [R.same, List.drop_length]; rfl

theorem WrsSt.grow {w : World} {a : Nat} {S : DiskS} {l : List PutL} {k : Nat} {Sk : DiskS} {wr w' : World} (R : WrsSt w a S l k Sk wr) (hk : Kept [] wr w') : WrsSt w a S l k Sk w' :=
  ⟨R.disk.kept hk (by simp) (by simp), R.m, R.size, R.writes, R.same, R.kept.trans (hk.mono (by simp))⟩

theorem setHead_at (j : Nat) (J J' : JourS) (S S' : DiskS) (x : Int) (g n : Nat) (owed : Bool) (g' n' : Int) (hg : g' = g) (hn : n' = n) (w : World) (hj : IsJour w j J) (hd : IsDisk w J.a S) (hlw : S.writes < 4611686018427387904)
    (hr : S.wr J.at_ (encL J.at_ g n owed) = (x, S')) (hJ : J' = if x = 0 then J.head g owed n else J) :
    Calls Try.prog 32 #[.pointer (some ⟨j, 0, none⟩), .agg #[.int .i64 g', .bool owed, .int .i64 n']] w fun e w' =>
      e = .returned (.int .i64 x) ∧ IsDisk w' J.a S' ∧ IsJour w' j J' ∧ Kept [J.a, S.m, j] w w' := by
  subst hg hn
  exact setHead_walk j J J' S S' x g n owed w hj hd hlw hr hJ

set_option maxRecDepth 100000 in
set_option maxHeartbeats 1000000 in
theorem perform_walk (j : Nat) (J J' : JourS) (S S' : DiskS) (x : Int) (ao : Option Addr) (len cap : Nat) (l : List PutL) (w : World) (hj : IsJour w j J) (hd : IsDisk w J.a S) (hl : PutsIs w ao len l)
    (hlw : S.writes + len + 1 < 4611686018427387904) (hlen : len ≤ 192) (hg : J.g < 4611686018427387904)
    (hr : S.wrs (l ++ [((J.at_ : Int), encL J.at_ (J.g + 1) 0 false)]) = (x, S')) (hJ : J' = if x = 0 then J.head (J.g + 1) false 0 else J) :
    Calls Try.prog 33 #[.pointer (some ⟨j, 0, none⟩), .slice ao len cap] w fun e w' =>
      e = .returned (.int .i64 x) ∧ IsDisk w' J.a S' ∧ IsJour w' j J' ∧ Kept [J.a, S.m, j] w w' := by
  have HJ := Lib.hid hj
  have HD := Lib.hid hd
  have HL := Lib.hid hl
  have HR := Lib.hid hr
  have HJ' := Lib.hid hJ
  have HW := Lib.hid hlw
  have hja := Lib.hid (hj.ne_disk hd)
  have hjm := Lib.hid (hj.ne_map hd)
  obtain ⟨a, at_, g0, o0, n0⟩ := J
  clear hj hd hl hr hJ hlw
  go_enter Try.func33, Try.ntmps33
  go_wp2_with fail
  go_loopw [10] (fun i wr => ∃ (k : Nat) (Sk : DiskS), k ≤ len ∧ i = .int .i64 k ∧ Hid (WrsSt w a S l k Sk wr)) (fun i _ => len - (intOf i).toNat)
  case atStart => exact ⟨0, S, by omega, rfl, WrsSt.start l HD.out (Kept.refl _ _)⟩
  case round =>
    obtain ⟨k, Sk, hkl, rfl, HS⟩ := hrel
    have hj' := Lib.hid (HJ.out.kept HS.out.kept (by simp; exact ⟨hja.out, hjm.out⟩))
    by_cases hlt : k < len
    · have hkl' : k < l.length := by rw [HL.out.1]; exact hlt
      obtain ⟨b, o, hao, hat⟩ := (HL.out.kept HS.out.kept HD.out.off).2.2 (by omega)
      subst hao
      obtain ⟨ao', n', cap', q1, q2, q3, q4, q5, q6⟩ := hat k hkl'
      obtain ⟨p, hp⟩ : ∃ p, p = l[k] := ⟨_, rfl⟩
      rw [← hp] at q1 q3 q4 q5
      have HQ3 := Lib.hid q3
      have HP := Lib.hid hp
      clear hat q3 hp
      go_wp2_with fail
      generalize hw4 : World.alloc wr _ = w4
      have hk4 : Kept [] wr w4 := by rw [← hw4]; exact Kept.alloc _ _ _
      have hb4 : w4.drew.heap[wr.heap.size]? = some (.cells #[.int .i64 p.1, .slice ao' n' cap'] 54) := by rw [← hw4]; exact heap_alloc_last wr _
      have HS4 := Lib.hid (HS.out.grow (hk4.trans (Kept.drew [] w4)))
      have hq4 := Lib.hid (HQ3.out.kept (hk4.trans (Kept.drew [] w4)) (Off.nil _))
      have hj4 := Lib.hid (hj'.out.kept (hk4.trans (Kept.drew [] w4)) (by simp))
      have hn4 : wr.heap.size ∉ [a, S.m] := by
        have h1 := HS.out.disk.lt
        have h2 := HS.out.disk.map.lt
        rw [HS.out.m] at h2
        simp; omega
      have CA : ∀ w', Kept [a, S.m] w4.drew w' → w'.cell? ⟨j, 0, none⟩ = some (.pointer (some ⟨a, 0, none⟩)) := fun w' hk => (hj4.out.kept hk (by simp; exact ⟨hja.out, hjm.out⟩)).cell 0
      have CB : ∀ w', Kept [a, S.m] w4.drew w' → w'.cell? ⟨wr.heap.size, 0, none⟩ = some (.int .i64 p.1) := fun w' hk => cell_of_row w' _ 0 _ _ _ (hk.heap hn4 hb4)
      have CC : ∀ w', Kept [a, S.m] w4.drew w' → w'.cell? ⟨wr.heap.size, 1, none⟩ = some (.slice ao' n' cap') := fun w' hk => cell_of_row w' _ 1 _ _ _ (hk.heap hn4 hb4)
      clear hw4 hk4 hb4 hn4 q1 q2
      refine wp_region_grow (List.replicate 8 true ++ [false, true]) [a, S.m] (by kernel_rfl) (fun _ _ d _ _ h => by cases d <;> exact h) (by kernel_rfl) rfl (by kernel_rfl) ?_
      simp only [List.replicate_succ, List.replicate_zero, List.cons_append, List.nil_append, List.zip_cons_cons, List.zip_nil_left]
      repeat (apply wpGrow_take; (case hw => rfl); (case hv => intro w' hk; go_simp; with_reducible rfl); simp only [Act.put, List.setIfInBounds_toArray, List.set_cons_zero, List.set_cons_succ])
      refine wpGrow_force (by rfl) (fun K hK => ?_)
      go_simp
      obtain ⟨⟨y, Sy⟩, hy⟩ : ∃ y, Sk.wr p.1 p.2 = y := ⟨_, rfl⟩
      refine (write_put a Sk p.1 _ p.2 _ HS4.out.disk (by have := HS4.out.writes; have := HW.out; omega) hq4.out y Sy hy).mono ?_
      rw [HS4.out.m]
      rintro e w5 ⟨rfl, hd5, hk5⟩
      refine hK _ _ hk5 ?_
      clear hK K CA CB CC
      rw [HP.out] at hy
      have HD5 := Lib.hid hd5
      have HK5 := Lib.hid hk5
      have HY := Lib.hid hy
      have hj5 := Lib.hid (hj4.out.kept hk5 (by simp; exact ⟨hja.out, hjm.out⟩))
      clear hd5 hk5 hy
      by_cases hy0 : y = 0
      · subst hy0
        have HN := Lib.hid (HS4.out.ok hkl' Sy HY.out HD5.out HK5.out)
        repeat (apply wpGrow_take; (case hw => rfl); (case hv => intro w' hk; go_simp; with_reducible rfl); simp only [Act.put, List.setIfInBounds_toArray, List.set_cons_zero, List.set_cons_succ])
        refine wpGrow_nil ?_
        go_wp2_with fail
        go_roundw
        case rel => exact ⟨k + 1, Sy, by omega, by go_num, HN⟩
        case measure => simp [intOf]; omega
      · have hy' : (y != 0) = true := by rw [bne_iff_ne]; exact hy0
        repeat (apply wpGrow_take; (case hw => rfl); (case hv => intro w' hk; go_simp; with_reducible rfl); simp only [Act.put, List.setIfInBounds_toArray, List.set_cons_zero, List.set_cons_succ])
        refine wpGrow_nil ?_
        go_wp2_with fail
        go_ret
        have hb := HS4.out.bad hkl' y Sy HY.out hy0
        have hr := HR.out
        rw [DiskS.wrs_append, hb, if_neg hy0] at hr
        simp only [Prod.mk.injEq] at hr
        obtain ⟨rfl, rfl⟩ := hr
        exact ⟨rfl, HD5.out, by rw [HJ'.out, if_neg hy0]; exact hj5.out, ((HS4.out.kept.trans HK5.out).mono (by intro k hk _; simp at hk ⊢; omega))⟩
    · obtain rfl : k = len := by omega
      have c2 : wr.cell? ⟨j, 2, none⟩ = some (.int .i64 g0) := hj'.out.cell 2
      have hall := HS.out
      rw [← HL.out.1] at hall
      have hr := HR.out
      rw [DiskS.wrs_append, hall.all, if_pos rfl] at hr
      have hr2 : Sk.wr at_ (encL at_ (g0 + 1) 0 false) = (x, S') := by
        rw [← hr]
        simp only [DiskS.wrs]
        split
        · rename_i h; rw [← h]
        · rfl
      have HR2 := Lib.hid hr2
      clear hall hr hr2
      go_wp2_with fail
      refine (setHead_at j ⟨a, at_, g0, o0, n0⟩ J' Sk S' x (g0 + 1) 0 false _ _ (by omega) rfl _ hj'.out HS.out.disk (by have := HS.out.writes; have := HW.out; omega) HR2.out HJ'.out).mono ?_
      rw [HS.out.m]
      rintro e w5 ⟨rfl, hd5, hj5, hk5⟩
      go_wp2_with fail
      go_ret
      exact ⟨rfl, hd5, hj5, (HS.out.kept.mono (by intro k hk _; simp at hk ⊢; omega)).trans hk5⟩
end Go.Proofs.Ytmckapfncnoddaa

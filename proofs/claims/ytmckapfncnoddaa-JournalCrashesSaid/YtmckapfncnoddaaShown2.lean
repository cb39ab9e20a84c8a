/-
  The document's examples of layer 2, run by the program: 'shown' answers true, in whatever world.
  Conditions: none.
-/
import Derived.Test.YtmckapfncnoddaaLaw2
namespace Go.Proofs.Ytmckapfncnoddaa
open Go.RowKit Go.Maps

/-- Bytes as a text. -/
def strL (l : List UInt8) : ByteArray := ⟨l.toArray⟩
theorem conv_of_range {P : Program} (w : World) (src dst e : TypeId) (hs : P.underlying src = some (.slice e)) (he : P.underlying e = some (.int .u8)) (hd : P.underlying dst = some .string)
    (b o cap : Nat) (l : List UInt8) (n : Nat) (hn : l.length = n) (hc : w.rangeAt b o (bv l)) :
    (convert src dst (.slice (some ⟨b, o, none⟩) n cap)).run P w = .ok (.string (strL l)) w := by
  subst hn
  refine run_convert_bytes_back w src dst e ⟨b, o, none⟩ cap l hs he hd (fun j hj => ?_)
  rw [Addr.add_mid]
  exact hc j _ (by simp [bv, hj])

/-- 'string(b)' in this program. -/
theorem conv_range (w : World) (b o cap : Nat) (l : List UInt8) (n : Nat) (hn : l.length = n) (hc : w.rangeAt b o (bv l)) :
    (convert 48 9 (.slice (some ⟨b, o, none⟩) n cap)).run Try.prog w = .ok (.string (strL l)) w :=
  conv_of_range w _ _ _ Try.underlying48 Try.underlying5 Try.underlying9 b o cap l n hn hc

theorem slIs_row {w : World} {b : Nat} {l : List UInt8} {t : TypeId} (h : w.heap[b]? = some (.cells (bvA l) t)) (n cap : Nat) (hn : l.length = n) : SlIs w (.slice (some ⟨b, 0, none⟩) n cap) l :=
  .inl ⟨b, 0, cap, by rw [hn], (Array.getElem?_eq_some_iff.1 h).1, range_row h⟩

/-- One write, written out. -/
theorem puts_one {w : World} {b s : Nat} {p : Int} {l : List UInt8} {t : TypeId} (hb : w.heap[b]? = some (.cells #[.int .i64 p, .slice (some ⟨s, 0, none⟩) 64 64] 54)) (hs : w.heap[s]? = some (.cells (bvA l) t)) (h64 : l.length = 64)
    (h0 : 0 ≤ p) (h1 : p < 4096) : PutsIs w (some ⟨b, 0, none⟩) 1 [(p, l)] := by
  refine ⟨rfl, by omega, fun _ => ⟨b, 0, rfl, fun k hk => ?_⟩⟩
  obtain rfl : k = 0 := by simp at hk; omega
  exact ⟨some ⟨s, 0, none⟩, 64, 64, cell_of_row w b 0 _ _ _ hb, cell_of_row w b 1 _ _ _ hb, (.inl (slIs_row hs 64 64 h64)), by simp; omega, by simp; omega, by omega⟩
theorem puts_two {w : World} {b s1 s2 : Nat} {p q : Int} {l1 l2 : List UInt8} {t : TypeId} (hb : w.heap[b]? = some (.cells #[.int .i64 p, .slice (some ⟨s1, 0, none⟩) 64 64, .int .i64 q, .slice (some ⟨s2, 0, none⟩) 64 64] 54))
    (hs1 : w.heap[s1]? = some (.cells (bvA l1) t)) (hs2 : w.heap[s2]? = some (.cells (bvA l2) t)) (h641 : l1.length = 64) (h642 : l2.length = 64)
    (h0 : 0 ≤ p) (h1 : p < 4096) (h2 : 0 ≤ q) (h3 : q < 4096) : PutsIs w (some ⟨b, 0, none⟩) 2 [(p, l1), (q, l2)] := by
  refine ⟨rfl, by omega, fun _ => ⟨b, 0, rfl, fun k hk => ?_⟩⟩
  rcases k with _ | _ | k
  · exact ⟨some ⟨s1, 0, none⟩, 64, 64, cell_of_row w b 0 _ _ _ hb, cell_of_row w b 1 _ _ _ hb, (.inl (slIs_row hs1 64 64 h641)), by simp; omega, by simp; omega, by omega⟩
  · exact ⟨some ⟨s2, 0, none⟩, 64, 64, cell_of_row w b 2 _ _ _ hb, cell_of_row w b 3 _ _ _ hb, (.inl (slIs_row hs2 64 64 h642)), by simp; omega, by simp; omega, by omega⟩
  · simp only [List.length_cons, List.length_nil] at hk; omega

/-- What a journal that was made on a disk of 259 blocks is, behind g groups. -/
structure JLive (w : World) (a j at_ g : Nat) (S : DiskS) : Prop where
  live : Live w a S
  jour : IsJour w j ⟨a, at_, g, false, 0⟩
  ready : Ready S at_ g
  room : (at_ : Int) + 199 ≤ S.size
theorem JLive.kept {w w' : World} {a j at_ g : Nat} {S : DiskS} (h : JLive w a j at_ g S) {ex : List Nat} (hk : Kept ex w w') (ha : a ∉ ex) (hm : S.m ∉ ex) (hj : j ∉ ex) : JLive w' a j at_ g S :=
  ⟨h.live.kept hk ha hm, h.jour.kept hk hj, h.ready, h.room⟩

theorem commit_j (w : World) (a j at_ g : Nat) (S : DiskS) (h : JLive w a j at_ g S) (ao : Option Addr) (len cap : Nat) (l : List PutL) (hl : PutsIs w ao len l) (hg : Grp at_ S.size l) (hgb : g < 1000000) (hlw : S.writes < 1000000000) :
    Calls Try.prog 14 #[.pointer (some ⟨j, 0, none⟩), .slice ao len cap] w fun e w' => e = .returned (.int .i64 0) ∧ ∃ S', JLive w' a j at_ (g + 1) S' ∧ S'.size = S.size ∧ S'.m = S.m ∧ S'.writes = S.writes + (spanN len + 1 + len + 1 : Nat) ∧
      (∀ i, Out at_ i → S'.blk i = applyL S.blk l i) ∧ Kept [a, S.m, j] w w' := by
  refine (commit_live j ⟨a, at_, g, false, 0⟩ S ao len cap l w h.jour h.live hl h.room h.ready hg rfl hgb hlw).mono ?_
  rintro e w' ⟨he, S', h1, h2, h3, h4, h5, h6, h7, h8⟩
  exact ⟨he, S', ⟨h1, h7, h5, by rw [h2]; exact h.room⟩, h2, h3, h4, h6, h8⟩

theorem commit_n (w : World) (a j at_ g : Nat) (S : DiskS) (h : JLive w a j at_ g S) (ao : Option Addr) (len cap : Nat) (l : List PutL) (hl : PutsIs w ao len l) (hg : ¬ Grp at_ S.size l) :
    Calls Try.prog 14 #[.pointer (some ⟨j, 0, none⟩), .slice ao len cap] w fun e w' => e = .returned (.int .i64 20) ∧ Kept [] w w' :=
  commit_no j ⟨a, at_, g, false, 0⟩ S ao len cap l w h.jour h.live.disk hl (by have := h.room; have := h.live.disk.s1; show at_ < _; omega) hg

theorem heap_alloc3 (w : World) (o1 o2 o3 : Obj) : (((w.alloc o1).alloc o2).alloc o3).heap[w.heap.size + 1 + 1]? = some o3 := by
  have := heap_alloc2 (w.alloc o1) o2 o3
  rwa [size_alloc] at this

theorem grp_two : Grp 0 259 [(220, fullE 1 1), (221, fullE 2 2)] :=
  ⟨by simp, fun p hp => by simp at hp; rcases hp with rfl | rfl <;> exact ⟨by simp, by simp, fullE_length _ _, by simp⟩, by simp⟩
theorem grp_one : Grp 0 259 [(220, fullE 3 3)] :=
  ⟨by simp, fun p hp => by simp at hp; subst hp; exact ⟨by simp, by simp, fullE_length _ _, by simp⟩, by simp⟩
theorem grp_dup : ¬ Grp 0 259 [(220, fullE 1 1), (220, fullE 1 1)] := fun h => by have := h.nodup; simp at this
theorem grp_in : ¬ Grp 0 259 [(5, fullE 1 1)] := fun h => (h.each (5, fullE 1 1) (by simp)).2.2.2 (by simp)

/-- 'Commit' ahead of whose first write the power goes off. -/
theorem commit_burnt (w : World) (a j at_ g : Nat) (S : DiskS) (hd : IsDisk w a S) (hj : IsJour w j ⟨a, at_, g, false, 0⟩) (ao : Option Addr) (len cap : Nat) (l : List PutL) (hl : PutsIs w ao len l) (hg : Grp at_ S.size l) (hat : (at_ : Int) + 199 ≤ S.size)
    (hoff : S.off = false) (hf : S.fused = true) (hl0 : S.left = 0) (hgb : g < 1000000) (hlw : S.writes < 1000000000) :
    Calls Try.prog 14 #[.pointer (some ⟨j, 0, none⟩), .slice ao len cap] w fun e w' => e = .returned (.int .i64 2) ∧ ∃ S', IsDisk w' a S' ∧ S'.off = true ∧ S'.fused = false ∧ S'.size = S.size ∧ S'.blk = S.blk ∧ S'.m = S.m ∧ Kept [a, S.m, j] w w' := by
  have hs1 := hd.s1
  refine (commit_yes j ⟨a, at_, g, false, 0⟩ S ao len cap l w hj hd hl (by show at_ < _; omega) hg rfl (by show g < _; omega) (by omega)).mono ?_
  rintro e w' ⟨M, hM, hMl, rfl, hd', _, hk⟩
  have hc := wrs_cut S hoff hd.l0 _ (cmt_wf (g := g) hg hat hMl)
  revert hd' hc
  simp only
  generalize S.wrs (cmtL at_ g M l) = r
  obtain ⟨x, S'⟩ := r
  intro hd' hc
  cases hc with
  | all _ a b c d e f gg =>
    have := gg hf
    rw [hl0] at this
    simp [cmtL] at this
    omega
  | cut k _ _ a b c d e f g h =>
    rw [hl0] at g
    obtain rfl : k = 0 := by omega
    exact ⟨rfl, S', hd', a, h, b, by rw [d]; rfl, c, hk⟩

set_option maxHeartbeats 4000000 in
set_option maxRecDepth 100000 in
theorem shown_true (w : World) : Calls Try.prog 9 #[] w fun e w' => e = .returned (.bool true) ∧ Kept [] w w' := by
  go_enter Try.func9, Try.ntmps9
  go_wp2_with fail
  refine (ground_any 0 _ rfl (by omega) w).mono ?_
  rintro e w1 ⟨a, m, j, rfl, hd, hj, ha, hm, hjl, hk⟩
  have H1 : Hid (JLive w1 a j 0 0 (grS m 0)) := ⟨⟨hd, rfl, rfl⟩, hj, grS_ready m 0, by show (0 : Int) + 199 ≤ 259; omega⟩
  have HK1 := Lib.hid hk
  have HA := Lib.hid ha
  have HM := Lib.hid hm
  have HJL := Lib.hid hjl
  clear hd hj hk ha hm hjl
  go_wp2_with fail
  refine (full2_at 1 1 _ (by omega) (by omega) (by omega) (by omega)).mono ?_
  rintro e w2 ⟨rfl, rfl⟩
  go_wp2_with fail
  refine (full2_at 2 2 _ (by omega) (by omega) (by omega) (by omega)).mono ?_
  rintro e w2 ⟨rfl, rfl⟩
  go_wp2_with fail
  generalize hw2 : World.alloc (World.alloc (World.alloc w1 _) _) _ = w2
  have hk2 : Kept [] w1 w2 := by rw [← hw2]; exact (Kept.alloc _ _ _).trans ((Kept.alloc _ _ _).trans (Kept.alloc _ _ _))
  have hp2 : PutsIs w2 (some ⟨w1.heap.size + 1 + 1, 0, none⟩) 2 [(220, fullE 1 1), (221, fullE 2 2)] := by
    rw [← hw2]
    exact puts_two (heap_alloc3 w1 _ _ _) ((Kept.alloc [] _ _).heap (by simp) ((Kept.alloc [] _ _).heap (by simp) (heap_alloc_last w1 _))) ((Kept.alloc [] _ _).heap (by simp) (heap_alloc2 w1 _ _)) (fullE_length _ _) (fullE_length _ _) (by omega) (by omega) (by omega) (by omega)
  refine (commit_j w2 a j 0 0 (grS m 0) (H1.out.kept hk2 (by simp) (by simp) (by simp)) _ _ _ _ hp2 grp_two (by omega) (by show (1 : Int) < _; omega)).mono ?_
  rintro e w3 ⟨rfl, S3, h3, hs3, hm3, hw3, hb3, hk3⟩
  have H3 := Lib.hid h3
  have HS3 : Hid (S3.size = 259) := hs3
  have HM3 : Hid (S3.m = m) := hm3
  have HW3 : Hid (S3.writes = 8) := by show _ = _; rw [hw3]; rfl
  have HB3 : Hid (S3.blk 220 = fullE 1 1) := by
    show _ = _
    rw [hb3 220 (by unfold Out; omega)]
    rfl
  have HK3 : Hid (Kept [a, m, j] w1 w3) := (hk2.mono (by simp)).trans hk3
  clear hw2 hk2 hp2 h3 hs3 hm3 hw3 hb3 hk3
  go_wp2_with fail
  refine (full2_at 1 1 _ (by omega) (by omega) (by omega) (by omega)).mono ?_
  rintro e w4 ⟨rfl, rfl⟩
  go_wp2_with fail
  refine (full2_at 1 1 _ (by omega) (by omega) (by omega) (by omega)).mono ?_
  rintro e w4 ⟨rfl, rfl⟩
  go_wp2_with fail
  generalize hw4 : World.alloc (World.alloc (World.alloc w3 _) _) _ = w4
  have hk4 : Kept [] w3 w4 := by rw [← hw4]; exact (Kept.alloc _ _ _).trans ((Kept.alloc _ _ _).trans (Kept.alloc _ _ _))
  have hp4 : PutsIs w4 (some ⟨w3.heap.size + 1 + 1, 0, none⟩) 2 [(220, fullE 1 1), (220, fullE 1 1)] := by
    rw [← hw4]
    exact puts_two (heap_alloc3 w3 _ _ _) ((Kept.alloc [] _ _).heap (by simp) ((Kept.alloc [] _ _).heap (by simp) (heap_alloc_last w3 _))) ((Kept.alloc [] _ _).heap (by simp) (heap_alloc2 w3 _ _)) (fullE_length _ _) (fullE_length _ _) (by omega) (by omega) (by omega) (by omega)
  refine (commit_n w4 a j 0 1 S3 (H3.out.kept hk4 (by simp) (by simp) (by simp)) _ _ _ _ hp4 (by rw [HS3.out]; exact grp_dup)).mono ?_
  rintro e w5 ⟨rfl, hk5⟩
  have HK5 : Hid (Kept [] w3 w5) := hk4.trans hk5
  clear hw4 hk4 hp4 hk5
  go_wp2_with fail
  refine (full2_at 1 1 _ (by omega) (by omega) (by omega) (by omega)).mono ?_
  rintro e w6 ⟨rfl, rfl⟩
  go_wp2_with fail
  generalize hw6 : World.alloc (World.alloc w5 _) _ = w6
  have hk6 : Kept [] w3 w6 := by rw [← hw6]; exact HK5.out.trans ((Kept.alloc _ _ _).trans (Kept.alloc _ _ _))
  have hp6 : PutsIs w6 (some ⟨w5.heap.size + 1, 0, none⟩) 1 [(5, fullE 1 1)] := by
    rw [← hw6]
    exact puts_one (heap_alloc2 w5 _ _) ((Kept.alloc [] _ _).heap (by simp) (heap_alloc_last w5 _)) (fullE_length _ _) (by omega) (by omega)
  refine (commit_n w6 a j 0 1 S3 (H3.out.kept hk6 (by simp) (by simp) (by simp)) _ _ _ _ hp6 (by rw [HS3.out]; exact grp_in)).mono ?_
  rintro e w7 ⟨rfl, hk7⟩
  have HK7 : Hid (Kept [] w3 w7) := hk6.trans hk7
  clear hw6 hk6 hp6 hk7
  go_wp2_with fail
  refine (groups_any j _ w7 (H3.out.kept HK7.out (by simp) (by simp) (by simp)).jour).mono ?_
  rintro e w8 ⟨rfl, rfl⟩
  go_wp2_with fail
  refine (fuse_any a S3 0 _ (H3.out.kept HK7.out (by simp) (by simp) (by simp)).live.disk (by omega)).mono ?_
  rw [show S3.fuse 0 = { S3 with fused := true, left := 0 } by unfold DiskS.fuse; rw [H3.out.live.off]; rfl]
  rintro e w8 ⟨rfl, hd8, hk8⟩
  have HD8 := Lib.hid hd8
  have HK8 : Hid (Kept [a, m, j] w3 w8) := (HK7.out.mono (by simp)).trans (hk8.mono (by simp))
  have HJ8 : Hid (IsJour w8 j ⟨a, 0, 1, false, 0⟩) := (H3.out.kept HK7.out (by simp) (by simp) (by simp)).jour.kept hk8 (by
    have := H3.out.jour.ne_disk H3.out.live.disk
    simpa using this)
  clear hd8 hk8
  go_wp2_with fail
  refine (full2_at 3 3 _ (by omega) (by omega) (by omega) (by omega)).mono ?_
  rintro e w9 ⟨rfl, rfl⟩
  go_wp2_with fail
  generalize hw9 : World.alloc (World.alloc w8 _) _ = w9
  have hk9 : Kept [] w8 w9 := by rw [← hw9]; exact (Kept.alloc _ _ _).trans (Kept.alloc _ _ _)
  have hp9 : PutsIs w9 (some ⟨w8.heap.size + 1, 0, none⟩) 1 [(220, fullE 3 3)] := by
    rw [← hw9]
    exact puts_one (heap_alloc2 w8 _ _) ((Kept.alloc [] _ _).heap (by simp) (heap_alloc_last w8 _)) (fullE_length _ _) (by omega) (by omega)
  refine (commit_burnt w9 a j 0 1 { S3 with fused := true, left := 0 } (HD8.out.kept hk9 (by simp) (by simp)) (HJ8.out.kept hk9 (by simp)) _ _ _ _ hp9 (by show Grp 0 S3.size _; rw [HS3.out]; exact grp_one) (by show (0 : Int) + 199 ≤ S3.size; rw [HS3.out]; omega) H3.out.live.off rfl rfl (by omega) (by show S3.writes < _; rw [HW3.out]; omega)).mono ?_
  rintro e w10 ⟨rfl, S10, hd10, ho10, hf10, hs10, hb10, hm10, hk10⟩
  have HD10 := Lib.hid hd10
  have HO10 := Lib.hid ho10
  have HS10 : Hid (S10.size = 259) := by show _ = _; rw [hs10]; exact HS3.out
  have HB10 : Hid (S10.blk = S3.blk) := hb10
  have HK10 : Hid (Kept [a, m, j] w3 w10) := by
    have := hk10
    rw [show ({ S3 with fused := true, left := 0 } : DiskS).m = m from HM3.out] at this
    exact HK8.out.trans ((hk9.mono (by simp)).trans this)
  have HM10 : Hid (S10.m = m) := by show _ = _; rw [hm10]; exact HM3.out
  clear hw9 hk9 hp9 hd10 ho10 hf10 hs10 hb10 hm10 hk10
  go_wp2_with fail
  refine (boot_any a S10 _ HD10.out).mono ?_
  rintro e w11 ⟨rfl, hd11, hk11⟩
  have HD11 := Lib.hid hd11
  have HK11 : Hid (Kept [a, m, j] w3 w11) := HK10.out.trans (hk11.mono (by simp))
  clear hd11 hk11
  go_wp2_with fail
  refine (open_ready a S10.boot 0 _ 1 _ HD11.out rfl (by show (0 : Int) + 199 ≤ S10.size; rw [HS10.out]; omega) rfl (by show S10.blk _ = _; rw [HB10.out]; exact H3.out.ready) (by omega)).mono ?_
  rintro e w12 ⟨j2, rfl, hj12, hjl12, hk12⟩
  have HJ12 := Lib.hid hj12
  have HK12 : Hid (Kept [a, m, j] w3 w12) := HK11.out.trans (hk12.mono (by simp))
  have HD12 := Lib.hid (HD11.out.kept hk12 (by simp) (by simp))
  clear hj12 hjl12 hk12
  go_wp2_with fail
  refine (read_ok a S10.boot 220 _ HD12.out (reach_in (by omega) (by show (220 : Int) < S10.size; rw [HS10.out]; omega) rfl)).mono ?_
  rw [show S10.boot.blk 220 = fullE 1 1 by show S10.blk 220 = _; rw [HB10.out]; exact HB3.out]
  rintro e w13 ⟨rfl, hw13⟩
  have hk13 : Kept [] w12 w13 := by rw [hw13]; exact Kept.alloc _ _ _
  have hr13 : w13.rangeAt w12.heap.size 0 (bv (fullE 1 1)) := by rw [hw13]; exact range_row (heap_alloc_last _ _)
  have hl13 : w12.heap.size < w13.heap.size := by rw [hw13]; simp
  have cv : ∀ w', Kept [] w13.drew w' → (convert 48 9 (.slice (some ⟨w12.heap.size, 0, none⟩) 64 64)).run Try.prog w' = .ok (.string (strL (fullE 1 1))) w' := fun w' hk =>
    conv_range w' w12.heap.size 0 64 (fullE 1 1) 64 (fullE_length _ _) (((Kept.drew [] w13).trans hk).range hl13 (by simp) hr13)
  have HJ13 := Lib.hid (HJ12.out.kept (hk13.trans (Kept.drew _ _)) (by simp))
  have HK13 : Hid (Kept [a, m, j] w3 w13.drew) := HK12.out.trans ((hk13.trans (Kept.drew _ _)).mono (by simp))
  clear hw13 hk13 hr13 hl13
  go_wp2_with fail
  refine wp_region_grow (List.replicate 24 true ++ [false] ++ List.replicate 9 true ++ [false] ++ List.replicate 4 true) [] (by kernel_rfl) (fun _ _ d _ _ h => by cases d <;> exact h) (by kernel_rfl) rfl (by kernel_rfl) ?_
  simp only [List.replicate_succ, List.replicate_zero, List.cons_append, List.nil_append, List.zip_cons_cons, List.zip_nil_left]
  repeat (apply wpGrow_take; (case hw => rfl); (case hv => intro w' hk; go_simp; with_reducible rfl); simp only [Act.put, List.setIfInBounds_toArray, List.set_cons_zero, List.set_cons_succ])
  refine wpGrow_force (by rfl) (fun K hK => ?_)
  go_simp
  refine (groups_any j2 _ _ HJ13.out).mono ?_
  rintro e w14 ⟨rfl, rfl⟩
  refine hK _ _ (Kept.refl _ _) ?_
  clear hK K
  repeat (apply wpGrow_take; (case hw => rfl); (case hv => intro w' hk; go_simp; with_reducible rfl); simp only [Act.put, List.setIfInBounds_toArray, List.set_cons_zero, List.set_cons_succ])
  refine wpGrow_force (by rfl) (fun K hK => ?_)
  go_simp
  refine (full2_at 1 1 _ (by omega) (by omega) (by omega) (by omega)).mono ?_
  rintro e w14 ⟨rfl, hw14⟩
  have hk14 : Kept [] w13.drew w14 := by rw [hw14]; exact Kept.alloc _ _ _
  refine hK _ _ hk14 ?_
  clear hK K cv
  have cv : ∀ w', Kept [] w14 w' → (convert 48 9 (.slice (some ⟨w13.heap.size, 0, none⟩) 64 64)).run Try.prog w' = .ok (.string (strL (fullE 1 1))) w' := fun w' hk =>
    conv_range w' w13.heap.size 0 64 (fullE 1 1) 64 (fullE_length _ _) (hk.range (by rw [hw14]; simp) (by simp) (by rw [hw14]; exact range_row (heap_alloc_last w13.drew _)))
  have HK14 := Lib.hid hk14
  clear hw14 hk14
  repeat (apply wpGrow_take; (case hw => rfl); (case hv => intro w' hk; go_simp; with_reducible rfl); simp only [Act.put, List.setIfInBounds_toArray, List.set_cons_zero, List.set_cons_succ])
  refine wpGrow_nil ?_
  go_wp2_with fail
  go_ret
  refine ⟨rfl, ?_⟩
  have k3 := HK1.out.into HK3.out (by have := HA.out; have := HM.out; have := HJL.out; simp; omega)
  exact (k3.into HK13.out (by have := HA.out; have := HM.out; have := HJL.out; simp; omega)).trans HK14.out
end Go.Proofs.Ytmckapfncnoddaa

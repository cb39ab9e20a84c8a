/-
  The document's examples, run by the program: 'shown' answers true, in whatever world.
  Conditions: none.
-/
import Derived.Test.YthhcopipamjelaaDisk
import Derived.Test.YthhcopipamjelaaRegion
namespace Go.Proofs.Ythhcopipamjelaa
open Go.RowKit Go.Maps

/-- Bytes as a text. -/
def strL (l : List UInt8) : ByteArray := ⟨l.toArray⟩

theorem conv_of_range {P : Program} (w : World) (src dst e : TypeId) (hs : P.underlying src = some (.slice e)) (he : P.underlying e = some (.int .u8)) (hd : P.underlying dst = some .string)
    (b o cap : Nat) (l : List UInt8) (n : Nat) (hn : l.length = n) (hc : w.rangeAt b o (bv l)) :
    (convert src dst (.slice (some ⟨b, o, none⟩) n cap)).run P w = .ok (.string (strL l)) w := by
  subst hn
  refine run_convert_bytes_back w src dst e ⟨b, o, none⟩ cap l hs he hd (fun j hj => ?_)
  rw [Addr.add_mid]
  exact hc j _ (by simp [bv, hj])

theorem range_new (w : World) (l : List UInt8) (t : TypeId) : (w.alloc (.cells (bvA l) t)).rangeAt w.heap.size 0 (bv l) := fun j v hv => by
  rw [Nat.zero_add, World.cell?_alloc_mark]
  simpa [bvA] using hv

/-- 'string(b)' in this program. -/
theorem conv_range (w : World) (b o cap : Nat) (l : List UInt8) (n : Nat) (hn : l.length = n) (hc : w.rangeAt b o (bv l)) :
    (convert 36 9 (.slice (some ⟨b, o, none⟩) n cap)).run Try.prog w = .ok (.string (strL l)) w :=
  conv_of_range w _ _ _ Try.underlying36 Try.underlying5 Try.underlying9 b o cap l n hn hc

theorem full_conv (c : UInt8) (w : World) :
    Calls Try.prog 14 #[.int .u8 (c.toNat : Int)] w fun e w' => e = .returned (.slice (some ⟨w.heap.size, 0, none⟩) 64 64) ∧ w' = w.alloc (.cells (bvA (fullL c)) 5) ∧
      (convert 36 9 (.slice (some ⟨w.heap.size, 0, none⟩) 64 64)).run Try.prog w' = .ok (.string (strL (fullL c))) w' :=
  (full_any c w).mono fun e w' ⟨he, hw⟩ => ⟨he, hw, by subst hw; exact conv_range _ _ _ _ _ _ (fullL_length c) (range_new _ _ _)⟩

/-- A byte out of a number. -/
theorem ofNat_toNat (n : Int) (h0 : 0 ≤ n) (h1 : n < 256) : (((UInt8.ofNat n.toNat).toNat : Nat) : Int) = n := by
  simp; omega

theorem full_at (n : Int) (w : World) (h0 : 0 ≤ n) (h1 : n < 256) :
    Calls Try.prog 14 #[.int .u8 n] w fun e w' => e = .returned (.slice (some ⟨w.heap.size, 0, none⟩) 64 64) ∧ w' = w.alloc (.cells (bvA (fullL (UInt8.ofNat n.toNat))) 5) := by
  have := full_any (UInt8.ofNat n.toNat) w
  rw [ofNat_toNat n h0 h1] at this
  exact this

theorem full_conv_at (n : Int) (w : World) (h0 : 0 ≤ n) (h1 : n < 256) :
    Calls Try.prog 14 #[.int .u8 n] w fun e w' => e = .returned (.slice (some ⟨w.heap.size, 0, none⟩) 64 64) ∧ w' = w.alloc (.cells (bvA (fullL (UInt8.ofNat n.toNat))) 5) ∧
      (convert 36 9 (.slice (some ⟨w.heap.size, 0, none⟩) 64 64)).run Try.prog w' = .ok (.string (strL (fullL (UInt8.ofNat n.toNat)))) w' := by
  have := full_conv (UInt8.ofNat n.toNat) w
  rw [ofNat_toNat n h0 h1] at this
  exact this

/-- 'Write' of a block that was made right ahead of it. -/
theorem write_new (a : Nat) (S : DiskS) (i : Int) (l : List UInt8) (n : Nat) (t : TypeId) (w : World) (h : IsDisk w a S) (hlw : S.writes < 4611686018427387904) (hn : l.length = n) :
    Calls Try.prog 15 #[.pointer (some ⟨a, 0, none⟩), .int .i64 i, .slice (some ⟨w.heap.size, 0, none⟩) n n] (w.alloc (.cells (bvA l) t)) fun e w' =>
      e = .returned (.int .i64 (S.wr i l).1) ∧ IsDisk w' a (S.wr i l).2 ∧ Kept [a, S.m] w w' := by
  refine (write_any a S i _ l _ (h.kept (Kept.alloc [] _ _) (by simp) (by simp)) hlw (slIs_new w l t n hn) ?_).mono fun e w' ⟨h1, h2, h3⟩ => ⟨h1, h2, (Kept.alloc _ _ _).trans h3⟩
  intro b o n' c he
  simp at he
  have := h.lt
  omega

def s0 (m : Nat) := DiskS.new 2 m
def s1 (m : Nat) := ((s0 m).wr 1 (fullL 1)).2
def s2 (m : Nat) := ((s1 m).wr 2 (fullL 1)).2
def s3 (m : Nat) := ((s2 m).wr 0 []).2
def s4 (m : Nat) := (s3 m).fuse 1
def s5 (m : Nat) := ((s4 m).wr 0 (fullL 2)).2
def s6 (m : Nat) := ((s5 m).wr 0 (fullL 3)).2
def s7 (m : Nat) := (s6 m).boot
theorem s1_is (m : Nat) : s1 m = ⟨2, m, false, false, 0, 1, updL (fun _ => zeroL) 1 (fullL 1)⟩ := rfl
theorem s5_is (m : Nat) : s5 m = ⟨2, m, false, true, 0, 2, updL (updL (fun _ => zeroL) 1 (fullL 1)) 0 (fullL 2)⟩ := rfl
theorem s7_is (m : Nat) : s7 m = ⟨2, m, false, false, 0, 2, updL (updL (fun _ => zeroL) 1 (fullL 1)) 0 (fullL 2)⟩ := rfl

set_option maxHeartbeats 4000000 in
set_option maxRecDepth 100000 in
theorem shown_true (w : World) : Calls Try.prog 8 #[] w fun e w' => e = .returned (.bool true) ∧ Kept [] w w' := by
  obtain ⟨a, ha⟩ : ∃ a, a = w.heap.size + 1 := ⟨_, rfl⟩
  obtain ⟨m, hm⟩ : ∃ m, m = w.heap.size := ⟨_, rfl⟩
  have HA := Lib.hid ha
  have HM := Lib.hid hm
  clear ha hm
  go_enter Try.func8, Try.ntmps8
  go_wp2_with fail
  refine (new_ok 2 _ (by omega) (by omega)).mono ?_
  rintro e w1 ⟨rfl, hd1, hk1⟩
  rw [← HA.out, ← HM.out] at hd1
  rw [← HA.out]
  have HD1 : Hid (IsDisk w1 a (s0 m)) := hd1
  have HK1 := Lib.hid hk1
  clear hd1 hk1
  go_wp2_with fail
  refine (new_bad 0 _ (by omega)).mono ?_
  rintro e w1 ⟨rfl, rfl⟩
  go_wp2_with fail
  refine (full_at 1 _ (by omega) (by omega)).mono ?_
  rintro e w2 ⟨rfl, rfl⟩
  go_wp2_with fail
  refine (write_new a (s0 m) 1 (fullL 1) 64 _ _ HD1.out (show (0 : Int) < _ by omega) (fullL_length _)).mono ?_
  rw [show ((s0 m).wr 1 (fullL 1)).1 = 0 from rfl]
  rintro e w2 ⟨rfl, hd2, hk2⟩
  have HD2 : Hid (IsDisk w2 a (s1 m)) := hd2
  have HK2 : Hid (Kept [a, m] w1 w2) := hk2
  clear hd2 hk2
  go_wp2_with fail
  refine (full_at 1 _ (by omega) (by omega)).mono ?_
  rintro e w3 ⟨rfl, rfl⟩
  go_wp2_with fail
  refine (write_new a (s1 m) 2 (fullL 1) 64 _ _ HD2.out (show (1 : Int) < _ by omega) (fullL_length _)).mono ?_
  rw [show ((s1 m).wr 2 (fullL 1)).1 = 10 from rfl]
  rintro e w3 ⟨rfl, hd2, hk2⟩
  have HD3 : Hid (IsDisk w3 a (s2 m)) := hd2
  have HK3 : Hid (Kept [a, m] w2 w3) := hk2
  clear hd2 hk2
  go_wp2_with fail
  refine (write_any a (s2 m) 0 _ [] _ HD3.out (show (1 : Int) < _ by omega) (Or.inr ⟨rfl, rfl⟩) (by intro b o n c h; cases h)).mono ?_
  rw [show ((s2 m).wr 0 []).1 = 11 from rfl]
  rintro e w4 ⟨rfl, hd2, hk2⟩
  have HD4 : Hid (IsDisk w4 a (s3 m)) := hd2
  have HK4 : Hid (Kept [a, m] w3 w4) := hk2
  clear hd2 hk2
  go_wp2_with fail
  refine (fuse_any a (s3 m) 1 _ HD4.out (by omega)).mono ?_
  rintro e w5 ⟨rfl, hd2, hk2⟩
  have HD5 : Hid (IsDisk w5 a (s4 m)) := hd2
  have HK5 : Hid (Kept [a, m] w4 w5) := hk2.mono (by simp)
  clear hd2 hk2
  go_wp2_with fail
  refine (full_at 2 _ (by omega) (by omega)).mono ?_
  rintro e w6 ⟨rfl, rfl⟩
  go_wp2_with fail
  refine (write_new a (s4 m) 0 (fullL 2) 64 _ _ HD5.out (show (1 : Int) < _ by omega) (fullL_length _)).mono ?_
  rw [show ((s4 m).wr 0 (fullL 2)).1 = 0 from rfl]
  rintro e w6 ⟨rfl, hd2, hk2⟩
  have HD6 : Hid (IsDisk w6 a (s5 m)) := hd2
  have HK6 : Hid (Kept [a, m] w5 w6) := hk2
  clear hd2 hk2
  go_wp2_with fail
  refine (full_at 3 _ (by omega) (by omega)).mono ?_
  rintro e w7 ⟨rfl, rfl⟩
  go_wp2_with fail
  refine (write_new a (s5 m) 0 (fullL 3) 64 _ _ HD6.out (show (2 : Int) < _ by omega) (fullL_length _)).mono ?_
  rw [show ((s5 m).wr 0 (fullL 3)).1 = 2 from rfl]
  rintro e w7 ⟨rfl, hd2, hk2⟩
  have HD7 : Hid (IsDisk w7 a (s6 m)) := hd2
  have HK7 : Hid (Kept [a, m] w6 w7) := hk2
  clear hd2 hk2
  go_wp2_with fail
  refine (on_any a (s6 m) _ HD7.out).mono ?_
  rw [show (!(s6 m).off) = false from rfl]
  rintro e w8 ⟨rfl, rfl⟩
  go_wp2_with fail
  refine (boot_any a (s6 m) _ HD7.out).mono ?_
  rintro e w8 ⟨rfl, hd2, hk2⟩
  have HD8 : Hid (IsDisk w8 a (s7 m)) := hd2
  have HK8 : Hid (Kept [a, m] w7 w8) := hk2.mono (by simp)
  clear hd2 hk2
  go_wp2_with fail
  refine (read_ok a (s7 m) 0 _ HD8.out rfl).mono ?_
  rw [show (s7 m).blk 0 = fullL 2 from rfl]
  rintro e w9 ⟨rfl, hw9⟩
  have hk9 : Kept [] w8 w9 := by rw [hw9]; exact Kept.alloc _ _ _
  have HD9 := Lib.hid (HD8.out.kept hk9 (by simp) (by simp))
  have hr9 : w9.rangeAt w8.heap.size 0 (bv (fullL 2)) := by rw [hw9]; exact range_new _ _ _
  have cv : ∀ w', Kept [] w9.drew w' → (convert 36 9 (.slice (some ⟨w8.heap.size, 0, none⟩) 64 64)).run Try.prog w' = .ok (.string (strL (fullL 2))) w' := fun w' hk =>
    conv_range w' w8.heap.size 0 64 (fullL 2) 64 (fullL_length _) (((Kept.drew [] w9).trans hk).range (by rw [hw9]; simp) (by simp) hr9)
  have HK9 := Lib.hid hk9
  clear hw9 hk9 hr9
  go_wp2_with fail
  refine wp_region_grow (List.replicate 29 true ++ [false] ++ List.replicate 5 true ++ [false] ++ List.replicate 3 true) [] (by kernel_rfl) (fun _ _ d _ _ h => by cases d <;> exact h) (by kernel_rfl) rfl (by kernel_rfl) ?_
  simp only [List.replicate_succ, List.replicate_zero, List.cons_append, List.nil_append, List.zip_cons_cons, List.zip_nil_left]
  repeat (apply wpGrow_take; (case hw => rfl); (case hv => intro w' hk; go_simp; with_reducible rfl); simp only [Act.put, List.setIfInBounds_toArray, List.set_cons_zero, List.set_cons_succ])
  refine wpGrow_force (by rfl) (fun K hK => ?_)
  go_simp
  refine (full_conv_at 2 _ (by omega) (by omega)).mono ?_
  rintro e w10 ⟨rfl, hw10, hcv⟩
  have hk10 : Kept [] w9.drew w10 := by rw [hw10]; exact Kept.alloc _ _ _
  refine hK _ _ hk10 ?_
  clear hK K cv
  have cv : ∀ w', Kept [] w10 w' → (convert 36 9 (.slice (some ⟨w9.heap.size, 0, none⟩) 64 64)).run Try.prog w' = .ok (.string (strL (fullL 2))) w' := fun w' hk =>
    conv_range w' w9.heap.size 0 64 (fullL 2) 64 (fullL_length _) (hk.range (by rw [hw10]; simp) (by simp) (by rw [hw10]; exact range_new w9.drew _ _))
  have HD10 := Lib.hid (HD9.out.kept ((Kept.drew [] w9).trans hk10) (by simp) (by simp))
  have HK10 := Lib.hid hk10
  clear hw10 hcv hk10
  repeat (apply wpGrow_take; (case hw => rfl); (case hv => intro w' hk; go_simp; with_reducible rfl); simp only [Act.put, List.setIfInBounds_toArray, List.set_cons_zero, List.set_cons_succ])
  refine wpGrow_force (by rfl) (fun K hK => ?_)
  go_simp
  refine (writes_any a (s7 m) _ HD10.out).mono ?_
  rw [show (s7 m).writes = 2 from rfl]
  rintro e w11 ⟨rfl, rfl⟩
  refine hK _ _ (Kept.refl _ _) ?_
  clear hK K
  repeat (apply wpGrow_take; (case hw => rfl); (case hv => intro w' hk; go_simp; with_reducible rfl); simp only [Act.put, List.setIfInBounds_toArray, List.set_cons_zero, List.set_cons_succ])
  refine wpGrow_nil ?_
  go_wp2_with fail
  go_ret
  refine ⟨rfl, ?_⟩
  have k1 : Kept [a, m] w w1 := HK1.out.mono (by simp)
  have k2 := ((((((k1.trans HK2.out).trans HK3.out).trans HK4.out).trans HK5.out).trans HK6.out).trans HK7.out).trans HK8.out
  have k3 : Kept [] w8 w10 := HK9.out.trans ((Kept.drew _ _).trans HK10.out)
  refine (k2.trans (k3.mono (by simp))).mono (fun k hk hlt => ?_)
  have e1 := HA.out
  have e2 := HM.out
  simp at hk
  omega
end Go.Proofs.Ythhcopipamjelaa

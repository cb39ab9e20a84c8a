/-
  The walk through JournalOrder: groups that were done one behind the other leave each block as the last one that wrote it said.
  Conditions: none.
-/
import Derived.Test.YtmckapfncnoddaaOwnPuts
import Derived.Test.YtmckapfncnoddaaArgTypes
namespace Go.Proofs.Ytmckapfncnoddaa
open Go.RowKit Go.Maps

theorem JLive.apart {w : World} {a j at_ g : Nat} {S : DiskS} (h : JLive w a j at_ g S) {b : Nat} {cs : Array Value} {t : TypeId} (hb : w.heap[b]? = some (.cells cs t)) (h1 : t ≠ 67) (h2 : t ≠ 71) : a ≠ b ∧ S.m ≠ b ∧ j ≠ b := by
  refine ⟨fun e => ?_, fun e => ?_, fun e => ?_⟩
  · have := h.live.disk.here
    rw [e, hb] at this
    simp at this
    exact h1 this.2
  · exact h.live.disk.map.notCells (e ▸ hb)
  · have := h.jour
    unfold IsJour at this
    rw [e, hb] at this
    simp at this
    exact h2 this.2

theorem JLive.set {w w' : World} {a j at_ g : Nat} {S : DiskS} (h : JLive w a j at_ g S) {b : Nat} {cs : Array Value} {t : TypeId} (hb : w.heap[b]? = some (.cells cs t)) (h1 : t ≠ 67) (h2 : t ≠ 71) (hk : Kept [b] w w') : JLive w' a j at_ g S := by
  obtain ⟨e1, e2, e3⟩ := h.apart hb h1 h2
  exact h.kept hk (by simpa using e1) (by simpa using e2) (by simpa using e3)

theorem JLive.ownKept {w w' : World} {a j at_ g : Nat} {S : DiskS} (h : JLive w a j at_ g S) {base : Nat} {v : Value} {l : List PutL} {xs : List Value} (ho : OwnPuts w base v l xs) (hk : Kept v.ownBlock.toList w w') : JLive w' a j at_ g S := by
  obtain ⟨b, cap, cur, rfl, _, hg, _⟩ := ho.shape
  exact h.set hg (by decide) (by decide) hk

theorem OwnPuts.heapKept {w w' : World} {base : Nat} {v : Value} {l : List PutL} {xs : List Value} (ho : OwnPuts w base v l xs) (hk : Kept v.ownBlock.toList w w') {b : Nat} {cs : Array Value} {t : TypeId} (hb : w.heap[b]? = some (.cells cs t)) (ht : t ≠ 54) : w'.heap[b]? = some (.cells cs t) := by
  obtain ⟨g, cap, cur, rfl, _, hg, _⟩ := ho.shape
  refine hk.heap (fun hm => ?_) hb
  simp [Value.ownBlock] at hm
  subst hm
  rw [hg] at hb
  simp at hb
  exact ht hb.2.symm

theorem OwnPuts.keptSet {w w' : World} {base : Nat} {v : Value} {l : List PutL} {xs : List Value} (ho : OwnPuts w base v l xs) {b : Nat} {cs : Array Value} {t : TypeId} (hb : w.heap[b]? = some (.cells cs t)) (h1 : t ≠ 54) (h2 : t ≠ 5) (hk : Kept [b] w w') : OwnPuts w' base v l xs :=
  ho.kept hk (fun b' hb' cs' t' h => by
    simp at hb'
    subst hb'
    rw [hb] at h
    simp at h
    rw [← h.2]
    exact ⟨h1, h2⟩)

theorem getD_set_same {T : Type} (l : List T) (q : Nat) (x d : T) (h : q < l.length) : (l.set q x).getD q d = x := by
  rw [List.getD_eq_getElem?_getD, List.getElem?_set_self h]; rfl
theorem getD_set_ne {T : Type} (l : List T) (q r : Nat) (x d : T) (h : q ≠ r) : (l.set q x).getD r d = l.getD r d := by
  rw [List.getD_eq_getElem?_getD, List.getElem?_set_ne h, List.getD_eq_getElem?_getD]

theorem zerosL_get (n q : Nat) : (zerosL n).getD q 0 = 0 := by
  rw [zerosL, List.getD_eq_getElem?_getD, List.getElem?_replicate]
  split <;> rfl

theorem boolA_size (Z : List Bool) : (boolA Z).size = Z.length := by simp [boolA]
theorem boolA_one (Z : List Bool) : (boolA Z).all (·.oneCell') = true := by
  refine all_oneCell_toArray (fun v hv => ?_)
  obtain ⟨b, _, rfl⟩ := List.mem_map.1 hv
  rfl
theorem size60 : (Try.prog.info? 57).map (·.size) = some 60 := by kernel_rfl
theorem size60b : (Try.prog.info? 58).map (·.size) = some 60 := by kernel_rfl

/-- The write that a statement makes of block q. -/
def putO (base : Nat) (c : UInt8) (f : Nat → UInt8) (q : Nat) : PutL := ((base : Int) + q, fullE c (f q))

/-- A group under way: Z tells which of n blocks have a write in it; has, what each is to have behind it. -/
structure IoSt (w : World) (n base : Nat) (f : Nat → UInt8) (c : UInt8) (th tz : TypeId) (h sb B : Nat) (H0 H : List UInt8) (off : Nat) (Z : List Bool) (l : List PutL) (cnt : Nat) (v : Value) (xs : List Value) (wr : World) : Prop where
  has : wr.heap[h]? = some (.cells (bvA H) th)
  hlen : H.length = H0.length
  seen : wr.heap[sb]? = some (.cells (boolA Z) tz)
  zlen : Z.length = n
  own : OwnPuts wr B v l xs
  rel : ∀ q, q < n → H.getD (off + q) 0 = if Z.getD q false = true then c else H0.getD (off + q) 0
  rest : ∀ q, ¬ (off ≤ q ∧ q < off + n) → H.getD q 0 = H0.getD q 0
  mem : ∀ p, p ∈ l ↔ ∃ q, q < n ∧ Z.getD q false = true ∧ p = putO base c f q
  nodup : (l.map (·.1)).Nodup
  len : l.length ≤ cnt
  kept : Kept [] w wr

theorem IoSt.grp {w : World} {n base : Nat} {f : Nat → UInt8} {c : UInt8} {th tz : TypeId} {h sb B : Nat} {H0 H : List UInt8} {off : Nat} {Z : List Bool} {l : List PutL} {cnt : Nat} {v : Value} {xs : List Value} {wr : World}
    (R : IoSt w n base f c th tz h sb B H0 H off Z l cnt v xs wr) (at_ : Nat) (size : Int) (h1 : at_ + 199 ≤ base) (h2 : (base : Int) + n ≤ size) (h3 : cnt ≤ 192) : Grp at_ size l := by
  refine ⟨Nat.le_trans R.len h3, fun p hp => ?_, R.nodup⟩
  obtain ⟨q, hq, _, rfl⟩ := (R.mem p).1 hp
  exact ⟨by simp only [putO]; omega, by simp only [putO]; omega, fullE_length _ _, by simp only [putO]; omega⟩

theorem IoSt.apply {w : World} {n base : Nat} {f : Nat → UInt8} {c : UInt8} {th tz : TypeId} {h sb B : Nat} {H0 H : List UInt8} {off : Nat} {Z : List Bool} {l : List PutL} {cnt : Nat} {v : Value} {xs : List Value} {wr : World}
    (R : IoSt w n base f c th tz h sb B H0 H off Z l cnt v xs wr) (g : Int → List UInt8) (q : Nat) (hq : q < n) : applyL g l ((base : Int) + q) = if Z.getD q false = true then fullE c (f q) else g ((base : Int) + q) := by
  split
  · rename_i hz
    exact applyL_get R.nodup (p := putO base c f q) ((R.mem _).2 ⟨q, hq, hz, rfl⟩)
  · rename_i hz
    refine applyL_other (fun p hp e => hz ?_)
    obtain ⟨r, hr, hzr, rfl⟩ := (R.mem p).1 hp
    simp only [putO] at e
    obtain rfl : r = q := by omega
    exact hzr

/-- One more block in the group. -/
theorem IoSt.add {w : World} {n base : Nat} {f : Nat → UInt8} {c : UInt8} {th tz : TypeId} {h sb B : Nat} {H0 H : List UInt8} {off : Nat} {Z : List Bool} {l : List PutL} {cnt : Nat} {v v' : Value} {xs xs' : List Value} {wr w' : World}
    (R : IoSt w n base f c th tz h sb B H0 H off Z l cnt v xs wr) (q : Nat) (hq : q < n) (hz : Z.getD q false = false) (hoff : off + n ≤ H0.length)
    (hhas : w'.heap[h]? = some (.cells (bvA (H.set (off + q) c)) th)) (hseen : w'.heap[sb]? = some (.cells (boolA (Z.set q true)) tz)) (hown : OwnPuts w' B v' (l ++ [putO base c f q]) xs') (hk : Kept [] w w') :
    IoSt w n base f c th tz h sb B H0 (H.set (off + q) c) off (Z.set q true) (l ++ [putO base c f q]) (cnt + 1) v' xs' w' := by
  have hl := R.hlen
  have hzl := R.zlen
  refine ⟨hhas, by simpa using R.hlen, hseen, by simpa using R.zlen, hown, fun r hr => ?_, fun r hr => ?_, fun p => ?_, ?_, by simp; exact R.len, hk⟩
  · by_cases e : q = r
    · subst e
      rw [getD_set_same _ _ _ _ (by omega), getD_set_same _ _ _ _ (by omega), if_pos rfl]
    · rw [getD_set_ne _ _ _ _ _ (by omega), getD_set_ne _ _ _ _ _ e]
      exact R.rel r hr
  · rw [getD_set_ne _ _ _ _ _ (by omega)]
    exact R.rest r hr
  · rw [List.mem_append, R.mem p]
    constructor
    · rintro (⟨r, hr, hzr, rfl⟩ | hp)
      · refine ⟨r, hr, ?_, rfl⟩
        by_cases e : q = r
        · subst e; exact getD_set_same _ _ _ _ (by omega)
        · rw [getD_set_ne _ _ _ _ _ e]; exact hzr
      · simp at hp
        exact ⟨q, hq, getD_set_same _ _ _ _ (by omega), hp⟩
    · rintro ⟨r, hr, hzr, rfl⟩
      by_cases e : q = r
      · subst e; exact .inr (by simp)
      · rw [getD_set_ne _ _ _ _ _ e] at hzr
        exact .inl ⟨r, hr, hzr, rfl⟩
  · rw [List.map_append, List.nodup_append]
    refine ⟨R.nodup, by simp, ?_⟩
    intro x hx y hy e
    simp at hy
    subst hy
    subst e
    obtain ⟨p, hp, hpe⟩ := List.mem_map.1 hx
    obtain ⟨r, hr, hzr, rfl⟩ := (R.mem p).1 hp
    simp only [putO] at hpe
    obtain rfl : r = q := by omega
    rw [hz] at hzr
    cases hzr

theorem zero60 (w : World) : (zeroValue 57).run Try.prog w = .ok (.agg (bvA (zerosL 60))) w := by kernel_rfl
theorem zero60b (w : World) : (zeroValue 58).run Try.prog w = .ok (.agg (boolA (List.replicate 60 false))) w := by kernel_rfl
theorem grS_blk (m at_ : Nat) (i : Int) (h : i ≠ at_) : (grS m at_).blk i = zeroL := by
  simp [grS, updL, h]

theorem full2_eq (c d : UInt8) (w : World) (n m : Int) (hn : n = (c.toNat : Int)) (hm : m = (d.toNat : Int)) :
    Calls Try.prog 26 #[.int .u8 n, .int .u8 m] w fun e w' => e = .returned (.slice (some ⟨w.heap.size, 0, none⟩) 64 64) ∧ w' = w.alloc (.cells (bvA (fullE c d)) 5) := by
  subst hn hm
  exact full2_any c d w

structure OrSt (w : World) (a m j h k : Nat) (Sk : DiskS) (H : List UInt8) (wr : World) : Prop where
  live : JLive wr a j 0 k Sk
  m : Sk.m = m
  size : Sk.size = 259
  writes : Sk.writes ≤ 1 + 100 * k
  has : wr.heap[h]? = some (.cells (bvA H) 57)
  hlen : H.length = 60
  blk : ∀ q : Nat, q < 60 → Sk.blk ((199 : Nat) + (q : Int)) = if H.getD q 0 = 0 then zeroL else fullE (H.getD q 0) (UInt8.ofNat q)
  kept : Kept [] w wr

set_option maxHeartbeats 8000000 in
set_option maxRecDepth 100000 in
theorem order_walk (ao : Option Addr) (len cap : Nat) (L : List (List UInt8)) (w : World) (hl : SliceOf w 1 (RowQ w) ao len L) :
    Calls Try.prog 6 #[.slice ao len cap] w fun e w' => e = .returned (.bool true) ∧ Kept [] w w' := by
  obtain ⟨rfl, hlen, harg⟩ := hl
  have HARG := Lib.hid harg
  clear harg
  go_enter Try.func6, Try.ntmps6
  go_wp2_with fail
  refine (shown_true w).mono ?_
  rintro e w1 ⟨rfl, hk1⟩
  have HK1 := Lib.hid hk1
  clear hk1
  go_wp2_with fail
  refine (ground_any 0 _ rfl (by omega) w1).mono ?_
  rintro e w2 ⟨a, m, j, rfl, hd, hj, ha, hm, hjl, hk2⟩
  have H2 : Hid (JLive w2 a j 0 0 (grS m 0)) := ⟨⟨hd, rfl, rfl⟩, hj, grS_ready m 0, by show (0 : Int) + 199 ≤ 259; omega⟩
  have HK2 := Lib.hid (HK1.out.trans hk2)
  have HA : Hid (w.heap.size ≤ a ∧ w.heap.size ≤ m ∧ w.heap.size ≤ j) := by have := HK1.out.size; exact ⟨by omega, by omega, by omega⟩
  clear hd hj hk2 ha hm hjl
  have hzero := zero60
  have hsz0 : (bvA (zerosL 60)).size = 60 := rfl
  have hst0 := run_storeCells_new (P := Try.prog) w2 57 (bvA (zerosL 60)) (bvA (zerosL 60)) (by rw [hsz0]; exact size60) rfl (bvA_one _)
  go_wp2_with fail
  clear hzero hst0
  generalize hw3 : World.alloc w2 _ = w3
  obtain ⟨h, hh⟩ : ∃ h, h = w2.heap.size := ⟨_, rfl⟩
  have hk3 : Kept [] w2 w3 := by rw [← hw3]; exact Kept.alloc _ _ _
  have hh3 : w3.heap[h]? = some (.cells (bvA (zerosL 60)) 57) := by rw [← hw3, hh]; exact heap_alloc_last _ _
  have hw : w.heap.size ≤ h := by rw [hh]; exact HK2.out.size
  have HS0 : Hid (OrSt w a m j h 0 (grS m 0) (zerosL 60) w3) := by
    refine ⟨H2.out.kept hk3 (by simp) (by simp) (by simp), rfl, rfl, by show (1 : Int) ≤ 1 + 100 * 0; omega, hh3, zerosL_length 60, fun q hq => ?_, HK2.out.trans hk3⟩
    rw [if_pos (zerosL_get 60 q)]
    exact grS_blk m 0 _ (by omega)
  rw [← hh]
  have HWH := Lib.hid hw
  clear hw3 hk3 hh3 hh hw H2
  obtain ⟨N, hN⟩ : ∃ N, N = min L.length 30 := ⟨_, rfl⟩
  have hNl : N ≤ L.length := by omega
  have hN30 : N ≤ 30 := by omega
  have hway : (N = L.length) ∨ (N = 30 ∧ 30 < L.length) := by omega
  have HW := Lib.hid hway
  clear hN hway
  go_loopw [7] (fun i wr => ∃ (k : Nat) (Sk : DiskS) (H : List UInt8), k ≤ N ∧ i = .int .i64 k ∧ Hid (OrSt w a m j h k Sk H wr)) (fun i _ => N - (intOf i).toNat)
  case atStart => exact ⟨0, _, _, by omega, rfl, HS0⟩
  case round =>
    obtain ⟨k, Sk, H, hkN, rfl, HS⟩ := hrel
    by_cases hlt : k < N
    · have hkL : k < L.length := by omega
      have hkI : (k : Int) < (L.length : Int) := by omega
      have hk30 : (k : Int) < 30 := by omega
      obtain ⟨b, o, hao, hb, hrows⟩ := HARG.out.resolve_left (by omega)
      subst hao
      obtain ⟨cs, ⟨rao, rlen, rcap, rfl, hrow⟩, _, hcs⟩ := hrows k hkL
      have hrc : w.cell? ⟨b, o + k, none⟩ = some (.slice rao rlen rcap) := by have := hcs 0 _ rfl; simpa using this
      obtain ⟨row, hrw⟩ : ∃ row, L[k] = row := ⟨_, rfl⟩
      rw [hrw] at hrow
      obtain ⟨rfl, hrlen, hrarg⟩ := hrow
      have HRA := Lib.hid hrarg
      have HRC := Lib.hid hrc
      clear hrows hcs hrc hrw hrarg
      obtain ⟨c, hc⟩ : ∃ c : UInt8, c = UInt8.ofNat (k + 1) := ⟨_, rfl⟩
      have HCV : Hid ((k : Int) + 1 = (c.toNat : Int)) := by show _ = _; rw [hc]; simp; omega
      have hcn : c ≠ 0 := fun e => by
        have := congrArg UInt8.toNat (hc.symm.trans e)
        simp at this
        omega
      have HCN := Lib.hid hcn
      have HC := Lib.hid hc
      clear hc hcn
      obtain ⟨R0, hR0⟩ : ∃ R0, R0 = List.replicate 60 false := ⟨_, rfl⟩
      have hzb := zero60b
      have hszb : (boolA R0).size = 60 := by rw [boolA_size, hR0]; exact List.length_replicate
      rw [← hR0] at hzb
      have hstb : ∀ W : World, (storeCells ⟨W.heap.size, 0, none⟩ (boolA R0).toList 0).run Try.prog (W.alloc (.cells (boolA R0) 58)) = .ok () (W.alloc (.cells (boolA R0) 58)) := fun W =>
        run_storeCells_new (P := Try.prog) W 58 (boolA R0) (boolA R0) (by rw [hszb]; exact size60b) rfl (boolA_one _)
      have hstb2 := hstb (wr.alloc (.cells #[] 54))
      rw [size_alloc] at hstb2
      have HR0 := Lib.hid hR0
      clear hR0 hstb
      go_wp2_with fail
      generalize hw5 : World.alloc (World.alloc wr _) _ = w5
      obtain ⟨sb, hsb⟩ : ∃ sb, sb = wr.heap.size + 1 := ⟨_, rfl⟩
      have hk5 : Kept [] wr w5 := by rw [← hw5]; exact (Kept.alloc _ _ _).trans (Kept.alloc _ _ _)
      clear hzb hstb2
      have hs5 : w5.heap[sb]? = some (.cells (boolA R0) 58) := by rw [← hw5, hsb]; exact heap_alloc2 wr _ _
      have ho5 : OwnPuts w5 wr.heap.size (.slice (some ⟨wr.heap.size, 0, none⟩) 0 0) [] [] := by rw [← hw5]; exact (OwnPuts.start wr).kept (Kept.alloc [] _ _) (by simp)
      have hwr : w.heap.size ≤ wr.heap.size := HS.out.kept.size
      obtain ⟨B, hB⟩ : ∃ B, B = wr.heap.size := ⟨_, rfl⟩
      rw [← hB] at ho5 hwr ⊢
      have HBB := Lib.hid hwr
      have HI0 : Hid (IoSt w 60 199 UInt8.ofNat c 57 58 h sb B H H 0 R0 [] 0 (Value.slice (some ⟨B, 0, none⟩) 0 0) [] w5 ∧ JLive w5 a j 0 k Sk) :=
        ⟨⟨hk5.heap (by simp) HS.out.has, rfl, hs5, by rw [← boolA_size]; exact hszb, ho5, fun q hq => by rw [HR0.out, rep_get]; simp, fun q _ => rfl, (fun p => ⟨fun hp => absurd hp (by simp), fun ⟨q, _, hz, _⟩ => absurd hz (by rw [HR0.out, rep_get]; simp)⟩), by simp, by simp, HS.out.kept.trans hk5⟩, HS.out.live.kept hk5 (by simp) (by simp) (by simp)⟩
      rw [show B + 1 = sb by omega]
      have HSB : Hid (w.heap.size ≤ sb) := by show _ ≤ _; omega
      clear hw5 hk5 hs5 ho5 hsb hB hwr
      obtain ⟨N2, hN2⟩ : ∃ N2, N2 = min row.length 40 := ⟨_, rfl⟩
      have hN2l : N2 ≤ row.length := by omega
      have hN240 : N2 ≤ 40 := by omega
      have hway2 : (N2 = row.length) ∨ (N2 = 40 ∧ 40 < row.length) := by omega
      have HW2 := Lib.hid hway2
      clear hN2 hway2
      have HHL := Lib.hid HS.out.hlen
      go_loopw [8, 10] (fun v i wr => ∃ (kk : Nat) (Z : List Bool) (H' : List UInt8) (l : List PutL) (xs : List Value), kk ≤ N2 ∧ i = .int .i64 kk ∧ Hid (IoSt w 60 199 UInt8.ofNat c 57 58 h sb B H H' 0 Z l kk v xs wr ∧ JLive wr a j 0 k Sk)) (fun _ i _ => N2 - (intOf i).toNat)
      case atStart => exact ⟨0, _, _, _, _, by omega, rfl, HI0⟩
      case round =>
        obtain ⟨kk, Z, H', l, xs, hkk, rfl, HI⟩ := hrel
        have hrow : wr.cell? ⟨b, o + k, none⟩ = some (.slice rao row.length rcap) := by
          rw [HI.out.1.kept.cell (p := ⟨b, o + k, none⟩) hb (by simp)]; exact HRC.out
        by_cases hlt2 : kk < N2
        · have hkr : kk < row.length := by omega
          have hkI2 : (kk : Int) < (row.length : Int) := by omega
          have hk40 : (kk : Int) < 40 := by omega
          obtain ⟨rb, ro, hra, hrb, hrr⟩ := HRA.out.resolve_left (by omega)
          subst hra
          obtain ⟨x, hx⟩ : ∃ x, row[kk] = x := ⟨_, rfl⟩
          have hxc : wr.cell? ⟨rb, ro + kk, none⟩ = some (.int .u8 (x.toNat : Int)) := by
            rw [HI.out.1.kept.cell (p := ⟨rb, ro + kk, none⟩) hrb (by simp)]
            exact hrr kk _ (by simp [bv, hkr, hx])
          have hxl : x.toNat < 256 := UInt8.toNat_lt x
          obtain ⟨q, hq⟩ : ∃ q : Nat, (x.toNat : Int) % 60 = q := ⟨x.toNat % 60, by omega⟩
          have hq60 : q < 60 := by omega
          have hqI : (q : Int) < 60 := by omega
          have hzl := HI.out.1.zlen
          have hHl : H'.length = 60 := by rw [HI.out.1.hlen]; exact HHL.out
          have hz : wr.cell? ⟨sb, q, none⟩ = some (.bool (Z.getD q false)) := by
            rw [cell_of_row wr _ q _ _ _ HI.out.1.seen]
            have : q < Z.length := by omega
            simp [boolA, this]
          have HRR := Lib.hid hrr
          clear hx hrr
          cases hzz : Z.getD q false
          · rw [hzz] at hz
            have HZZ := Lib.hid hzz
            have fz : ∀ r, wr.frozen? ⟨sb, r, none⟩ = false := fun r => frozen_of_row wr _ r _ _ HI.out.1.seen
            have fh : ∀ r, wr.frozen? ⟨h, r, none⟩ = false := fun r => frozen_of_row wr _ r _ _ HI.out.1.has
            have hhc : wr.cell? ⟨h, q, none⟩ = some (.int .u8 ((H'[q]'(by omega)).toNat : Int)) := cell_bvA HI.out.1.has q (by omega)
            have hne : sb ≠ h := fun e => by
              have h1 := HI.out.1.seen
              rw [e, HI.out.1.has] at h1
              simp at h1
            have hne' : h ≠ sb := fun e => hne e.symm
            have HDV : Hid ((q : Int) = ((UInt8.ofNat q).toNat : Int)) := by show _ = _; simp; omega
            clear hzz
            go_wp2_with fail
            generalize hw6 : World.setCell (World.setCell wr _ _) _ _ = w6
            have hk6a : Kept [sb] wr (wr.setCell ⟨sb, q, none⟩ (.bool true)) := Kept.setCell _ _ _ _ (by simp)
            have hk6b : Kept [h] (wr.setCell ⟨sb, q, none⟩ (.bool true)) w6 := by rw [← hw6]; exact Kept.setCell _ _ _ _ (by simp)
            have hs6a : (wr.setCell ⟨sb, q, none⟩ (.bool true)).heap[sb]? = some (.cells (boolA (Z.set q true)) 58) := by rw [heap_setCell_same _ _ q _ _ _ HI.out.1.seen, boolA_set]
            have hh6a : (wr.setCell ⟨sb, q, none⟩ (.bool true)).heap[h]? = some (.cells (bvA H') 57) := hk6a.heap (by simpa using hne') HI.out.1.has
            have hs6 : w6.heap[sb]? = some (.cells (boolA (Z.set q true)) 58) := hk6b.heap (by simpa using hne) hs6a
            have hh6 : w6.heap[h]? = some (.cells (bvA (H'.set (0 + q) c)) 57) := by rw [← hw6, HCV.out, heap_setCell_same _ _ q _ _ _ hh6a, bvA_set, Nat.zero_add]
            have ho6 : OwnPuts w6 B u8 l xs := (HI.out.1.own.keptSet HI.out.1.seen (by decide) (by decide) hk6a).keptSet hh6a (by decide) (by decide) hk6b
            have hj6 : JLive w6 a j 0 k Sk := (HI.out.2.set HI.out.1.seen (by decide) (by decide) hk6a).set hh6a (by decide) (by decide) hk6b
            have hk6 : Kept [] w w6 := (HI.out.1.kept.into hk6a (by simpa using HSB.out)).into hk6b (by simpa using HWH.out)
            refine (full2_eq c (UInt8.ofNat q) w6 _ _ HCV.out HDV.out).mono ?_
            rintro e w7 ⟨rfl, hw7⟩
            obtain ⟨w8, hw8⟩ : ∃ w8, w8 = w7.alloc (.cells #[.int .i64 (199 + (q : Int)), .slice (some ⟨w6.heap.size, 0, none⟩) 64 64] 54) := ⟨_, rfl⟩
            have hk8 : Kept [] w6 w8 := by rw [hw8, hw7]; exact (Kept.alloc _ _ _).trans (Kept.alloc _ _ _)
            have ho8 := ho6.kept hk8 (by simp)
            obtain ⟨v', w9, xs', hrun, ho9, hk9⟩ := ho8.append (199 + (q : Int)) (fullE c (UInt8.ofNat q)) w6.heap.size w7.heap.size (by rw [hw8, hw7]; exact (Kept.alloc [] _ _).heap (by simp) (heap_alloc_last w6 _)) (fullE_length _ _) (by rw [hw8]; exact heap_alloc_last _ _) (by
              have s1 := hk8.size
              obtain ⟨g, cap', cur, _, hb', hg, _⟩ := ho6.shape
              have := (Array.getElem?_eq_some_iff.1 hg).1
              omega) (by have := HI.out.1.len; omega) (by omega) (by omega)
            have HN : Hid (IoSt w 60 199 UInt8.ofNat c 57 58 h sb B H (H'.set (0 + q) c) 0 (Z.set q true) (l ++ [putO 199 c UInt8.ofNat q]) (kk + 1) v' xs' w9 ∧ JLive w9 a j 0 k Sk) := by
              refine ⟨HI.out.1.add q hq60 HZZ.out (by rw [HHL.out]; omega) (ho8.heapKept hk9 (hk8.heap (by simp) hh6) (by decide)) (ho8.heapKept hk9 (hk8.heap (by simp) hs6) (by decide)) ho9 ?_, (hj6.kept hk8 (by simp) (by simp) (by simp)).ownKept ho8 hk9⟩
              exact (hk6.trans hk8).into hk9 (fun r hr => Nat.le_trans HBB.out (ho8.lt r hr))
            have HRUN := Lib.hid hrun
            have HW8 := Lib.hid hw8
            clear hrun ho9 hk9 ho8 hk8 hw8 hw7 hw6 hk6a hk6b hs6a hh6a hs6 hh6 ho6 hj6 hk6 hz fz fh hhc hxc
            rw [HW8.out] at HRUN
            go_wp2_with (refine wpList_append_run rfl _ _ 32 rfl _ _ _ rfl rfl HRUN.out ?_)
            go_roundw
            case rel => exact ⟨kk + 1, _, _, _, xs', by omega, by go_num, HN⟩
            case measure => simp [intOf]; omega
          · rw [hzz] at hz
            have HN : Hid (IoSt w 60 199 UInt8.ofNat c 57 58 h sb B H H' 0 Z l (kk + 1) u8 xs wr ∧ JLive wr a j 0 k Sk) := by
              have R := HI.out.1
              exact ⟨⟨R.has, R.hlen, R.seen, R.zlen, R.own, R.rel, R.rest, R.mem, R.nodup, by have := R.len; omega, R.kept⟩, HI.out.2⟩
            go_wp2_with fail
            go_roundw
            case rel => exact ⟨kk + 1, Z, H', l, xs, by omega, by go_num, HN⟩
            case measure => simp [intOf]; omega
        · obtain rfl : kk = N2 := by omega
          have hll := HI.out.1.len
          obtain ⟨gao, gcap, hv, hputs⟩ := HI.out.1.own.puts (by omega)
          subst hv
          have HP := Lib.hid hputs
          have hgrp : Grp 0 Sk.size l := HI.out.1.grp 0 _ (by omega) (by rw [HS.out.size]; omega) (by omega)
          have HG := Lib.hid hgrp
          have hq : (True ∧ ¬ ((kk : Int) < (row.length : Int))) ∨ ((kk : Int) < (row.length : Int) ∧ ¬ ((kk : Int) < 40)) := by
            rcases HW2.out with h | ⟨h, h'⟩
            · exact .inl ⟨trivial, by omega⟩
            · exact .inr ⟨by omega, by omega⟩
          clear hputs hgrp hlt2 hkk
          rcases hq with ⟨hq1, hq2⟩ | ⟨hq1, hq2⟩
          all_goals
            go_wp2_with fail
            refine (commit_j wr a j 0 k Sk HI.out.2 gao _ gcap l HP.out HG.out (by omega) (by have := HS.out.writes; omega)).mono ?_
            rintro e w6 ⟨rfl, S6, h6, hs6, hm6, hw6, hb6, hk6⟩
            have HJ6 := Lib.hid h6.jour
            have HN : Hid (OrSt w a m j h (k + 1) S6 H' w6) := by
              have hsp : spanN l.length ≤ 42 := by unfold spanN tabN; omega
              obtain ⟨e1, e2, e3⟩ := HI.out.2.apart HI.out.1.has (by decide) (by decide)
              refine ⟨h6, hm6.trans HS.out.m, hs6.trans HS.out.size, ?_, hk6.heap (by simp; exact ⟨fun e => e1 e.symm, fun e => e2 e.symm, fun e => e3 e.symm⟩) HI.out.1.has, by rw [HI.out.1.hlen]; exact HHL.out, fun q hq => ?_, HI.out.1.kept.into hk6 ?_⟩
              · rw [hw6]
                have := HS.out.writes
                push_cast
                omega
              · rw [hb6 _ (by unfold Out; omega), HI.out.1.apply Sk.blk q hq]
                have hr := HI.out.1.rel q hq
                rw [Nat.zero_add] at hr
                by_cases hz : Z.getD q false = true
                · rw [if_pos hz] at hr ⊢
                  rw [hr, if_neg HCN.out]
                · rw [if_neg hz] at hr ⊢
                  rw [hr]
                  exact HS.out.blk q hq
              · rw [HS.out.m]
                have := HA.out
                simp
                exact ⟨this.1, this.2.1, this.2.2⟩
            clear h6 hs6 hm6 hw6 hb6 hk6
            go_wp2_with fail
            refine (groups_any j _ w6 HJ6.out).mono ?_
            rintro e w7 ⟨rfl, rfl⟩
            go_wp2_with fail
            go_roundw
            case rel => exact ⟨k + 1, S6, H', by omega, by go_num, HN⟩
            case measure => simp [intOf]; omega
    · obtain rfl : k = N := by omega
      have hq : (True ∧ ¬ ((k : Int) < (L.length : Int))) ∨ ((k : Int) < (L.length : Int) ∧ ¬ ((k : Int) < 30)) := by
        rcases HW.out with h | ⟨h, h'⟩
        · exact .inl ⟨trivial, by omega⟩
        · exact .inr ⟨by omega, by omega⟩
      clear hlt hkN
      rcases hq with ⟨hq1, hq2⟩ | ⟨hq1, hq2⟩
      all_goals
        go_wp2_with fail
        clear hq1 hq2
        go_loopw [13] (fun i wr => ∃ (q : Nat), q ≤ 60 ∧ i = .int .i64 q ∧ Hid (OrSt w a m j h k Sk H wr)) (fun i _ => 60 - (intOf i).toNat)
        case atStart => exact ⟨0, by omega, rfl, HS⟩
        case round =>
          obtain ⟨q, hq60, rfl, HQ⟩ := hrel
          by_cases hlt3 : q < 60
          · have hqI : (q : Int) < 60 := by omega
            go_wp2_with fail
            refine (read_ok a Sk _ _ HQ.out.live.live.disk (reach_in (by omega) (by rw [HQ.out.size]; omega) HQ.out.live.live.off)).mono ?_
            rintro e w7 ⟨rfl, hw7⟩
            have hk7 : Kept [] wr w7 := by rw [hw7]; exact Kept.alloc _ _ _
            have hr7 : w7.rangeAt wr.heap.size 0 (bv (Sk.blk (199 + (q : Int)))) := by rw [hw7]; exact range_row (heap_alloc_last _ _)
            have hl7 : wr.heap.size < w7.heap.size := by rw [hw7]; simp
            have hHl := HQ.out.hlen
            obtain ⟨c, hc⟩ : ∃ c, H[q]'(by omega) = c := ⟨_, rfl⟩
            have hcd : H.getD q 0 = c := by rw [← hc]; simp [List.getD_eq_getElem?_getD, show q < H.length by omega]
            have hbl := HQ.out.blk q hlt3
            rw [hcd] at hbl
            have hh7 := hk7.heap (by simp) HQ.out.has
            have hhc : w7.cell? ⟨h, q, none⟩ = some (.int .u8 (c.toNat : Int)) := by rw [← hc]; exact cell_bvA hh7 q (by omega)
            have hhc2 : (w7.alloc (.cells (bvA (zerosL 64)) 5)).cell? ⟨h, q, none⟩ = some (.int .u8 (c.toNat : Int)) := by
              rw [(Kept.alloc [] w7 _).cell (p := ⟨h, q, none⟩) (Array.getElem?_eq_some_iff.1 hh7).1 (by simp)]; exact hhc
            have hmk := run_make_bytes (P := Try.prog) w7 48 5 Try.underlying48 infoByte 64 (by omega) (by omega)
            have HDV : Hid ((q : Int) = ((UInt8.ofNat q).toNat : Int)) := by show _ = _; simp; omega
            have hb64 := HQ.out.live.live.disk.blk64 (199 + (q : Int))
            have HN : Hid (OrSt w a m j h k Sk H (w7.alloc (.cells (bvA (zerosL 64)) 5))) := by
              have hk8 := hk7.trans (Kept.alloc [] w7 (.cells (bvA (zerosL 64)) 5))
              have R := HQ.out
              exact ⟨R.live.kept hk8 (by simp) (by simp) (by simp), R.m, R.size, R.writes, hk8.heap (by simp) R.has, R.hlen, R.blk, R.kept.trans hk8⟩
            have HR7 := Lib.hid hr7
            have HH7 := Lib.hid hh7
            have HB64 := Lib.hid hb64
            by_cases hc0 : c = 0
            · rw [if_pos hc0] at hbl
              have cvB : (convert 48 9 (.slice (some ⟨wr.heap.size, 0, none⟩) 64 64)).run Try.prog (w7.alloc (.cells (bvA (zerosL 64)) 5)) = .ok (.string (strL zeroL)) (w7.alloc (.cells (bvA (zerosL 64)) 5)) := by
                refine conv_range _ wr.heap.size 0 64 zeroL 64 rfl ((Kept.alloc [] w7 _).range hl7 (by simp) ?_)
                have := HR7.out
                rw [show (199 : Int) + q = ((199 : Nat) : Int) + q from rfl, hbl] at this
                exact this
              have cvW : (convert 48 9 (.slice (some ⟨w7.heap.size, 0, none⟩) 64 64)).run Try.prog (w7.alloc (.cells (bvA (zerosL 64)) 5)) = .ok (.string (strL zeroL)) (w7.alloc (.cells (bvA (zerosL 64)) 5)) :=
                conv_range _ w7.heap.size 0 64 zeroL 64 rfl (range_row (heap_alloc_last w7 _))
              have hcI : ¬ ((0 : Int) < (c.toNat : Int)) := by rw [hc0]; simp
              clear hw7 hk7 hr7 hl7 hc hcd hbl hh7 hhc hb64 hc0
              go_wp2_with fail
              go_roundw
              case rel => exact ⟨q + 1, by omega, by go_num, HN⟩
              case measure => simp [intOf]; omega
            · rw [if_neg hc0] at hbl
              have hcI : (0 : Int) < (c.toNat : Int) := by
                have : c.toNat ≠ 0 := fun e => hc0 (UInt8.toNat_inj.1 (by simpa using e))
                omega
              have HBL := Lib.hid hbl
              have HL7 := Lib.hid hl7
              clear hw7 hk7 hr7 hc hcd hbl hh7 hhc hb64 hc0 hl7
              go_wp2_with fail
              refine (full2_eq c (UInt8.ofNat q) _ _ _ rfl HDV.out).mono ?_
              rintro e w9 ⟨rfl, hw9⟩
              have hk9 : Kept [] (w7.alloc (.cells (bvA (zerosL 64)) 5)) w9 := by rw [hw9]; exact Kept.alloc _ _ _
              have cvB : (convert 48 9 (.slice (some ⟨wr.heap.size, 0, none⟩) 64 64)).run Try.prog w9 = .ok (.string (strL (fullE c (UInt8.ofNat q)))) w9 := by
                refine conv_range _ wr.heap.size 0 64 _ 64 (fullE_length _ _) (((Kept.alloc [] w7 _).trans hk9).range HL7.out (by simp) ?_)
                have := HR7.out
                rw [show (199 : Int) + q = ((199 : Nat) : Int) + q from rfl, HBL.out] at this
                exact this
              have cvW : (convert 48 9 (.slice (some ⟨w7.heap.size + 1, 0, none⟩) 64 64)).run Try.prog w9 = .ok (.string (strL (fullE c (UInt8.ofNat q)))) w9 :=
                conv_range _ _ 0 64 _ 64 (fullE_length _ _) (by rw [hw9]; exact range_row (heap_alloc2 w7 _ _))
              have HN9 : Hid (OrSt w a m j h k Sk H w9) := by
                have R := HN.out
                exact ⟨R.live.kept hk9 (by simp) (by simp) (by simp), R.m, R.size, R.writes, hk9.heap (by simp) R.has, R.hlen, R.blk, R.kept.trans hk9⟩
              clear hw9 hk9 hmk hhc2
              go_wp2_with fail
              go_roundw
              case rel => exact ⟨q + 1, by omega, by go_num, HN9⟩
              case measure => simp [intOf]; omega
          · obtain rfl : q = 60 := by omega
            go_wp2_with fail
            go_ret
            exact ⟨rfl, HQ.out.kept⟩
end Go.Proofs.Ytmckapfncnoddaa

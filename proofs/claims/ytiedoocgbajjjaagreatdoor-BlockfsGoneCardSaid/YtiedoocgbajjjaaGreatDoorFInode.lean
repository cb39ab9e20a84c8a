/-
  Layer 4: place: the nodes of a tree get what they lack.
  Conditions: those that each theorem states.
  A struct that is stored whole; a struct as a result.
  Conditions: those that each theorem states.
  Layer 4: inode: a node as layout has it.
  Conditions: those that each theorem states.
-/
import Derived.Test.YtiedoocgbajjjaaGreatDoorFPlSt
import Derived.LaidEqlPtr
import Derived.Test.YtiedoocgbajjjaaGreatDoorTKit
import Derived.Laws.ResultCell
namespace Go.Proofs.YtiedoocgbajjjaaGreatDoor
open Go.RowKit Go.Maps
set_option maxRecDepth 100000

theorem pool_of {w : World} {a : Nat} {v : Value} {L : List Nat} (hrow : w.heap[a]? = some (.cells #[v] 187)) (hown : w.ownsRow (a + 1) 3 1 v L.length (iv (natI L))) : ∃ g, PoolIs w a g L ∧ a ≤ g ∧ g < w.heap.size := by
  have hlt := (Array.getElem?_eq_some_iff.1 hrow).1
  rcases owns_range hown with ⟨g, cap, rfl, hg, hgs, h1, h2, hr⟩ | ⟨rfl, hz, _⟩
  · exact ⟨g, ⟨_, hrow, .inr ⟨0, cap, rfl, h1, by unfold maxLen at h2; omega, by omega, hgs, hr⟩⟩, by omega, hgs⟩
  · exact ⟨a, ⟨_, hrow, .inl ⟨List.eq_nil_of_length_eq_zero hz, _, _, rfl⟩⟩, Nat.le_refl _, hlt⟩
/-- Two pointers to nodes held against one another. -/
theorem node_info : ∃ i, Tryz.prog.info? 100 = some i ∧ i.size ≠ 0 := by
  have h : (Tryz.prog.info? 100).map (fun i => i.size) = some 8 := by kernel_rfl
  cases hi : Tryz.prog.info? 100 with
  | none => rw [hi] at h; cases h
  | some i =>
    rw [hi] at h
    injection h with h
    exact ⟨i, rfl, by
      have h8 : i.size = 8 := h
      omega⟩
theorem neq_same (a : Addr) (w : World) : (binOp .neq 81 (.pointer (some a)) (.pointer (some a))).run Tryz.prog w = .ok (.bool false) w := by
  obtain ⟨i, hi, _⟩ := node_info
  have h : ∀ d : Nat, (Op.equalIn (d + 1) 81 (.pointer (some a)) (.pointer (some a))).run Tryz.prog w = .ok true w := fun d => by
    simp [Op.equalIn, run_underlying Tryz.underlying81, sizeOf, typeInfo, hi, run_sameAddr_same]
  simp only [binOp]
  simp [Op.equal, Op.maxDepth, h 9999]
theorem neq_other {a b : Addr} {ca cb : Array Value} {ta tb : TypeId} {w : World} (hne : a ≠ b) (ha : w.heap[a.block]? = some (.cells ca ta (0, 0))) (hb : w.heap[b.block]? = some (.cells cb tb (0, 0))) :
    (binOp .neq 81 (.pointer (some a)) (.pointer (some b))).run Tryz.prog w = .ok (.bool true) w := by
  obtain ⟨i, hi, hs⟩ := node_info
  have h : ∀ d : Nat, (Op.equalIn (d + 1) 81 (.pointer (some a)) (.pointer (some b))).run Tryz.prog w = .ok false w := fun d => by
    simp [Op.equalIn, run_underlying Tryz.underlying81, sizeOf, typeInfo, hi, hs, run_sameAddr_other w hne ha hb]
  simp only [binOp]
  simp [Op.equal, Op.maxDepth, h 9999]
theorem nds_trim_addr (l : List Nd) : (l.map Nd.trim).map Nd.addr = l.map Nd.addr := by
  rw [List.map_map]
  rfl
/-- The slots, and the blocks, that are free for the nodes. -/
def slotsF (c : Nat) (l : List Nd) : List Nat := freeL 0 (setAll (List.replicate c false) (l.map fun n => n.rc.slot))
def Nd.blks (n : Nd) : List Nat := n.rc.blocks ++ if 0 < n.rc.more then [n.rc.more] else []
def blocksF (N d : Nat) (l : List Nd) : List Nat := freeL 0 (setAll (setAll (List.replicate N false) (List.range d)) (l.flatMap Nd.blks))
theorem nds_slots (t : ATr) : (t.all.map fun s => s.rc.slot) = t.nds.map fun n => n.rc.slot := by
  simp only [ATr.nds, List.map_map]
  rfl
theorem nds_blks (t : ATr) : t.all.flatMap ATr.blks = t.nds.flatMap Nd.blks := by
  simp only [ATr.nds, List.flatMap_map]
  rfl

set_option maxRecDepth 100000 in
set_option maxHeartbeats 4000000 in
theorem nplace_any (base : Nat) (t : ATr) (x1 x2 x3 x4 x5 : Int) (N d c : Nat) (w : World) (h : MTr base w t) (hbase : base ≤ w.heap.size) (hsm : t.small) (hal : t.all.length ≤ 100000) (hN : N ≤ 50000) (hc : c ≤ 50000) (hd : d ≤ N)
    (hnd : ∀ n ∈ t.nds, n.rc.blocks.length ≤ 1000 ∧ n.cont ≤ 1000 ∧ n.rc.slot < c ∧ (∀ b ∈ n.rc.blocks, b < N) ∧ n.rc.more < N) (h0 : 0 < N)
    (hS : bares t.addr (t.nds.map Nd.trim) ≤ (slotsF c (t.nds.map Nd.trim)).length) (hB : lacks (t.nds.map Nd.trim) ≤ (blocksF N d (t.nds.map Nd.trim)).length) :
    Calls Tryz.prog 80 #[.agg (layW N x1 x2 x3 x4 x5 d c), .pointer (some ⟨t.addr, 0, none⟩)] w fun e w' => e = .returned (.tuple #[]) ∧ Hid (∃ t', Placed [] base w w' t t' ∧
      t'.nds = plc t.addr (t.nds.map Nd.trim) (slotsF c (t.nds.map Nd.trim)) (blocksF N d (t.nds.map Nd.trim))) := by
  unfold layW
  obtain ⟨P, hP⟩ : ∃ P, w.heap.size = P := ⟨_, rfl⟩
  obtain ⟨w1, hw1⟩ : ∃ w1, w.alloc (.cells #[.int .i64 N, .int .i64 x1, .int .i64 x2, .int .i64 x3, .int .i64 x4, .int .i64 x5, .int .i64 d, .int .i64 c] 60) = w1 := ⟨_, rfl⟩
  have hk1 : Kept [] w w1 := by rw [← hw1]; exact Kept.alloc _ _ _
  have hx : w1.heap[P]? = some (.cells #[.int .i64 N, .int .i64 x1, .int .i64 x2, .int .i64 x3, .int .i64 x4, .int .i64 x5, .int .i64 d, .int .i64 c] 60) := by rw [← hw1, ← hP]; exact heap_alloc_last _ _
  have hPw : P ∉ t.foot := fun hh => by have := (foot_mem h.ok h.own P hh).2.1; omega
  have HP := Lib.hid (And.intro hk1 (And.intro hx hPw))
  have T1 := Lib.hid (Placed.still (ex := []) h hk1 (fun b hb => by cases hb))
  have HALL := Lib.hid (nall_any t.ht t w1 (Nat.le_refl _) (h.ok.kept hk1) hsm hal)
  have HMEM := Lib.hid (TrOk.mem h.ok hsm)
  have HND := Lib.hid (And.intro hnd h0)
  have HW := Lib.hid (And.intro h (And.intro hbase hP))
  obtain ⟨a0, ha0⟩ : ∃ a0, t.addr = a0 := ⟨_, rfl⟩
  rw [ha0] at HALL hS ⊢
  have HA0 := Lib.hid ha0
  obtain ⟨N0, hN0⟩ : ∃ N0, t.nds.map Nd.trim = N0 := ⟨_, rfl⟩
  rw [hN0] at hS hB ⊢
  obtain ⟨S0, hS0⟩ : ∃ S0, slotsF c N0 = S0 := ⟨_, rfl⟩
  obtain ⟨B0, hB0⟩ : ∃ B0, blocksF N d N0 = B0 := ⟨_, rfl⟩
  rw [hS0] at hS ⊢
  rw [hB0] at hB ⊢
  obtain ⟨PL, hPL⟩ : ∃ PL, plc a0 N0 S0 B0 = PL := ⟨_, rfl⟩
  rw [hPL]
  have HPL := Lib.hid (And.intro hPL (And.intro hS0 (And.intro hB0 hN0)))
  have hN0b : ∀ n ∈ N0, n.rc.blocks.length ≤ 1000 ∧ n.kn ≤ 1000 ∧ n.rc.slot < c ∧ (∀ b ∈ n.rc.blocks, b < N) ∧ n.rc.more < N := fun n hn => by
    rw [← hN0] at hn
    obtain ⟨n1, h1, rfl⟩ := List.mem_map.1 hn
    obtain ⟨a1, _, a3, a4, a5⟩ := hnd n1 h1
    obtain ⟨s1, hs1, rfl⟩ := List.mem_map.1 h1
    refine ⟨?_, (TrOk.mem h.ok hsm s1 hs1).2, a3, fun b hb => a4 b (List.mem_of_mem_take hb), ?_⟩
    · show (List.take _ _).length ≤ _
      rw [List.length_take]
      omega
    · show (if s1.nd.far then s1.nd.rc.more else 0) < N
      split
      · exact a5
      · exact h0
  have HNB := Lib.hid (And.intro hN0b (And.intro hS hB))
  obtain ⟨K, hK⟩ : ∃ K, t.all.length = K := ⟨_, rfl⟩
  have HK := Lib.hid (And.intro hK t.all_pos)
  rw [hK] at hal
  clear h hbase hsm hnd hS hB hk1 hx hPw hP ha0 hK hN0 hS0 hB0 hPL hN0b
  go_enter Tryz.func80, Tryz.ntmps80
  go_wp2_with fail
  refine HALL.out.mono ?_
  rintro e w2 ⟨v, rfl, H2⟩
  obtain ⟨g, cap, hv, hgw, hcell⟩ : ∃ g cap, v = .slice (some ⟨g, 0, none⟩) K cap ∧ w1.heap.size ≤ g ∧ (g < w2.heap.size ∧ w2.rangeAt g 0 (pv t.all)) := by
    rcases owns_range H2.out.2 with ⟨g, cap, rfl, h1, h2, _, _, h3⟩ | ⟨_, hz, _⟩
    · exact ⟨g, cap, by rw [HK.out.1], h1, h2, h3⟩
    · have := HK.out; omega
  have HG := Lib.hid (And.intro hgw hcell)
  have T2 := Lib.hid (T1.out.trans (Placed.still (ex := []) T1.out.m H2.out.1 (fun b hb => by cases hb)))
  have HS0 : Hid (TrimSt base w2 t 0 w2) := ⟨t, Placed.still T2.out.m (Kept.refl _ _) (fun b hb => by cases hb), by simp⟩
  have HO2 := Lib.hid H2.out.2
  have HK2 := Lib.hid H2.out.1
  subst hv
  clear hgw hcell H2 HALL T1
  go_wp2_with fail
  go_loopw [15] (fun i wr => ∃ j : Nat, j ≤ K ∧ i = .int .i64 j ∧ Hid (TrimSt base w2 t j wr)) (fun i _ => K - (intOf i).toNat)
  case atStart => exact ⟨0, by omega, rfl, HS0.out⟩
  case round =>
    clear HS0
    obtain ⟨j, hj, rfl, HS⟩ := hrel
    obtain ⟨t', T, hn⟩ := HS.out
    have hna : t'.nds.map Nd.addr = t.nds.map Nd.addr := by rw [hn, List.map_append, nds_trim_addr, ← List.map_append, List.take_append_drop]
    have hKn : t.nds.length = K := by rw [nds_length]; exact HK.out.1
    have hgt : g ∉ t.foot := fun hh => by
      have h1 := (foot_mem HW.out.1.ok HW.out.1.own g hh).2.1
      have h2 := HG.out.1
      have h3 := HP.out.1.size
      omega
    by_cases hlt : j < K
    · have hjn : j < t.nds.length := by omega
      have hj' : j < t'.all.length := by
        have := congrArg List.length hna
        rw [List.length_map, List.length_map, nds_length] at this
        omega
      have hd : t.nds.drop j = t.nds[j] :: t.nds.drop (j + 1) := List.drop_eq_getElem_cons hjn
      have hn2 := hn
      rw [hd] at hn2
      have hl : ((t.nds.take j).map Nd.trim).length = j := by rw [List.length_map, List.length_take]; omega
      obtain ⟨_, en⟩ := nds_at hn2 hl
      have hjt : j < t.all.length := by rw [HK.out.1]; exact hlt
      have ej : t.nds[j] = t.all[j].nd := by simp [ATr.nds]
      have hkid : t'.all[j].ks.kids.length ≤ 1000 := by
        have h1 := (HMEM.out t.all[j] (List.getElem_mem hjt)).2
        have h2 : t'.all[j].nd.kn = t.all[j].nd.kn := by rw [en, ej]
        have h3 : t'.all[j].ks.kids.length = t.all[j].ks.kids.length := h2
        omega
      have hbl : t'.all[j].rc.blocks.length ≤ 100000 := by
        have h1 := (HND.out.1 t.nds[j] (List.getElem_mem hjn)).1
        rw [← en] at h1
        exact Nat.le_trans h1 (by decide)
      have HC := Lib.hid (ntrim_any base t'.all[j] wr (T.m.mem (List.getElem_mem hj')) hkid hbl)
      have HSTEP : Hid (∀ w', Turned base wr w' t'.all[j] t'.all[j].trimT → TrimSt base w2 t (j + 1) w') := fun w' U => trim_step T hjn hn hj' U
      obtain ⟨s, hs⟩ : ∃ s, t'.all[j] = s := ⟨_, rfl⟩
      obtain ⟨a, ha⟩ : ∃ a, t'.all[j].addr = a := ⟨_, rfl⟩
      have cp : wr.cell? ⟨g, j, none⟩ = some (.pointer (some ⟨a, 0, none⟩)) := by
        have h1 := T.kept.range HG.out.2.1 (by simpa using hgt) HG.out.2.2 j (.pointer (some ⟨a, 0, none⟩)) (by
          rw [← pv_nds hna]
          simp [pv, hj', ha])
        rwa [Nat.zero_add] at h1
      rw [ha] at HC
      rw [hs] at HC HSTEP
      clear ha en hs hl T hn hn2 hna hKn hgt hjn hj' hd ej hkid hbl hjt HS
      go_wp2_with fail
      refine HC.out.mono ?_
      rintro e w' ⟨rfl, HT⟩
      have HF := Lib.hid (HSTEP.out w' HT.out)
      clear HSTEP HT HC cp
      go_wp2_with fail
      go_roundw
      case rel => exact ⟨j + 1, by omega, by go_num, HF.out⟩
      case measure => simp [intOf]; omega
    · obtain rfl : j = K := by omega
      have hn1 : t'.nds = N0 := by rw [hn, ← hKn, List.take_length, List.drop_length, List.append_nil, HPL.out.2.2.2]
      have hpv : pv t'.all = pv t.all := pv_nds hna
      have hlen1 : t'.all.length = j := by
        have := congrArg List.length hpv
        rw [pv_length, pv_length, HK.out.1] at this
        exact this
      have hNl : N0.length = j := by rw [← hn1, nds_length]; exact hlen1
      have hg2 := HG.out.2.1
      have hown : OwnN w1.heap.size wr (.slice (some ⟨g, 0, none⟩) j cap) t'.all := by
        have := owns_kept HO2.out T.kept (fun q hq hh => by
          obtain rfl : g = q := by simpa [Value.ownBlock] using hq
          exact hgt (by simpa using hh))
        unfold OwnN at this ⊢
        rw [hpv, hlen1]
        rwa [HK.out.1] at this
      have hmem1 : ∀ s ∈ t'.all, s.nd ∈ N0 := fun s hs => by rw [← hn1]; exact List.mem_map.2 ⟨s, hs, rfl⟩
      have hok1 : ∀ s ∈ t'.all, TrOk wr s := fun s hs => (T.m.mem hs).ok
      have hfw : ∀ q ∈ t'.foot, q < wr.heap.size := fun q hq => (foot_mem T.m.ok T.m.own q hq).2.1
      have hgf : g ∉ t'.foot := fun hh => (T.foot g hh).elim hgt fun h2 => by omega
      have hw2r := T.kept.size
      -- the calls
      have HC1 : Hid (∀ wq, Kept [] wr wq → Calls Tryz.prog 102 #[.agg #[.int .i64 N, .int .i64 x1, .int .i64 x2, .int .i64 x3, .int .i64 x4, .int .i64 x5, .int .i64 d, .int .i64 c], .slice (some ⟨g, 0, none⟩) j cap] wq fun e w' => ∃ b, e = .returned (.slice (some ⟨b, 0, none⟩) c c) ∧
          Hid (Kept [] wq w' ∧ b < w'.heap.size ∧ w'.rangeAt b 0 (bvl (setAll (List.replicate c false) (N0.map fun n => n.rc.slot))))) := fun wq hk => by
        refine (takenSlots_any t'.all w1.heap.size _ wq N x1 x2 x3 x4 x5 d c (owns_kept hown hk (by simp)) (by rw [hlen1, ← HK.out.1]; exact HK.out.2) (by omega) (fun s hs => ⟨(hok1 s hs).kept hk, (HNB.out.1 _ (hmem1 s hs)).2.2.1⟩) (by omega)).mono ?_
        rintro e w' ⟨rfl, H⟩
        refine ⟨_, rfl, H.out.1, (Array.getElem?_eq_some_iff.1 H.out.2).1, fun q u hu => ?_⟩
        rw [Nat.zero_add, cell_of_row _ _ q _ _ _ H.out.2, nds_slots, hn1]
        simpa using hu
      have HC3 : Hid (∀ wq, Kept [] wr wq → Calls Tryz.prog 59 #[.agg #[.int .i64 N, .int .i64 x1, .int .i64 x2, .int .i64 x3, .int .i64 x4, .int .i64 x5, .int .i64 d, .int .i64 c], .slice (some ⟨g, 0, none⟩) j cap] wq fun e w' => ∃ b, e = .returned (.slice (some ⟨b, 0, none⟩) N N) ∧
          Hid (Kept [] wq w' ∧ b < w'.heap.size ∧ w'.rangeAt b 0 (bvl (setAll (setAll (List.replicate N false) (List.range d)) (N0.flatMap Nd.blks))))) := fun wq hk => by
        refine (takenBlocks_any t'.all w1.heap.size _ wq N x1 x2 x3 x4 x5 c d (owns_kept hown hk (by simp)) (by rw [hlen1, ← HK.out.1]; exact HK.out.2) (by omega) (fun s hs => ⟨(hok1 s hs).kept hk, (HNB.out.1 _ (hmem1 s hs)).1, (HNB.out.1 _ (hmem1 s hs)).2.2.2.1, (HNB.out.1 _ (hmem1 s hs)).2.2.2.2⟩) (by omega) ‹d ≤ N›).mono ?_
        rintro e w' ⟨rfl, H⟩
        refine ⟨_, rfl, H.out.kept, (Array.getElem?_eq_some_iff.1 H.out.row).1, fun q u hu => ?_⟩
        rw [Nat.zero_add, cell_of_row _ _ q _ _ _ H.out.row, nds_blks, hn1]
        simpa using hu
      have HC2 : Hid (∀ (F : List Bool) (L : List Nat) (n b : Nat) (wq : World), F.length = n → n ≤ 50000 → freeL 0 F = L → b < wq.heap.size → wq.rangeAt b 0 (bvl F) → Calls Tryz.prog 103 #[.slice (some ⟨b, 0, none⟩) n n] wq fun e w' => ∃ p, e = .returned (.pointer (some ⟨p, 0, none⟩)) ∧
          Hid (Kept [] wq w' ∧ p = wq.heap.size ∧ ∃ g, PoolIs w' p g L ∧ p ≤ g ∧ g < w'.heap.size)) := fun F L n b wq hF hn hL hb hr => by
        have := srest_any F b 0 n wq hr hb (by omega)
        rw [hF, hL] at this
        refine this.mono ?_
        rintro e w' ⟨rfl, H⟩
        obtain ⟨hk, v, h1, h2⟩ := H.out
        exact ⟨_, rfl, hk, rfl, pool_of h1 h2⟩
      have hPx := T.kept.heap (b := P) (by simpa using HP.out.2.2) (HK2.out.heap (by simp) HP.out.2.1)
      have HPX := Lib.hid hPx
      have z : ∀ w' q u, Kept [] wr.drew w' → (#[.int .i64 N, .int .i64 x1, .int .i64 x2, .int .i64 x3, .int .i64 x4, .int .i64 x5, .int .i64 d, .int .i64 c] : Array Value)[q]? = some u → w'.cell? ⟨P, q, none⟩ = some u := fun w' q u hk hu => by
        rw [cell_of_row _ _ q _ _ _ (hk.heap (by simp) (show wr.drew.heap[P]? = _ from HPX.out))]
        exact hu
      have HZ := Lib.hid z
      have z0 : ∀ w', Kept [] wr.drew w' → w'.cell? ⟨w.heap.size, 0, none⟩ = some (.int .i64 N) := fun w' hk => by rw [HW.out.2.2]; exact HZ.out w' 0 _ hk rfl
      have z1 : ∀ w', Kept [] wr.drew w' → w'.cell? ⟨w.heap.size, 1, none⟩ = some (.int .i64 x1) := fun w' hk => by rw [HW.out.2.2]; exact HZ.out w' 1 _ hk rfl
      have z2 : ∀ w', Kept [] wr.drew w' → w'.cell? ⟨w.heap.size, 2, none⟩ = some (.int .i64 x2) := fun w' hk => by rw [HW.out.2.2]; exact HZ.out w' 2 _ hk rfl
      have z3 : ∀ w', Kept [] wr.drew w' → w'.cell? ⟨w.heap.size, 3, none⟩ = some (.int .i64 x3) := fun w' hk => by rw [HW.out.2.2]; exact HZ.out w' 3 _ hk rfl
      have z4 : ∀ w', Kept [] wr.drew w' → w'.cell? ⟨w.heap.size, 4, none⟩ = some (.int .i64 x4) := fun w' hk => by rw [HW.out.2.2]; exact HZ.out w' 4 _ hk rfl
      have z5 : ∀ w', Kept [] wr.drew w' → w'.cell? ⟨w.heap.size, 5, none⟩ = some (.int .i64 x5) := fun w' hk => by rw [HW.out.2.2]; exact HZ.out w' 5 _ hk rfl
      have z6 : ∀ w', Kept [] wr.drew w' → w'.cell? ⟨w.heap.size, 6, none⟩ = some (.int .i64 d) := fun w' hk => by rw [HW.out.2.2]; exact HZ.out w' 6 _ hk rfl
      have z7 : ∀ w', Kept [] wr.drew w' → w'.cell? ⟨w.heap.size, 7, none⟩ = some (.int .i64 c) := fun w' hk => by rw [HW.out.2.2]; exact HZ.out w' 7 _ hk rfl
      have HT := Lib.hid T
      have HNN := Lib.hid (And.intro hn1 (And.intro hpv (And.intro hlen1 (And.intro hNl (And.intro hgf (And.intro hfw (And.intro hg2 hw2r)))))))
      clear z hPx hn hna hKn hgt hj hlt hn1 hpv hlen1 hNl hg2 hown hmem1 hok1 hfw hgf hw2r T HS
      go_wp2_with fail
      refine wp_region_ord [(true, 0), (true, 1), (true, 4), (true, 5), (false, 2), (false, 3), (false, 6), (false, 7), (true, 8), (true, 9)] [] (by kernel_rfl) (fun _ _ d _ _ h => by cases d <;> exact h) (by kernel_rfl) rfl (by kernel_rfl) (by kernel_rfl) ?_
      simp only [named, List.getD_cons_zero, List.getD_cons_succ]
      repeat (first | (apply wpGrow_take; (case hw => rfl); (case hv => intro w' hk; go_simp; with_reducible rfl); simp only [Act.put, List.setIfInBounds_toArray, List.set_cons_zero, List.set_cons_succ]) | (refine wpGrow_pass (by rfl) ?_; simp only [Act.put, List.setIfInBounds_toArray, List.set_cons_zero, List.set_cons_succ]) | (refine wpGrow_skip (by rfl) ?_; simp only [Act.put, List.setIfInBounds_toArray, List.set_cons_zero, List.set_cons_succ]))
      clear z0 z1 z2 z3 z4 z5 z6 z7
      refine wpGrow_force (by rfl) (fun K hK => ?_)
      go_simp
      refine (HC1.out _ (Kept.drew _ _)).mono ?_
      rintro e w3 ⟨b1, rfl, H3⟩
      refine hK _ _ H3.out.1 ?_
      clear hK K
      refine wpGrow_force (by rfl) (fun K hK => ?_)
      go_simp
      refine (HC2.out _ S0 c b1 w3 (by rw [setAll_length]; simp) (by omega) HPL.out.2.1 H3.out.2.1 H3.out.2.2).mono ?_
      rintro e w4 ⟨ps, rfl, H4⟩
      refine hK _ _ H4.out.1 ?_
      clear hK K
      refine wpGrow_force (by rfl) (fun K hK => ?_)
      go_simp
      refine (HC3.out _ (((Kept.drew [] wr).trans H3.out.1).trans H4.out.1)).mono ?_
      rintro e w5 ⟨b2, rfl, H5⟩
      refine hK _ _ H5.out.1 ?_
      clear hK K
      refine wpGrow_force (by rfl) (fun K hK => ?_)
      go_simp
      refine (HC2.out _ B0 N b2 w5 (by rw [setAll_length, setAll_length]; simp) (by omega) HPL.out.2.2.1 H5.out.2.1 H5.out.2.2).mono ?_
      rintro e w7 ⟨pb, rfl, H7⟩
      refine hK _ _ H7.out.1 ?_
      clear hK K
      repeat (first | (apply wpGrow_take; (case hw => rfl); (case hv => intro w' hk; go_simp; with_reducible rfl); simp only [Act.put, List.setIfInBounds_toArray, List.set_cons_zero, List.set_cons_succ]) | (refine wpGrow_pass (by rfl) ?_; simp only [Act.put, List.setIfInBounds_toArray, List.set_cons_zero, List.set_cons_succ]) | (refine wpGrow_skip (by rfl) ?_; simp only [Act.put, List.setIfInBounds_toArray, List.set_cons_zero, List.set_cons_succ]))
      refine wpGrow_nil ?_
      obtain ⟨gs, hps, hgs1, hgs2⟩ := H4.out.2.2
      obtain ⟨gb, hpb, hgb1, hgb2⟩ := H7.out.2.2
      have eps := H4.out.2.1
      have epb := H7.out.2.1
      have s3 : wr.heap.size ≤ w3.heap.size := H3.out.1.size
      have s4 := H4.out.1.size
      have s5 := H5.out.1.size
      have s7 := H7.out.1.size
      have hk7 : Kept [] wr w7 := ((((Kept.drew [] wr).trans H3.out.1).trans H4.out.1).trans H5.out.1).trans H7.out.1
      have hps7 : PoolIs w7 ps gs S0 := (hps.keptX H5.out.1 (by simp) (by simp)).keptX H7.out.1 (by simp) (by simp)
      have hpl : ps < w4.heap.size := hps.lt
      have hpb7 : pb < w7.heap.size := hpb.lt
      have hA : Apart4 ps gs pb gb w7 t' := ⟨fun q hq => by
        simp only [List.mem_cons, List.not_mem_nil, or_false] at hq
        have hge : wr.heap.size ≤ q ∧ q < w7.heap.size := by rcases hq with rfl | rfl | rfl | rfl <;> omega
        exact ⟨hge.2, fun hh => by have := HNN.out.2.2.2.2.2.1 q hh; omega⟩, by omega, by omega, by omega⟩
      have T7 : Placed [] base wr w7 t' t' := Placed.still HT.out.m hk7 (fun b hb => by cases hb)
      have hg7 : ∀ q, q = ps ∨ q = pb → g ≠ q := fun q hq e => by
        have h1 := HNN.out.2.2.2.2.2.2.1
        have h2 := HNN.out.2.2.2.2.2.2.2
        rcases hq with rfl | rfl <;> omega
      have HP0 : Hid (PlSt base ps gs pb gb a0 w7 t' N0 S0 B0 0 w7) :=
        ⟨t', [], S0, B0, Placed.still T7.m (Kept.refl _ _) (fun b hb => ⟨by
          simp only [List.mem_cons, List.not_mem_nil, or_false] at hb
          rcases hb with rfl | rfl
          · exact hps7.nob
          · exact hpb.nob, (hA.lt b (by simp only [List.mem_cons, List.not_mem_nil, or_false] at hb; rcases hb with rfl | rfl <;> simp)).2⟩), by simp [HNN.out.1], rfl, by simp, hps7, hpb, by simpa using HNB.out.2.1, by simpa using HNB.out.2.2, Nat.le_refl _, Nat.le_refl _⟩
      have hbe : ∀ q, q = ps ∨ q = pb → wr.heap.size ≤ q := fun q hq => by rcases hq with rfl | rfl <;> omega
      have HA := Lib.hid (And.intro hA (And.intro T7 (And.intro hk7 (And.intro hg7 hbe))))
      have HBL : Hid (B0.length ≤ 50000) := by
        show _ ≤ _
        rw [← HPL.out.2.2.1]
        have := freeL_len 0 (setAll (setAll (List.replicate N false) (List.range d)) (N0.flatMap Nd.blks))
        rw [setAll_length, setAll_length, List.length_replicate] at this
        unfold blocksF
        omega
      clear hbe hps hgs1 hgs2 hpb hgb1 hgb2 eps epb s3 s4 s5 s7 hk7 hps7 hpl hpb7 hA T7 hg7 H3 H4 H5 H7 HC1 HC2 HC3
      go_wp2_with fail
      go_loopw [32] (fun i wx => ∃ k : Nat, k ≤ j ∧ i = .int .i64 k ∧ Hid (PlSt base ps gs pb gb a0 w7 t' N0 S0 B0 k wx)) (fun i _ => j - (intOf i).toNat)
      case atStart => exact ⟨0, by omega, rfl, HP0.out⟩
      case round =>
        clear HP0
        obtain ⟨k, hk, rfl, HS⟩ := hrel
        obtain ⟨t2, D, S, B, P2, hn, hD, hplc, pS, pB, hbs, hls, hSl, hBl⟩ := HS.out
        have hadr : t2.nds.map Nd.addr = t'.nds.map Nd.addr := by
          rw [hn, HNN.out.1, List.map_append, ← plc_addr a0 (N0.drop k) S B, ← List.map_append, ← hplc, plc_addr]
        have hgx : g ∉ [ps, pb] ++ t'.foot := fun hh => by
          rcases List.mem_append.1 hh with h1 | h1
          · simp only [List.mem_cons, List.not_mem_nil, or_false] at h1
            exact HA.out.2.2.2.1 g h1 rfl
          · exact HNN.out.2.2.2.2.1 h1
        by_cases hlt : k < j
        · have hkN : k < N0.length := by rw [HNN.out.2.2.2.1]; exact hlt
          obtain ⟨n, hne⟩ : ∃ n, N0[k] = n := ⟨_, rfl⟩
          have hR : N0.drop k = n :: N0.drop (k + 1) := by rw [← hne]; exact List.drop_eq_getElem_cons hkN
          obtain ⟨hb1, hb2, hb3, _⟩ := HNB.out.1 n (by rw [← hne]; exact List.getElem_mem hkN)
          have hn2 := hn
          rw [hR] at hn2
          obtain ⟨hj2, en⟩ := nds_at hn2 hD
          obtain ⟨a, ha⟩ : ∃ a, t2.all[k].addr = a := ⟨_, rfl⟩
          have hna : n.addr = a := by rw [← en, ← ha]; rfl
          have hrc : t2.all[k].rc = n.rc := by rw [← en]; rfl
          have hg7 : g < w7.heap.size := by
            have h1 := HNN.out.2.2.2.2.2.2.1
            have h2 := HNN.out.2.2.2.2.2.2.2
            have h3 := HA.out.2.2.1.size
            omega
          have cp : wr.cell? ⟨g, k, none⟩ = some (.pointer (some ⟨a, 0, none⟩)) := by
            have hr7 : w7.rangeAt g 0 (pv t.all) := by
              have h1 := HT.out.kept.range HG.out.2.1 (by
                intro hh
                have h2 := HG.out.1
                have h3 := (foot_mem HW.out.1.ok HW.out.1.own g (by simpa using hh)).2.1
                have h4 := HP.out.1.size
                omega) HG.out.2.2
              exact HA.out.2.2.1.range (Nat.lt_of_lt_of_le HG.out.2.1 HT.out.kept.size) (by simp) h1
            have h1 := P2.kept.range hg7 hgx hr7 k (.pointer (some ⟨a, 0, none⟩)) (by
              rw [← HNN.out.2.1, ← pv_nds hadr]
              simp [pv, hj2, ha])
            rwa [Nat.zero_add] at h1
          obtain ⟨m, va, vb, hrow, hrx⟩ := (P2.m.mem (List.getElem_mem hj2)).ok.row
          clear hrx
          rw [ha, hrc] at hrow
          have c4 : wr.cell? ⟨a, 4, none⟩ = some (.int .i64 n.rc.slot) := cell_of_row _ _ 4 _ _ _ hrow
          have HROW := Lib.hid hrow
          have HCMP : Hid (a ≠ a0 → (binOp .neq 81 (.pointer (some ⟨a, 0, none⟩)) (.pointer (some ⟨a0, 0, none⟩))).run Tryz.prog wr = .ok (.bool true) wr) := fun hne => by
            obtain ⟨m2, va2, vb2, hrow2, hrx2⟩ := P2.m.ok.row
            have e0 : t2.addr = a0 := by rw [P2.addr, HT.out.addr, HA0.out]
            rw [e0] at hrow2
            exact neq_other (fun e => hne (congrArg Addr.block e)) hrow hrow2
          have HAX := HA.out.1.out P2
          have HFILL : Hid (∀ wq t3, Placed [ps, pb] base wr wq t2 t3 → t3.nds = D ++ n.slotR a0 S :: N0.drop (k + 1) → PoolIs wq ps gs (if n.bare a0 then S.tail else S) → PoolIs wq pb gb B →
              Calls Tryz.prog 105 #[.pointer (some ⟨a, 0, none⟩), .pointer (some ⟨pb, 0, none⟩)] wq fun e w' => e = .returned (.tuple #[]) ∧ Hid (PlSt base ps gs pb gb a0 w7 t' N0 S0 B0 (k + 1) w')) := fun wq t3 Q h3 q1 q2 =>
            place_fill HA.out.1 (by
              have h1 := HW.out.2.1
              have h2 := T2.out.kept.size
              have h3 := HT.out.kept.size
              have h4 := HA.out.2.2.1.size
              omega) P2 hD hR hplc hbs hls hSl hBl HBL.out hb1 hb2 Q h3 q1 q2 hna
          have HX := Lib.hid (And.intro P2.m (And.intro HAX (And.intro hn2 (And.intro hD (And.intro pS (And.intro pB hb1))))))
          have HBS : Hid (n.bare a0 = true → 1 ≤ S.length) := fun hb => by
            have : bares a0 (N0.drop k) = (if n.bare a0 then 1 else 0) + bares a0 (N0.drop (k + 1)) := by rw [hR]; simp [bares]
            rw [hb, if_pos rfl] at this
            omega
          have HN1 := Lib.hid hna
          have HBR : Hid (n.bare a0 = decide (n.rc.slot = 0 ∧ n.addr ≠ a0)) := rfl
          obtain ⟨sl, hsl⟩ : ∃ sl, n.rc.slot = sl := ⟨_, rfl⟩
          rw [hsl] at c4 hb3
          have HSL := Lib.hid hsl
          have HJ2 : Hid (k < t2.all.length) := hj2
          clear hadr hgx hkN hne hR hb1 hb2 hn2 en hna hrc hg7 hrow HAX hn hD hplc pS pB hbs hls hSl hBl P2 HS ha hsl hj2
          by_cases hbare : sl = 0 ∧ a ≠ a0
          · have hbt : n.bare a0 = true := by rw [HBR.out, HSL.out, HN1.out]; simpa using hbare
            obtain ⟨rfl, hne⟩ := hbare
            obtain ⟨x, S', hxS⟩ : ∃ x S', S = x :: S' := by
              have := HBS.out hbt
              cases S with
              | nil => simp at this
              | cons x S' => exact ⟨x, S', rfl⟩
            have HXS := Lib.hid hxS
            have HBT := Lib.hid hbt
            have HTK := Lib.hid (ptake_any ps gs x S' wr (by rw [← hxS]; exact HX.out.2.2.2.2.1))
            have hcmp := HCMP.out hne
            clear hxS hbt hne
            go_wp2_with fail
            refine HTK.out.mono ?_
            rintro e w8 ⟨rfl, H8⟩
            obtain ⟨w9, hw9⟩ : ∃ w9, w8.setCell ⟨a, 4, none⟩ (.int .i64 (x : Int)) = w9 := ⟨_, rfl⟩
            have hax : a ∉ [ps] := fun hh => by
              obtain rfl : a = ps := by simpa using hh
              obtain ⟨hj3, en3⟩ := nds_at HX.out.2.2.1 HX.out.2.2.2.1
              refine (HX.out.2.1.lt a (by simp)).2 (ATr.all_foot (List.getElem_mem hj3) _ ?_)
              have : t2.all[k].addr = a := by rw [← HN1.out, ← en3]; rfl
              rw [← this]
              exact ATr.addr_foot _
            have hr8 := H8.out.2.heap hax HROW.out
            have c48 : w8.cell? ⟨a, 4, none⟩ = some (.int .i64 n.rc.slot) := cell_of_row _ _ 4 _ _ _ hr8
            have fy : ∀ q, w8.frozen? ⟨a, q, none⟩ = false := fun q => frozen_of_row _ _ q _ _ hr8
            have HC : Hid (Calls Tryz.prog 105 #[.pointer (some ⟨a, 0, none⟩), .pointer (some ⟨pb, 0, none⟩)] w9 fun e w' => e = .returned (.tuple #[]) ∧ Hid (PlSt base ps gs pb gb a0 w7 t' N0 S0 B0 (k + 1) w')) := by
              obtain ⟨hj3, en3⟩ := nds_at HX.out.2.2.1 HX.out.2.2.2.1
              have ea : t2.all[k].addr = a := by rw [← HN1.out, ← en3]; rfl
              obtain ⟨t3, Q, h3, q1, q2⟩ := PlSt.slot (w2 := w9) (x := x) (S := S') HX.out.1 HX.out.2.1 HX.out.2.2.1 HX.out.2.2.2.1 hj3 HX.out.2.2.2.2.2.2 H8.out.2 H8.out.1 (by rw [← HXS.out]; exact HX.out.2.2.2.2.1) HX.out.2.2.2.2.2.1 (by rw [ea]; exact hw9.symm)
              refine HFILL.out w9 t3 Q ?_ ?_ q2
              · rw [h3]
                unfold Nd.slotR
                rw [HBT.out, HXS.out]
                rfl
              · rw [HBT.out, HXS.out]
                exact q1
            clear hr8 hax
            go_wp2_with fail
            refine HC.out.mono ?_
            rintro e w10 ⟨rfl, H10⟩
            go_wp2_with fail
            go_roundw
            case rel => exact ⟨k + 1, by omega, by go_num, H10.out⟩
            case measure => simp [intOf]; omega
          · have hbf : n.bare a0 = false := by rw [HBR.out, HSL.out, HN1.out]; simpa using hbare
            have HC := Lib.hid (HFILL.out wr t2 (Placed.still HX.out.1 (Kept.refl _ _) (fun b hb => ⟨by
              simp only [List.mem_cons, List.not_mem_nil, or_false] at hb
              rcases hb with rfl | rfl
              · exact HX.out.2.2.2.2.1.nob
              · exact HX.out.2.2.2.2.2.1.nob, (HX.out.2.1.lt b (by simp only [List.mem_cons, List.not_mem_nil, or_false] at hb; rcases hb with rfl | rfl <;> simp)).2⟩)) (by rw [HX.out.2.2.1]; unfold Nd.slotR; rw [hbf]; rfl) (by rw [hbf]; exact HX.out.2.2.2.2.1) HX.out.2.2.2.2.2.1)
            clear hbf
            by_cases hs0 : sl = 0
            · have hcmp : (binOp .neq 81 (.pointer (some ⟨a, 0, none⟩)) (.pointer (some ⟨a0, 0, none⟩))).run Tryz.prog wr = .ok (.bool false) wr := by
                have e : a = a0 := Classical.byContradiction fun h => hbare ⟨hs0, h⟩
                rw [e]
                exact neq_same _ _
              subst hs0
              clear hbare
              go_wp2_with fail
              refine HC.out.mono ?_
              rintro e w9 ⟨rfl, H9⟩
              go_wp2_with fail
              go_roundw
              case rel => exact ⟨k + 1, by omega, by go_num, H9.out⟩
              case measure => simp [intOf]; omega
            · have hs1 : ((sl : Int) == 0) = false := by rw [beq_eq_false_iff_ne]; omega
              clear hbare
              go_wp2_with fail
              refine HC.out.mono ?_
              rintro e w9 ⟨rfl, H9⟩
              go_wp2_with fail
              go_roundw
              case rel => exact ⟨k + 1, by omega, by go_num, H9.out⟩
              case measure => simp [intOf]; omega
        · obtain rfl : k = j := by omega
          have hdr : N0.drop k = [] := by rw [← HNN.out.2.2.2.1]; exact List.drop_length
          have HF : Hid (∃ t', Placed [] base w wr t t' ∧ t'.nds = PL) := by
            refine ⟨t2, ((T2.out.trans HT.out).trans HA.out.2.1).dropEx P2 (fun b hb => ?_), ?_⟩
            · have h1 := HNN.out.2.2.2.2.2.2.2
              have h2 := T2.out.kept.size
              have h3 := HA.out.2.2.2.2 b (by simpa using hb)
              omega
            · rw [hn, hdr, List.append_nil, ← HPL.out.1, hplc, hdr]
              simp [plc]
          clear hadr hgx hlt hdr hn hD hplc pS pB hbs hls hSl hBl P2 HS
          go_wp2_with fail
          go_end0
          exact ⟨rfl, HF.out⟩
end Go.Proofs.YtiedoocgbajjjaaGreatDoor

namespace Go.Proofs.YtiedoocgbajjjaaGreatDoor
open Go.RowKit Go.Maps
set_option maxRecDepth 100000

theorem results_rowQ {P : Program} {fn : Func} {p u : Tmp} {ty : TypeId} (h : fn.results = #[.cell p ty, .tmp u]) (tmps : Array Value) (w : World) (g : Nat) (t : TypeId) (cs : Array Value) (d : TypeDesc)
    (hp : tmps.getD p undef = .pointer (some ⟨g, 0, none⟩)) (hg : w.heap[g]? = some (.cells cs t)) (hu : P.underlying ty = some d) (hd : d.isRow = true) (hi : (P.info? ty).map (·.size) = some cs.size) :
    (results fn tmps).run P w = .ok (.tuple #[.agg cs, tmps.getD u undef]) w := by
  have hl := run_loadVar_mid (P := P) w g 0 ty cs.toList d (fun j v hv => by rw [Nat.zero_add, cell_of_row w g j _ _ _ hg]; simpa using hv) hu hd (by simpa using hi)
  rw [results_cell_tmp h, hp]
  simp only [asAddr, Sem.run_pure, Result.andThen_ok, hl, Array.toArray_toList]

/-- A struct is stored whole, at the operation. -/
theorem wp_store_cells {P : Program} {o : Oper} {a : Act} {w : World} {K : Act → World → Prop} {Q : Exit → Act → World → Prop} (ty : TypeId) (x y : Operand) (ho : o.op = .store ty x y) (b : Nat) (t : TypeId) (cs new : Array Value)
    (hx : a.eval x = .pointer (some ⟨b, 0, none⟩)) (hy : a.eval y = .agg new) (hg : w.heap[b]? = some (.cells cs t)) (hl : new.size = cs.size) (h1 : ∀ v ∈ new.toList, v.oneCell' = true) (hi : (P.info? ty).map (·.size) = some new.size)
    (h : K (a.put o.dst undef) (w.setRow b new)) : o.wp P a w K Q := by
  have hst : (storeCells ⟨b, 0, none⟩ new.toList 0).run P w = .ok () (w.setRow b new) := by
    rw [run_storeCells_at P b 0 t new.toList 0 cs w hg (by rw [Array.length_toList]; omega) h1]
    have e : ((cs.toList.take (0 + 0) ++ new.toList ++ cs.toList.drop (0 + 0 + new.toList.length)).toArray) = new := by
      apply Array.toList_inj.1
      simp only [Nat.add_zero, Nat.zero_add, List.take_zero, List.nil_append]
      rw [List.drop_of_length_le (by rw [Array.length_toList, Array.length_toList]; omega), List.append_nil]
    rw [e]
  unfold Oper.wp execOp
  cases hq : P.info? ty with
  | none => simp [hq] at hi
  | some i =>
    have hs : new.size = i.size := by simp [hq] at hi; omega
    have : (storeVar ty ⟨b, 0, none⟩ (.agg new)).run P w = .ok () (w.setRow b new) := by
      simp [storeVar, sizeOf, typeInfo, hq, Value.cells, hs, hst]
    simp only [ho, hx, hy, Instr.storeAt, Instr.sureAddr, Sem.run_bind, Sem.run_pure, Result.andThen_ok, this]
    exact h
end Go.Proofs.YtiedoocgbajjjaaGreatDoor

namespace Go.Proofs.YtiedoocgbajjjaaGreatDoor
open Go.RowKit Go.Maps
set_option maxRecDepth 100000

set_option maxRecDepth 100000 in
set_option maxHeartbeats 2000000 in
theorem ninode_any (t : ATr) (w : World) (h : TrOk w t) (hl : t.ks.kids.length ≤ 1000) :
    Calls Tryz.prog 70 #[.pointer (some ⟨t.addr, 0, none⟩)] w fun e w' => ∃ ao cap, e = .returned (nodeV t.rc.kind t.rc.mode t.size ao t.rc.blocks.length cap t.rc.more) ∧ Hid (Kept [] w w' ∧ t.rc.blocks.length ≤ cap ∧ IntsIs w' ao t.rc.blocks.length (natI t.rc.blocks)) := by
  unfold nodeV
  obtain ⟨m, va, vb, hrow, _, _, _, hnums⟩ := h.row
  obtain ⟨ao, cap, rfl, hc, _, hi⟩ := hnums
  obtain ⟨a, ha⟩ : ∃ a, t.addr = a := ⟨_, rfl⟩
  rw [ha] at hrow ⊢
  have halt : a < w.heap.size := (Array.getElem?_eq_some_iff.1 hrow).1
  have HN : Hid (∀ wq, Kept [] w wq → Calls Tryz.prog 56 #[.pointer (some ⟨a, 0, none⟩)] wq fun e w' => e = .returned (.int .i64 (t.size : Int)) ∧ w' = wq) := fun wq hk => by
    have := nsize_any t wq (h.kept hk) hl
    rw [ha] at this
    exact this.mono fun e w' ⟨h1, h2⟩ => ⟨h1, h2.symm⟩
  obtain ⟨s, hs⟩ : ∃ s, t.size = s := ⟨_, rfl⟩
  rw [hs] at HN ⊢
  obtain ⟨k, hk⟩ : ∃ k, t.rc.kind = k := ⟨_, rfl⟩
  obtain ⟨mo, hmo⟩ : ∃ mo, t.rc.mode = mo := ⟨_, rfl⟩
  obtain ⟨mr, hmr⟩ : ∃ mr, t.rc.more = mr := ⟨_, rfl⟩
  obtain ⟨bl, hbl⟩ : ∃ bl, t.rc.blocks = bl := ⟨_, rfl⟩
  unfold nodeRow at hrow
  rw [hk, hmo, hmr, hbl] at hrow ⊢
  rw [hbl] at hc hi
  obtain ⟨n, hn⟩ : ∃ n, bl.length = n := ⟨_, rfl⟩
  rw [hn] at hrow hc hi ⊢
  obtain ⟨P, hP⟩ : ∃ P, w.heap.size = P := ⟨_, rfl⟩
  have HROW := Lib.hid hrow
  have HI := Lib.hid (And.intro hc hi)
  have HPP := Lib.hid (And.intro hP halt)
  clear h hl hrow hs hk hmo hmr hbl hn ha hc hi halt
  go_enter Tryz.func70, Tryz.ntmps70
  go_wp2_with fail
  generalize hw1 : World.alloc w _ = w1
  have hk1 : Kept [] w w1 := by rw [← hw1]; exact Kept.alloc _ _ _
  have hr1 : w1.heap[P]? = some (.cells #[.int .i64 0, .int .i64 0, .int .i64 0, .slice none 0 0, .int .i64 0] 123) := by
    rw [← hw1, ← hP]
    exact heap_alloc_last _ _
  have H1 := Lib.hid (And.intro hk1 hr1)
  have hq : ∀ w', Kept [P] w1.drew w' → w'.heap[a]? = w.heap[a]? := fun w' hk => by
    have h1 := HPP.out
    rw [HROW.out]
    exact hk.heap (by simp; omega) (show w1.drew.heap[a]? = _ from H1.out.1.heap (by simp) HROW.out)
  have HQ := Lib.hid hq
  have q0 : ∀ w', Kept [P] w1.drew w' → w'.cell? ⟨a, 0, none⟩ = some (.int .i64 k) := fun w' hk => cell_of_row _ _ 0 _ _ _ ((HQ.out w' hk).trans HROW.out)
  have q1 : ∀ w', Kept [P] w1.drew w' → w'.cell? ⟨a, 1, none⟩ = some (.int .i64 mo) := fun w' hk => cell_of_row _ _ 1 _ _ _ ((HQ.out w' hk).trans HROW.out)
  have q5 : ∀ w', Kept [P] w1.drew w' → w'.cell? ⟨a, 5, none⟩ = some (.slice ao n cap) := fun w' hk => cell_of_row _ _ 5 _ _ _ ((HQ.out w' hk).trans HROW.out)
  have q6 : ∀ w', Kept [P] w1.drew w' → w'.cell? ⟨a, 6, none⟩ = some (.int .i64 mr) := fun w' hk => cell_of_row _ _ 6 _ _ _ ((HQ.out w' hk).trans HROW.out)
  clear hk1 hr1 hw1 hq hP
  go_wp2_with fail
  refine wp_region_ord [(true, 0), (true, 1), (true, 2), (true, 3), (true, 4), (true, 5), (true, 6), (true, 7), (true, 8), (true, 10), (true, 11), (true, 12), (true, 13), (true, 14), (true, 15), (true, 16), (true, 17), (false, 9), (true, 18), (false, 19)] [P] (by kernel_rfl) (fun _ _ d _ _ h => by cases d <;> exact h) (by kernel_rfl) rfl (by kernel_rfl) (by kernel_rfl) ?_
  simp only [named, List.getD_cons_zero, List.getD_cons_succ]
  repeat (first | (apply wpGrow_take; (case hw => rfl); (case hv => intro w' hk; go_simp; with_reducible rfl); simp only [Act.put, List.setIfInBounds_toArray, List.set_cons_zero, List.set_cons_succ]) | (refine wpGrow_pass (by rfl) ?_; simp only [Act.put, List.setIfInBounds_toArray, List.set_cons_zero, List.set_cons_succ]) | (refine wpGrow_skip (by rfl) ?_; simp only [Act.put, List.setIfInBounds_toArray, List.set_cons_zero, List.set_cons_succ]))
  clear q0 q1 q5 q6
  refine wpGrow_force (by rfl) (fun K hK => ?_)
  go_simp
  refine (HN.out w1.drew (H1.out.1.trans (Kept.drew _ _))).mono ?_
  rintro e w2 ⟨rfl, rfl⟩
  refine hK _ _ (Kept.refl _ _) ?_
  clear hK K
  repeat (first | (apply wpGrow_take; (case hw => rfl); (case hv => intro w' hk; go_simp; with_reducible rfl); simp only [Act.put, List.setIfInBounds_toArray, List.set_cons_zero, List.set_cons_succ]) | (refine wpGrow_pass (by rfl) ?_; simp only [Act.put, List.setIfInBounds_toArray, List.set_cons_zero, List.set_cons_succ]) | (refine wpGrow_skip (by rfl) ?_; simp only [Act.put, List.setIfInBounds_toArray, List.set_cons_zero, List.set_cons_succ]))
  refine wpGrow_force (by rfl) (fun K hK => ?_)
  have hst : (w1.drew.setRow P #[.int .i64 k, .int .i64 mo, .int .i64 s, .slice ao n cap, .int .i64 mr]).heap[P]? = some (.cells #[.int .i64 k, .int .i64 mo, .int .i64 s, .slice ao n cap, .int .i64 mr] 123) := setRow_heap _ _ _ _ _ _ (show w1.drew.heap[P]? = _ from H1.out.2)
  have hsk := setRow_kept w1.drew P #[.int .i64 k, .int .i64 mo, .int .i64 s, .slice ao n cap, .int .i64 mr]
  refine wp_store_cells 123 _ _ rfl P _ _ _ rfl rfl (show w1.drew.heap[P]? = _ from H1.out.2) rfl (by intro v hv; simp at hv; rcases hv with rfl | rfl | rfl | rfl | rfl <;> rfl) (by kernel_rfl) ?_
  obtain ⟨w3, hw3⟩ : ∃ w3, w1.drew.setRow P #[.int .i64 k, .int .i64 mo, .int .i64 s, .slice ao n cap, .int .i64 mr] = w3 := ⟨_, rfl⟩
  rw [hw3] at hst hsk ⊢
  refine hK _ _ hsk ?_
  clear hK K hw3
  have H3 := Lib.hid (And.intro hst hsk)
  have z0 : w3.cell? ⟨P, 0, none⟩ = some (.int .i64 k) := cell_of_row _ _ 0 _ _ _ hst
  have z1 : w3.cell? ⟨P, 1, none⟩ = some (.int .i64 mo) := cell_of_row _ _ 1 _ _ _ hst
  have z2 : w3.cell? ⟨P, 2, none⟩ = some (.int .i64 s) := cell_of_row _ _ 2 _ _ _ hst
  have z3 : w3.cell? ⟨P, 3, none⟩ = some (.slice ao n cap) := cell_of_row _ _ 3 _ _ _ hst
  have z4 : w3.cell? ⟨P, 4, none⟩ = some (.int .i64 mr) := cell_of_row _ _ 4 _ _ _ hst
  have HF : Hid (Kept [] w w3 ∧ n ≤ cap ∧ IntsIs w3 ao n (natI bl)) := by
    have hkf : Kept [] w w3 := (H1.out.1.trans (Kept.drew [] _)).andThen H3.out.2 (fun q hq => by simp at hq; right; have := HPP.out; omega)
    exact ⟨hkf, HI.out.1, HI.out.2.kept hkf⟩
  clear hst hsk
  refine wpGrow_nil ?_
  go_wp2_with fail
  refine bodyPost_ret_by (results_cell_row rfl _ _ P 123 _ (0, 0) _ rfl H3.out.1 Tryz.underlying123 rfl (by kernel_rfl)) rfl ⟨ao, cap, rfl, HF.out⟩
end Go.Proofs.YtiedoocgbajjjaaGreatDoor

/-
  Layer 4: the changes from a tree that stands to the next one are a group that a journal takes. No walk.
  Conditions: those that each theorem states.
  Layer 4: a tree on a disk, as it is kept; turn.
  Conditions: those that each theorem states.
-/
import Derived.Test.YtiedoocgbajjjaaGreatDoorFChgW
import Derived.BigQuiet
namespace Go.Proofs.YtiedoocgbajjjaaGreatDoor
open Go.RowKit Go.Maps
set_option maxRecDepth 100000

theorem putsTo_fst (s : ATr) : (s.putsTo s.rc.blocks.length).map (·.1) = s.rc.blocks.map fun (n : Nat) => (n : Int) := by
  unfold ATr.putsTo
  rw [List.map_map]
  apply List.ext_getElem
  · simp
  · intro i h1 h2
    have h3 : i < s.rc.blocks.length := by simpa using h2
    simp [List.getD_eq_getElem?_getD, List.getElem?_eq_getElem h3]
theorem putsL_fst {s : ATr} (h : s.rc.blocks.length = s.cont) : s.putsL.map (·.1) = s.nd.blks.map fun (n : Nat) => (n : Int) := by
  unfold ATr.putsL Nd.blks
  rw [← h, List.map_append, List.map_append, putsTo_fst]
  congr 1
  show List.map _ (if 0 < s.rc.more then _ else _) = List.map _ (if 0 < s.rc.more then _ else _)
  split <;> rfl
theorem putsL_len {s : ATr} (_ : s.rc.blocks.length = s.cont) (hf : 0 < s.rc.more ↔ s.far = true) : s.putsL.length = s.nd.cst := by
  unfold ATr.putsL
  rw [List.length_append, putsTo_len]
  show _ = s.cont + if s.far = true then 1 else 0
  by_cases hm : 0 < s.rc.more
  · rw [if_pos hm, if_pos (hf.1 hm)]; rfl
  · rw [if_neg hm, if_neg (fun hh => hm (hf.2 hh))]; rfl
theorem freshL_fst : ∀ (l : List ATr), (∀ s ∈ l, s.rc.blocks.length = s.cont) → ((freshL l).map (·.1)).Sublist ((l.map ATr.nd).flatMap Nd.blks |>.map fun (n : Nat) => (n : Int))
  | [], _ => List.Sublist.refl _
  | s :: l, h => by
    have ih := freshL_fst l (fun x hx => h x (by simp [hx]))
    have hs := h s (by simp)
    have e : freshL (s :: l) = (if s.rc.fresh then s.putsL else []) ++ freshL l := by
      unfold freshL
      cases hfr : s.rc.fresh <;> simp [hfr]
    rw [e, List.map_append, List.map_cons, List.flatMap_cons, List.map_append]
    refine List.Sublist.append ?_ ih
    split
    · rw [putsL_fst hs]; exact List.Sublist.refl _
    · exact List.nil_sublist _
theorem freshL_len : ∀ (l : List ATr), (∀ s ∈ l, s.rc.blocks.length = s.cont ∧ (0 < s.rc.more ↔ s.far = true)) → (freshL l).length = ((l.map ATr.nd).map Nd.wr).sum
  | [], _ => rfl
  | s :: l, h => by
    have ih := freshL_len l (fun x hx => h x (by simp [hx]))
    have hs := h s (by simp)
    have e : freshL (s :: l) = (if s.rc.fresh then s.putsL else []) ++ freshL l := by
      unfold freshL
      cases hfr : s.rc.fresh <;> simp [hfr]
    rw [e, List.length_append, ih, List.map_cons, List.map_cons, List.sum_cons]
    congr 1
    unfold Nd.wr
    show _ = if s.rc.fresh = true then s.nd.cst else 0
    split
    · exact putsL_len hs.1 hs.2
    · rfl
theorem freshL_mem {l : List ATr} {p : PutL} (h : p ∈ freshL l) : ∃ s ∈ l, p ∈ s.putsL := by
  unfold freshL at h
  obtain ⟨s, hs, hp⟩ := List.mem_flatMap.1 h
  exact ⟨s, (List.mem_filter.1 hs).1, hp⟩
theorem diffL_mem {M0 M1 : List UInt8} {j : Nat} {p : PutL} (h : p ∈ diffL M0 M1 j) : ∃ i, i < j ∧ p = (((201 + i : Nat) : Int), blkAt M1 i) := by
  unfold diffL at h
  obtain ⟨i, hi, rfl⟩ := List.mem_map.1 h
  exact ⟨i, by simpa using (List.mem_filter.1 hi).1, rfl⟩
theorem diffL_nodup (M0 M1 : List UInt8) (j : Nat) : ((diffL M0 M1 j).map (·.1)).Nodup := by
  unfold diffL
  rw [List.map_map]
  refine List.pairwise_map.2 ((List.nodup_range.sublist List.filter_sublist).imp fun h e => h ?_)
  simp at e
  omega
/-- How many writes what is fresh takes. -/
theorem fresh_bound {N q : Nat} {u : ATr} (hs : SetOk N (233 + q) 64 u.addr u.nds) (hf : u.er.fine) (hl : u.all.length ≤ 64) (hD : muL fD u.er.recs ≤ 24) (hF : muL fF u.er.recs ≤ 24) (hB : muL fB u.er.recs ≤ 2432) : (freshL u.all).length ≤ 130 := by
  rw [freshL_len u.all (fun s hm => by
    have := hs.full s.nd (List.mem_map.2 ⟨s, hm, rfl⟩)
    exact this)]
  have h1 := wr_bound u.all (fun s hm => fine_all hf s hm)
  have h2 := kn_sum u
  have h3 := nds_recs u
  unfold ATr.nds at h2 h3
  rw [h3] at h1
  omega
/-- The group. -/
theorem changes_grp {N q : Nat} {t u : ATr} (hsu : SetOk N (233 + q) 64 u.addr u.nds) (hf : u.er.fine) (hT : ∀ s ∈ u.all, s.rc.kind = 2 → goodB s.ks.ents = true) (hq : q ≤ 8) (hl : (freshL u.all).length ≤ 130) : Grp 2 N (changesL N q t u) := by
  have hfull : ∀ s ∈ u.all, s.rc.blocks.length = s.cont ∧ (0 < s.rc.more ↔ s.far = true) := fun s hm => hsu.full s.nd (List.mem_map.2 ⟨s, hm, rfl⟩)
  have hsl : ∀ s ∈ u.all, s.rc.slot < 64 := fun s hm => hsu.slotlt s.nd (List.mem_map.2 ⟨s, hm, rfl⟩)
  have hlow := hsu.low
  have hM1 : blkN (areaL N q u) = q + 32 := by unfold blkN; rw [areaL_len hsl]; omega
  have hfst := freshL_fst u.all (fun s hm => (hfull s hm).1)
  refine ⟨?_, fun p hp => ?_, ?_⟩
  · unfold changesL
    rw [List.length_append]
    have := diffL_len (areaL N q t) (areaL N q u) (q + 32)
    omega
  · unfold changesL at hp
    rcases List.mem_append.1 hp with hp | hp
    · obtain ⟨i, hi, rfl⟩ := diffL_mem hp
      refine ⟨by omega, by show ((201 + i : Nat) : Int) < N; omega, blkAt_len (by omega), ?_⟩
      show ¬ (((2 : Nat) : Int) ≤ ((201 + i : Nat) : Int) ∧ ((201 + i : Nat) : Int) < ((2 : Nat) : Int) + 199)
      omega
    · obtain ⟨s, hm, hp⟩ := freshL_mem hp
      have hb : p.1 ∈ s.putsL.map (·.1) := List.mem_map.2 ⟨p, hp, rfl⟩
      rw [putsL_fst (hfull s hm).1] at hb
      obtain ⟨b, hb, e⟩ := List.mem_map.1 hb
      have hr := hsu.rng b (List.mem_flatMap.2 ⟨s.nd, List.mem_map.2 ⟨s, hm, rfl⟩, hb⟩)
      have h64 : p.2.length = 64 := by
        unfold ATr.putsL at hp
        rcases List.mem_append.1 hp with hp | hp
        · unfold ATr.putsTo at hp
          obtain ⟨i, hi, rfl⟩ := List.mem_map.1 hp
          have hi : i < s.cont := by simpa using hi
          refine blkAt_len ?_
          have hfs := fine_all hf s hm
          unfold blkN ATr.bodyL
          unfold ATr.cont at hi
          by_cases hk : s.rc.kind = 2
          · rw [if_pos hk] at hi ⊢
            rw [entsL_length (good_len (hT s hm hk)), AKs.ents_length]
            obtain ⟨a, m, va, vb, r, ks⟩ := s
            have hk' : r.kind = 2 := hk
            simp only [ATr.size, if_pos hk', ATr.ks] at hi ⊢
            omega
          · rw [if_neg hk] at hi ⊢
            obtain ⟨a, m, va, vb, r, ks⟩ := s
            have hk' : ¬ r.kind = 2 := hk
            simpa only [ATr.size, if_neg hk', ATr.rc] using hi
        · by_cases hmo : 0 < s.rc.more
          · rw [if_pos hmo] at hp
            obtain rfl := List.mem_singleton.1 hp
            show (moreOf s.rc.blocks).length = 64
            obtain ⟨_, _, hfar, h38⟩ := fine_cost (fine_all hf s hm)
            have h6 : 6 < s.cont := by
              have := (hfull s hm).2.1 hmo
              rw [hfar] at this
              simpa using this
            have hbl := (hfull s hm).1
            unfold moreOf
            rw [if_pos (by omega)]
            exact moreL_length (by rw [List.length_drop]; omega)
          · rw [if_neg hmo] at hp
            cases hp
      refine ⟨by omega, by omega, h64, ?_⟩
      show ¬ (((2 : Nat) : Int) ≤ p.1 ∧ p.1 < ((2 : Nat) : Int) + 199)
      omega
  · unfold changesL
    rw [List.map_append]
    refine List.nodup_append.2 ⟨diffL_nodup _ _ _, ?_, ?_⟩
    · refine hfst.nodup ?_
      refine List.pairwise_map.2 (hsu.blks.imp fun h e => h ?_)
      omega
    · intro a ha b hb e
      obtain ⟨p, hp, rfl⟩ := List.mem_map.1 ha
      obtain ⟨i, hi, rfl⟩ := diffL_mem hp
      obtain ⟨x, hx, e2⟩ := List.mem_map.1 (hfst.subset hb)
      have hr := hsu.rng x hx
      have e3 : ((201 + i : Nat) : Int) = (x : Int) := by rw [e2]; exact e
      omega
/-- No block of a group lies ahead of the areas. -/
theorem changes_low {N q : Nat} {t u : ATr} (hsu : SetOk N (233 + q) 64 u.addr u.nds) : ∀ p ∈ changesL N q t u, (201 : Int) ≤ p.1 := by
  intro p hp
  unfold changesL at hp
  rcases List.mem_append.1 hp with hp | hp
  · obtain ⟨i, hi, rfl⟩ := diffL_mem hp
    show (201 : Int) ≤ ((201 + i : Nat) : Int)
    omega
  · obtain ⟨s, hm, hp⟩ := freshL_mem hp
    have hb : p.1 ∈ s.putsL.map (·.1) := List.mem_map.2 ⟨p, hp, rfl⟩
    rw [putsL_fst (hsu.full s.nd (List.mem_map.2 ⟨s, hm, rfl⟩)).1] at hb
    obtain ⟨b, hb, e⟩ := List.mem_map.1 hb
    have hr := hsu.rng b (List.mem_flatMap.2 ⟨s.nd, List.mem_map.2 ⟨s, hm, rfl⟩, hb⟩)
    omega
end Go.Proofs.YtiedoocgbajjjaaGreatDoor

namespace Go.Proofs.YtiedoocgbajjjaaGreatDoor
open Go.RowKit Go.Maps
set_option maxRecDepth 100000

/-- The row of a value of FS. -/
def fsRow (d j r N q : Nat) (un : Bool) : Array Value := #[.pointer (some ⟨d, 0, none⟩), .int .i64 N, .int .i64 0, .int .i64 1, .int .i64 2, .int .i64 201, .int .i64 ((201 + q : Nat) : Int), .int .i64 ((233 + q : Nat) : Int), .int .i64 64, .pointer (some ⟨j, 0, none⟩), .pointer (some ⟨r, 0, none⟩), .bool un]
/-- A disk's size, as its parts are laid out. -/
structure SizeOk (N q : Nat) : Prop where
  lo : 512 ≤ N
  hi : N ≤ 4096
  q : N ≤ q * 512 ∧ q ≤ 8
/-- A tree that stands. -/
structure Stands (N q : Nat) (t : ATr) : Prop where
  fine : t.er.fine
  root : t.rc.slot = 0 ∧ t.rc.kind = 2
  set : SetOk N (233 + q) 64 t.addr t.nds
  len : t.all.length ≤ 64
/-- A TREE ON A DISK THAT ANSWERS. -/
structure FsIs (w : World) (f d j N q g base : Nat) (S : DiskS) (t : ATr) : Prop where
  row : w.heap[f]? = some (.cells (fsRow d j t.addr N q false) 87)
  jl : JLive w d j 2 g S
  size : S.size = N
  ok : SizeOk N q
  tree : MTr base w t
  st : Stands N q t
  cnt : g ≤ 1000 ∧ S.writes ≤ 1000000
theorem FsIs.ne {w : World} {f d j N q g base : Nat} {S : DiskS} {t : ATr} (h : FsIs w f d j N q g base S t) : f ≠ d ∧ f ≠ S.m ∧ f ≠ j ∧ d ≠ S.m ∧ d ≠ j ∧ j ≠ S.m := by
  have hd := h.jl.live.disk.here
  have hj : w.heap[j]? = _ := h.jl.jour
  have hr := h.row
  have hm := h.jl.live.disk.map
  refine ⟨fun e => ?_, fun e => hm.notCells (e ▸ hr), fun e => ?_, fun e => hm.notCells (e ▸ hd), fun e => h.jl.jour.ne_disk h.jl.live.disk e.symm, h.jl.jour.ne_map h.jl.live.disk⟩
  · rw [← e, hr] at hd
    injection hd with hd
    injection hd with _ hd
    cases hd
  · rw [← e, hr] at hj
    injection hj with hj
    injection hj with _ hj
    cases hj
/-- No bytes lie in the value's own row, nor in the disk's, the map's, the journal's. -/
theorem FsIs.nob {w : World} {f d j N q g base : Nat} {S : DiskS} {t : ATr} (h : FsIs w f d j N q g base S t) : ∀ b ∈ [f, d, S.m, j], NoBytes w b := fun b hb cs fr hh => by
  have hd := h.jl.live.disk.here
  have hj : w.heap[j]? = _ := h.jl.jour
  have hr := h.row
  simp only [List.mem_cons, List.not_mem_nil, or_false] at hb
  rcases hb with rfl | rfl | rfl | rfl
  · rw [hr] at hh; injection hh with hh; injection hh with _ hh; cases hh
  · rw [hd] at hh; injection hh with hh; injection hh with _ hh; cases hh
  · exact h.jl.live.disk.map.notCells hh
  · rw [hj] at hh; injection hh with hh; injection hh with _ hh; cases hh
theorem MTr.frame {base : Nat} {w w' : World} {t : ATr} {ex : List Nat} (h : MTr base w t) (hk : Kept ex w w') (hx : ∀ b ∈ ex, NoBytes w b ∧ b ∉ t.foot) : MTr base w' t :=
  ⟨(TrOk.frame hk (fun b hb => (hx b hb).1) h.ok h.own (fun b hb => (hx b hb).2)).1, (TrOk.frame hk (fun b hb => (hx b hb).1) h.ok h.own (fun b hb => (hx b hb).2)).2, h.nodup⟩
theorem FsIs.keptX {w w' : World} {f d j N q g base : Nat} {S : DiskS} {t : ATr} {ex : List Nat} (h : FsIs w f d j N q g base S t) (hk : Kept ex w w') (hx : ∀ b ∈ ex, NoBytes w b ∧ b ∉ t.foot ∧ b ∉ [f, d, S.m, j]) : FsIs w' f d j N q g base S t := by
  have hf : f ∉ ex := fun hh => (hx f hh).2.2 (by simp)
  have hd : d ∉ ex := fun hh => (hx d hh).2.2 (by simp)
  have hm : S.m ∉ ex := fun hh => (hx _ hh).2.2 (by simp)
  have hj : j ∉ ex := fun hh => (hx j hh).2.2 (by simp)
  exact ⟨hk.heap hf h.row, h.jl.kept hk hd hm hj, h.size, h.ok, h.tree.frame hk (fun b hb => ⟨(hx b hb).1, (hx b hb).2.1⟩), h.st, h.cnt⟩
theorem FsIs.kept {w w' : World} {f d j N q g base : Nat} {S : DiskS} {t : ATr} (h : FsIs w f d j N q g base S t) (hk : Kept [] w w') : FsIs w' f d j N q g base S t := h.keptX hk (fun b hb => by cases hb)

theorem NRec.core_fine {r s : NRec} (h : r.core = s.core) : r.fine ↔ s.fine := by
  unfold NRec.core at h
  injection h with h1 h2 h3
  unfold NRec.fine
  rw [h1, h2, h3]
mutual
theorem core_fine {t u : PTr} (h : t.core = u.core) (hu : u.fine) : t.fine := by
  match t, u, h, hu with
  | .node r k, .node r2 k2, h, hu =>
    simp only [PTr.core] at h
    injection h with h1 h2
    have hl := core_fineK h2 hu.2.2.2
    have hr : r.kind = r2.kind := by
      unfold NRec.core at h1
      injection h1
    refine ⟨(NRec.core_fine h1).2 hu.1, by rw [hl.2]; exact hu.2.1, fun hk => ?_, hl.1⟩
    have := hu.2.2.1 (by rw [← hr]; exact hk)
    rw [this] at h2
    cases k with
    | nil => rfl
    | cons => simp [PKs.core] at h2
theorem core_fineK {k l : PKs} (h : k.core = l.core) (hl : l.fine) : k.fine ∧ k.len = l.len := by
  match k, l, h, hl with
  | .nil, .nil, _, _ => exact ⟨trivial, rfl⟩
  | .nil, .cons _ _ _, h, _ => simp [PKs.core] at h
  | .cons _ _ _, .nil, h, _ => simp [PKs.core] at h
  | .cons s t k, .cons s2 t2 l, h, hl =>
    simp only [PKs.core] at h
    injection h with h1 h2 h3
    have i1 := core_fine h2 hl.2.1
    have i2 := core_fineK h3 hl.2.2
    exact ⟨⟨by rw [h1]; exact hl.1, i1, i2.1⟩, by simp [PKs.len, i2.2]⟩
end
theorem mu_bone {f : NRec → Nat} (hf : ∀ r : NRec, f { r with slot := 0, blocks := [], more := 0 } = f r) {l m : List Nd} (h : l.map Nd.bone = m.map Nd.bone) : muL f (l.map Nd.rc) = muL f (m.map Nd.rc) := by
  have e : ∀ l : List Nd, muL f (l.map Nd.rc) = muL f ((l.map Nd.bone).map Nd.rc) := fun l => by
    unfold muL
    rw [List.map_map, List.map_map, List.map_map]
    congr 1
    refine List.map_congr_left fun n _ => ?_
    exact (hf n.rc).symm
  exact (e l).trans ((congrArg (fun x : List Nd => muL f (x.map Nd.rc)) h).trans (e m).symm)
theorem trim_cst (l : List Nd) : ((l.map Nd.trim).map Nd.cst) = l.map Nd.cst := by rw [List.map_map]; rfl
/-- What place gives is a tree that stands. -/
theorem stands_placed {N q base base' : Nat} {w w' : World} {u u1 : ATr} (hM : MTr base w u) (P : Placed [] base' w w' u u1) (hn : u1.nds = plc u.addr (u.nds.map Nd.trim) (slotsF 64 (u.nds.map Nd.trim)) (blocksF N (233 + q) (u.nds.map Nd.trim))) (hfu : u.er.fine) (hkind : u.rc.kind = 2) (hpre : PreOk N (233 + q) 64 u.addr u.nds) (hlen : u.all.length ≤ 64) (hcost : costL u.all ≤ ((N - (233 + q) : Nat) : Int)) :
    Stands N q u1 := by
  have hf1 : u1.er.fine := core_fine P.core hfu
  have hset := hpre.trim.placed (fun n hn => by obtain ⟨m, _, rfl⟩ := List.mem_map.1 hn; exact trim_slim m) (by rw [List.length_map, nds_length]; exact hlen) (by
    rw [trim_cst]
    have := costL_sum u.all (fun s hs => fine_all hfu s hs)
    unfold ATr.nds
    omega)
  rw [← hn, ← P.addr] at hset
  have hlen1 : u1.all.length = u.all.length := by
    have h1 : u1.nds.length = u.nds.length := by
      have := congrArg List.length (plc_bone u.addr (u.nds.map Nd.trim) (slotsF 64 (u.nds.map Nd.trim)) (blocksF N (233 + q) (u.nds.map Nd.trim)))
      rw [← hn] at this
      simpa using this
    rwa [nds_length, nds_length] at h1
  refine ⟨hf1, ⟨?_, ?_⟩, hset, by rw [hlen1]; exact hlen⟩
  · obtain ⟨n, r, e, _, h2⟩ := hset.head
    have : u1.nds = u1.nd :: u1.ks.nds := by rw [ATr.nds, ATr.all_ks]; rfl
    rw [this] at e
    injection e with e _
    rw [← e] at h2
    exact h2
  · have h1 := P.core
    obtain ⟨a, m, va, vb, r, ks⟩ := u
    obtain ⟨a', m', va', vb', r', ks'⟩ := u1
    simp only [ATr.er, PTr.core] at h1
    injection h1 with h1 _
    unfold NRec.core at h1
    injection h1 with h1
    show r'.kind = 2
    rw [h1]; exact hkind
theorem placed_fresh {N q : Nat} {u u1 : ATr} (hn : u1.nds = plc u.addr (u.nds.map Nd.trim) (slotsF 64 (u.nds.map Nd.trim)) (blocksF N (233 + q) (u.nds.map Nd.trim))) {f : NRec → Nat} (hf : ∀ r : NRec, f { r with slot := 0, blocks := [], more := 0 } = f r) : muL f u1.er.recs = muL f u.er.recs := by
  rw [← nds_recs, ← nds_recs]
  refine mu_bone hf ?_
  rw [hn, plc_bone, List.map_map]
  rfl

set_option maxRecDepth 100000 in
set_option maxHeartbeats 4000000 in
theorem fturn_any (f d j N q g base base' : Nat) (S : DiskS) (t u : ATr) (w : World) (h : FsIs w f d j N q g base S t) (hM : MTr base' w u) (hb' : base' ≤ w.heap.size) (hlow : f < base' ∧ d < base' ∧ j < base' ∧ S.m < base') (hsep : ∀ b ∈ t.foot, b < base') (hfu : u.er.fine) (hkind : u.rc.kind = 2)
    (hpre : PreOk N (233 + q) 64 u.addr u.nds) (hbl : ∀ n ∈ u.nds, n.rc.blocks.length ≤ 1000) (hlen : u.all.length ≤ 64) (hcost : costL u.all ≤ ((N - (233 + q) : Nat) : Int)) (hD : muL fD u.er.recs ≤ 24) (hF : muL fF u.er.recs ≤ 24) (hB : muL fB u.er.recs ≤ 2432) (hcnt : g < 1000 ∧ S.writes ≤ 999000) :
    Calls Tryz.prog 49 #[.pointer (some ⟨f, 0, none⟩), .pointer (some ⟨u.addr, 0, none⟩)] w fun e w' => e = .returned (.int .i64 0) ∧ Hid (∃ u' S', FsIs w' f d j N q (g + 1) base' S' u' ∧ u'.er.core = u.er.core ∧ S'.m = S.m ∧ S'.writes ≤ S.writes + 1000 ∧ S'.blk 1 = S.blk 1 ∧ Kept ([f, d, S.m, j] ++ u.foot) w w') := by
  have hok := h.ok
  have hne := h.ne
  have hul := u.all_pos
  have hsl := hpre.trim.bareN (by rw [List.length_map, nds_length]; exact hlen)
  have hlk := hpre.trim.lackN (fun n hn => by obtain ⟨m, _, rfl⟩ := List.mem_map.1 hn; exact trim_slim m) (by
    rw [trim_cst]
    have := costL_sum u.all (fun s hs => fine_all hfu s hs)
    unfold ATr.nds
    omega)
  have hPL := nplace_any base' u 0 1 2 201 ((201 + q : Nat) : Int) N (233 + q) 64 w hM hb' (fine_small hfu) (by omega) (by have := hok.hi; omega) (by omega) hpre.low.2.1 (fun n hn => by
    obtain ⟨s, hs, rfl⟩ := List.mem_map.1 hn
    have hc := fine_cost (fine_all hfu s hs)
    have hr : ∀ b ∈ s.nd.blks, b < N := fun b hb => (hpre.rng b (List.mem_flatMap.2 ⟨_, hn, hb⟩)).2
    refine ⟨?_, ?_, hpre.slotlt _ hn, fun b hb => hr b (List.mem_append.2 (.inl hb)), ?_⟩
    · exact hbl _ hn
    · show s.cont ≤ 1000
      omega
    · by_cases hm : 0 < s.rc.more
      · refine hr _ (List.mem_append.2 (.inr ?_))
        show s.rc.more ∈ if 0 < s.rc.more then [s.rc.more] else []
        rw [if_pos hm]; simp
      · show s.rc.more < N
        have := hok.lo; omega) (by have := hok.lo; omega) hsl.2 hlk
  unfold layW at hPL
  have HPLC := Lib.hid hPL
  have HH := Lib.hid h
  have HM := Lib.hid hM
  obtain ⟨D, hDe⟩ : ∃ D : Int, ((233 + q : Nat) : Int) = D := ⟨_, rfl⟩
  obtain ⟨E, hEe⟩ : ∃ E : Int, ((201 + q : Nat) : Int) = E := ⟨_, rfl⟩
  have HDE := Lib.hid (And.intro hDe hEe)
  rw [hDe, hEe] at HPLC
  obtain ⟨ta, hta⟩ : ∃ ta, t.addr = ta := ⟨_, rfl⟩
  obtain ⟨ua, hua⟩ : ∃ ua, u.addr = ua := ⟨_, rfl⟩
  have HTA := Lib.hid (And.intro hta hua)
  have hrow := h.row
  unfold fsRow at hrow
  rw [hDe, hEe, hta] at hrow
  rw [hua] at HPLC ⊢
  have HROW := Lib.hid hrow
  have HC : Hid (∀ w', Kept ([d, S.m, j] ++ u.foot) w w' → w'.cell? ⟨f, 1, none⟩ = some (.int .i64 N) ∧ w'.cell? ⟨f, 2, none⟩ = some (.int .i64 0) ∧ w'.cell? ⟨f, 3, none⟩ = some (.int .i64 1) ∧ w'.cell? ⟨f, 4, none⟩ = some (.int .i64 2) ∧ w'.cell? ⟨f, 5, none⟩ = some (.int .i64 201) ∧ w'.cell? ⟨f, 6, none⟩ = some (.int .i64 E) ∧
      w'.cell? ⟨f, 7, none⟩ = some (.int .i64 D) ∧ w'.cell? ⟨f, 8, none⟩ = some (.int .i64 64) ∧ w'.cell? ⟨f, 9, none⟩ = some (.pointer (some ⟨j, 0, none⟩)) ∧ w'.cell? ⟨f, 10, none⟩ = some (.pointer (some ⟨ta, 0, none⟩)) ∧ w'.heap[f]? = w.heap[f]?) := fun w' hk => by
    have hfu' : f ∉ [d, S.m, j] ++ u.foot := fun hh => by
      rcases List.mem_append.1 hh with h1 | h1
      · simp only [List.mem_cons, List.not_mem_nil, or_false] at h1
        rcases h1 with h1 | h1 | h1
        · exact hne.1 h1
        · exact hne.2.1 h1
        · exact hne.2.2.1 h1
      · have := (foot_mem hM.ok hM.own f h1).1
        omega
    have e0 := hk.heap hfu' HROW.out
    exact ⟨cell_of_row _ _ 1 _ _ _ e0, cell_of_row _ _ 2 _ _ _ e0, cell_of_row _ _ 3 _ _ _ e0, cell_of_row _ _ 4 _ _ _ e0, cell_of_row _ _ 5 _ _ _ e0, cell_of_row _ _ 6 _ _ _ e0, cell_of_row _ _ 7 _ _ _ e0, cell_of_row _ _ 8 _ _ _ e0, cell_of_row _ _ 9 _ _ _ e0, cell_of_row _ _ 10 _ _ _ e0, by rw [e0, HROW.out]⟩
  obtain ⟨c1, c2, c3, c4, c5, c6, c7, c8, _, _⟩ := HC.out w (Kept.refl _ _)
  have HALL := Lib.hid (And.intro hb' (And.intro hlow (And.intro hsep (And.intro hfu (And.intro hkind (And.intro hpre (And.intro hlen (And.intro hcost (And.intro hD (And.intro hF (And.intro hB (And.intro hcnt (And.intro hok hne)))))))))))))
  clear h hM hb' hlow hsep hfu hkind hpre hbl hlen hcost hD hF hB hcnt hok hne hul hsl hlk hPL hDe hEe hta hua hrow
  go_enter Tryz.func49, Tryz.ntmps49
  go_wp2_with fail
  refine HPLC.out.mono ?_
  rintro e w1 ⟨rfl, H1⟩
  obtain ⟨u1, P, hn⟩ := H1.out
  have HP := Lib.hid P
  have hst1 : Stands N q u1 := by
    obtain ⟨_, _, _, hfu, hkind, hpre, hlen, hcost, _⟩ := HALL.out
    exact stands_placed HM.out P (by rw [HTA.out.2]; exact hn) hfu hkind hpre hlen hcost
  have HST := Lib.hid hst1
  have hfs1 : FsIs w1 f d j N q g base S t := by
    obtain ⟨_, hlow, hsep, _⟩ := HALL.out
    refine HH.out.keptX P.kept (fun b hb => ?_)
    have hb : b ∈ u.foot := by simpa using hb
    have hm := foot_mem HM.out.ok HM.out.own b hb
    refine ⟨hm.2.2, fun hh => by have := hsep b hh; omega, fun hh => ?_⟩
    simp only [List.mem_cons, List.not_mem_nil, or_false] at hh
    rcases hh with rfl | rfl | rfl | rfl <;> omega
  have hfr : (freshL u1.all).length ≤ 130 := by
    obtain ⟨_, _, _, _, _, _, _, _, hD, hF, hB, _⟩ := HALL.out
    refine fresh_bound hst1.set hst1.fine hst1.len ?_ ?_ ?_
    · rw [placed_fresh (N := N) (q := q) (by rw [HTA.out.2]; exact hn) (fun r => rfl)]; exact hD
    · rw [placed_fresh (N := N) (q := q) (by rw [HTA.out.2]; exact hn) (fun r => rfl)]; exact hF
    · rw [placed_fresh (N := N) (q := q) (by rw [HTA.out.2]; exact hn) (fun r => rfl)]; exact hB
  have hok := hfs1.ok
  have hgrp : Grp 2 N (changesL N q t u1) := changes_grp hst1.set hst1.fine (fun s hm _ => set_good hst1.set (Nat.le_refl _) hst1.fine P.m.ok hst1.root.1 hm) hok.q.2 hfr
  have HGRP : Hid (Grp 2 S.size (changesL N q t u1)) := by show Grp _ _ _; rw [hfs1.size]; exact hgrp
  have hdr : Kept [] w1 w1.drew := Kept.drew _ _
  have hch := bchanges_any N q t u1 w1.drew (hfs1.tree.ok.kept hdr) hfs1.st.fine hfs1.st.set hfs1.st.len (P.m.ok.kept hdr) hst1.fine hst1.set hst1.len hst1.root.1 hok.hi hok.q (by omega)
  unfold layW at hch
  rw [P.addr, HTA.out.1, HTA.out.2, HDE.out.1, HDE.out.2] at hch
  have HCH := Lib.hid hch
  have HFS1 := Lib.hid hfs1
  have HU1 : Hid (u1.addr = ua) := by show _ = _; rw [P.addr, HTA.out.2]
  have HZ : Hid (∀ w', Kept [d, S.m, j] w1.drew w' → Kept ([d, S.m, j] ++ u.foot) w w') := fun w' hk => (P.kept.mono (fun b hb _ => by simp at hb; simp [hb])).trans ((Kept.drew _ _).trans (hk.mono (fun b hb _ => List.mem_append.2 (.inl hb))))
  have z1 : ∀ w', Kept [d, S.m, j] w1.drew w' → w'.cell? ⟨f, 1, none⟩ = some (.int .i64 N) := fun w' hk => (HC.out w' (HZ.out w' hk)).1
  have z2 : ∀ w', Kept [d, S.m, j] w1.drew w' → w'.cell? ⟨f, 2, none⟩ = some (.int .i64 0) := fun w' hk => (HC.out w' (HZ.out w' hk)).2.1
  have z3 : ∀ w', Kept [d, S.m, j] w1.drew w' → w'.cell? ⟨f, 3, none⟩ = some (.int .i64 1) := fun w' hk => (HC.out w' (HZ.out w' hk)).2.2.1
  have z4 : ∀ w', Kept [d, S.m, j] w1.drew w' → w'.cell? ⟨f, 4, none⟩ = some (.int .i64 2) := fun w' hk => (HC.out w' (HZ.out w' hk)).2.2.2.1
  have z5 : ∀ w', Kept [d, S.m, j] w1.drew w' → w'.cell? ⟨f, 5, none⟩ = some (.int .i64 201) := fun w' hk => (HC.out w' (HZ.out w' hk)).2.2.2.2.1
  have z6 : ∀ w', Kept [d, S.m, j] w1.drew w' → w'.cell? ⟨f, 6, none⟩ = some (.int .i64 E) := fun w' hk => (HC.out w' (HZ.out w' hk)).2.2.2.2.2.1
  have z7 : ∀ w', Kept [d, S.m, j] w1.drew w' → w'.cell? ⟨f, 7, none⟩ = some (.int .i64 D) := fun w' hk => (HC.out w' (HZ.out w' hk)).2.2.2.2.2.2.1
  have z8 : ∀ w', Kept [d, S.m, j] w1.drew w' → w'.cell? ⟨f, 8, none⟩ = some (.int .i64 64) := fun w' hk => (HC.out w' (HZ.out w' hk)).2.2.2.2.2.2.2.1
  have z9 : ∀ w', Kept [d, S.m, j] w1.drew w' → w'.cell? ⟨f, 9, none⟩ = some (.pointer (some ⟨j, 0, none⟩)) := fun w' hk => (HC.out w' (HZ.out w' hk)).2.2.2.2.2.2.2.2.1
  have z10 : ∀ w', Kept [d, S.m, j] w1.drew w' → w'.cell? ⟨f, 10, none⟩ = some (.pointer (some ⟨ta, 0, none⟩)) := fun w' hk => (HC.out w' (HZ.out w' hk)).2.2.2.2.2.2.2.2.2.1
  clear P hn hst1 hfs1 hfr hok hgrp hdr hch c1 c2 c3 c4 c5 c6 c7 c8 H1
  go_wp2_with fail
  refine wp_region_ordZ (R := (Kept [d, S.m, j])) 15 [(true, 0), (true, 1), (true, 2), (true, 3), (true, 4), (true, 5), (true, 6), (true, 7), (true, 8), (true, 9), (true, 10), (true, 11), (true, 12), (false, 13), (false, 14)] (fun _ => Kept.refl _ _) (fun _ _ _ h k => h.trans k) (by kernel_rfl) (fun _ _ d _ _ h => by cases d <;> exact h) (by kernel_rfl) rfl (by decide) (by kernel_rfl) (by kernel_rfl) ?_
  simp only [named, List.getD_cons_zero, List.getD_cons_succ]
  repeat (first | (apply wpR_take; (case hw => rfl); (case hv => intro w' hk; go_simp; with_reducible rfl); simp only [Act.put, List.setIfInBounds_toArray, List.set_cons_zero, List.set_cons_succ]) | (refine wpR_pass (by rfl) ?_; simp only [Act.put, List.setIfInBounds_toArray, List.set_cons_zero, List.set_cons_succ]))
  clear z1 z2 z3 z4 z5 z6 z7 z8 z9 z10
  refine wpR_force (by rfl) (fun K hK => ?_)
  go_simp
  refine HCH.out.mono ?_
  rintro e w2 ⟨v2, rfl, H2⟩
  refine hK _ _ (H2.out.2.mono (by simp)) ?_
  clear hK K
  obtain ⟨pa, pc, rfl, hputs⟩ := H2.out.1.puts (by have := HGRP.out.len; omega)
  have HPU := Lib.hid hputs
  have HJ2 : Hid (JLive w2 d j 2 g S) := (HFS1.out.jl.kept (Kept.drew [] _) (by simp) (by simp) (by simp)).kept H2.out.2 (by simp) (by simp) (by simp)
  have HCM := Lib.hid (commit_j w2 d j 2 g S HJ2.out pa _ pc _ hputs HGRP.out (by
    obtain ⟨_, _, _, _, _, _, _, _, _, _, _, hcnt, _⟩ := HALL.out
    omega) (by
    obtain ⟨_, _, _, _, _, _, _, _, _, _, _, hcnt, _⟩ := HALL.out
    omega))
  clear hputs
  refine wpR_force (by rfl) (fun K hK => ?_)
  go_simp
  refine HCM.out.mono ?_
  rintro e w3 ⟨rfl, S', H3⟩
  have HS3 := Lib.hid H3
  refine hK _ _ H3.2.2.2.2.2 ?_
  clear hK K H3
  repeat (first | (apply wpR_take; (case hw => rfl); (case hv => intro w' hk; go_simp; with_reducible rfl); simp only [Act.put, List.setIfInBounds_toArray, List.set_cons_zero, List.set_cons_succ]) | (refine wpR_pass (by rfl) ?_; simp only [Act.put, List.setIfInBounds_toArray, List.set_cons_zero, List.set_cons_succ]))
  refine wpR_nil ?_; refine lastQ_go rfl ?_
  go_simp
  have hk13 : Kept [d, S.m, j] w1.drew w3 := (H2.out.2.mono (by simp)).trans HS3.out.2.2.2.2.2
  have hkw3 := HZ.out w3 hk13
  obtain ⟨_, _, _, _, _, _, _, _, _, c10, hr3⟩ := HC.out w3 hkw3
  rw [HROW.out] at hr3
  have f10 : ∀ x, w3.frozen? ⟨f, x, none⟩ = false := fun x => frozen_of_row _ _ x _ _ hr3
  obtain ⟨w4, hw4⟩ : ∃ w4, w3.setCell ⟨f, 10, none⟩ (.pointer (some ⟨ua, 0, none⟩)) = w4 := ⟨_, rfl⟩
  have hk34 : Kept [f] w3 w4 := by rw [← hw4]; exact Kept.setCell _ _ _ _ (by simp)
  have HFIN : Hid (∃ u' S', FsIs w4 f d j N q (g + 1) base' S' u' ∧ u'.er.core = u.er.core ∧ S'.m = S.m ∧ S'.writes ≤ S.writes + 1000 ∧ S'.blk 1 = S.blk 1 ∧ Kept ([f, d, S.m, j] ++ u.foot) w w4) := by
    obtain ⟨hb', hlow, hsep, hfu, hkind, hpre, hlen, hcost, hD, hF, hB, hcnt, hok, hne⟩ := HALL.out
    obtain ⟨hjl, hsize, hm', hwr, hblk, _⟩ := HS3.out
    have hP := HP.out
    have hb1 : S'.blk 1 = S.blk 1 := by
      rw [hblk 1 (by unfold Out; omega)]
      exact applyL_other (fun p hp e => by have := changes_low HST.out.set p hp; omega)
    have hnob := HFS1.out.nob
    have hfoot : ∀ b ∈ u1.foot, base' ≤ b := fun b hb => (foot_mem hP.m.ok hP.m.own b hb).1
    have hw : S'.writes ≤ S.writes + 1000 := by
      have := HGRP.out.len
      have := spanN_le HGRP.out.len
      omega
    refine ⟨u1, S', ⟨?_, ?_, ?_, hok, ?_, HST.out, ?_⟩, hP.core, hm', hw, hb1, ?_⟩
    · rw [← hw4, heap_setCell_same w3 f 10 _ _ _ hr3]
      unfold fsRow
      rw [HDE.out.1, HDE.out.2, HU1.out]
      rfl
    · obtain ⟨n1, n2, n3, _⟩ := hne
      exact hjl.kept hk34 (by simpa using fun e => n1 e.symm) (by rw [hm']; simpa using fun e => n2 e.symm) (by simpa using fun e => n3 e.symm)
    · rw [hsize]; exact HH.out.size
    · have h3 : MTr base' w3 u1 := (hP.m.frame (Kept.drew [] _) (by simp)).frame hk13 (fun b hb => ?_)
      · refine h3.frame hk34 (fun b hb => ?_)
        obtain rfl : b = f := by simpa using hb
        refine ⟨fun cs fr hh => ?_, fun hh => by have := hfoot b hh; omega⟩
        rw [hr3] at hh
        injection hh with hh
        injection hh with _ hh
        cases hh
      · simp only [List.mem_cons, List.not_mem_nil, or_false] at hb
        refine ⟨?_, fun hh => ?_⟩
        · have := hnob b (by simp only [List.mem_cons]; rcases hb with rfl | rfl | rfl <;> simp)
          exact this
        · have := hfoot b hh
          rcases hb with rfl | rfl | rfl <;> omega
    · omega
    · refine (hkw3.mono (fun b hb _ => ?_)).trans (hk34.mono (fun b hb _ => ?_))
      · rcases List.mem_append.1 hb with h1 | h1
        · refine List.mem_append.2 (.inl ?_)
          simp only [List.mem_cons, List.not_mem_nil, or_false] at h1 ⊢
          rcases h1 with h1 | h1 | h1 <;> simp [h1]
        · exact List.mem_append.2 (.inr h1)
      · obtain rfl : b = f := by simpa using hb
        simp
  have HW4 := Lib.hid hw4
  clear hk13 hkw3 hr3 hk34 hw4
  go_wp2_with fail
  go_ret
  refine ⟨rfl, ?_⟩
  rw [HW4.out]
  exact HFIN.out
end Go.Proofs.YtiedoocgbajjjaaGreatDoor

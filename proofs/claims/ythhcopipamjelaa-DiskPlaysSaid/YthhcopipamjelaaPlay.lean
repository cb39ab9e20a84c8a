/-
  Two disks and two of the document's own, side by side: what stays of their likeness behind each call.
  Conditions: none.
-/
import Derived.Test.YthhcopipamjelaaAlike
namespace Go.Proofs.Ythhcopipamjelaa
open Go.RowKit Go.Maps

theorem ne_of_obj {w : World} {i j : Nat} {o o' : Obj} (h : w.heap[i]? = some o) (h' : w.heap[j]? = some o') (hne : o ≠ o') : i ≠ j := fun e => by
  rw [e, h'] at h
  exact hne (Option.some.inj h).symm

theorem IsDisk.mapObj {w : World} {a : Nat} {S : DiskS} (h : IsDisk w a S) : ∃ es c, w.heap[S.m]? = some (.map es c) := by
  obtain ⟨D, ⟨es, clock, hb, _⟩, _⟩ := h.map
  exact ⟨es, clock, hb⟩

theorem IsRef.off_disk {w : World} {a b : Nat} {R : RefS} {S : DiskS} (h : IsRef w a R) (hd : IsDisk w b S) : a ≠ b ∧ a ≠ S.m ∧ R.rb ≠ b ∧ R.rb ≠ S.m ∧ R.avoids b ∧ R.avoids S.m := by
  obtain ⟨rest, hr⟩ := h.row
  obtain ⟨es, c, hm⟩ := hd.mapObj
  exact ⟨ne_of_obj h.here hd.here (by simp), ne_of_obj h.here hm (by simp), ne_of_obj hr hd.here (by simp), ne_of_obj hr hm (by simp),
    h.avoids fun cs e => by rw [hd.here] at e; simp at e, h.avoids fun cs e => by rw [hm] at e; simp at e⟩

theorem IsRef.off_ref {w : World} {a b : Nat} {R U : RefS} (h : IsRef w a R) (hu : IsRef w b U) : a ≠ U.rb ∧ R.rb ≠ b ∧ R.avoids b ∧ R.avoids U.rb := by
  obtain ⟨rest, hr⟩ := h.row
  obtain ⟨rest', hr'⟩ := hu.row
  exact ⟨ne_of_obj h.here hr' (by simp), ne_of_obj hr hu.here (by simp), h.avoids fun cs e => by rw [hu.here] at e; simp at e, h.avoids fun cs e => by rw [hr'] at e; simp at e⟩

theorem IsDisk.off_disk {w : World} {a b : Nat} {S T : DiskS} (h : IsDisk w a S) (ht : IsDisk w b T) : a ≠ T.m ∧ S.m ≠ b := by
  obtain ⟨es, c, hm⟩ := h.mapObj
  obtain ⟨es', c', hm'⟩ := ht.mapObj
  exact ⟨ne_of_obj h.here hm' (by simp), ne_of_obj hm ht.here (by simp)⟩

structure PlayRel (w : World) (k ax ay az aw : Nat) (S T : DiskS) (R U : RefS) (wr : World) : Prop where
  dx : IsDisk wr ax S
  dz : IsDisk wr az T
  ry : IsRef wr ay R
  ru : IsRef wr aw U
  sx : Sim S R
  sz : Sim T U
  kept : Kept [] w wr
  gx : w.heap.size ≤ ax
  gz : w.heap.size ≤ az
  gy : w.heap.size ≤ ay
  gw : w.heap.size ≤ aw
  gm : w.heap.size ≤ S.m
  gn : w.heap.size ≤ T.m
  gr : w.heap.size ≤ R.rb
  gu : w.heap.size ≤ U.rb
  nx : ax ≠ az
  nm : S.m ≠ T.m
  ny : ay ≠ aw
  nr : R.rb ≠ U.rb
  wx : S.writes ≤ k
  wz : T.writes ≤ k

/-- Memory block b is none of theirs. -/
structure Off (b ax ay az aw : Nat) (S T : DiskS) (R U : RefS) : Prop where
  x : b ≠ ax
  z : b ≠ az
  y : b ≠ ay
  w : b ≠ aw
  m : b ≠ S.m
  n : b ≠ T.m
  r : b ≠ R.rb
  u : b ≠ U.rb
  ar : R.avoids b
  au : U.avoids b

theorem PlayRel.off_new {w : World} {k ax ay az aw : Nat} {S T : DiskS} {R U : RefS} {wr : World} (P : PlayRel w k ax ay az aw S T R U wr) {b : Nat} (hb : wr.heap.size ≤ b) : Off b ax ay az aw S T R U := by
  have h1 := P.dx.lt
  have h2 := P.dz.lt
  have h3 := P.ry.lt
  have h4 := P.ru.lt
  have h5 := P.dx.map.lt
  have h6 := P.dz.map.lt
  have h7 := P.ry.rlt
  have h8 := P.ru.rlt
  exact ⟨by omega, by omega, by omega, by omega, by omega, by omega, by omega, by omega, P.ry.avoids_new hb, P.ru.avoids_new hb⟩

theorem PlayRel.grow {w : World} {k ax ay az aw : Nat} {S T : DiskS} {R U : RefS} {wr wq : World} (P : PlayRel w k ax ay az aw S T R U wr) (hk : Kept [] wr wq) : PlayRel w k ax ay az aw S T R U wq :=
  ⟨P.dx.kept hk (by simp) (by simp), P.dz.kept hk (by simp) (by simp), P.ry.kept hk (by simp) (by simp) (by simp), P.ru.kept hk (by simp) (by simp) (by simp), P.sx, P.sz, P.kept.trans hk, P.gx, P.gz, P.gy, P.gw, P.gm, P.gn, P.gr, P.gu, P.nx, P.nm, P.ny, P.nr, P.wx, P.wz⟩
theorem PlayRel.le {w : World} {k k' ax ay az aw : Nat} {S T : DiskS} {R U : RefS} {wr : World} (P : PlayRel w k ax ay az aw S T R U wr) (h : k ≤ k') : PlayRel w k' ax ay az aw S T R U wr :=
  ⟨P.dx, P.dz, P.ry, P.ru, P.sx, P.sz, P.kept, P.gx, P.gz, P.gy, P.gw, P.gm, P.gn, P.gr, P.gu, P.nx, P.nm, P.ny, P.nr, by have := P.wx; omega, by have := P.wz; omega⟩
theorem PlayRel.over {w : World} {k ax ay az aw : Nat} {S T : DiskS} {R U : RefS} {wr wq : World} (P : PlayRel w k ax ay az aw S T R U wr) {b : Nat} (ho : Off b ax ay az aw S T R U) (hg : w.heap.size ≤ b) (hk : Kept [b] wr wq) : PlayRel w k ax ay az aw S T R U wq :=
  ⟨P.dx.kept hk (by simpa using ho.x.symm) (by simpa using ho.m.symm), P.dz.kept hk (by simpa using ho.z.symm) (by simpa using ho.n.symm),
   P.ry.kept hk (by simpa using ho.y.symm) (by simpa using ho.r.symm) (by simpa using ho.ar), P.ru.kept hk (by simpa using ho.w.symm) (by simpa using ho.u.symm) (by simpa using ho.au),
   P.sx, P.sz, P.kept.into hk (by simpa using hg), P.gx, P.gz, P.gy, P.gw, P.gm, P.gn, P.gr, P.gu, P.nx, P.nm, P.ny, P.nr, P.wx, P.wz⟩

/-- Behind a call on the first disk the document's own is as it was. -/
theorem PlayRel.refX {w : World} {k ax ay az aw : Nat} {S T : DiskS} {R U : RefS} {wr w1 : World} (P : PlayRel w k ax ay az aw S T R U wr) (hk : Kept [ax, S.m] wr w1) : IsRef w1 ay R := by
  obtain ⟨a1, a2, a3, a4, a5, a6⟩ := P.ry.off_disk P.dx
  exact P.ry.kept hk (by simp; exact ⟨a1, a2⟩) (by simp; exact ⟨a3, a4⟩) (by simp; exact ⟨a5, a6⟩)

theorem PlayRel.step {w : World} {k k' ax ay az aw : Nat} {S T S' : DiskS} {R U R' : RefS} {wr w1 w2 : World} (P : PlayRel w k ax ay az aw S T R U wr) (hd1 : IsDisk w1 ax S') (hm : S'.m = S.m) (hk1 : Kept [ax, S.m] wr w1)
    (hr2 : IsRef w2 ay R') (hrb : R'.rb = R.rb) (hk2 : Kept [ay, R.rb] w1 w2) (hs : Sim S' R') (hw : S'.writes ≤ k') (hkk : k ≤ k') : PlayRel w k' ax ay az aw S' T R' U w2 := by
  have hr1 := P.refX hk1
  obtain ⟨a1, a2, a3, a4, _, _⟩ := hr1.off_disk hd1
  have hz1 : IsDisk w1 az T := by
    obtain ⟨b1, b2⟩ := P.dx.off_disk P.dz
    exact P.dz.kept hk1 (by simp; exact ⟨P.nx.symm, fun e => b2 e.symm⟩) (by simp; exact ⟨fun e => b1 e.symm, P.nm.symm⟩)
  have hu1 : IsRef w1 aw U := by
    obtain ⟨c1, c2, c3, c4, c5, c6⟩ := P.ru.off_disk P.dx
    exact P.ru.kept hk1 (by simp; exact ⟨c1, c2⟩) (by simp; exact ⟨c3, c4⟩) (by simp; exact ⟨c5, c6⟩)
  obtain ⟨e1, e2, e3, e4, _, _⟩ := hr1.off_disk hz1
  obtain ⟨f1, f2, f3, f4⟩ := hu1.off_ref hr1
  have gS : w.heap.size ≤ S'.m := by rw [hm]; exact P.gm
  refine ⟨hd1.kept hk2 (by simp; exact ⟨a1.symm, a3.symm⟩) (by simp; exact ⟨a2.symm, a4.symm⟩), hz1.kept hk2 (by simp; exact ⟨e1.symm, e3.symm⟩) (by simp; exact ⟨e2.symm, e4.symm⟩), hr2,
    hu1.kept hk2 (by simp; exact ⟨P.ny.symm, f1⟩) (by simp; exact ⟨f2, P.nr.symm⟩) (by simp; exact ⟨f3, f4⟩), hs, P.sz, ?_, P.gx, P.gz, P.gy, P.gw, gS, P.gn, by rw [hrb]; exact P.gr, P.gu, P.nx, by rw [hm]; exact P.nm, P.ny, by rw [hrb]; exact P.nr, hw, by have := P.wz; omega⟩
  exact (P.kept.into hk1 (by simp; exact ⟨P.gx, P.gm⟩)).into hk2 (by simp; exact ⟨P.gy, P.gr⟩)

theorem Sim.fuse {S : DiskS} {R : RefS} (h : Sim S R) (n : Int) : Sim (S.fuse n) (R.fuse n) := by
  unfold DiskS.fuse RefS.fuse
  rw [h.off]
  cases ho : R.off
  · simp only [Bool.false_eq_true, if_false]
    by_cases hn : n < 0
    · rw [if_pos hn]
      exact ⟨h.size, by simp, by simp; omega, by simp, h.writes, h.blk⟩
    · rw [if_neg hn]
      exact ⟨h.size, by simp, by simp; omega, by simp, h.writes, h.blk⟩
  · simp only [if_true]
    exact h
theorem Sim.boot {S : DiskS} {R : RefS} (h : Sim S R) : Sim S.boot R.boot :=
  ⟨h.size, rfl, rfl, by simp [DiskS.boot], h.writes, h.blk⟩
theorem Sim.clone {S : DiskS} {R : RefS} (h : Sim S R) (m rb rc : Nat) : Sim (S.at m) { R with rb := rb, rcap := rc } :=
  ⟨h.size, h.off, h.fused, h.left, h.writes, h.blk⟩

/-- The document's Write, beside the disk's: the same answer; alike behind it. -/
theorem rwrite_any (a : Nat) (S : DiskS) (R : RefS) (i : Int) (v : Value) (l : List UInt8) (w : World) (h : IsRef w a R) (hs : Sim S R) (hl0 : 0 ≤ S.left) (hl1 : S.left ≤ 9223372036854775807) (hlw : S.writes < 4611686018427387904) (hv : SlIs w v l)
    (hba : ∀ b o n c, v = .slice (some ⟨b, o, none⟩) n c → b ≠ a) :
    Calls Try.prog 16 #[.pointer (some ⟨a, 0, none⟩), .int .i64 i, v] w fun e w' => e = .returned (.int .i64 (S.wr i l).1) ∧
      (∃ R', IsRef w' a R' ∧ Sim (S.wr i l).2 R' ∧ R'.rb = R.rb ∧ ∀ b, b < w.heap.size → R.avoids b → R'.avoids b) ∧ Kept [a, R.rb] w w' := by
  by_cases hr : S.reach i = 0
  · have hrr : R.reach i = 0 := by rw [← hs.reach]; exact hr
    obtain ⟨h0, h1, hoff⟩ := rreach_zero hrr
    by_cases hl : l.length = 64
    · rcases hv with ⟨b, o, cap, rfl, hlt, hc⟩ | ⟨rfl, rfl⟩
      · cases hb : S.burn.1
        · have hbn : S.fused = true ∧ S.left = 0 := by
            unfold DiskS.burn at hb
            split at hb
            · split at hb
              · rename_i x y; exact ⟨x, y⟩
              · simp at hb
            · simp at hb
          have e2 : S.burn.2 = { S with off := true, fused := false, left := 0 } := by unfold DiskS.burn; rw [if_pos hbn.1, if_pos hbn.2]
          have ew : S.wr i l = (2, S.burn.2) := by unfold DiskS.wr; rw [if_pos hr, if_pos hl, hb]; rfl
          rw [ew, e2, hl]
          refine (rwrite_burnt a R i _ cap w h hrr (by rw [← hs.fused]; exact hbn.1) (by rw [← hs.left hbn.1]; exact hbn.2)).mono fun e w' ⟨he, hR, hk⟩ => ?_
          exact ⟨he, ⟨_, hR, ⟨hs.size, rfl, rfl, by simp, hs.writes, hs.blk⟩, rfl, fun b _ ha => ha⟩, hk.mono (by simp)⟩
        · obtain ⟨n, rfl⟩ := Int.eq_ofNat_of_zero_le h0
          have ew : S.wr (n : Int) l = (0, { S.burn.2 with blk := updL S.blk n l, writes := S.writes + 1 }) := by unfold DiskS.wr; rw [if_pos hr, if_pos hl, hb]; rfl
          have hst := R.step_same
          have hln : R.burns = true → R.left ≠ 0 := fun hbt hz => by
            have hf : S.fused = true := by rw [hs.fused]; exact hbt
            unfold DiskS.burn at hb
            rw [if_pos hf, if_pos (by rw [hs.left hf]; exact hz)] at hb
            simp at hb
          rw [ew, hl]
          refine (rwrite_ok a b o cap R n l w h hrr hln (fun hbt => by
            have hf : S.fused = true := by rw [hs.fused]; exact hbt
            rw [← hs.left hf]; exact ⟨hl0, hl1⟩) (by rw [← hs.writes]; exact hlw) hl hc hlt (hba _ _ _ _ rfl)).mono fun e w' ⟨he, ⟨u, hu, hR⟩, hk⟩ => ?_
          rw [hst.1] at hk
          refine ⟨he, ⟨_, hR, ?_, hst.1, fun b' hb' ha x hx o n c => ?_⟩, hk⟩
          · have hbm := S.burn_m
            have hbo : S.burn.2.off = S.off ∧ S.burn.2.fused = S.fused ∧ (S.fused = true → S.burn.2.left = S.left - 1) := by
              unfold DiskS.burn at hb ⊢
              split at hb
              · split at hb
                · simp at hb
                · rename_i x y
                  rw [if_pos x, if_neg y]
                  exact ⟨rfl, rfl, fun _ => rfl⟩
              · rename_i x
                rw [if_neg x]
                exact ⟨rfl, rfl, fun hf => absurd hf x⟩
            refine ⟨?_, ?_, ?_, ?_, ?_, fun j hj => ?_⟩
            · show S.burn.2.size = _
              rw [hbm.2.2.2, hs.size]
              show _ = ((R.step.n : Nat) : Int)
              rw [hst.2.1]
            · show S.burn.2.off = R.step.off
              rw [hbo.1, hs.off, hst.2.2.2.2.2.2.1]
            · show S.burn.2.fused = R.step.burns
              rw [hbo.2.1, hs.fused, hst.2.2.2.2.2.2.2]
            · intro hf
              have hf' : S.fused = true := by rw [← hbo.2.1]; exact hf
              show S.burn.2.left = R.step.left
              rw [hbo.2.2 hf', hs.left hf']
              unfold RefS.step
              rw [if_pos (by rw [← hs.fused]; exact hf')]
            · show S.writes + 1 = R.step.cnt + 1
              rw [hs.writes, hst.2.2.2.2.2.1]
            · show updL S.blk n l j = updL R.step.blk n l j
              unfold updL
              rw [hst.2.2.2.2.1]
              split
              · rfl
              · exact hs.blk j (by
                  have : j < R.step.n := hj
                  rw [hst.2.1] at this
                  exact this)
          · have hx' : x ∈ R.step.rows.set _ u := hx
            rcases List.mem_or_eq_of_mem_set hx' with hm | rfl
            · rw [hst.2.2.2.1] at hm
              exact ha x hm o n c
            · exact hu b' hb' o n c
      · simp at hl
    · have ew : S.wr i l = (11, S) := by unfold DiskS.wr; rw [if_pos hr, if_neg hl]
      have h2 : ((l.length : Int) != 64) = true := by rw [bne_iff_ne]; omega
      rw [ew]
      rcases hv with ⟨b, o, cap, rfl, hlt, hc⟩ | ⟨rfl, rfl⟩
      · exact (rwrite_len a R i _ _ cap w h hrr h2).mono fun e w' ⟨he, hw⟩ => ⟨he, ⟨R, hw ▸ h, hs, rfl, fun b _ ha => ha⟩, hw ▸ Kept.refl _ _⟩
      · exact (rwrite_len a R i _ 0 0 w h hrr (by decide)).mono fun e w' ⟨he, hw⟩ => ⟨he, ⟨R, hw ▸ h, hs, rfl, fun b _ ha => ha⟩, hw ▸ Kept.refl _ _⟩
  · have ew : S.wr i l = (S.reach i, S) := by unfold DiskS.wr; rw [if_neg hr]
    rw [ew, hs.reach i]
    exact (rwrite_away a R i v w h (by rw [← hs.reach]; exact hr)).mono fun e w' ⟨he, hw⟩ => ⟨he, ⟨R, hw ▸ h, hs, rfl, fun b _ ha => ha⟩, hw ▸ Kept.refl _ _⟩

theorem PlayRel.clone {w : World} {k ax ay az aw : Nat} {S T : DiskS} {R U : RefS} {wr w1 w2 : World} {c1 c2 rb rc : Nat} (P : PlayRel w k ax ay az aw S T R U wr) (h1 : c1 = wr.heap.size) (hd1 : IsDisk w1 c1 (S.at (c1 + 1))) (hk1 : Kept [] wr w1)
    (h2 : c2 = w1.heap.size) (hrb : c2 < rb) (hr2 : IsRef w2 c2 { R with rb := rb, rcap := rc }) (hk2 : Kept [] w1 w2) : PlayRel w k c1 c2 ax ay (S.at (c1 + 1)) S { R with rb := rb, rcap := rc } R w2 := by
  have P1 := P.grow (hk1.trans hk2)
  have s1 := hk1.size
  have sk := P.kept.size
  have l1 := P.dx.lt
  have l2 := P.dx.map.lt
  have l3 := (P.grow hk1).ry.lt
  have l4 := (P.grow hk1).ry.rlt
  refine ⟨hd1.kept hk2 (by simp) (by simp), P1.dx, hr2, P1.ry, P.sx.clone _ _ _, P.sx, P1.kept, by omega, P.gx, by omega, P.gy, ?_, P.gm, ?_, P.gr, by omega, ?_, by omega, ?_, P.wx, P.wx⟩
  · show w.heap.size ≤ c1 + 1
    omega
  · show w.heap.size ≤ rb
    omega
  · show c1 + 1 ≠ S.m
    omega
  · show rb ≠ R.rb
    omega

theorem DiskS.wr_more (S : DiskS) (i : Int) (l : List UInt8) : (S.wr i l).2.m = S.m ∧ (S.wr i l).2.writes ≤ S.writes + 1 := by
  have hb := S.burn_m
  unfold DiskS.wr
  split
  · split
    · split
      · exact ⟨hb.1, Int.le_refl _⟩
      · exact ⟨hb.1, by show S.burn.2.writes ≤ _; rw [hb.2.2.1]; omega⟩
    · exact ⟨rfl, by show S.writes ≤ _; omega⟩
  · exact ⟨rfl, by show S.writes ≤ _; omega⟩

theorem Off.turn {b ax ay az aw : Nat} {S T S' : DiskS} {R U R' : RefS} (h : Off b ax ay az aw S T R U) (hm : S'.m = S.m) (hr : R'.rb = R.rb) (ha : R'.avoids b) : Off b ax ay az aw S' T R' U :=
  ⟨h.x, h.z, h.y, h.w, by rw [hm]; exact h.m, h.n, by rw [hr]; exact h.r, h.u, ha, h.au⟩

end Go.Proofs.Ythhcopipamjelaa

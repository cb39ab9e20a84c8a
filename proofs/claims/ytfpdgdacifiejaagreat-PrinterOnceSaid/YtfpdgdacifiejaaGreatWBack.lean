/-
  Layer 13: PrinterBack, over what Parse and Print answer.
  Conditions: those that the theorem states.
-/
import Derived.Test.YtfpdgdacifiejaaGreatWAsk
namespace Go.Proofs.YtfpdgdacifiejaaGreat
open Go.RowKit Go.Maps

/-- An arena in a block of its own. -/
def ArAt (w : World) (P : Nat) (ao : Option Addr) (n cap : Nat) (ns : List Nod) : Prop := ns.length = n ∧ w.heap[P]? = some (.cells #[.slice ao n cap] 29) ∧ NdIs w (.slice ao n cap) ns
theorem ArAt.keep {w w' : World} {P : Nat} {ao : Option Addr} {n cap : Nat} {ns : List Nod} (h : ArAt w P ao n cap ns) (hk : Kept [] w w') : ArAt w' P ao n cap ns := ⟨h.1, hk.heap (by simp) h.2.1, h.2.2.kept hk⟩
theorem ArAt.cell {w : World} {P : Nat} {ao : Option Addr} {n cap : Nat} {ns : List Nod} (h : ArAt w P ao n cap ns) : w.cell? ⟨P, 0, none⟩ = some (.slice ao n cap) := cell_of_row _ _ 0 _ _ _ h.2.1
set_option maxRecDepth 100000 in
set_option maxHeartbeats 8000000 in
theorem back_walk (hsh : ShP) (hp : ParC) (hpr : PrC) (S : ByteArray) (w : World) (hs : S.size ≤ 9223372036854775807) : Calls Tryz.prog 3 #[.string S] w fun e w' => e = .returned (.bool true) ∧ Kept [] w w' := by
  have HSH := Lib.hid hsh
  have HPC := Lib.hid hp
  have HPR := Lib.hid hpr
  have HSZ := Lib.hid hs
  clear hsh hp hpr hs
  go_enter Tryz.func3, Tryz.ntmps3
  go_wp2_with fail
  refine (HSH.out w).mono ?_
  rintro e w1 ⟨rfl, hk1⟩
  have HK1 := Lib.hid hk1
  clear hk1
  go_wp2_with fail
  refine (lex_any S w1 HSZ.out).mono ?_
  rintro e w2 ⟨vw, rfl, hws, hk2⟩
  have H2 := Lib.hid (show WsIs w2 vw (lxW (bl S)) ∧ Kept [] w w2 from ⟨hws.es, HK1.out.trans hk2⟩)
  clear hws hk2
  obtain ⟨la, hla⟩ : ∃ x, lxA (bl S) = x := ⟨_, rfl⟩
  obtain ⟨le, hle⟩ : ∃ x, lxE (bl S) = x := ⟨_, rfl⟩
  rw [hla, hle]
  have HTK : Hid (∀ t ∈ (lxW (bl S)).map tkW, TkC t) := lxW_tk _
  obtain ⟨T, hT⟩ : ∃ T, (lxW (bl S)).map tkW = T := ⟨_, rfl⟩
  rw [hT] at HTK
  have HPA := Lib.hid (HPC.out vw T w2 (by rw [← hT]; exact H2.out.1.tk))
  clear hla hle hT
  go_wp2_with fail
  refine HPA.out.mono ?_
  rintro e w3 ⟨va, rfl, hnd, hk3⟩
  obtain ⟨pa, hpa⟩ : ∃ n, (parO T).2.1 = n := ⟨_, rfl⟩
  obtain ⟨pe, hpe⟩ : ∃ n, (parO T).2.2 = n := ⟨_, rfl⟩
  obtain ⟨ns, hns⟩ : ∃ n, (parO T).1 = n := ⟨_, rfl⟩
  rw [hns] at hnd
  rw [hpa, hpe]
  have HPE := Lib.hid (show (parO T).1 = ns ∧ (parO T).2.2 = pe from ⟨hns, hpe⟩)
  have HND := Lib.hid hnd
  have hval : ∃ ao cap, va = .slice ao ns.length cap := by
    obtain ⟨ao, cap, h, _⟩ := hnd
    exact ⟨ao, cap, h⟩
  obtain ⟨ao, cap, hva⟩ := hval
  obtain ⟨n, hn⟩ : ∃ n, ns.length = n := ⟨_, rfl⟩
  rw [hn] at hva
  subst hva
  have H3 : Hid (Kept [] w w3) := H2.out.2.trans hk3
  obtain ⟨w4, hw4⟩ : ∃ w4, w3.alloc (.cells #[.slice ao n cap] 29) = w4 := ⟨_, rfl⟩
  obtain ⟨P, hP⟩ : ∃ P, w3.heap.size = P := ⟨_, rfl⟩
  have H4 : Hid (ArAt w4 P ao n cap ns ∧ Kept [] w w4) := by
    rw [← hw4, ← hP]
    exact ⟨⟨hn, heap_alloc_last _ _, HND.out.kept (Kept.alloc _ _ _)⟩, H3.out.trans (Kept.alloc _ _ _)⟩
  clear hns hpa hpe hn hk3 hnd
  by_cases hle : le = 0
  case neg =>
    have hlei : ((le : Int) == 0) = false := by simpa using hle
    have hlej : ¬ (le : Int) = 0 := by omega
    go_wp2_with fail
    go_ret
    exact ⟨rfl, H4.out.2⟩
  subst hle
  by_cases hpe : pe = 0
  case neg =>
    have hpei : ((pe : Int) == 0) = false := by simpa using hpe
    have hpej : ¬ (pe : Int) = 0 := by omega
    go_wp2_with fail
    go_ret
    exact ⟨rfl, H4.out.2⟩
  subst hpe
  have HB := Lib.hid (back_all HPE.out.2 HTK.out)
  obtain ⟨b, hb⟩ := HB.out
  have HB := Lib.hid hb
  have HNS : Hid (ns = topL b) := by show _ = _; rw [← HPE.out.1, hb.2.2.2.1]
  have c4 := H4.out.1.cell
  have HP4 := Lib.hid (HPR.out (.slice ao n cap) b w4 hb.1 hb.2.1 hb.2.2.1 (by rw [← HNS.out]; exact H4.out.1.2.2))
  obtain ⟨pt, hpt⟩ : ∃ t, prtO b = t := ⟨_, rfl⟩
  obtain ⟨pg, hpg⟩ : ∃ t, prtE b = t := ⟨_, rfl⟩
  have HPT := Lib.hid (And.intro hpt hpg)
  rw [hpt, hpg] at HP4
  clear hb hpt hpg
  go_wp2_with fail
  clear c4 hw4 hP
  refine HP4.out.mono ?_
  rintro e w5 ⟨rfl, hk5⟩
  have H5 : Hid (ArAt w5 P ao n cap ns ∧ Kept [] w w5) := ⟨H4.out.1.keep hk5, H4.out.2.trans hk5⟩
  clear hk5
  by_cases hlong : 65536 < (b.txt []).length
  case pos =>
    have hg5 : pg = 5 := by rw [← HPT.out.2]; unfold prtE; rw [if_pos hlong]
    subst hg5
    go_wp2_with fail
    go_ret
    exact ⟨rfl, H5.out.2⟩
  have hg0 : pg = 0 := by rw [← HPT.out.2]; unfold prtE; rw [if_neg hlong]
  subst hg0
  have HTX : Hid (pt = b.txt []) := by show _ = _; rw [← HPT.out.1]; unfold prtO; rw [if_neg hlong]
  have HLX : Hid (lxW pt = (lexL (b.txt []) 0).1 ∧ lxE pt = 0) := by
    show _ ∧ _
    rw [HTX.out]
    exact lx_of HB.out.2.2.2.2.1 (by omega)
  have HPZ : Hid (parO ((lxW pt).map tkW) = (topL b, 0, 0)) := by show _ = _; rw [HLX.out.1]; exact HB.out.2.2.2.2.2
  have hsz : (strL pt).size ≤ 9223372036854775807 := by
    have h1 := bl_len (strL pt)
    have h2 := congrArg List.length HTX.out
    rw [bl_strL] at h1
    omega
  have HL2 := Lib.hid (lex_any (strL pt) w5 hsz)
  rw [bl_strL] at HL2
  clear hlong hsz
  go_wp2_with fail
  refine HL2.out.mono ?_
  rintro e w6 ⟨vx, rfl, hwx, hk6⟩
  have HW6 : Hid (TkIs w6 vx ((lxW pt).map tkW)) := hwx.es.tk
  have H6 : Hid (ArAt w6 P ao n cap ns ∧ Kept [] w w6) := ⟨H5.out.1.keep hk6, H5.out.2.trans hk6⟩
  rw [HLX.out.2]
  obtain ⟨la2, hla2⟩ : ∃ x, lxA pt = x := ⟨_, rfl⟩
  rw [hla2]
  have HPA2 := Lib.hid (HPC.out vx _ w6 HW6.out)
  unfold ParOut at HPA2
  rw [HPZ.out] at HPA2
  clear hwx hk6 hla2
  go_wp2_with fail
  refine HPA2.out.mono ?_
  rintro e w7 ⟨vb, rfl, hnb, hk7⟩
  obtain ⟨bo, bcap, hvb, hbrest⟩ := id hnb
  have hlen : (topL b).length = n := by rw [← HNS.out]; exact H4.out.1.1
  rw [hlen] at hvb
  subst hvb
  have HNB := Lib.hid hnb
  obtain ⟨w8, hw8⟩ : ∃ x, w7.alloc (.cells #[.slice bo n bcap] 29) = x := ⟨_, rfl⟩
  obtain ⟨Q, hQ⟩ : ∃ x, w7.heap.size = x := ⟨_, rfl⟩
  have H8 : Hid (ArAt w8 P ao n cap ns ∧ ArAt w8 Q bo n bcap ns ∧ Kept [] w w8) := by
    have hk8 : Kept [] w7 w8 := by rw [← hw8]; exact Kept.alloc _ _ _
    refine ⟨(H6.out.1.keep hk7).keep hk8, ⟨by rw [HNS.out]; exact hlen, by rw [← hw8, ← hQ]; exact heap_alloc_last _ _, ?_⟩, (H6.out.2.trans hk7).trans hk8⟩
    rw [HNS.out]
    exact HNB.out.kept hk8
  have a8 := H8.out.1.cell
  have b8 := H8.out.2.1.cell
  have HSM := Lib.hid (nsame_any (.slice ao n cap) (.slice bo n bcap) ns w8 H8.out.1.2.2 H8.out.2.1.2.2 (by have := HB.out.2.1; have := H4.out.1.1; omega))
  clear hnb hk7 hbrest hlen
  go_wp2_with fail
  clear a8 b8 hw8 hQ
  refine HSM.out.mono ?_
  rintro e w9 ⟨rfl, hk9⟩
  have H9 : Hid (ArAt w9 Q bo n bcap ns ∧ Kept [] w w9) := ⟨H8.out.2.1.keep hk9, H8.out.2.2.trans hk9⟩
  have b9 := H9.out.1.cell
  have HP9 := Lib.hid (HPR.out (.slice bo n bcap) b w9 HB.out.1 HB.out.2.1 HB.out.2.2.1 (by rw [← HNS.out]; exact H9.out.1.2.2))
  rw [HPT.out.1, HPT.out.2] at HP9
  clear hk9
  go_wp2_with fail
  clear b9
  refine HP9.out.mono ?_
  rintro e w10 ⟨rfl, hk10⟩
  have H10 : Hid (Kept [] w w10) := H9.out.2.trans hk10
  clear hk10
  go_wp2_with fail
  go_ret
  exact ⟨rfl, H10.out⟩
end Go.Proofs.YtfpdgdacifiejaaGreat

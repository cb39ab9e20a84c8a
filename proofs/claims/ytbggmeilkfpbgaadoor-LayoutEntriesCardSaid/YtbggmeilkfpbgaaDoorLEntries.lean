/-
  LayoutEntries, walked: any entries are put, or refused, as the document says, and taken as they were.
  Conditions: those of the theorem.
-/
import Derived.Test.YtbggmeilkfpbgaaDoorLREnt
namespace Go.Proofs.YtbggmeilkfpbgaaDoor
open Go.RowKit Go.Maps

def putC (l : List Ent) : Int := if 16 < l.length then 5 else if goodB l then 0 else 1
def putL (l : List Ent) : List UInt8 := if 16 < l.length then [] else if goodB l then entsL l else []
theorem putE_unit {l : List Ent} {w : World} {e : Ending} {w' : World} (h : PutEOut l w e w') :
    ∃ v, e = .returned (.tuple #[v, .int .i64 (putC l)]) ∧ Hid (Kept [] w w' ∧ SlIs w' v (putL l) ∧ CapOk v ∧ (putC l = 0 → l.length ≤ 16 ∧ goodB l = true)) := by
  obtain ⟨hk, ⟨h1, rfl⟩ | ⟨h1, h2, rfl⟩ | ⟨h1, h2, v, rfl, h3, h4⟩⟩ := h
  · have e : putC l = 5 := by unfold putC; rw [if_pos h1]
    have e2 : putL l = [] := by unfold putL; rw [if_pos h1]
    rw [e, e2]
    exact ⟨_, rfl, hk, .inr ⟨rfl, rfl⟩, ⟨_, _, _, rfl, by omega, by omega⟩, fun h => by omega⟩
  · have e : putC l = 1 := by unfold putC; rw [if_neg (by omega), h2]; rfl
    have e2 : putL l = [] := by unfold putL; rw [if_neg (by omega), h2]; rfl
    rw [e, e2]
    exact ⟨_, rfl, hk, .inr ⟨rfl, rfl⟩, ⟨_, _, _, rfl, by omega, by omega⟩, fun h => by omega⟩
  · have e : putC l = 0 := by unfold putC; rw [if_neg (by omega), h2]; rfl
    have e2 : putL l = entsL l := by unfold putL; rw [if_neg (by omega), h2]; rfl
    rw [e, e2]
    exact ⟨_, rfl, hk, h3, h4, fun _ => ⟨h1, h2⟩⟩
theorem putE_one (ao : Option Addr) (len cap : Nat) (l : List Ent) (w : World) (hl : EntsIs w ao len l) :
    Calls Tryd.prog 14 #[.slice ao len cap] w fun e w' => ∃ v, e = .returned (.tuple #[v, .int .i64 (putC l)]) ∧ Hid (Kept [] w w' ∧ SlIs w' v (putL l) ∧ CapOk v ∧ (putC l = 0 → l.length ≤ 16 ∧ goodB l = true)) := by
  by_cases h : 16 < len
  · exact (putE_long ao len cap l w hl h).mono fun _ _ => putE_unit
  · cases hg : goodB l
    · exact (putE_no ao len cap l w hl (by omega) hg).mono fun _ _ hh => by have := putE_unit hh; rwa [hg] at this
    · exact (putE_yes ao len cap l w hl (by omega) hg).mono fun _ _ hh => by have := putE_unit hh; rwa [hg] at this
theorem rputE_one (ao : Option Addr) (len cap : Nat) (l : List Ent) (w : World) (hl : EntsIs w ao len l) :
    Calls Tryd.prog 15 #[.slice ao len cap] w fun e w' => ∃ v, e = .returned (.tuple #[v, .int .i64 (putC l)]) ∧ Hid (Kept [] w w' ∧ SlIs w' v (putL l) ∧ CapOk v ∧ (putC l = 0 → l.length ≤ 16 ∧ goodB l = true)) := by
  by_cases h : 16 < len
  · exact (rputE_long ao len cap l w hl h).mono fun _ _ => putE_unit
  · exact (rputE_any ao len cap l w hl (by omega)).mono fun _ _ => putE_unit

set_option maxRecDepth 100000 in
set_option maxHeartbeats 8000000 in
theorem entries_walk (ao : Option Addr) (len cap : Nat) (l : List Ent) (w : World) (hl : EntsIs w ao len l) (hb : len * 24 ≤ 140737488355328) (hnil : ao = none → cap = 0) :
    Calls Tryd.prog 4 #[.slice ao len cap] w fun e w' => e = .returned (.bool true) ∧ Kept [] w w' := by
  have HL := Lib.hid hl
  have HNIL := Lib.hid hnil
  have HLL := Lib.hid hl.1
  have hlen := hl.2.1
  clear hl hnil
  go_enter Tryd.func4, Tryd.ntmps4
  go_wp2_with fail
  refine (shown3_any _).mono ?_
  rintro e w1 ⟨rfl, hk1⟩
  obtain ⟨ao', cap', w2, hrun, hi2, hk2⟩ := copy_ents ao len cap l w1 (HL.out.kept hk1) hb HNIL.out
  have HRUN := Lib.hid hrun
  have HI2 := Lib.hid hi2
  have HK2 := Lib.hid (hk1.trans hk2)
  clear hrun hi2 hk1 hk2 hb HNIL
  go_wp2_with (at_builtin; refine wpList_append_run rfl _ _ 34 rfl _ _ _ rfl rfl HRUN.out ?_)
  clear HRUN
  refine (putE_one ao' len cap' l _ HI2.out).mono ?_
  obtain ⟨c, hc⟩ : ∃ c, putC l = c := ⟨_, rfl⟩
  obtain ⟨L, hL⟩ : ∃ L, putL l = L := ⟨_, rfl⟩
  rw [hc, hL]
  rintro e w3 ⟨va, rfl, H3⟩
  have HK3 := Lib.hid (HK2.out.trans H3.out.1)
  go_wp2_with fail
  refine (rputE_one ao len cap l _ (HL.out.kept HK3.out)).mono ?_
  rw [hc, hL]
  rintro e w4 ⟨vb, rfl, H4⟩
  have HK4 := Lib.hid (HK3.out.trans H4.out.1)
  have HI4 := Lib.hid (HI2.out.kept (H3.out.1.trans H4.out.1))
  have HL4 := Lib.hid (HL.out.kept HK4.out)
  have HA4 : Hid (SlIs w4 va L ∧ CapOk va) := ⟨H3.out.2.1.kept H4.out.1, H3.out.2.2.1⟩
  have HC : Hid (c = 0 → (l.length ≤ 16 ∧ goodB l = true) ∧ L = entsL l) := fun h => by
    have h1 := H4.out.2.2.2 h
    refine ⟨h1, ?_⟩
    rw [← hL]
    unfold putL
    rw [if_neg (by omega), h1.2]
    rfl
  have cv1 : (convert 22 9 va).run Tryd.prog w4 = .ok (.string (strL L)) w4 := convL HA4.out.1
  have cv2 : (convert 22 9 vb).run Tryd.prog w4 = .ok (.string (strL L)) w4 := convL H4.out.2.1
  clear hc hL H3 H4 HK2 HK3 HI2 HL
  go_wp2_with fail
  clear cv1 cv2
  go_loopw [9] (fun i wr => ∃ j : Nat, j ≤ len ∧ i = .int .i64 j ∧ Hid (Drawn w4 wr)) (fun i _ => len - (intOf i).toNat)
  case atStart => exact ⟨0, by omega, rfl, 0, rfl⟩
  case round =>
    obtain ⟨j, hj, rfl, HD⟩ := hrel
    by_cases hlt : j < len
    · obtain ⟨b1, o1, rfl, hb1, hcc⟩ := (HI4.out.kept HD.out.kept).cell (by omega)
      obtain ⟨b2, o2, rfl, hb2, hdd⟩ := (HL4.out.kept HD.out.kept).cell (by omega)
      have hjl : j < l.length := by rw [HLL.out]; exact hlt
      obtain ⟨c0, c1⟩ := hcc j hjl
      obtain ⟨d0, d1⟩ := hdd j hjl
      obtain ⟨n, hn⟩ : ∃ n, l[j].1 = n := ⟨_, rfl⟩
      obtain ⟨p, hp⟩ : ∃ p, l[j].2 = p := ⟨_, rfl⟩
      have hpl : p.length ≤ 140737488355328 := by rw [← hp]; exact HL4.out.2.2.2 _ (List.getElem_mem hjl)
      have HPL := Lib.hid hpl
      rw [hn] at c0 d0
      rw [hp] at c1 d1
      clear hn hp hcc hdd hpl
      have hjI : (j : Int) < (len : Int) := by omega
      have HN : ∀ bb, nameB p = bb → (∀ w', Calls Tryd.prog 16 #[.string (strL p)] w' fun e w'' => e = .returned (.bool bb) ∧ w'' = w') ∧ (∀ w', Calls Tryd.prog 17 #[.string (strL p)] w' fun e w'' => e = .returned (.bool bb) ∧ w'' = w') := fun bb hbb =>
        ⟨fun w' => (name_any (strL p) w' (by rw [strL_size]; have := HPL.out; omega)).mono fun e w'' ⟨h1, h2⟩ => ⟨by rw [h1, strL_toList, hbb], h2.symm⟩,
         fun w' => (rname_any (strL p) w' (by rw [strL_size]; have := HPL.out; omega)).mono fun e w'' ⟨h1, h2⟩ => ⟨by rw [h1, strL_toList, hbb], h2.symm⟩⟩
      cases hnb : nameB p
      · obtain ⟨N1, N2⟩ := HN _ hnb
        clear HN hnb
        go_wp2_with fail
        go_quiet ((first | (go_at_call 16; exact Calls.quiet_of_same (N1 _)) | (go_at_call 17; exact Calls.quiet_of_same (N2 _))))
        go_wp2_with fail
        go_roundw
        case rel => exact ⟨j + 1, by omega, by go_num, HD.out.more _⟩
        case measure => simp [intOf]; omega
      · obtain ⟨N1, N2⟩ := HN _ hnb
        clear HN hnb
        go_wp2_with fail
        go_quiet ((first | (go_at_call 16; exact Calls.quiet_of_same (N1 _)) | (go_at_call 17; exact Calls.quiet_of_same (N2 _))))
        go_wp2_with fail
        go_roundw
        case rel => exact ⟨j + 1, by omega, by go_num, HD.out.more _⟩
        case measure => simp [intOf]; omega
    · have HK := Lib.hid (HK4.out.trans HD.out.kept)
      by_cases h0 : c = 0
      · subst h0
        obtain ⟨⟨h16, hg⟩, hLe⟩ := HC.out rfl
        obtain ⟨ao2, n2, c2, rfl, hc2, hcm⟩ := HA4.out.2
        have hsl := HA4.out.1.kept HD.out.kept
        rw [hLe] at hsl
        have hLen := entsL_length (good_len hg)
        have hn2 : n2 = 32 * len := by
          rw [← HLL.out, ← hLen]
          rcases hsl with ⟨b, o, cp, e, _⟩ | ⟨e, e2⟩
          · injection e
          · injection e with e1 e3
            rw [e2]; exact e3
        subst hn2
        have hS : len = 0 ∨ ∃ b o, ao2 = some ⟨b, o, none⟩ ∧ b < wr.heap.size ∧ wr.rangeAt b o (bv (entsL l)) := by
          rcases hsl with ⟨b, o, cp, e, h1, h2⟩ | ⟨e, e2⟩
          · injection e with e1 e3
            exact .inr ⟨b, o, e1, h1, h2⟩
          · have : (entsL l).length = 0 := by rw [e2]; rfl
            rw [← HLL.out]
            exact .inl (by omega)
        have hnil2 : ao2 = none → c2 = 0 := by
          intro hz
          rcases hsl with ⟨b, o, cp, e, h1, h2⟩ | ⟨e, e2⟩
          · injection e with e1 e3
            rw [hz] at e1; cases e1
          · injection e
        have HG := Lib.hid hg
        have h16' : len ≤ 16 := by rw [← HLL.out]; exact h16
        have HLN : Hid ((entsL l).length = 32 * len) := by show _ = _; rw [hLen, HLL.out]
        have HSS := Lib.hid hS
        have HNN := Lib.hid hnil2
        clear hsl hLen hS hnil2 hg hLe HA4 h16
        go_wp2_with fail
        refine (takeE_go ao2 c2 len (entsL l) _ h16' HLN.out hc2 hcm HNN.out HSS.out).mono ?_
        rintro e w5 ⟨hk5, ⟨h1, _⟩ | ⟨_, v, rfl, hown⟩⟩
        · have := takeE_back HG.out
          rw [HLL.out, h1] at this
          cases this
        · have he := ents_back HG.out
          rw [HLL.out] at he
          rw [he] at hown
          obtain ⟨ao5, cap5, rfl, _, _, hi5⟩ := own_ents hown (by omega) HL4.out.2.2.2
          have HI5 := Lib.hid hi5
          have HL5 := Lib.hid (HL4.out.kept (HD.out.kept.trans hk5))
          have HK5 := Lib.hid (HK.out.trans hk5)
          clear hown hi5 hk5 he
          go_wp2_with fail
          go_loopw [12] (fun i wr => ∃ j : Nat, j ≤ len ∧ i = .int .i64 j ∧ Hid (Drawn w5 wr)) (fun i _ => len - (intOf i).toNat)
          case atStart => exact ⟨0, by omega, rfl, 0, rfl⟩
          case round =>
            obtain ⟨j2, hj2, rfl, HE⟩ := hrel
            by_cases hlt2 : j2 < len
            · obtain ⟨b1, o1, rfl, hb1, hcc⟩ := (HI5.out.kept HE.out.kept).cell (by omega)
              obtain ⟨b2, o2, rfl, hb2, hdd⟩ := (HL5.out.kept HE.out.kept).cell (by omega)
              have hjl : j2 < l.length := by rw [HLL.out]; exact hlt2
              obtain ⟨c0, c1⟩ := hcc j2 hjl
              obtain ⟨d0, d1⟩ := hdd j2 hjl
              obtain ⟨n, hn⟩ : ∃ n, l[j2].1 = n := ⟨_, rfl⟩
              obtain ⟨p, hp⟩ : ∃ p, l[j2].2 = p := ⟨_, rfl⟩
              rw [hn] at c0 d0
              rw [hp] at c1 d1
              clear hn hp hcc hdd
              have hjI : (j2 : Int) < (len : Int) := by omega
              go_wp2_with fail
              go_quiet (fail)
              go_wp2_with fail
              go_roundw
              case rel => exact ⟨j2 + 1, by omega, by go_num, HE.out.more _⟩
              case measure => simp [intOf]; omega
            · have HKE := Lib.hid (HK5.out.trans HE.out.kept)
              go_wp2_with fail
              go_ret
              exact ⟨rfl, HKE.out⟩
      · have h0' : (c != 0) = true := by simpa using h0
        go_wp2_with fail
        go_ret
        exact ⟨rfl, HK.out⟩
end Go.Proofs.YtbggmeilkfpbgaaDoor

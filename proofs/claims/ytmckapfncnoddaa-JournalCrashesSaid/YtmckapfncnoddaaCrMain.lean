/-
  The walk through JournalCrashes.
  Conditions: those that each theorem states.
-/
import Derived.Test.YtmckapfncnoddaaCrSw
namespace Go.Proofs.Ytmckapfncnoddaa
open Go.RowKit Go.Maps

theorem CrSt.power {w : World} {a m at_ k : Nat} {jv hv : Value} {n : Nat} {hd : Value} {sm fr : Bool} {wr : World} (h : CrSt w a m at_ k jv hv n hd sm fr wr) : ∃ S, IsDisk wr a S := by
  rcases h with ⟨S, f, j, B, _⟩ | ⟨S, f, l, hao, hlen, hcap, B, _⟩ | ⟨S, f, B, _⟩
  · exact ⟨S, B.disk⟩
  · exact ⟨S, B.disk⟩
  · exact ⟨S, B.disk⟩

theorem CrB.later {w : World} {a m at_ k n : Nat} {S : DiskS} {f : Int → List UInt8} {hv : Value} {wr w' : World} (B : CrB w a m at_ k n S f hv wr) (hk : Kept [] wr w') : CrB w a m at_ (k + 1) n S f hv w' := by
  have h := B.grow hk
  exact ⟨h.disk, h.m, h.size, by have := h.writes; push_cast; omega, by have := h.gk; omega, h.has, h.kept⟩

theorem CrSt.later {w : World} {a m at_ k : Nat} {jv hv : Value} {n : Nat} {hd : Value} {sm fr : Bool} {wr w' : World} (h : CrSt w a m at_ k jv hv n hd sm fr wr) (hk : Kept [] wr w') : CrSt w a m at_ (k + 1) jv hv n hd sm fr w' := by
  rcases h with ⟨S, f, j, B, off, calm, jr, jn, hjv, h1, h2⟩ | ⟨S, f, l, hao, hlen, hcap, B, off, hhd, hl, hg, pend, h1, h2⟩ | ⟨S, f, B, off, calm, h1, h2⟩
  · exact .on S f j (B.later hk) off calm (jr.kept hk (by simp)) jn hjv h1 h2
  · exact .hand S f l hao hlen hcap (B.later hk) off hhd hl hg pend h1 h2
  · exact .fresh S f (B.later hk) off calm h1 h2

theorem CrSt.grow {w : World} {a m at_ k : Nat} {jv hv : Value} {n : Nat} {hd : Value} {sm fr : Bool} {wr w' : World} (h : CrSt w a m at_ k jv hv n hd sm fr wr) (hk : Kept [] wr w') : CrSt w a m at_ k jv hv n hd sm fr w' := by
  rcases h with ⟨S, f, j, B, off, calm, jr, jn, hjv, h1, h2⟩ | ⟨S, f, l, hao, hlen, hcap, B, off, hhd, hl, hg, pend, h1, h2⟩ | ⟨S, f, B, off, calm, h1, h2⟩
  · exact .on S f j (B.grow hk) off calm (jr.kept hk (by simp)) jn hjv h1 h2
  · exact .hand S f l hao hlen hcap (B.grow hk) off hhd hl hg pend h1 h2
  · exact .fresh S f (B.grow hk) off calm h1 h2

theorem CrSt.kept {w : World} {a m at_ k : Nat} {jv hv : Value} {n : Nat} {hd : Value} {sm fr : Bool} {wr : World} (h : CrSt w a m at_ k jv hv n hd sm fr wr) : Kept [] w wr := by
  rcases h with ⟨S, f, j, B, _⟩ | ⟨S, f, l, hao, hlen, hcap, B, _⟩ | ⟨S, f, B, _⟩
  · exact B.kept
  · exact B.kept
  · exact B.kept

/-- The disk of a state is one. -/
theorem IsDisk.one {w : World} {a : Nat} {S T : DiskS} (h : IsDisk w a S) (h' : IsDisk w a T) : S.off = T.off := by
  have e := h.here.symm.trans h'.here
  simp [DiskS.cells] at e
  exact e.2.2.1

set_option maxHeartbeats 8000000 in
set_option maxRecDepth 100000 in
theorem crash_walk (place : Int) (hp1 : -9223372036854775808 ≤ place) (hp2 : place ≤ 9223372036854775807) (ao : Option Addr) (len cap : Nat) (L : List OpV) (w : World) (hl : SliceOf w 3 (OpQ w) ao len L) :
    Calls Try.prog 3 #[.int .i64 place, .slice ao len cap] w fun e w' => e = .returned (.bool true) ∧ Kept [] w w' := by
  obtain ⟨rfl, hlen, harg⟩ := hl
  have HARG := Lib.hid harg
  clear harg
  go_enter Try.func3, Try.ntmps3
  go_wp2_with fail
  refine (shown_true w).mono ?_
  rintro e w1 ⟨rfl, hk1⟩
  have HK1 := Lib.hid hk1
  clear hk1
  go_wp2_with fail
  refine (among_any place 61 _ hp1 hp2 (by omega) (by omega)).mono ?_
  obtain ⟨at_, hat⟩ : ∃ at_ : Nat, kindF place 61 = at_ := ⟨(kindF place 61).toNat, by have := kindF_range place 61 (by omega); omega⟩
  have hat60 : at_ ≤ 60 := by have := kindF_range place 61 (by omega); omega
  rw [hat]
  rintro e w2 ⟨rfl, rfl⟩
  clear hat
  go_wp2_with fail
  refine (ground_any at_ _ rfl hat60 _).mono ?_
  rintro e w2 ⟨a, m, j, rfl, hd2, hj2, ha2, hm2, hjn2, hk2⟩
  have HA : Hid (w.heap.size ≤ a ∧ w.heap.size ≤ m) := by have := HK1.out.size; exact ⟨by omega, by omega⟩
  have HJN : Hid (w.heap.size ≤ j) := Nat.le_trans HK1.out.size hjn2
  have HD2 := Lib.hid hd2
  have HJ2 := Lib.hid hj2
  have HK2 := Lib.hid (HK1.out.trans hk2)
  clear hd2 hj2 ha2 hm2 hjn2 hk2
  go_wp2_with fail
  refine (rows_any _ a at_ 259 _ rfl (grS m at_) HD2.out rfl rfl (by omega)).mono ?_
  rintro e w3 ⟨v3, rfl, hr3, hk3⟩
  have HS0 : Hid (CrSt w a m at_ 0 (.pointer (some ⟨j, 0, none⟩)) v3 0 (.slice (some ⟨w3.heap.size, 0, none⟩) 0 0) false false (w3.alloc (.cells #[] 54))) := by
    have hk4 := hk3.trans (Kept.alloc [] w3 (.cells #[] 54))
    exact .on (grS m at_) (grS m at_).blk j ⟨HD2.out.kept hk4 (by simp) (by simp), rfl, rfl, by show (1 : Int) ≤ _; omega, Nat.le_refl _, hr3.kept (Kept.alloc [] w3 _) (Off.nil _), HK2.out.trans hk4⟩ rfl ⟨grS_ready m at_, fun _ _ => rfl⟩ (HJ2.out.kept hk4 (by simp)) HJN.out rfl rfl rfl
  clear hr3 hk3
  go_wp2_with fail
  obtain ⟨N, hN⟩ : ∃ N, N = min L.length 60 := ⟨_, rfl⟩
  have hNl : N ≤ L.length := by omega
  have hN60 : N ≤ 60 := by omega
  have hway : (True ∧ ¬ ((N : Int) < (L.length : Int))) ∨ ((N : Int) < (L.length : Int) ∧ ¬ ((N : Int) < 60)) := by
    by_cases h : L.length ≤ 60
    · exact .inl ⟨trivial, by omega⟩
    · exact .inr ⟨by omega, by omega⟩
  have HW := Lib.hid hway
  clear hN hway
  go_loopw [8, 9, 11, 12, 13, 14, 15] (fun jv hv nv hd sv fv i wr => ∃ (k n : Nat) (sm fr : Bool), k ≤ N ∧ i = .int .i64 k ∧ nv = .int .i64 n ∧ sv = .bool sm ∧ fv = .bool fr ∧ Hid (CrSt w a m at_ k jv hv n hd sm fr wr)) (fun _ _ _ _ _ _ i _ => N - (intOf i).toNat)
  case atStart => exact ⟨0, 0, false, false, by omega, rfl, rfl, rfl, rfl, HS0⟩
  case round =>
    clear HS0 HJN HJ2 HD2
    obtain ⟨k, n, sm, fr, hkN, rfl, rfl, rfl, rfl, HS⟩ := hrel
    by_cases hlt : k < N
    · have hkL : k < L.length := by omega
      have hkI : (k : Int) < (L.length : Int) := by omega
      have hk60 : (k : Int) < 60 := by omega
      obtain ⟨b, o, hao, hb, hrows⟩ := HARG.out.resolve_left (by omega)
      subst hao
      obtain ⟨cs, ⟨oao, olen, ocap, rfl, hol, hbk, hbn⟩, _, hcs⟩ := hrows k hkL
      obtain ⟨ov, hov⟩ : ∃ ov, L[k] = ov := ⟨_, rfl⟩
      rw [hov] at hol hbk hbn hcs
      obtain ⟨okind, on_, ol⟩ := ov
      simp only at hol hbk hbn hcs
      have q0 : wr.cell? ⟨b, o + k * 3, none⟩ = some (.int .i64 okind) := by rw [HS.out.kept.cell (p := ⟨b, o + k * 3, none⟩) hb (by simp)]; have := hcs 0 _ rfl; simpa using this
      have q1 : wr.cell? ⟨b, o + k * 3 + 1, none⟩ = some (.int .i64 on_) := by rw [HS.out.kept.cell (p := ⟨b, o + k * 3 + 1, none⟩) hb (by simp)]; have := hcs 1 _ rfl; simpa using this
      have q2 : wr.cell? ⟨b, o + k * 3 + 2, none⟩ = some (.slice oao olen ocap) := by rw [HS.out.kept.cell (p := ⟨b, o + k * 3 + 2, none⟩) hb (by simp)]; have := hcs 2 _ rfl; simpa using this
      have HOL := Lib.hid hol
      have HBN := Lib.hid hbn
      have HBK := Lib.hid hbk
      clear hrows hcs hov hol hbn hbk
      obtain ⟨S, hdS⟩ := HS.out.power
      have HDS := Lib.hid hdS
      clear hdS
      have hcr := kindF_range okind 8 (by omega)
      obtain ⟨c, hc⟩ : ∃ c, c = kindF okind 8 := ⟨_, rfl⟩
      rw [← hc] at hcr
      have HC := Lib.hid hc
      have HCR := Lib.hid hcr
      clear hc hcr
      go_wp2_with fail
      generalize hw4 : World.alloc wr _ = w4
      have hk4 : Kept [] wr w4 := by rw [← hw4]; exact Kept.alloc _ _ _
      have ho4 : w4.heap[wr.heap.size]? = some (.cells #[.int .i64 okind, .int .i64 on_, .slice oao olen ocap] 34) := by rw [← hw4]; exact heap_alloc_last wr _
      obtain ⟨ob, hob⟩ : ∃ ob, ob = wr.heap.size := ⟨_, rfl⟩
      rw [← hob] at ho4 ⊢
      have d0 : w4.cell? ⟨ob, 0, none⟩ = some (.int .i64 okind) := cell_of_row w4 _ 0 _ _ _ ho4
      have HO4 := Lib.hid ho4
      have HS4 := Lib.hid (HS.out.grow hk4)
      have HL4 := Lib.hid (HS.out.later hk4)
      have HD4 := Lib.hid (HDS.out.kept hk4 (by simp) (by simp))
      clear hw4 hk4 ho4 hob q0 q1 q2 HDS
      cases hof : S.off
      · have HOF := Lib.hid hof
        refine (on_any a S _ HD4.out).mono ?_
        rw [hof]
        rintro e w5 ⟨rfl, rfl⟩
        clear hof
        go_wp2_with fail
        refine (among_any okind 8 _ HBK.out.1 HBK.out.2 (by omega) (by omega)).mono ?_
        rw [← HC.out]
        rintro e w5 ⟨rfl, rfl⟩
        go_upto_block 2 with fail
        have H6 : Hid (∀ S', IsDisk w4 a S' → S'.off = true → c = 6) := fun S' h' h'' => by
          have := HD4.out.one h'
          rw [HOF.out, h''] at this
          cases this
        refine sw_any _ _ _ _ _ _ _ _ _ _ _ _ _ _ _ _ _ _ _ _ _ _ _ _ _ _ _ _ _ _ _ _ _ _ _ _ _ _ _ _ _ _ _ _ _ _ _ _ _ _ _ _ _ _ _ _ _ _ _ _ _ _ _ _ _ _ _ _ _ _ _ _ _ _ _ _ _ _ _ _ _ _ _ _ _ _ _ _ _ _ _ _ _ _ _ _ _ _ _ _ _ _ _ _ _ _ _ _ _ _ _ _ _ _ _ _ _ _ _ _ _ _ _ _ _ _ _ _ _ _ _ _ _ _ _ _ _ _ _ _ _ _ _ _ _ _ _ _ _ _ _ _ _ _ _ _ _ _ _ _ _ _ _ _ _ _ _ _ _ _ _ _ _ _ _ _ _ _ _ _ _ _ _ _ _ _ _ _ _ _ _ _ _ _ _ _ _ _ _ _ _ _ _ _ _ _ _ _ _ _ _ _ _ _ _ _ _ _ _ _ _ _ _ _ _ _ _ _ _ _ _ _ _ _ _ _ _ _ _ _ _ _ w _ a m at_ k n ob sm fr c okind on_ oao olen ocap ol _ _ hat60 HA.out (by omega) HS4.out HO4.out HBN.out HOL.out HCR.out H6.out (fun _ _ d _ _ h => by cases d <;> exact h) ?_
        intro z4 z17 z18 z19 z20 z21 z22 z23 z24 z25 z78 z79 z80 z81 z82 z83 z84 z85 z86 z87 z88 z89 z90 z91 z92 z93 z94 z95 z96 z97 z98 z99 z100 z101 z102 z103 z104 z105 z106 z107 z108 z109 z110 z111 z112 z113 z114 z115 z116 z117 z118 z119 z120 z121 z122 z123 z124 z125 z126 z127 z128 z129 z130 z131 z132 z133 z134 z135 z136 z137 z138 z139 z140 z141 z142 z143 z144 z145 z146 z147 z148 z149 z150 z151 z152 z153 z154 z155 z156 z157 z158 z159 z160 z161 z162 z163 z164 z165 z166 z167 z168 z169 z170 z171 z172 z173 z174 z175 z176 z177 z178 z179 z180 z181 z182 z183 z184 z185 z186 z187 z188 z189 z190 z191 z192 z193 z194 z195 z196 z197 z198 z199 z200 z201 z202 z203 z204 z205 z206 z207 z208 z209 z210 z211 z212 z213 z214 z215 z216 z217 z218 z219 z220 z221 z222 z223 z224 jv hv' hd' n' sm' fr' w6 HN
        clear HS4 HL4 HO4 HD4 H6 HOF d0 HS HOL HBN HBK HC HCR
        have HNN := Lib.hid HN
        rcases HN.out with ⟨S6, f6, j6, B6, off6, calm6, jr6, jn6, hjv6, hs6, hf6⟩ | ⟨S6, f6, l6, ao6, len6, cap6, B6, off6, hhd6, hl6, hg6, pend6, hs6, hf6⟩ | ⟨S6, f6, B6, off6, calm6, hs6, hf6⟩
        · have HD6 := Lib.hid B6.disk
          have HR6 := Lib.hid B6.has
          have HSZ6 := Lib.hid B6.size
          have HOF6 := Lib.hid off6
          have HJ6 := Lib.hid jr6
          have HB6 := Lib.hid B6
          have HE6 : Hid (rowsK S6.blk at_ 259 = rowsK f6 at_ 259) := rowsK_congr calm6.2
          clear B6 off6 calm6 jr6 jn6 hs6 hf6
          subst hjv6
          go_wp2_with fail
          refine (on_any a S6 _ HD6.out).mono ?_
          rw [HOF6.out]
          rintro e w7 ⟨rfl, rfl⟩
          go_wp2_with fail
          refine (rows_any _ a at_ 259 _ rfl S6 HD6.out HOF6.out HSZ6.out (by omega)).mono ?_
          rintro e w7 ⟨v7, rfl, hr7, hk7⟩
          have HR7 := Lib.hid hr7
          have HK7 := Lib.hid hk7
          clear hr7 hk7
          go_wp2_with fail
          refine (same_any w7 v7 hv' _ _ HR7.out (HR6.out.kept HK7.out (Off.nil _)) (Nat.le_trans (rowsK_length_le _ _ _) (by omega)) true (iff_of_true rfl HE6.out)).mono ?_
          rintro e w8 ⟨rfl, hk8⟩
          have HK8 := Lib.hid (HK7.out.trans hk8)
          clear hk8
          go_wp2_with fail
          refine (groups_any j6 _ w8 (HJ6.out.kept HK8.out (by simp))).mono ?_
          rintro e w9 ⟨rfl, rfl⟩
          have HFN := Lib.hid (HNN.out.out.grow HK8.out)
          go_wp2_with fail
          go_roundw
          case rel => exact ⟨k + 1, n', sm', fr', by omega, by go_num, rfl, rfl, rfl, HFN⟩
          case measure => simp [intOf]; omega
        · have HD6 := Lib.hid B6.disk
          have HOF6 := Lib.hid off6
          clear B6 off6 hhd6 hl6 hg6 pend6 hs6 hf6
          go_wp2_with fail
          refine (on_any a S6 _ HD6.out).mono ?_
          rw [HOF6.out]
          rintro e w7 ⟨rfl, rfl⟩
          go_wp2_with fail
          go_roundw
          case rel => exact ⟨k + 1, n', sm', fr', by omega, by go_num, rfl, rfl, rfl, HN⟩
          case measure => simp [intOf]; omega
        · have HD6 := Lib.hid B6.disk
          have HOF6 := Lib.hid off6
          clear B6 off6 calm6 hs6 hf6
          go_wp2_with fail
          refine (on_any a S6 _ HD6.out).mono ?_
          rw [HOF6.out]
          rintro e w7 ⟨rfl, rfl⟩
          go_wp2_with fail
          go_roundw
          case rel => exact ⟨k + 1, n', sm', fr', by omega, by go_num, rfl, rfl, rfl, HN⟩
          case measure => simp [intOf]; omega
      · have HOF := Lib.hid hof
        refine (on_any a S _ HD4.out).mono ?_
        rw [hof]
        rintro e w5 ⟨rfl, rfl⟩
        clear hof
        go_wp2_with fail
        refine (among_any okind 8 _ HBK.out.1 HBK.out.2 (by omega) (by omega)).mono ?_
        rw [← HC.out]
        rintro e w5 ⟨rfl, rfl⟩
        by_cases hc6 : c = 6
        · have hc6b : (c != 6) = false := by simp [hc6]
          have H6 : Hid (∀ S', IsDisk w4 a S' → S'.off = true → c = 6) := fun _ _ _ => hc6
          clear hc6
          go_wp2_with fail
          refine (among_any okind 8 _ HBK.out.1 HBK.out.2 (by omega) (by omega)).mono ?_
          rw [← HC.out]
          rintro e w5 ⟨rfl, rfl⟩
          go_upto_block 2 with fail
          refine sw_any _ _ _ _ _ _ _ _ _ _ _ _ _ _ _ _ _ _ _ _ _ _ _ _ _ _ _ _ _ _ _ _ _ _ _ _ _ _ _ _ _ _ _ _ _ _ _ _ _ _ _ _ _ _ _ _ _ _ _ _ _ _ _ _ _ _ _ _ _ _ _ _ _ _ _ _ _ _ _ _ _ _ _ _ _ _ _ _ _ _ _ _ _ _ _ _ _ _ _ _ _ _ _ _ _ _ _ _ _ _ _ _ _ _ _ _ _ _ _ _ _ _ _ _ _ _ _ _ _ _ _ _ _ _ _ _ _ _ _ _ _ _ _ _ _ _ _ _ _ _ _ _ _ _ _ _ _ _ _ _ _ _ _ _ _ _ _ _ _ _ _ _ _ _ _ _ _ _ _ _ _ _ _ _ _ _ _ _ _ _ _ _ _ _ _ _ _ _ _ _ _ _ _ _ _ _ _ _ _ _ _ _ _ _ _ _ _ _ _ _ _ _ _ _ _ _ _ _ _ _ _ _ _ _ _ _ _ _ _ _ _ _ w _ a m at_ k n ob sm fr c okind on_ oao olen ocap ol _ _ hat60 HA.out (by omega) HS4.out HO4.out HBN.out HOL.out HCR.out H6.out (fun _ _ d _ _ h => by cases d <;> exact h) ?_
          intro z4 z17 z18 z19 z20 z21 z22 z23 z24 z25 z78 z79 z80 z81 z82 z83 z84 z85 z86 z87 z88 z89 z90 z91 z92 z93 z94 z95 z96 z97 z98 z99 z100 z101 z102 z103 z104 z105 z106 z107 z108 z109 z110 z111 z112 z113 z114 z115 z116 z117 z118 z119 z120 z121 z122 z123 z124 z125 z126 z127 z128 z129 z130 z131 z132 z133 z134 z135 z136 z137 z138 z139 z140 z141 z142 z143 z144 z145 z146 z147 z148 z149 z150 z151 z152 z153 z154 z155 z156 z157 z158 z159 z160 z161 z162 z163 z164 z165 z166 z167 z168 z169 z170 z171 z172 z173 z174 z175 z176 z177 z178 z179 z180 z181 z182 z183 z184 z185 z186 z187 z188 z189 z190 z191 z192 z193 z194 z195 z196 z197 z198 z199 z200 z201 z202 z203 z204 z205 z206 z207 z208 z209 z210 z211 z212 z213 z214 z215 z216 z217 z218 z219 z220 z221 z222 z223 z224 jv hv' hd' n' sm' fr' w6 HN
          clear HS4 HL4 HO4 HD4 H6 HOF d0 HS HOL HBN HBK HC HCR
          have HNN := Lib.hid HN
          rcases HN.out with ⟨S6, f6, j6, B6, off6, calm6, jr6, jn6, hjv6, hs6, hf6⟩ | ⟨S6, f6, l6, ao6, len6, cap6, B6, off6, hhd6, hl6, hg6, pend6, hs6, hf6⟩ | ⟨S6, f6, B6, off6, calm6, hs6, hf6⟩
          · have HD6 := Lib.hid B6.disk
            have HR6 := Lib.hid B6.has
            have HSZ6 := Lib.hid B6.size
            have HOF6 := Lib.hid off6
            have HJ6 := Lib.hid jr6
            have HB6 := Lib.hid B6
            have HE6 : Hid (rowsK S6.blk at_ 259 = rowsK f6 at_ 259) := rowsK_congr calm6.2
            clear B6 off6 calm6 jr6 jn6 hs6 hf6
            subst hjv6
            go_wp2_with fail
            refine (on_any a S6 _ HD6.out).mono ?_
            rw [HOF6.out]
            rintro e w7 ⟨rfl, rfl⟩
            go_wp2_with fail
            refine (rows_any _ a at_ 259 _ rfl S6 HD6.out HOF6.out HSZ6.out (by omega)).mono ?_
            rintro e w7 ⟨v7, rfl, hr7, hk7⟩
            have HR7 := Lib.hid hr7
            have HK7 := Lib.hid hk7
            clear hr7 hk7
            go_wp2_with fail
            refine (same_any w7 v7 hv' _ _ HR7.out (HR6.out.kept HK7.out (Off.nil _)) (Nat.le_trans (rowsK_length_le _ _ _) (by omega)) true (iff_of_true rfl HE6.out)).mono ?_
            rintro e w8 ⟨rfl, hk8⟩
            have HK8 := Lib.hid (HK7.out.trans hk8)
            clear hk8
            go_wp2_with fail
            refine (groups_any j6 _ w8 (HJ6.out.kept HK8.out (by simp))).mono ?_
            rintro e w9 ⟨rfl, rfl⟩
            have HFN := Lib.hid (HNN.out.out.grow HK8.out)
            go_wp2_with fail
            go_roundw
            case rel => exact ⟨k + 1, n', sm', fr', by omega, by go_num, rfl, rfl, rfl, HFN⟩
            case measure => simp [intOf]; omega
          · have HD6 := Lib.hid B6.disk
            have HOF6 := Lib.hid off6
            clear B6 off6 hhd6 hl6 hg6 pend6 hs6 hf6
            go_wp2_with fail
            refine (on_any a S6 _ HD6.out).mono ?_
            rw [HOF6.out]
            rintro e w7 ⟨rfl, rfl⟩
            go_wp2_with fail
            go_roundw
            case rel => exact ⟨k + 1, n', sm', fr', by omega, by go_num, rfl, rfl, rfl, HN⟩
            case measure => simp [intOf]; omega
          · have HD6 := Lib.hid B6.disk
            have HOF6 := Lib.hid off6
            clear B6 off6 calm6 hs6 hf6
            go_wp2_with fail
            refine (on_any a S6 _ HD6.out).mono ?_
            rw [HOF6.out]
            rintro e w7 ⟨rfl, rfl⟩
            go_wp2_with fail
            go_roundw
            case rel => exact ⟨k + 1, n', sm', fr', by omega, by go_num, rfl, rfl, rfl, HN⟩
            case measure => simp [intOf]; omega
        · have hc6b : (c != 6) = true := by rw [bne_iff_ne]; exact hc6
          clear hc6
          go_wp2_with fail
          go_roundw
          case rel => exact ⟨k + 1, n, sm, fr, by omega, by go_num, rfl, rfl, rfl, HL4⟩
          case measure => simp [intOf]; omega
    · obtain rfl : k = N := by omega
      have hq := HW.out
      clear hlt hkN
      rcases hq with ⟨hq1, hq2⟩ | ⟨hq1, hq2⟩
      all_goals
        go_wp2_with fail
        go_ret
        exact ⟨rfl, HS.out.kept⟩
end Go.Proofs.Ytmckapfncnoddaa

/-
  JournalCrashes: the power is turned on, and the journal opened, while a group may be at hand.
  Conditions: those that each theorem states.
-/
import Derived.Test.YtmckapfncnoddaaCrBase
namespace Go.Proofs.Ytmckapfncnoddaa
open Go.RowKit Go.Maps

set_option maxHeartbeats 8000000 in
set_option maxRecDepth 100000 in
theorem sw_boot_hand (s0 s1 s2 s3 s4 s5 s8 s9 s10 s15 s17 s18 s19 s20 s21 s22 s23 s24 s25 s26 s27 s28 s29 s30 s31 s32 s33 s34 s35 s36 s37 s38 s39 s40 s41 s42 s43 s44 s45 s46 s47 s48 s49 s50 s51 s52 s53 s54 s55 s56 s57 s58 s59 s60 s61 s62 s63 s64 s65 s66 s67 s68 s69 s70 s71 s72 s73 s74 s75 s76 s78 s79 s80 s81 s82 s83 s84 s85 s86 s87 s88 s89 s90 s91 s92 s93 s94 s95 s96 s97 s98 s99 s100 s101 s102 s103 s104 s105 s106 s107 s108 s109 s110 s111 s112 s113 s114 s115 s116 s117 s118 s119 s120 s121 s122 s123 s124 s125 s126 s127 s128 s129 s130 s131 s132 s133 s134 s135 s136 s137 s138 s139 s140 s141 s142 s143 s144 s145 s146 s147 s148 s149 s150 s151 s152 s153 s154 s155 s156 s157 s158 s159 s160 s161 s162 s163 s164 s165 s166 s167 s168 s169 s170 s171 s172 s173 s174 s175 s176 s177 s178 s179 s180 s181 s182 s183 s184 s185 s186 s187 s188 s189 s190 s191 s192 s193 s194 s195 s196 s197 s198 s199 s200 s201 s202 s203 s204 s205 s206 s207 s208 s209 s210 s211 s212 s213 s214 s215 s216 s217 s218 s219 s220 s221 s222 s223 s224 s225 s226 s227 s228 s229 s230 s231 s232 s233 s234 s235 s236 s237 s238 s239 s240 s241 s242 s243 s244 s245 s246 s247 s248 : Value) (w wr : World) (a m at_ k n ob : Nat) (c : Int) (S : DiskS) (f : Int → List UInt8) (okind on_ : Int) (oao : Option Addr) (olen ocap : Nat) (hl : List PutL) (hao : Option Addr) (hlen hcap : Nat) 
    (K : Act → World → Prop) (Q : Exit → Act → World → Prop)
    (hat : at_ ≤ 60) (hk60 : k < 60) (hnew : w.heap.size ≤ a ∧ w.heap.size ≤ m) (hB : CrB w a m at_ k n S f s9 wr) (ho : wr.heap[ob]? = some (.cells #[.int .i64 okind, .int .i64 on_, .slice oao olen ocap] 34)) (hon : -9223372036854775808 ≤ on_ ∧ on_ ≤ 9223372036854775807) (hpend : Pend S at_ n f hl) (hhl : PutsIs w hao hlen hl) (hg : Grp at_ 259 hl) (hc : c = 6)
    (hK : ∀ (u4 u17 u18 u19 u20 u21 u22 u23 u24 u25 u78 u79 u80 u81 u82 u83 u84 u85 u86 u87 u88 u89 u90 u91 u92 u93 u94 u95 u96 u97 u98 u99 u100 u101 u102 u103 u104 u105 u106 u107 u108 u109 u110 u111 u112 u113 u114 u115 u116 u117 u118 u119 u120 u121 u122 u123 u124 u125 u126 u127 u128 u129 u130 u131 u132 u133 u134 u135 u136 u137 u138 u139 u140 u141 u142 u143 u144 u145 u146 u147 u148 u149 u150 u151 u152 u153 u154 u155 u156 u157 u158 u159 u160 u161 u162 u163 u164 u165 u166 u167 u168 u169 u170 u171 u172 u173 u174 u175 u176 u177 u178 u179 u180 u181 u182 u183 u184 u185 u186 u187 u188 u189 u190 u191 u192 u193 u194 u195 u196 u197 u198 u199 u200 u201 u202 u203 u204 u205 u206 u207 u208 u209 u210 u211 u212 u213 u214 u215 u216 u217 u218 u219 u220 u221 u222 u223 u224 jv hv' hd' : Value) (n' : Nat) (sm' fr' : Bool) (w' : World), Hid (CrSt w a m at_ (k + 1) jv hv' n' hd' sm' fr' w') → K ⟨#[s0, s1, s2, s3, u4, s5, (.int .i64 (at_ : Int)), (.pointer (some ⟨a, 0, none⟩)), jv, hv', s10, (.int .i64 (n' : Int)), hd', (.bool sm'), (.bool fr'), s15, (.pointer (some ⟨ob, 0, none⟩)), u17, u18, u19, u20, u21, u22, u23, u24, u25, s26, s27, s28, s29, s30, s31, s32, s33, s34, s35, s36, s37, s38, s39, s40, s41, s42, s43, s44, s45, s46, s47, s48, s49, s50, s51, s52, s53, s54, s55, s56, s57, s58, s59, s60, s61, s62, s63, s64, s65, s66, s67, s68, s69, s70, s71, s72, s73, s74, s75, s76, (.int .i64 c), u78, u79, u80, u81, u82, u83, u84, u85, u86, u87, u88, u89, u90, u91, u92, u93, u94, u95, u96, u97, u98, u99, u100, u101, u102, u103, u104, u105, u106, u107, u108, u109, u110, u111, u112, u113, u114, u115, u116, u117, u118, u119, u120, u121, u122, u123, u124, u125, u126, u127, u128, u129, u130, u131, u132, u133, u134, u135, u136, u137, u138, u139, u140, u141, u142, u143, u144, u145, u146, u147, u148, u149, u150, u151, u152, u153, u154, u155, u156, u157, u158, u159, u160, u161, u162, u163, u164, u165, u166, u167, u168, u169, u170, u171, u172, u173, u174, u175, u176, u177, u178, u179, u180, u181, u182, u183, u184, u185, u186, u187, u188, u189, u190, u191, u192, u193, u194, u195, u196, u197, u198, u199, u200, u201, u202, u203, u204, u205, u206, u207, u208, u209, u210, u211, u212, u213, u214, u215, u216, u217, u218, u219, u220, u221, u222, u223, u224, s225, s226, s227, s228, s229, s230, s231, s232, s233, s234, s235, s236, s237, s238, s239, s240, s241, s242, s243, s244, s245, s246, s247, s248], []⟩ w') :
    Code.wp Try.prog sw (Exit.then K Q) ⟨#[s0, s1, s2, s3, s4, s5, (.int .i64 (at_ : Int)), (.pointer (some ⟨a, 0, none⟩)), s8, s9, s10, (.int .i64 (n : Int)), (.slice hao hlen hcap), (.bool true), (.bool false), s15, (.pointer (some ⟨ob, 0, none⟩)), s17, s18, s19, s20, s21, s22, s23, s24, s25, s26, s27, s28, s29, s30, s31, s32, s33, s34, s35, s36, s37, s38, s39, s40, s41, s42, s43, s44, s45, s46, s47, s48, s49, s50, s51, s52, s53, s54, s55, s56, s57, s58, s59, s60, s61, s62, s63, s64, s65, s66, s67, s68, s69, s70, s71, s72, s73, s74, s75, s76, (.int .i64 c), s78, s79, s80, s81, s82, s83, s84, s85, s86, s87, s88, s89, s90, s91, s92, s93, s94, s95, s96, s97, s98, s99, s100, s101, s102, s103, s104, s105, s106, s107, s108, s109, s110, s111, s112, s113, s114, s115, s116, s117, s118, s119, s120, s121, s122, s123, s124, s125, s126, s127, s128, s129, s130, s131, s132, s133, s134, s135, s136, s137, s138, s139, s140, s141, s142, s143, s144, s145, s146, s147, s148, s149, s150, s151, s152, s153, s154, s155, s156, s157, s158, s159, s160, s161, s162, s163, s164, s165, s166, s167, s168, s169, s170, s171, s172, s173, s174, s175, s176, s177, s178, s179, s180, s181, s182, s183, s184, s185, s186, s187, s188, s189, s190, s191, s192, s193, s194, s195, s196, s197, s198, s199, s200, s201, s202, s203, s204, s205, s206, s207, s208, s209, s210, s211, s212, s213, s214, s215, s216, s217, s218, s219, s220, s221, s222, s223, s224, s225, s226, s227, s228, s229, s230, s231, s232, s233, s234, s235, s236, s237, s238, s239, s240, s241, s242, s243, s244, s245, s246, s247, s248], []⟩ wr := by
  conv => arg 2; whnf
  have HB := Lib.hid hB
  have HO := Lib.hid ho
  have HNEW := Lib.hid hnew
  have HON := Lib.hid hon
  have HPEND := Lib.hid hpend
  have HHL := Lib.hid hhl
  have HG := Lib.hid hg
  have c1 : wr.cell? ⟨ob, 1, none⟩ = some (.int .i64 on_) := cell_of_row wr _ 1 _ _ _ ho
  have HKK := Lib.hid hK
  clear hB ho hnew hon hpend hhl hg hK
  subst hc
  have hgk : n < 1000 := by have := HB.out.gk; omega
  have hwb : S.writes < 1000000 := by have := HB.out.writes; omega
  have hobx : ob ∉ [a] := by
    have e1 := ne_ty HO.out HB.out.disk.here (by decide)
    simp
    exact fun e => e1 e.symm
  have HOB := Lib.hid hobx
  clear hobx
  go_wp2_with fail
  refine (boot_any a S _ HB.out.disk).mono ?_
  rintro e w2 ⟨rfl, hd2, hk2⟩
  have HD2 := Lib.hid hd2
  have HK2 : Hid (Kept [a, S.m] wr w2) := hk2.mono (by simp)
  have c1' : w2.cell? ⟨ob, 1, none⟩ = some (.int .i64 on_) := cell_of_row w2 _ 1 _ _ _ (hk2.heap HOB.out HO.out)
  clear hd2 hk2 c1
  go_wp2_with fail
  refine (fuse_any a S.boot on_ _ HD2.out HON.out.2).mono ?_
  rintro e w3 ⟨rfl, hd3, hk3⟩
  obtain ⟨S3, hS3⟩ : ∃ S3, S3 = S.boot.fuse on_ := ⟨_, rfl⟩
  rw [← hS3] at hd3
  have hs3 : S3.m = S.m ∧ S3.size = S.size ∧ S3.writes = S.writes ∧ S3.blk = S.blk ∧ S3.off = false := by
    have h := S.boot.fuse_keep on_
    rw [← hS3] at h
    exact ⟨h.1, h.2.1, h.2.2.1, h.2.2.2.1, h.2.2.2.2 rfl⟩
  have HS3 := Lib.hid hs3
  have HD3 := Lib.hid hd3
  have HK3 : Hid (Kept [a, S.m] wr w3) := HK2.out.trans (hk3.mono (by simp))
  clear hd3 hk3 c1' hS3 hs3
  go_wp2_with fail
  have HP3 := Lib.hid (HPEND.out.congr HS3.out.2.2.2.1 HS3.out.2.1)
  refine (open_loose _ a at_ n _ rfl S3 HD3.out HS3.out.2.2.2.2 (by rw [HS3.out.2.1, HB.out.size]; omega) hl f HP3.out (by omega) (by rw [HS3.out.2.2.1]; omega)).mono ?_
  rintro e w4 ⟨v4, S4, rfl, hd4, hs4, hm4, hw4, hp4, hk4⟩
  have HD4 := Lib.hid hd4
  have HK4 : Hid (Kept [a, S.m] wr w4) := HK3.out.trans (by rw [HS3.out.1] at hk4; exact hk4)
  have HP4 := Lib.hid hp4
  have HS4 : Hid (S4.m = S.m ∧ S4.size = S.size ∧ S4.writes ≤ S.writes + 200) := ⟨hm4.trans HS3.out.1, hs4.trans HS3.out.2.1, by have := HS3.out.2.2.1; omega⟩
  clear hd4 hs4 hm4 hw4 hp4 hk4
  go_wp2_with fail
  refine (boot_any a S4 _ HD4.out).mono ?_
  rintro e w5 ⟨rfl, hd5, hk5⟩
  obtain ⟨S5, hS5⟩ : ∃ S5, S5 = S4.boot := ⟨_, rfl⟩
  rw [← hS5] at hd5
  have HS5 : Hid (S5.m = S.m ∧ S5.size = S.size ∧ S5.writes ≤ S.writes + 200 ∧ S5.off = false ∧ S5.fused = false) := by
    have h := HS4.out
    rw [hS5]
    exact ⟨h.1, h.2.1, h.2.2, rfl, rfl⟩
  have HD5 := Lib.hid hd5
  have HK5 : Hid (Kept [a, S.m] wr w5) := HK4.out.trans (hk5.mono (by simp))
  have HP5 : Hid (Pend S5 at_ n f hl) := by rw [hS5]; exact HP4.out.congr rfl rfl
  clear hd5 hk5 hS5
  go_wp2_with fail
  refine (open_pend _ a at_ n _ rfl S5 HD5.out HS5.out.2.2.2.1 HS5.out.2.2.2.2 (by rw [HS5.out.2.1, HB.out.size]; omega) hl f HP5.out (by omega) (by have := HS5.out.2.2.1; omega)).mono ?_
  rintro e w6 ⟨j2, g, S6, rfl, hd6, hoff6, hs6, hm6, hw6, hj6, hcase, hjl6, hk6⟩
  have HD6 := Lib.hid hd6
  have HJ6 := Lib.hid hj6
  have HJL := Lib.hid (Nat.le_trans HB.out.kept.size (Nat.le_trans HK5.out.size hjl6))
  have HK6 : Hid (Kept [a, S.m] wr w6) := HK5.out.trans (by rw [HS5.out.1] at hk6; exact hk6)
  have HB6 : Hid (∀ n' : Nat, n' ≤ k + 1 → CrB w a m at_ (k + 1) n' S6 f s9 w6) := fun n' hn' => by
    have hnw := HNEW.out
    have hs := HS5.out
    exact HB.out.step HK6.out HB.out.disk.off (by rw [HB.out.m]; simpa using hnw) hd6 (hm6.trans hs.1) (hs6.trans hs.2.1) (by omega) hn'
  have HO6 := Lib.hid hoff6
  have HCS := Lib.hid hcase
  clear hd6 hoff6 hs6 hm6 hw6 hj6 hcase hjl6 hk6
  rcases HCS.out with ⟨hg1, hc1⟩ | ⟨hg1, hc1⟩
  · subst hg1
    have HN0 : Hid (CrSt w a m at_ (k + 1) (.pointer (some ⟨j2, 0, none⟩)) s9 g (.slice hao hlen hcap) false false w6) :=
      .on S6 f j2 (HB6.out g (by have := HB.out.gk; omega)) HO6.out hc1 HJ6.out HJL.out rfl rfl rfl
    have hne : ((g : Int) == (g : Int) + 1) = false := by rw [beq_eq_false_iff_ne]; omega
    clear hc1 HCS
    go_wp2_with fail
    refine (groups_any j2 _ _ HJ6.out).mono ?_
    rintro e w7 ⟨rfl, rfl⟩
    go_wp2_with fail
    refine HKK.out _ _ _ _ _ _ _ _ _ _ _ _ _ _ _ _ _ _ _ _ _ _ _ _ _ _ _ _ _ _ _ _ _ _ _ _ _ _ _ _ _ _ _ _ _ _ _ _ _ _ _ _ _ _ _ _ _ _ _ _ _ _ _ _ _ _ _ _ _ _ _ _ _ _ _ _ _ _ _ _ _ _ _ _ _ _ _ _ _ _ _ _ _ _ _ _ _ _ _ _ _ _ _ _ _ _ _ _ _ _ _ _ _ _ _ _ _ _ _ _ _ _ _ _ _ _ _ _ _ _ _ _ _ _ _ _ _ _ _ _ _ _ _ _ _ _ _ _ _ _ _ _ _ _ _ _ _ _ _ _ _ _ _ _ HN0
  · subst hg1
    have HC1 := Lib.hid hc1
    have HJ6' : Hid (IsJour w6 j2 ⟨a, at_, n + 1, false, 0⟩) := HJ6.out
    clear hc1 HCS HJ6
    go_wp2_with fail
    refine (groups_any j2 _ _ HJ6'.out).mono ?_
    rintro e w7 ⟨rfl, rfl⟩
    have hpu : ((((n + 1 : Nat) : Int)) == (n : Int) + 1) = true := by simp
    go_wp2_with fail
    have HB7 := Lib.hid (HB6.out (n + 1) (by have := HB.out.gk; omega))
    refine (with_any _ s9 f at_ _ rfl hat _ rfl HB7.out.has hao hlen hcap hl (HHL.out.kept HB7.out.kept (Off.nil _)) HG.out).mono ?_
    rintro e w8 ⟨v8, rfl, hr8, hk8⟩
    have HN0 : Hid (CrSt w a m at_ (k + 1) (.pointer (some ⟨j2, 0, none⟩)) v8 (n + 1) (.slice hao hlen hcap) false false w8) := by
      have hb := HB7.out.grow hk8
      exact .on S6 (applyL f hl) j2 ⟨hb.disk, hb.m, hb.size, hb.writes, hb.gk, hr8, hb.kept⟩ HO6.out HC1.out (HJ6'.out.kept hk8 (by simp)) HJL.out rfl rfl rfl
    clear hr8 hk8
    go_wp2_with fail
    refine HKK.out _ _ _ _ _ _ _ _ _ _ _ _ _ _ _ _ _ _ _ _ _ _ _ _ _ _ _ _ _ _ _ _ _ _ _ _ _ _ _ _ _ _ _ _ _ _ _ _ _ _ _ _ _ _ _ _ _ _ _ _ _ _ _ _ _ _ _ _ _ _ _ _ _ _ _ _ _ _ _ _ _ _ _ _ _ _ _ _ _ _ _ _ _ _ _ _ _ _ _ _ _ _ _ _ _ _ _ _ _ _ _ _ _ _ _ _ _ _ _ _ _ _ _ _ _ _ _ _ _ _ _ _ _ _ _ _ _ _ _ _ _ _ _ _ _ _ _ _ _ _ _ _ _ _ _ _ _ _ _ _ _ _ _ _ HN0
end Go.Proofs.Ytmckapfncnoddaa

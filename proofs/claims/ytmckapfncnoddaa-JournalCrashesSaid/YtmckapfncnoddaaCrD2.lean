/-
  JournalCrashes: a call of Commit (kind 2).
  Conditions: those that each theorem states.
-/
import Derived.Test.YtmckapfncnoddaaCrBase
namespace Go.Proofs.Ytmckapfncnoddaa
open Go.RowKit Go.Maps

set_option maxHeartbeats 8000000 in
set_option maxRecDepth 100000 in
theorem sw_no2 (s0 s1 s2 s3 s4 s5 s9 s10 s12 s15 s17 s18 s19 s20 s21 s22 s23 s24 s25 s26 s27 s28 s29 s30 s31 s32 s33 s34 s35 s36 s37 s38 s39 s40 s41 s42 s43 s44 s45 s46 s47 s48 s49 s50 s51 s52 s53 s54 s55 s56 s57 s58 s59 s60 s61 s62 s63 s64 s65 s66 s67 s68 s69 s70 s71 s72 s73 s74 s75 s76 s78 s79 s80 s81 s82 s83 s84 s85 s86 s87 s88 s89 s90 s91 s92 s93 s94 s95 s96 s97 s98 s99 s100 s101 s102 s103 s104 s105 s106 s107 s108 s109 s110 s111 s112 s113 s114 s115 s116 s117 s118 s119 s120 s121 s122 s123 s124 s125 s126 s127 s128 s129 s130 s131 s132 s133 s134 s135 s136 s137 s138 s139 s140 s141 s142 s143 s144 s145 s146 s147 s148 s149 s150 s151 s152 s153 s154 s155 s156 s157 s158 s159 s160 s161 s162 s163 s164 s165 s166 s167 s168 s169 s170 s171 s172 s173 s174 s175 s176 s177 s178 s179 s180 s181 s182 s183 s184 s185 s186 s187 s188 s189 s190 s191 s192 s193 s194 s195 s196 s197 s198 s199 s200 s201 s202 s203 s204 s205 s206 s207 s208 s209 s210 s211 s212 s213 s214 s215 s216 s217 s218 s219 s220 s221 s222 s223 s224 s225 s226 s227 s228 s229 s230 s231 s232 s233 s234 s235 s236 s237 s238 s239 s240 s241 s242 s243 s244 s245 s246 s247 s248 : Value) (w wr : World) (a m at_ k n ob : Nat) (c : Int) (S : DiskS) (f : Int → List UInt8) (j : Nat) (okind on_ : Int) (oao : Option Addr) (olen ocap : Nat) (ol : List PutL) 
    (K : Act → World → Prop) (Q : Exit → Act → World → Prop)
    (hat : at_ ≤ 60) (hB : CrB w a m at_ k n S f s9 wr) (hoff : S.off = false) (hj : IsJour wr j ⟨a, at_, n, false, 0⟩) (hjn : w.heap.size ≤ j) (hcalm : Calm S at_ n f) (ho : wr.heap[ob]? = some (.cells #[.int .i64 okind, .int .i64 on_, .slice oao olen ocap] 34)) (hol : PutsIs w oao olen ol) (hQ : ∀ c a d v w, Q (.panic c) (Act.put a d v) w → Q (.panic c) a w) (hc : c = 2) (hng : ¬ Grp at_ 259 ol)
    (hK : ∀ (u4 u17 u18 u19 u20 u21 u22 u23 u24 u25 u78 u79 u80 u81 u82 u83 u84 u85 u86 u87 u88 u89 u90 u91 u92 u93 u94 u95 u96 u97 u98 u99 u100 u101 u102 u103 u104 u105 u106 u107 u108 u109 u110 u111 u112 u113 u114 u115 u116 u117 u118 u119 u120 u121 u122 u123 u124 u125 u126 u127 u128 u129 u130 u131 u132 u133 u134 u135 u136 u137 u138 u139 u140 u141 u142 u143 u144 u145 u146 u147 u148 u149 u150 u151 u152 u153 u154 u155 u156 u157 u158 u159 u160 u161 u162 u163 u164 u165 u166 u167 u168 u169 u170 u171 u172 u173 u174 u175 u176 u177 u178 u179 u180 u181 u182 u183 u184 u185 u186 u187 u188 u189 u190 u191 u192 u193 u194 u195 u196 u197 u198 u199 u200 u201 u202 u203 u204 u205 u206 u207 u208 u209 u210 u211 u212 u213 u214 u215 u216 u217 u218 u219 u220 u221 u222 u223 u224 jv hv' hd' : Value) (n' : Nat) (sm' fr' : Bool) (w' : World), Hid (CrSt w a m at_ (k + 1) jv hv' n' hd' sm' fr' w') → K ⟨#[s0, s1, s2, s3, u4, s5, (.int .i64 (at_ : Int)), (.pointer (some ⟨a, 0, none⟩)), jv, hv', s10, (.int .i64 (n' : Int)), hd', (.bool sm'), (.bool fr'), s15, (.pointer (some ⟨ob, 0, none⟩)), u17, u18, u19, u20, u21, u22, u23, u24, u25, s26, s27, s28, s29, s30, s31, s32, s33, s34, s35, s36, s37, s38, s39, s40, s41, s42, s43, s44, s45, s46, s47, s48, s49, s50, s51, s52, s53, s54, s55, s56, s57, s58, s59, s60, s61, s62, s63, s64, s65, s66, s67, s68, s69, s70, s71, s72, s73, s74, s75, s76, (.int .i64 c), u78, u79, u80, u81, u82, u83, u84, u85, u86, u87, u88, u89, u90, u91, u92, u93, u94, u95, u96, u97, u98, u99, u100, u101, u102, u103, u104, u105, u106, u107, u108, u109, u110, u111, u112, u113, u114, u115, u116, u117, u118, u119, u120, u121, u122, u123, u124, u125, u126, u127, u128, u129, u130, u131, u132, u133, u134, u135, u136, u137, u138, u139, u140, u141, u142, u143, u144, u145, u146, u147, u148, u149, u150, u151, u152, u153, u154, u155, u156, u157, u158, u159, u160, u161, u162, u163, u164, u165, u166, u167, u168, u169, u170, u171, u172, u173, u174, u175, u176, u177, u178, u179, u180, u181, u182, u183, u184, u185, u186, u187, u188, u189, u190, u191, u192, u193, u194, u195, u196, u197, u198, u199, u200, u201, u202, u203, u204, u205, u206, u207, u208, u209, u210, u211, u212, u213, u214, u215, u216, u217, u218, u219, u220, u221, u222, u223, u224, s225, s226, s227, s228, s229, s230, s231, s232, s233, s234, s235, s236, s237, s238, s239, s240, s241, s242, s243, s244, s245, s246, s247, s248], []⟩ w') :
    Code.wp Try.prog sw (Exit.then K Q) ⟨#[s0, s1, s2, s3, s4, s5, (.int .i64 (at_ : Int)), (.pointer (some ⟨a, 0, none⟩)), (.pointer (some ⟨j, 0, none⟩)), s9, s10, (.int .i64 (n : Int)), s12, (.bool false), (.bool false), s15, (.pointer (some ⟨ob, 0, none⟩)), s17, s18, s19, s20, s21, s22, s23, s24, s25, s26, s27, s28, s29, s30, s31, s32, s33, s34, s35, s36, s37, s38, s39, s40, s41, s42, s43, s44, s45, s46, s47, s48, s49, s50, s51, s52, s53, s54, s55, s56, s57, s58, s59, s60, s61, s62, s63, s64, s65, s66, s67, s68, s69, s70, s71, s72, s73, s74, s75, s76, (.int .i64 c), s78, s79, s80, s81, s82, s83, s84, s85, s86, s87, s88, s89, s90, s91, s92, s93, s94, s95, s96, s97, s98, s99, s100, s101, s102, s103, s104, s105, s106, s107, s108, s109, s110, s111, s112, s113, s114, s115, s116, s117, s118, s119, s120, s121, s122, s123, s124, s125, s126, s127, s128, s129, s130, s131, s132, s133, s134, s135, s136, s137, s138, s139, s140, s141, s142, s143, s144, s145, s146, s147, s148, s149, s150, s151, s152, s153, s154, s155, s156, s157, s158, s159, s160, s161, s162, s163, s164, s165, s166, s167, s168, s169, s170, s171, s172, s173, s174, s175, s176, s177, s178, s179, s180, s181, s182, s183, s184, s185, s186, s187, s188, s189, s190, s191, s192, s193, s194, s195, s196, s197, s198, s199, s200, s201, s202, s203, s204, s205, s206, s207, s208, s209, s210, s211, s212, s213, s214, s215, s216, s217, s218, s219, s220, s221, s222, s223, s224, s225, s226, s227, s228, s229, s230, s231, s232, s233, s234, s235, s236, s237, s238, s239, s240, s241, s242, s243, s244, s245, s246, s247, s248], []⟩ wr := by
  conv => arg 2; whnf
  have HB := Lib.hid hB
  have HCALM := Lib.hid hcalm
  have HOFF := Lib.hid hoff
  have HJ := Lib.hid hj
  have HJN := Lib.hid hjn
  have HO := Lib.hid ho
  have HOL := Lib.hid hol
  have HNG := Lib.hid hng
  have c2 : wr.cell? ⟨ob, 2, none⟩ = some (.slice oao olen ocap) := cell_of_row wr _ 2 _ _ _ ho
  have HKK := Lib.hid hK
  clear hB hcalm hoff hj hjn ho hol hng hK
  subst hc
  have HPW := Lib.hid (HOL.out.kept HB.out.kept (Off.nil _))
  go_wp2_with fail
  refine (commit_no j ⟨a, at_, n, false, 0⟩ S oao olen ocap ol _ HJ.out HB.out.disk HPW.out (by show at_ < _; omega) (by show ¬ Grp at_ S.size ol; rw [HB.out.size]; exact HNG.out)).mono ?_
  rintro e w2 ⟨rfl, hk2⟩
  have hk2d : Kept [] wr w2.drew := hk2.trans (Kept.drew _ _)
  have HK2 := Lib.hid hk2d
  have HO2 := Lib.hid (hk2d.heap (by simp) HO.out)
  have CA : ∀ w', Kept [] w2.drew w' → w'.cell? ⟨ob, 2, none⟩ = some (.slice oao olen ocap) := fun w' hk => cell_of_row w' _ 2 _ _ _ (hk.heap (by simp) HO2.out)
  have HD2 := Lib.hid (HB.out.disk.kept hk2d (by simp) (by simp))
  have HP2 := Lib.hid (HPW.out.kept hk2d (Off.nil _))
  have HSZ := Lib.hid HB.out.size
  clear hk2 hk2d c2
  go_wp2_with fail
  refine wp_region_ord [(true, 0), (true, 1), (true, 2), (true, 3), (false, 4), (false, 5), (true, 6)] [] (by kernel_rfl) (fun _ _ d _ _ h => hQ _ _ d _ _ h) (by kernel_rfl) rfl (by kernel_rfl) (by kernel_rfl) ?_
  simp only [named, List.getD_cons_zero, List.getD_cons_succ]
  repeat (first | (apply wpGrow_take; (case hw => rfl); (case hv => intro w' hk; go_simp; with_reducible rfl); simp only [Act.put, List.setIfInBounds_toArray, List.set_cons_zero, List.set_cons_succ]) | (refine wpGrow_pass (by rfl) ?_; simp only [Act.put, List.setIfInBounds_toArray, List.set_cons_zero, List.set_cons_succ]))
  refine wpGrow_force (by rfl) (fun K hK => ?_)
  go_simp
  refine (len_any a S _ HD2.out).mono ?_
  rw [HSZ.out]
  rintro e w9 ⟨rfl, rfl⟩
  refine hK _ _ (Kept.refl _ _) ?_
  clear hK K
  repeat (first | (apply wpGrow_take; (case hw => rfl); (case hv => intro w' hk; go_simp; with_reducible rfl); simp only [Act.put, List.setIfInBounds_toArray, List.set_cons_zero, List.set_cons_succ]) | (refine wpGrow_pass (by rfl) ?_; simp only [Act.put, List.setIfInBounds_toArray, List.set_cons_zero, List.set_cons_succ]))
  refine wpGrow_force (by rfl) (fun K hK => ?_)
  go_simp
  refine (group_any _ oao olen ocap ol HP2.out at_ 259 _ rfl (by omega) false (iff_of_false (by simp) HNG.out)).mono ?_
  rintro e w4 ⟨rfl, hk4⟩
  refine hK _ _ hk4 ?_
  clear hK K
  have HK4 := Lib.hid hk4
  clear hk4
  repeat (first | (apply wpGrow_take; (case hw => rfl); (case hv => intro w' hk; go_simp; with_reducible rfl); simp only [Act.put, List.setIfInBounds_toArray, List.set_cons_zero, List.set_cons_succ]) | (refine wpGrow_pass (by rfl) ?_; simp only [Act.put, List.setIfInBounds_toArray, List.set_cons_zero, List.set_cons_succ]))
  refine wpGrow_nil ?_
  clear CA
  have HN : Hid (CrSt w a m at_ (k + 1) (.pointer (some ⟨j, 0, none⟩)) s9 n s12 false false w4) := by
    have hkk := HK2.out.trans HK4.out
    exact .on S f j (HB.out.step hkk (Off.nil _) (by simp) (HB.out.disk.kept hkk (by simp) (by simp)) rfl rfl (by omega) (by have := HB.out.gk; omega)) HOFF.out HCALM.out (HJ.out.kept hkk (by simp)) HJN.out rfl rfl rfl
  go_wp2_with fail
  refine HKK.out _ _ _ _ _ _ _ _ _ _ _ _ _ _ _ _ _ _ _ _ _ _ _ _ _ _ _ _ _ _ _ _ _ _ _ _ _ _ _ _ _ _ _ _ _ _ _ _ _ _ _ _ _ _ _ _ _ _ _ _ _ _ _ _ _ _ _ _ _ _ _ _ _ _ _ _ _ _ _ _ _ _ _ _ _ _ _ _ _ _ _ _ _ _ _ _ _ _ _ _ _ _ _ _ _ _ _ _ _ _ _ _ _ _ _ _ _ _ _ _ _ _ _ _ _ _ _ _ _ _ _ _ _ _ _ _ _ _ _ _ _ _ _ _ _ _ _ _ _ _ _ _ _ _ _ _ _ _ _ _ _ _ _ _ HN

set_option maxHeartbeats 8000000 in
set_option maxRecDepth 100000 in
theorem sw_do2 (s0 s1 s2 s3 s4 s5 s9 s10 s12 s15 s17 s18 s19 s20 s21 s22 s23 s24 s25 s26 s27 s28 s29 s30 s31 s32 s33 s34 s35 s36 s37 s38 s39 s40 s41 s42 s43 s44 s45 s46 s47 s48 s49 s50 s51 s52 s53 s54 s55 s56 s57 s58 s59 s60 s61 s62 s63 s64 s65 s66 s67 s68 s69 s70 s71 s72 s73 s74 s75 s76 s78 s79 s80 s81 s82 s83 s84 s85 s86 s87 s88 s89 s90 s91 s92 s93 s94 s95 s96 s97 s98 s99 s100 s101 s102 s103 s104 s105 s106 s107 s108 s109 s110 s111 s112 s113 s114 s115 s116 s117 s118 s119 s120 s121 s122 s123 s124 s125 s126 s127 s128 s129 s130 s131 s132 s133 s134 s135 s136 s137 s138 s139 s140 s141 s142 s143 s144 s145 s146 s147 s148 s149 s150 s151 s152 s153 s154 s155 s156 s157 s158 s159 s160 s161 s162 s163 s164 s165 s166 s167 s168 s169 s170 s171 s172 s173 s174 s175 s176 s177 s178 s179 s180 s181 s182 s183 s184 s185 s186 s187 s188 s189 s190 s191 s192 s193 s194 s195 s196 s197 s198 s199 s200 s201 s202 s203 s204 s205 s206 s207 s208 s209 s210 s211 s212 s213 s214 s215 s216 s217 s218 s219 s220 s221 s222 s223 s224 s225 s226 s227 s228 s229 s230 s231 s232 s233 s234 s235 s236 s237 s238 s239 s240 s241 s242 s243 s244 s245 s246 s247 s248 : Value) (w wr : World) (a m at_ k n ob : Nat) (c : Int) (S : DiskS) (f : Int → List UInt8) (j : Nat) (okind on_ : Int) (oao : Option Addr) (olen ocap : Nat) (ol : List PutL) 
    (K : Act → World → Prop) (Q : Exit → Act → World → Prop)
    (hat : at_ ≤ 60) (hk60 : k < 60) (hnew : w.heap.size ≤ a ∧ w.heap.size ≤ m) (hB : CrB w a m at_ k n S f s9 wr) (hoff : S.off = false) (hj : IsJour wr j ⟨a, at_, n, false, 0⟩) (hjn : w.heap.size ≤ j) (hcalm : Calm S at_ n f) (ho : wr.heap[ob]? = some (.cells #[.int .i64 okind, .int .i64 on_, .slice oao olen ocap] 34)) (hol : PutsIs w oao olen ol) (hQ : ∀ c a d v w, Q (.panic c) (Act.put a d v) w → Q (.panic c) a w) (hc : c = 2) (hg : Grp at_ 259 ol)
    (hK : ∀ (u4 u17 u18 u19 u20 u21 u22 u23 u24 u25 u78 u79 u80 u81 u82 u83 u84 u85 u86 u87 u88 u89 u90 u91 u92 u93 u94 u95 u96 u97 u98 u99 u100 u101 u102 u103 u104 u105 u106 u107 u108 u109 u110 u111 u112 u113 u114 u115 u116 u117 u118 u119 u120 u121 u122 u123 u124 u125 u126 u127 u128 u129 u130 u131 u132 u133 u134 u135 u136 u137 u138 u139 u140 u141 u142 u143 u144 u145 u146 u147 u148 u149 u150 u151 u152 u153 u154 u155 u156 u157 u158 u159 u160 u161 u162 u163 u164 u165 u166 u167 u168 u169 u170 u171 u172 u173 u174 u175 u176 u177 u178 u179 u180 u181 u182 u183 u184 u185 u186 u187 u188 u189 u190 u191 u192 u193 u194 u195 u196 u197 u198 u199 u200 u201 u202 u203 u204 u205 u206 u207 u208 u209 u210 u211 u212 u213 u214 u215 u216 u217 u218 u219 u220 u221 u222 u223 u224 jv hv' hd' : Value) (n' : Nat) (sm' fr' : Bool) (w' : World), Hid (CrSt w a m at_ (k + 1) jv hv' n' hd' sm' fr' w') → K ⟨#[s0, s1, s2, s3, u4, s5, (.int .i64 (at_ : Int)), (.pointer (some ⟨a, 0, none⟩)), jv, hv', s10, (.int .i64 (n' : Int)), hd', (.bool sm'), (.bool fr'), s15, (.pointer (some ⟨ob, 0, none⟩)), u17, u18, u19, u20, u21, u22, u23, u24, u25, s26, s27, s28, s29, s30, s31, s32, s33, s34, s35, s36, s37, s38, s39, s40, s41, s42, s43, s44, s45, s46, s47, s48, s49, s50, s51, s52, s53, s54, s55, s56, s57, s58, s59, s60, s61, s62, s63, s64, s65, s66, s67, s68, s69, s70, s71, s72, s73, s74, s75, s76, (.int .i64 c), u78, u79, u80, u81, u82, u83, u84, u85, u86, u87, u88, u89, u90, u91, u92, u93, u94, u95, u96, u97, u98, u99, u100, u101, u102, u103, u104, u105, u106, u107, u108, u109, u110, u111, u112, u113, u114, u115, u116, u117, u118, u119, u120, u121, u122, u123, u124, u125, u126, u127, u128, u129, u130, u131, u132, u133, u134, u135, u136, u137, u138, u139, u140, u141, u142, u143, u144, u145, u146, u147, u148, u149, u150, u151, u152, u153, u154, u155, u156, u157, u158, u159, u160, u161, u162, u163, u164, u165, u166, u167, u168, u169, u170, u171, u172, u173, u174, u175, u176, u177, u178, u179, u180, u181, u182, u183, u184, u185, u186, u187, u188, u189, u190, u191, u192, u193, u194, u195, u196, u197, u198, u199, u200, u201, u202, u203, u204, u205, u206, u207, u208, u209, u210, u211, u212, u213, u214, u215, u216, u217, u218, u219, u220, u221, u222, u223, u224, s225, s226, s227, s228, s229, s230, s231, s232, s233, s234, s235, s236, s237, s238, s239, s240, s241, s242, s243, s244, s245, s246, s247, s248], []⟩ w') :
    Code.wp Try.prog sw (Exit.then K Q) ⟨#[s0, s1, s2, s3, s4, s5, (.int .i64 (at_ : Int)), (.pointer (some ⟨a, 0, none⟩)), (.pointer (some ⟨j, 0, none⟩)), s9, s10, (.int .i64 (n : Int)), s12, (.bool false), (.bool false), s15, (.pointer (some ⟨ob, 0, none⟩)), s17, s18, s19, s20, s21, s22, s23, s24, s25, s26, s27, s28, s29, s30, s31, s32, s33, s34, s35, s36, s37, s38, s39, s40, s41, s42, s43, s44, s45, s46, s47, s48, s49, s50, s51, s52, s53, s54, s55, s56, s57, s58, s59, s60, s61, s62, s63, s64, s65, s66, s67, s68, s69, s70, s71, s72, s73, s74, s75, s76, (.int .i64 c), s78, s79, s80, s81, s82, s83, s84, s85, s86, s87, s88, s89, s90, s91, s92, s93, s94, s95, s96, s97, s98, s99, s100, s101, s102, s103, s104, s105, s106, s107, s108, s109, s110, s111, s112, s113, s114, s115, s116, s117, s118, s119, s120, s121, s122, s123, s124, s125, s126, s127, s128, s129, s130, s131, s132, s133, s134, s135, s136, s137, s138, s139, s140, s141, s142, s143, s144, s145, s146, s147, s148, s149, s150, s151, s152, s153, s154, s155, s156, s157, s158, s159, s160, s161, s162, s163, s164, s165, s166, s167, s168, s169, s170, s171, s172, s173, s174, s175, s176, s177, s178, s179, s180, s181, s182, s183, s184, s185, s186, s187, s188, s189, s190, s191, s192, s193, s194, s195, s196, s197, s198, s199, s200, s201, s202, s203, s204, s205, s206, s207, s208, s209, s210, s211, s212, s213, s214, s215, s216, s217, s218, s219, s220, s221, s222, s223, s224, s225, s226, s227, s228, s229, s230, s231, s232, s233, s234, s235, s236, s237, s238, s239, s240, s241, s242, s243, s244, s245, s246, s247, s248], []⟩ wr := by
  conv => arg 2; whnf
  have HB := Lib.hid hB
  have HCALM := Lib.hid hcalm
  have HOFF := Lib.hid hoff
  have HJ := Lib.hid hj
  have HJN := Lib.hid hjn
  have HO := Lib.hid ho
  have HOL := Lib.hid hol
  have HG := Lib.hid hg
  have HNEW := Lib.hid hnew
  have c2 : wr.cell? ⟨ob, 2, none⟩ = some (.slice oao olen ocap) := cell_of_row wr _ 2 _ _ _ ho
  have HKK := Lib.hid hK
  clear hB hcalm hoff hj hjn ho hol hg hnew hK
  subst hc
  have HPW := Lib.hid (HOL.out.kept HB.out.kept (Off.nil _))
  have hgk : n < 1000 := by have := HB.out.gk; omega
  have hwb : S.writes < 1000000 := by have := HB.out.writes; omega
  go_wp2_with fail
  refine (commit_fz _ a j at_ n S HB.out.disk HJ.out HOFF.out HCALM.out.1 (by rw [HB.out.size]; omega) oao olen ocap ol HPW.out (by rw [HB.out.size]; exact HG.out) (by omega) (by omega)).mono ?_
  rintro e w2 ⟨x, S2, rfl, hd2, hs2, hm2, hw2, hout, ⟨J2, hj2, hJ2⟩, hk2⟩
  have hoff3 : Off wr [a, S.m, j] := (HB.out.disk.off.append HJ.out.off).mono (by simp)
  have hobx : ob ∉ [a, S.m, j] := by
    have e1 := ne_ty HO.out HB.out.disk.here (by decide)
    have e2 : S.m ≠ ob := fun e => HB.out.disk.map.notCells (e ▸ HO.out)
    have e3 := ne_ty HO.out HJ.out (by decide)
    simp
    exact ⟨fun e => e1 e.symm, fun e => e2 e.symm, fun e => e3 e.symm⟩
  have hnx : ∀ i ∈ [a, S.m, j], w.heap.size ≤ i := by have h1 := HNEW.out; have h2 := HJN.out; rw [HB.out.m]; simp; exact ⟨h1.1, h1.2, h2⟩
  have hk2d : Kept [a, S.m, j] wr w2.drew := hk2.trans (Kept.drew _ _)
  have HK2 := Lib.hid hk2d
  have HO2 := Lib.hid (hk2d.heap hobx HO.out)
  have CA : ∀ w', Kept [] w2.drew w' → w'.cell? ⟨ob, 2, none⟩ = some (.slice oao olen ocap) := fun w' hk => cell_of_row w' _ 2 _ _ _ (hk.heap (by simp) HO2.out)
  have HD2 := Lib.hid (hd2.kept (Kept.drew [] _) (by simp) (by simp))
  have HJ2 := Lib.hid (hj2.kept (Kept.drew [] _) (by simp))
  have HJE := Lib.hid hJ2
  have HP2 := Lib.hid (HPW.out.kept hk2d hoff3)
  have HSZ : Hid (S2.size = 259) := hs2.trans HB.out.size
  have HB2 : Hid (∀ n' : Nat, n' ≤ k + 1 → CrB w a m at_ (k + 1) n' S2 f s9 w2.drew) := fun n' hn' => HB.out.step hk2d hoff3 hnx HD2.out hm2 hs2 (by omega) hn'
  have HOX := Lib.hid hout
  clear hk2 hk2d c2 hd2 hj2 hJ2 hoff3 hobx hnx hs2 hm2 hw2 hout
  rcases HOX.out with ⟨hx, ho1, ho2, ho3, _⟩ | ⟨hx, ho1, _, ho3⟩
  · subst hx
    have HJ3 : Hid (IsJour w2.drew j ⟨a, at_, n + 1, false, 0⟩) := by have h3 := HJ2.out; rw [HJE.out rfl] at h3; exact h3
    have HR := Lib.hid (And.intro ho1 (And.intro ho2 ho3))
    clear ho1 ho2 ho3 HOX
    go_wp2_with fail
    refine wp_region_ord [(true, 0), (true, 1), (true, 2), (true, 3), (false, 4), (false, 5), (true, 6)] [] (by kernel_rfl) (fun _ _ d _ _ h => hQ _ _ d _ _ h) (by kernel_rfl) rfl (by kernel_rfl) (by kernel_rfl) ?_
    simp only [named, List.getD_cons_zero, List.getD_cons_succ]
    repeat (first | (apply wpGrow_take; (case hw => rfl); (case hv => intro w' hk; go_simp; with_reducible rfl); simp only [Act.put, List.setIfInBounds_toArray, List.set_cons_zero, List.set_cons_succ]) | (refine wpGrow_pass (by rfl) ?_; simp only [Act.put, List.setIfInBounds_toArray, List.set_cons_zero, List.set_cons_succ]))
    refine wpGrow_force (by rfl) (fun K hK => ?_)
    go_simp
    refine (len_any a S2 _ HD2.out).mono ?_
    rw [HSZ.out]
    rintro e w9 ⟨rfl, rfl⟩
    refine hK _ _ (Kept.refl _ _) ?_
    clear hK K
    repeat (first | (apply wpGrow_take; (case hw => rfl); (case hv => intro w' hk; go_simp; with_reducible rfl); simp only [Act.put, List.setIfInBounds_toArray, List.set_cons_zero, List.set_cons_succ]) | (refine wpGrow_pass (by rfl) ?_; simp only [Act.put, List.setIfInBounds_toArray, List.set_cons_zero, List.set_cons_succ]))
    refine wpGrow_force (by rfl) (fun K hK => ?_)
    go_simp
    refine (group_any _ oao olen ocap ol HP2.out at_ 259 _ rfl (by omega) true (iff_of_true rfl HG.out)).mono ?_
    rintro e w4 ⟨rfl, hk4⟩
    refine hK _ _ hk4 ?_
    clear hK K
    have HK4 := Lib.hid hk4
    clear hk4
    repeat (first | (apply wpGrow_take; (case hw => rfl); (case hv => intro w' hk; go_simp; with_reducible rfl); simp only [Act.put, List.setIfInBounds_toArray, List.set_cons_zero, List.set_cons_succ]) | (refine wpGrow_pass (by rfl) ?_; simp only [Act.put, List.setIfInBounds_toArray, List.set_cons_zero, List.set_cons_succ]))
    refine wpGrow_nil ?_
    clear CA
    have d2 : w4.cell? ⟨ob, 2, none⟩ = some (.slice oao olen ocap) := cell_of_row w4 _ 2 _ _ _ (HK4.out.heap (by simp) HO2.out)
    go_wp2_with fail
    have HB4 := Lib.hid ((HB2.out (n + 1) (by have := HB.out.gk; omega)).grow HK4.out)
    refine (with_any w4 s9 f at_ _ rfl hat _ rfl HB4.out.has oao olen ocap ol (HP2.out.kept HK4.out (Off.nil _)) HG.out).mono ?_
    rintro e w5 ⟨v5, rfl, hr5, hk5⟩
    have HN : Hid (CrSt w a m at_ (k + 1) (.pointer (some ⟨j, 0, none⟩)) v5 (n + 1) s12 false false w5) := by
      have h := HR.out
      have hb := HB4.out.grow hk5
      exact .on S2 (applyL f ol) j ⟨hb.disk, hb.m, hb.size, hb.writes, hb.gk, hr5, hb.kept⟩ h.1 ⟨h.2.1, fun i hi => by rw [h.2.2 i hi]; exact applyL_mid (fun _ => HCALM.out.2 i hi)⟩ ((HJ3.out.kept HK4.out (by simp)).kept hk5 (by simp)) HJN.out rfl rfl rfl
    clear hr5 hk5 d2
    go_wp2_with fail
    refine HKK.out _ _ _ _ _ _ _ _ _ _ _ _ _ _ _ _ _ _ _ _ _ _ _ _ _ _ _ _ _ _ _ _ _ _ _ _ _ _ _ _ _ _ _ _ _ _ _ _ _ _ _ _ _ _ _ _ _ _ _ _ _ _ _ _ _ _ _ _ _ _ _ _ _ _ _ _ _ _ _ _ _ _ _ _ _ _ _ _ _ _ _ _ _ _ _ _ _ _ _ _ _ _ _ _ _ _ _ _ _ _ _ _ _ _ _ _ _ _ _ _ _ _ _ _ _ _ _ _ _ _ _ _ _ _ _ _ _ _ _ _ _ _ _ _ _ _ _ _ _ _ _ _ _ _ _ _ _ _ _ _ _ _ _ _ HN
  · subst hx
    have HR := Lib.hid (And.intro ho1 ho3)
    clear ho1 ho3 HOX
    go_wp2_with fail
    refine wp_region_ord [(true, 0), (true, 1), (true, 2), (true, 3), (false, 4), (false, 5), (true, 6)] [] (by kernel_rfl) (fun _ _ d _ _ h => hQ _ _ d _ _ h) (by kernel_rfl) rfl (by kernel_rfl) (by kernel_rfl) ?_
    simp only [named, List.getD_cons_zero, List.getD_cons_succ]
    repeat (first | (apply wpGrow_take; (case hw => rfl); (case hv => intro w' hk; go_simp; with_reducible rfl); simp only [Act.put, List.setIfInBounds_toArray, List.set_cons_zero, List.set_cons_succ]) | (refine wpGrow_pass (by rfl) ?_; simp only [Act.put, List.setIfInBounds_toArray, List.set_cons_zero, List.set_cons_succ]))
    refine wpGrow_force (by rfl) (fun K hK => ?_)
    go_simp
    refine (len_any a S2 _ HD2.out).mono ?_
    rw [HSZ.out]
    rintro e w9 ⟨rfl, rfl⟩
    refine hK _ _ (Kept.refl _ _) ?_
    clear hK K
    repeat (first | (apply wpGrow_take; (case hw => rfl); (case hv => intro w' hk; go_simp; with_reducible rfl); simp only [Act.put, List.setIfInBounds_toArray, List.set_cons_zero, List.set_cons_succ]) | (refine wpGrow_pass (by rfl) ?_; simp only [Act.put, List.setIfInBounds_toArray, List.set_cons_zero, List.set_cons_succ]))
    refine wpGrow_force (by rfl) (fun K hK => ?_)
    go_simp
    refine (group_any _ oao olen ocap ol HP2.out at_ 259 _ rfl (by omega) true (iff_of_true rfl HG.out)).mono ?_
    rintro e w4 ⟨rfl, hk4⟩
    refine hK _ _ hk4 ?_
    clear hK K
    have HK4 := Lib.hid hk4
    clear hk4
    repeat (first | (apply wpGrow_take; (case hw => rfl); (case hv => intro w' hk; go_simp; with_reducible rfl); simp only [Act.put, List.setIfInBounds_toArray, List.set_cons_zero, List.set_cons_succ]) | (refine wpGrow_pass (by rfl) ?_; simp only [Act.put, List.setIfInBounds_toArray, List.set_cons_zero, List.set_cons_succ]))
    refine wpGrow_nil ?_
    clear CA
    have d2 : w4.cell? ⟨ob, 2, none⟩ = some (.slice oao olen ocap) := cell_of_row w4 _ 2 _ _ _ (HK4.out.heap (by simp) HO2.out)
    have HN : Hid (CrSt w a m at_ (k + 1) (.pointer (some ⟨j, 0, none⟩)) s9 n (.slice oao olen ocap) true false w4) := by
      refine .hand S2 f ol oao olen ocap ((HB2.out n (by have := HB.out.gk; omega)).grow HK4.out) HR.out.1 rfl HOL.out HG.out ?_ rfl rfl
      rcases HR.out.2 with ⟨r1, r2⟩ | ⟨r1, r2⟩
      · exact .inl ⟨r1, fun i hi => by rw [r2 i hi]; exact HCALM.out.2 i hi⟩
      · exact .inr (.inl ⟨r1, fun i hi hn => by rw [r2 i hi hn]; exact HCALM.out.2 i hi⟩)
    go_wp2_with fail
    refine HKK.out _ _ _ _ _ _ _ _ _ _ _ _ _ _ _ _ _ _ _ _ _ _ _ _ _ _ _ _ _ _ _ _ _ _ _ _ _ _ _ _ _ _ _ _ _ _ _ _ _ _ _ _ _ _ _ _ _ _ _ _ _ _ _ _ _ _ _ _ _ _ _ _ _ _ _ _ _ _ _ _ _ _ _ _ _ _ _ _ _ _ _ _ _ _ _ _ _ _ _ _ _ _ _ _ _ _ _ _ _ _ _ _ _ _ _ _ _ _ _ _ _ _ _ _ _ _ _ _ _ _ _ _ _ _ _ _ _ _ _ _ _ _ _ _ _ _ _ _ _ _ _ _ _ _ _ _ _ _ _ _ _ _ _ _ HN
end Go.Proofs.Ytmckapfncnoddaa

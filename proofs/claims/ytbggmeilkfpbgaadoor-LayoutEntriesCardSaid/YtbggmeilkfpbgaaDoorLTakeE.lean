/-
  Layer 3: the program's TakeEntries, at bytes of whole records.
  Conditions: those that each theorem states.
-/
import Derived.Test.YtbggmeilkfpbgaaDoorLEntQ
namespace Go.Proofs.YtbggmeilkfpbgaaDoor
open Go.RowKit Go.Maps

def takeEB (B : List UInt8) (N : Nat) : Bool := goodB (entsOf B N) && decide (entsL (entsOf B N) = B)
def TakeEOut (B : List UInt8) (N : Nat) (w : World) (e : Ending) (w' : World) : Prop :=
  Kept [] w w' ∧ ((takeEB B N = false ∧ e = .returned (.tuple #[.slice none 0 0, .int .i64 4])) ∨
    (takeEB B N = true ∧ ∃ v, e = .returned (.tuple #[v, .int .i64 0]) ∧ w'.ownsRow w.heap.size 38 2 v N (ev (entsOf B N))))
theorem nmL_le {R : List UInt8} (h : R.length ≤ 32) : (nmL R).length ≤ 30 := by unfold nmL; rw [List.length_take, List.length_drop]; omega
theorem entsOf_names (B : List UInt8) (N : Nat) : ∀ x ∈ entsOf B N, x.2.length ≤ 140737488355328 := fun x hx => by
  simp only [entsOf, List.mem_map] at hx
  obtain ⟨i, _, rfl⟩ := hx
  have : (nmL (recAt B i)).length ≤ 30 := nmL_le (by simp [recAt]; omega)
  show (nmL (recAt B i)).length ≤ _
  omega

set_option maxRecDepth 100000 in
set_option maxHeartbeats 4000000 in
theorem takeE_go (ao : Option Addr) (cap N : Nat) (B : List UInt8) (w : World) (hN : N ≤ 16) (hB : B.length = 32 * N) (hc : 32 * N ≤ cap) (hc63 : cap ≤ 9223372036854775807) (hnil : ao = none → cap = 0) (hS : N = 0 ∨ ∃ b o, ao = some ⟨b, o, none⟩ ∧ b < w.heap.size ∧ w.rangeAt b o (bv B)) :
    Calls Tryd.prog 12 #[.slice ao (32 * N) cap] w (TakeEOut B N w) := by
  have HBL := Lib.hid hB
  have HSS := Lib.hid hS
  have HNIL := Lib.hid hnil
  clear hB hS hnil
  have hm : ((32 * (N : Int)).tmod 32) = 0 := by rw [Int.tmod_eq_emod_of_nonneg (by omega)]; omega
  have h512 : 32 * (N : Int) ≤ 512 := by omega
  have h512' : ¬ (512 : Int) < 32 * (N : Int) := by omega
  go_enter Tryd.func12, Tryd.ntmps12
  go_wp2_with fail
  go_loopw [4, 5] (fun v i wr => ∃ k : Nat, k ≤ N ∧ i = .int .i64 (32 * (k : Int)) ∧ Hid (TeSt w B k v wr)) (fun _ i _ => 32 * N - (intOf i).toNat)
  case atStart => exact ⟨0, by omega, rfl, World.ownsRow_nil _ _ _ _, Kept.refl _ _⟩
  case round =>
    obtain ⟨k, hk, rfl, HS⟩ := hrel
    by_cases hlt : k < N
    · obtain ⟨b, o, rfl, hb, hrr⟩ : ∃ b o, ao = some ⟨b, o, none⟩ ∧ b < w.heap.size ∧ w.rangeAt b o (bv B) := by
        rcases HSS.out with h0 | h0
        · omega
        · exact h0
      have HRR := Lib.hid hrr
      clear hrr
      obtain ⟨R, hR⟩ : ∃ R, recAt B k = R := ⟨_, rfl⟩
      have hRl : R.length = 32 := by rw [← hR]; exact recAt_length (by rw [HBL.out]; omega)
      have hRg : Hid (∀ w', Kept [] w w' → w'.rangeAt b (o + 32 * k) (bv R)) := fun w' hk' j v hv => by
        have := hk'.range hb (by simp) HRR.out (32 * k + j) v (by
          rw [← hR] at hv
          unfold recAt at hv
          have hj : j < 32 := by have := (List.getElem?_eq_some_iff.1 hv).1; simp [bv] at this; omega
          simp only [bv, List.getElem?_map] at hv ⊢
          rw [List.getElem?_take_of_lt hj, List.getElem?_drop] at hv
          exact hv)
        rw [Nat.add_assoc]; exact this
      have har := run_arrayAt (P := Tryd.prog) 55 5 32 Tryd.underlying55 (some ⟨b, o + 32 * k, none⟩) 32 (cap - 32 * k) (Nat.le_refl _)
      have hsz : (Tryd.prog.info? 55).map (·.size) = some (bv R).length := by rw [bv_length, hRl]; exact size64
      have w32 : IntKind.i64.wrap (32 * (k : Int) + 32) = 32 * (k : Int) + 32 := by rw [IntKind.wrap_i64]; omega
      have a0 : (0 : Int) ≤ 32 * (k : Int) := by omega
      have a1 : (32 * (k : Int)) ≤ 32 * (k : Int) + 32 := by omega
      have a2 : (32 * (k : Int)) + 32 ≤ (cap : Int) := by omega
      have a3 : (32 * (k : Int)).toNat = 32 * k := by omega
      have a4 : (32 * (k : Int) + 32).toNat = 32 * k + 32 := by omega
      have a5 : ¬ cap = 32 * k := by omega
      have a6 : 32 * k + 32 - 32 * k = 32 := by omega
      have hrg := hRg.out wr HS.out.kept
      have HRL := Lib.hid hRl
      have HRE := Lib.hid hR
      clear hR hRl
      go_wp2_with (refine wpList_load_mid rfl 55 _ rfl _ (o + 32 * k) rfl (bv R) _ hrg Tryd.underlying55 rfl hsz ?_)
      refine (readEntry_any R _ HRL.out).mono ?_
      rintro e w5 ⟨rfl, hk5⟩
      obtain ⟨n, hn⟩ : ∃ n, byteN R 0 = n := ⟨_, rfl⟩
      obtain ⟨p, hp⟩ : ∃ p, nmL R = p := ⟨_, rfl⟩
      rw [hn, hp]
      have HX : Hid (entAt B k = ((n : Int), p)) := by show _ = _; unfold entAt; rw [HRE.out, hn, hp]
      have HS5 : Hid (TeSt w B k u4 w5) := ⟨owns_kept HS.out.own hk5 (by simp), HS.out.kept.trans hk5⟩
      obtain ⟨v', w7, hrun, hst7⟩ := HS5.out.next (by omega) n p HX.out
      have HRUN := Lib.hid hrun
      have H7 := Lib.hid hst7
      clear hk5 HS hrun hst7 hn hp hrg har
      go_wp2_with (at_builtin; refine wpList_append_run rfl _ _ 34 rfl _ _ _ rfl rfl HRUN.out ?_)
      go_roundw
      case rel => exact ⟨k + 1, by omega, by go_num, H7⟩
      case measure => simp [intOf]; omega
    · have hkn : k = N := by omega
      have HS2 : Hid (TeSt w B N u4 wr) := by have := HS.out; rw [hkn] at this; exact this
      clear HS
      have hlt2 : ¬ 32 * (k : Int) < 32 * (N : Int) := by omega
      clear hkn
      obtain ⟨ao4, cp4, rfl, _, hcp4, hents⟩ := own_ents HS2.out.own (by omega) (entsOf_names B N)
      have HEN := Lib.hid hents
      clear hents
      cases hg : goodB (entsOf B N)
      · have HG := Lib.hid hg
        have HT : Hid (takeEB B N = false) := by show _ = _; unfold takeEB; rw [hg, Bool.false_and]
        clear hg
        go_wp2_with fail
        refine (putE_no ao4 N cp4 (entsOf B N) _ HEN.out hN HG.out).mono ?_
        rintro e w8 ⟨hk8, ⟨h1, _⟩ | ⟨_, _, rfl⟩ | ⟨_, h1, _⟩⟩
        · rw [entsOf_length] at h1; omega
        · have HK8 := Lib.hid (HS2.out.kept.trans hk8)
          clear hk8
          go_wp2_with fail
          go_ret2
          exact ⟨HK8.out, .inl ⟨HT.out, rfl⟩⟩
        · rw [HG.out] at h1; cases h1
      · have HG := Lib.hid hg
        have HT : Hid (takeEB B N = decide (entsL (entsOf B N) = B)) := by show _ = _; unfold takeEB; rw [hg, Bool.true_and]
        clear hg
        go_wp2_with fail
        refine (putE_yes ao4 N cp4 (entsOf B N) _ HEN.out hN HG.out).mono ?_
        rintro e w8 ⟨hk8, ⟨h1, _⟩ | ⟨_, h1, _⟩ | ⟨_, _, v8, rfl, hv8, _⟩⟩
        · rw [entsOf_length] at h1; omega
        · rw [HG.out] at h1; cases h1
        · have HK8 := Lib.hid (HS2.out.kept.trans hk8)
          have HV8 := Lib.hid hv8
          have HO8 := Lib.hid (owns_kept HS2.out.own hk8 (by simp))
          have HB8 : Hid (ConvIs w8 (.slice ao (32 * N) cap) B) := by
            rcases HSS.out with h0 | ⟨b, o, rfl, hbs, hrr⟩
            · have hB0 : B = [] := List.eq_nil_of_length_eq_zero (by rw [HBL.out, h0])
              rw [hB0, h0]
              exact conv_empty w8 ao cap HNIL.out
            · exact (show SlIs w8 (.slice (some ⟨b, o, none⟩) (32 * N) cap) B from .inl ⟨b, o, cap, by rw [HBL.out], Nat.lt_of_lt_of_le hbs HK8.out.size, HK8.out.range hbs (by simp) hrr⟩).conv
          clear hk8 hv8
          cases hd : decide (entsL (entsOf B N) = B)
          · have HD := Lib.hid hd
            clear hd
            go_wp2_with fail
            refine (bytesEqual_any _ _ _ _ _ HV8.out.conv HB8.out).mono ?_
            rw [HD.out]
            rintro e w9 ⟨rfl, rfl⟩
            go_wp2_with fail
            go_ret2
            exact ⟨HK8.out, .inl ⟨by rw [HT.out]; exact HD.out, rfl⟩⟩
          · have HD := Lib.hid hd
            clear hd
            go_wp2_with fail
            refine (bytesEqual_any _ _ _ _ _ HV8.out.conv HB8.out).mono ?_
            rw [HD.out]
            rintro e w9 ⟨rfl, rfl⟩
            go_wp2_with fail
            go_ret2
            exact ⟨HK8.out, .inr ⟨by rw [HT.out]; exact HD.out, _, rfl, HO8.out⟩⟩

theorem takeE_bad (ao : Option Addr) (len cap : Nat) (w : World) (h63 : len ≤ 9223372036854775807) (h : 0 < len % 32 ∨ 512 < len) :
    Calls Tryd.prog 12 #[.slice ao len cap] w fun e w' => e = .returned (.tuple #[.slice none 0 0, .int .i64 4]) ∧ w = w' := by
  by_cases h1 : 0 < len % 32
  · have hm : (0 : Int) < (len : Int).tmod 32 := by rw [Int.tmod_eq_emod_of_nonneg (by omega)]; omega
    go_enter Tryd.func12, Tryd.ntmps12
    go_wp2_with fail
    go_ret2
    exact ⟨rfl, rfl⟩
  · have hm : (len : Int).tmod 32 = 0 := by rw [Int.tmod_eq_emod_of_nonneg (by omega)]; omega
    have h2 : (512 : Int) < (len : Int) := by omega
    go_enter Tryd.func12, Tryd.ntmps12
    go_wp2_with fail
    go_ret2
    exact ⟨rfl, rfl⟩
end Go.Proofs.YtbggmeilkfpbgaaDoor

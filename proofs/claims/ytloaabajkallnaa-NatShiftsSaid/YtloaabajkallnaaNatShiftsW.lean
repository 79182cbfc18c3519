/-
  The walk of NatShifts: for all arguments, the call answers true, and nothing that was there has turned.
-/
import Derived.Test.YtloaabajkallnaaLaw
import Derived.Test.YtloaabajkallnaaRefe
namespace Go.Proofs.Ytloaabajkallnaa
open Go.RowKit
set_option linter.unusedVariables false

theorem wf_i64 {n : Int} (h : (Lit.int .i64 n).wf = true) : n ≤ 9223372036854775807 := by
  simp [Lit.wf, IntKind.min, IntKind.max, IntKind.signed, IntKind.bits] at h
  omega

set_option maxHeartbeats 4000000 in
theorem natShifts_walk (a0 : Option Addr) (len0 cap0 : Nat) (z0 : List Int) (a1 : Int) (w : World) (w0 : RowIn w a0 len0 cap0 z0) (w1 : (Lit.int .i64 a1).wf = true) :
    Calls Try.prog 5 #[.slice a0 len0 cap0, .int .i64 a1] w fun e w' => e = .returned (.bool true) ∧ Below w.heap.size w w' := by
  have l0 := w0.len
  have hzb := wf_i64 w1
  by_cases h0 : len0 ≤ 40
  · have h1 : 0 ≤ 40 := by omega
    obtain ⟨a, sa⟩ := w0.rd (by omega)
    clear w0 w1
    obtain ⟨r, hr⟩ : ∃ r, rt a = r := ⟨_, rfl⟩
    obtain ⟨t, ht⟩ : ∃ t : Bool, decide (r * r = a) = t := ⟨_, rfl⟩
    have HR := Lib.hid hr
    have HT := Lib.hid ht
    clear hr ht
    by_cases hz : a1 < 1
    · have t1 : decide (3000 < a1) = false := by simp; omega
      go_enter Try.func5, Try.ntmps5
      go_wp2_with (first
        | (go_at_call 12; ((with_reducible refine (awake_any _).mono ?_); rintro e w1 ⟨rfl, B⟩; replace sa := sa.below B; have HB := Lib.hid B; clear B))
        | (go_at_call 13; ((with_reducible refine (few_yes _ _ _ _ _ _ _ h0 h1).mono ?_); rintro e w' ⟨rfl, rfl⟩))
        | (go_at_call 29; ((with_reducible refine (vShl_low a1 sa hz).mono ?_); rintro e w2 ⟨A1, n1, c1, rfl, s1, k1, B⟩; replace sa := sa.below B; replace HB := Lib.hid (HB.out.trans (B.mono HB.out.size)); clear B))
        | (go_at_call 30; ((with_reducible refine (rShl_low a1 sa hz).mono ?_); rintro e w3 ⟨A2, n2, c2, rfl, s2, k2, B⟩; replace sa := sa.below B; replace s1 := s1.below B; replace HB := Lib.hid (HB.out.trans (B.mono HB.out.size)); clear B))
        | (go_at_call 16; ((with_reducible refine (rSame s1 s2).mono ?_); rintro e w4 ⟨rfl, B⟩; replace sa := sa.below B; replace HB := Lib.hid (HB.out.trans (B.mono HB.out.size)); clear B))
        | (go_at_call 31; ((with_reducible refine (vShr a1 sa hzb).mono ?_); rintro e w5 ⟨A3, n3, c3, rfl, s3, k3, B⟩; replace sa := sa.below B; replace HB := Lib.hid (HB.out.trans (B.mono HB.out.size)); clear B))
        | (go_at_call 32; ((with_reducible refine (rShrP a1 sa (by omega)).mono ?_); rintro e w6 ⟨A4, n4, c4, rfl, s4, k4, B⟩; replace sa := sa.below B; replace s3 := s3.below B; replace HB := Lib.hid (HB.out.trans (B.mono HB.out.size)); clear B))
        | (go_at_call 16; ((with_reducible refine (rSame s3 s4).mono ?_); rintro e w7 ⟨rfl, B⟩; replace sa := sa.below B; replace HB := Lib.hid (HB.out.trans (B.mono HB.out.size)); clear B))
        | (go_at_call 33; ((with_reducible refine (vRootE sa (by omega) HR.out HT.out).mono ?_); rintro e w8 ⟨A5, n5, c5, rfl, s5, k5, B⟩; replace sa := sa.below B; replace HB := Lib.hid (HB.out.trans (B.mono HB.out.size)); clear B))
        | (go_at_call 34; ((with_reducible refine (rRoot sa (by omega) HR.out HT.out).mono ?_); rintro e w9 ⟨A6, n6, c6, rfl, s6, k6, B⟩; replace sa := sa.below B; replace s5 := s5.below B; replace HB := Lib.hid (HB.out.trans (B.mono HB.out.size)); clear B))
        | (go_at_call 16; ((with_reducible refine (rSame s5 s6).mono ?_); rintro e w10 ⟨rfl, B⟩; replace sa := sa.below B; replace HB := Lib.hid (HB.out.trans (B.mono HB.out.size)); clear B)))
      go_ret
      exact ⟨rfl, HB.out⟩
    · by_cases hz2 : a1 ≤ 3000
      · obtain ⟨s, rfl⟩ := Int.eq_ofNat_of_zero_le (show 0 ≤ a1 by omega)
        have hs1 : 1 ≤ s := by omega
        have t1 : decide ((3000 : Int) < (s : Int)) = false := by simp; omega
        clear hz
        go_enter Try.func5, Try.ntmps5
        go_wp2_with (first
          | (go_at_call 12; ((with_reducible refine (awake_any _).mono ?_); rintro e w1 ⟨rfl, B⟩; replace sa := sa.below B; have HB := Lib.hid B; clear B))
          | (go_at_call 13; ((with_reducible refine (few_yes _ _ _ _ _ _ _ h0 h1).mono ?_); rintro e w' ⟨rfl, rfl⟩))
          | (go_at_call 29; ((with_reducible refine (vShl s sa (by omega) (by omega)).mono ?_); rintro e w2 ⟨A1, n1, c1, rfl, s1, k1, B⟩; replace sa := sa.below B; replace HB := Lib.hid (HB.out.trans (B.mono HB.out.size)); clear B))
          | (go_at_call 30; ((with_reducible refine (rShl s sa (by omega) hs1 (by omega)).mono ?_); rintro e w3 ⟨A2, n2, c2, rfl, s2, k2, B⟩; replace sa := sa.below B; replace s1 := s1.below B; replace HB := Lib.hid (HB.out.trans (B.mono HB.out.size)); clear B))
          | (go_at_call 16; ((with_reducible refine (rSame s1 s2).mono ?_); rintro e w4 ⟨rfl, B⟩; replace sa := sa.below B; replace HB := Lib.hid (HB.out.trans (B.mono HB.out.size)); clear B))
          | (go_at_call 31; ((with_reducible refine (vShr (s : Int) sa hzb).mono ?_); rintro e w5 ⟨A3, n3, c3, rfl, s3, k3, B⟩; replace sa := sa.below B; replace HB := Lib.hid (HB.out.trans (B.mono HB.out.size)); clear B))
          | (go_at_call 32; ((with_reducible refine (rShrP (s : Int) sa (by omega)).mono ?_); rintro e w6 ⟨A4, n4, c4, rfl, s4, k4, B⟩; replace sa := sa.below B; replace s3 := s3.below B; replace HB := Lib.hid (HB.out.trans (B.mono HB.out.size)); clear B))
          | (go_at_call 16; ((with_reducible refine (rSame s3 s4).mono ?_); rintro e w7 ⟨rfl, B⟩; replace sa := sa.below B; replace HB := Lib.hid (HB.out.trans (B.mono HB.out.size)); clear B))
          | (go_at_call 33; ((with_reducible refine (vRootE sa (by omega) HR.out HT.out).mono ?_); rintro e w8 ⟨A5, n5, c5, rfl, s5, k5, B⟩; replace sa := sa.below B; replace HB := Lib.hid (HB.out.trans (B.mono HB.out.size)); clear B))
          | (go_at_call 34; ((with_reducible refine (rRoot sa (by omega) HR.out HT.out).mono ?_); rintro e w9 ⟨A6, n6, c6, rfl, s6, k6, B⟩; replace sa := sa.below B; replace s5 := s5.below B; replace HB := Lib.hid (HB.out.trans (B.mono HB.out.size)); clear B))
          | (go_at_call 16; ((with_reducible refine (rSame s5 s6).mono ?_); rintro e w10 ⟨rfl, B⟩; replace sa := sa.below B; replace HB := Lib.hid (HB.out.trans (B.mono HB.out.size)); clear B)))
        go_ret
        exact ⟨rfl, HB.out⟩
      · clear hz
        by_cases hz : 16777216 < a1
        · have t1 : decide (3000 < a1) = true := by simp; omega
          have t2 : decide (a1 ≤ 16777216) = false := by simp; omega
          go_enter Try.func5, Try.ntmps5
          go_wp2_with (first
            | (go_at_call 12; ((with_reducible refine (awake_any _).mono ?_); rintro e w1 ⟨rfl, B⟩; replace sa := sa.below B; have HB := Lib.hid B; clear B))
            | (go_at_call 13; ((with_reducible refine (few_yes _ _ _ _ _ _ _ h0 h1).mono ?_); rintro e w' ⟨rfl, rfl⟩))
            | (go_at_call 29; ((with_reducible refine (vShl_big a1 hz).mono ?_); rintro e w2 ⟨rfl, B⟩; replace sa := sa.below B; replace HB := Lib.hid (HB.out.trans (B.mono HB.out.size)); clear B))
            | (go_at_call 30; ((with_reducible refine (rShl_big a1 hz).mono ?_); rintro e w3 ⟨rfl, B⟩; replace sa := sa.below B; replace HB := Lib.hid (HB.out.trans (B.mono HB.out.size)); clear B))
            | (go_at_call 16; ((with_reducible refine (rSame Nm.zero Nm.zero).mono ?_); rintro e w4 ⟨rfl, B⟩; replace sa := sa.below B; replace HB := Lib.hid (HB.out.trans (B.mono HB.out.size)); clear B))
            | (go_at_call 31; ((with_reducible refine (vShr a1 sa hzb).mono ?_); rintro e w5 ⟨A3, n3, c3, rfl, s3, k3, B⟩; replace sa := sa.below B; replace HB := Lib.hid (HB.out.trans (B.mono HB.out.size)); clear B))
            | (go_at_call 32; ((with_reducible refine (rShrP a1 sa (by omega)).mono ?_); rintro e w6 ⟨A4, n4, c4, rfl, s4, k4, B⟩; replace sa := sa.below B; replace s3 := s3.below B; replace HB := Lib.hid (HB.out.trans (B.mono HB.out.size)); clear B))
            | (go_at_call 16; ((with_reducible refine (rSame s3 s4).mono ?_); rintro e w7 ⟨rfl, B⟩; replace sa := sa.below B; replace HB := Lib.hid (HB.out.trans (B.mono HB.out.size)); clear B))
            | (go_at_call 33; ((with_reducible refine (vRootE sa (by omega) HR.out HT.out).mono ?_); rintro e w8 ⟨A5, n5, c5, rfl, s5, k5, B⟩; replace sa := sa.below B; replace HB := Lib.hid (HB.out.trans (B.mono HB.out.size)); clear B))
            | (go_at_call 34; ((with_reducible refine (rRoot sa (by omega) HR.out HT.out).mono ?_); rintro e w9 ⟨A6, n6, c6, rfl, s6, k6, B⟩; replace sa := sa.below B; replace s5 := s5.below B; replace HB := Lib.hid (HB.out.trans (B.mono HB.out.size)); clear B))
            | (go_at_call 16; ((with_reducible refine (rSame s5 s6).mono ?_); rintro e w10 ⟨rfl, B⟩; replace sa := sa.below B; replace HB := Lib.hid (HB.out.trans (B.mono HB.out.size)); clear B)))
          go_ret
          exact ⟨rfl, HB.out⟩
        · have t1 : decide (3000 < a1) = true := by simp; omega
          have t2 : decide (a1 ≤ 16777216) = true := by simp; omega
          go_enter Try.func5, Try.ntmps5
          go_wp2_with (first
            | (go_at_call 12; ((with_reducible refine (awake_any _).mono ?_); rintro e w1 ⟨rfl, B⟩; have HB := Lib.hid B; clear B))
            | (go_at_call 13; ((with_reducible refine (few_yes _ _ _ _ _ _ _ h0 h1).mono ?_); rintro e w' ⟨rfl, rfl⟩)))
          go_ret
          exact ⟨rfl, HB.out⟩
  · have l1 : 0 ≤ 9223372036854775807 := by omega
    have hf : ¬ (len0 ≤ 40 ∧ 0 ≤ 40) := by omega
    clear w0 w1
    go_enter Try.func5, Try.ntmps5
    go_wp2_with (first
      | (go_at_call 12; ((with_reducible refine (awake_any _).mono ?_); rintro e w1 ⟨rfl, B⟩; have HB := Lib.hid B; clear B))
      | (go_at_call 13; ((with_reducible refine (few_no _ _ _ _ _ _ _ l0 l1 hf).mono ?_); rintro e w' ⟨rfl, rfl⟩)))
    go_ret
    exact ⟨rfl, HB.out⟩
end Go.Proofs.Ytloaabajkallnaa

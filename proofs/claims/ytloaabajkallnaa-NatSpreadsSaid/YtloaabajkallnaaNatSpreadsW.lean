/-
  The walk of NatSpreads: for all arguments, the call answers true, and nothing that was there has turned.
-/
import Derived.Test.YtloaabajkallnaaLaw
namespace Go.Proofs.Ytloaabajkallnaa
open Go.RowKit
set_option linter.unusedVariables false

set_option maxHeartbeats 4000000 in
theorem natSpreads_walk (a0 : Option Addr) (len0 cap0 : Nat) (z0 : List Int) (a1 : Option Addr) (len1 cap1 : Nat) (z1 : List Int) (a2 : Option Addr) (len2 cap2 : Nat) (z2 : List Int) (a3 : Int) (w : World) (w0 : RowIn w a0 len0 cap0 z0) (w1 : RowIn w a1 len1 cap1 z1) (w2 : RowIn w a2 len2 cap2 z2) (w3 : (Lit.int .i64 a3).wf = true) :
    Calls Try.prog 9 #[.slice a0 len0 cap0, .slice a1 len1 cap1, .slice a2 len2 cap2, .int .i64 a3] w fun e w' => e = .returned (.bool true) ∧ Below w.heap.size w w' := by
  have l0 := w0.len
  have l1 := w1.len
  have l2 := w2.len
  by_cases hf0 : len0 ≤ 20
  · have t0 : decide ((20 : Int) < len0) = false := by simp; omega
    by_cases hf1 : len1 ≤ 20
    · have t1 : decide ((20 : Int) < len1) = false := by simp; omega
      by_cases hf2 : len2 ≤ 20
      · have t2 : decide ((20 : Int) < len2) = false := by simp; omega
        by_cases hn : 0 ≤ a3
        · by_cases hn2 : a3 ≤ 1000
          · obtain ⟨a, sa⟩ := w0.rd (by omega)
            obtain ⟨b, sb⟩ := w1.rd (by omega)
            obtain ⟨c, sc⟩ := w2.rd (by omega)
            obtain ⟨s, rfl⟩ := Int.eq_ofNat_of_zero_le hn
            clear w0 w1 w2 w3
            obtain ⟨x, hx⟩ : ∃ x, a * (b + c) = x := ⟨_, rfl⟩
            obtain ⟨m, hm⟩ : ∃ m, a * 2 ^ s = m := ⟨_, rfl⟩
            have HX := Lib.hid hx
            have HY : Hid (a * b + a * c = x) := by show _ = _; rw [← hx, Nat.mul_add]
            have HM := Lib.hid hm
            have HS : Hid (m / 2 ^ s = a) := by show _ = _; rw [← hm, Nat.mul_div_cancel _ (Nat.two_pow_pos s)]
            have hbl : blen a ≤ 640 := by have := sa.blen_le; omega
            by_cases ha : a = 0
            · have HL : Hid (((blen a : Nat) : Int) = 0) := by show _ = _; rw [ha]; rfl
              have HK : Hid (((blen m : Nat) : Int) = 0) := by show _ = _; rw [← hm, ha, Nat.zero_mul]; rfl
              clear ha hx hm hbl
              go_enter Try.func9, Try.ntmps9
              go_wp2_with (first
                | (go_at_call 12; ((with_reducible refine (awake_any _).mono ?_); rintro e w1 ⟨rfl, B⟩; replace sa := sa.below B; replace sb := sb.below B; replace sc := sc.below B; have HB := Lib.hid B; clear B))
                | (go_at_call 17; ((with_reducible refine (vAdd sb sc (by omega) (by omega)).mono ?_); rintro e w2 ⟨As, ns, cs, rfl, ss, ks, B⟩; replace sa := sa.below B; replace sb := sb.below B; replace sc := sc.below B; replace HB := Lib.hid (HB.out.trans (B.mono HB.out.size)); clear B))
                | (go_at_call 19; ((with_reducible refine (vMulE sa ss.rd (by omega) (by omega) HX.out).mono ?_); rintro e w3 ⟨Ax, nx, cx, rfl, sx, kx, B⟩; replace sa := sa.below B; replace sb := sb.below B; replace sc := sc.below B; replace HB := Lib.hid (HB.out.trans (B.mono HB.out.size)); clear B))
                | (go_at_call 19; ((with_reducible refine (vMul sa sb (by omega) (by omega)).mono ?_); rintro e w4 ⟨Am, nm, cm, rfl, sm, km, B⟩; replace sa := sa.below B; replace sb := sb.below B; replace sc := sc.below B; replace sx := sx.below B; replace HB := Lib.hid (HB.out.trans (B.mono HB.out.size)); clear B))
                | (go_at_call 19; ((with_reducible refine (vMul sa sc (by omega) (by omega)).mono ?_); rintro e w5 ⟨Ao, no, co, rfl, so, ko, B⟩; replace sa := sa.below B; replace sm := sm.below B; replace sx := sx.below B; replace HB := Lib.hid (HB.out.trans (B.mono HB.out.size)); clear B))
                | (go_at_call 17; ((with_reducible refine (vAddE sm.rd so.rd (by omega) (by omega) HY.out).mono ?_); rintro e w6 ⟨Ay, ny, cy, rfl, sy, ky, B⟩; replace sa := sa.below B; replace sx := sx.below B; replace HB := Lib.hid (HB.out.trans (B.mono HB.out.size)); clear B))
                | (go_at_call 29; ((with_reducible refine (vShlE sa (by omega) (by omega) HM.out).mono ?_); rintro e w7 ⟨Az, nz, cz, rfl, sz, kz, B⟩; replace sa := sa.below B; replace sx := sx.below B; replace sy := sy.below B; replace HB := Lib.hid (HB.out.trans (B.mono HB.out.size)); clear B))
                | (go_at_call 25; ((with_reducible refine (vLenE sa HL.out).mono ?_); rintro e w8 ⟨rfl, B⟩; replace sa := sa.below B; replace sx := sx.below B; replace sy := sy.below B; replace sz := sz.below B; replace HB := Lib.hid (HB.out.trans (B.mono HB.out.size)); clear B))
                | (go_at_call 23; ((with_reducible refine (vCmpE sx.rd sy.rd (cmpI_self x)).mono ?_); rintro e w9 ⟨rfl, B⟩; replace sa := sa.below B; replace sz := sz.below B; replace HB := Lib.hid (HB.out.trans (B.mono HB.out.size)); clear B))
                | (go_at_call 31; ((with_reducible refine (vShrN sz.rd (by omega) HS.out).mono ?_); rintro e w10 ⟨Ah, nh, ch, rfl, sh, kh, B⟩; replace sa := sa.below B; replace sz := sz.below B; replace HB := Lib.hid (HB.out.trans (B.mono HB.out.size)); clear B))
                | (go_at_call 23; ((with_reducible refine (vCmpE sh.rd sa (cmpI_self a)).mono ?_); rintro e w11 ⟨rfl, B⟩; replace sz := sz.below B; replace HB := Lib.hid (HB.out.trans (B.mono HB.out.size)); clear B))
                | (go_at_call 25; ((with_reducible refine (vLenE sz.rd HK.out).mono ?_); rintro e w12 ⟨rfl, B⟩; replace sz := sz.below B; replace HB := Lib.hid (HB.out.trans (B.mono HB.out.size)); clear B)))
              go_ret
              exact ⟨rfl, HB.out⟩
            · have hb := blen_shl (s := s) ha
              rw [hm] at hb
              have hb0 : blen a ≠ 0 := fun e => ha (blen_eq_zero.1 e)
              obtain ⟨k, hk⟩ : ∃ k, blen a = k := ⟨_, rfl⟩
              rw [hk] at hb hbl hb0
              have HL : Hid (((blen a : Nat) : Int) = (k : Int)) := by show _ = _; rw [hk]
              have HK : Hid (((blen m : Nat) : Int) = (k : Int) + s) := by show _ = _; omega
              have hk1 : decide ((0 : Int) < k) = true := by simp; omega
              clear ha hx hm hb hk
              go_enter Try.func9, Try.ntmps9
              go_wp2_with (first
                | (go_at_call 12; ((with_reducible refine (awake_any _).mono ?_); rintro e w1 ⟨rfl, B⟩; replace sa := sa.below B; replace sb := sb.below B; replace sc := sc.below B; have HB := Lib.hid B; clear B))
                | (go_at_call 17; ((with_reducible refine (vAdd sb sc (by omega) (by omega)).mono ?_); rintro e w2 ⟨As, ns, cs, rfl, ss, ks, B⟩; replace sa := sa.below B; replace sb := sb.below B; replace sc := sc.below B; replace HB := Lib.hid (HB.out.trans (B.mono HB.out.size)); clear B))
                | (go_at_call 19; ((with_reducible refine (vMulE sa ss.rd (by omega) (by omega) HX.out).mono ?_); rintro e w3 ⟨Ax, nx, cx, rfl, sx, kx, B⟩; replace sa := sa.below B; replace sb := sb.below B; replace sc := sc.below B; replace HB := Lib.hid (HB.out.trans (B.mono HB.out.size)); clear B))
                | (go_at_call 19; ((with_reducible refine (vMul sa sb (by omega) (by omega)).mono ?_); rintro e w4 ⟨Am, nm, cm, rfl, sm, km, B⟩; replace sa := sa.below B; replace sb := sb.below B; replace sc := sc.below B; replace sx := sx.below B; replace HB := Lib.hid (HB.out.trans (B.mono HB.out.size)); clear B))
                | (go_at_call 19; ((with_reducible refine (vMul sa sc (by omega) (by omega)).mono ?_); rintro e w5 ⟨Ao, no, co, rfl, so, ko, B⟩; replace sa := sa.below B; replace sm := sm.below B; replace sx := sx.below B; replace HB := Lib.hid (HB.out.trans (B.mono HB.out.size)); clear B))
                | (go_at_call 17; ((with_reducible refine (vAddE sm.rd so.rd (by omega) (by omega) HY.out).mono ?_); rintro e w6 ⟨Ay, ny, cy, rfl, sy, ky, B⟩; replace sa := sa.below B; replace sx := sx.below B; replace HB := Lib.hid (HB.out.trans (B.mono HB.out.size)); clear B))
                | (go_at_call 29; ((with_reducible refine (vShlE sa (by omega) (by omega) HM.out).mono ?_); rintro e w7 ⟨Az, nz, cz, rfl, sz, kz, B⟩; replace sa := sa.below B; replace sx := sx.below B; replace sy := sy.below B; replace HB := Lib.hid (HB.out.trans (B.mono HB.out.size)); clear B))
                | (go_at_call 25; ((with_reducible refine (vLenE sa HL.out).mono ?_); rintro e w8 ⟨rfl, B⟩; replace sa := sa.below B; replace sx := sx.below B; replace sy := sy.below B; replace sz := sz.below B; replace HB := Lib.hid (HB.out.trans (B.mono HB.out.size)); clear B))
                | (go_at_call 23; ((with_reducible refine (vCmpE sx.rd sy.rd (cmpI_self x)).mono ?_); rintro e w9 ⟨rfl, B⟩; replace sa := sa.below B; replace sz := sz.below B; replace HB := Lib.hid (HB.out.trans (B.mono HB.out.size)); clear B))
                | (go_at_call 31; ((with_reducible refine (vShrN sz.rd (by omega) HS.out).mono ?_); rintro e w10 ⟨Ah, nh, ch, rfl, sh, kh, B⟩; replace sa := sa.below B; replace sz := sz.below B; replace HB := Lib.hid (HB.out.trans (B.mono HB.out.size)); clear B))
                | (go_at_call 23; ((with_reducible refine (vCmpE sh.rd sa (cmpI_self a)).mono ?_); rintro e w11 ⟨rfl, B⟩; replace sz := sz.below B; replace HB := Lib.hid (HB.out.trans (B.mono HB.out.size)); clear B))
                | (go_at_call 25; ((with_reducible refine (vLenE sz.rd HK.out).mono ?_); rintro e w12 ⟨rfl, B⟩; replace sz := sz.below B; replace HB := Lib.hid (HB.out.trans (B.mono HB.out.size)); clear B)))
              go_ret
              exact ⟨rfl, HB.out⟩
          · have t3 : decide (a3 < 0) = false := by simp; omega
            have t4 : decide (1000 < a3) = true := by simp; omega
            go_enter Try.func9, Try.ntmps9
            go_wp2_with (first
              | (go_at_call 12; ((with_reducible refine (awake_any _).mono ?_); rintro e w1 ⟨rfl, B⟩; have HB := Lib.hid B; clear B)))
            go_ret
            exact ⟨rfl, HB.out⟩
        · have t3 : decide (a3 < 0) = true := by simp; omega
          go_enter Try.func9, Try.ntmps9
          go_wp2_with (first
            | (go_at_call 12; ((with_reducible refine (awake_any _).mono ?_); rintro e w1 ⟨rfl, B⟩; have HB := Lib.hid B; clear B)))
          go_ret
          exact ⟨rfl, HB.out⟩
      · have t2 : decide ((20 : Int) < len2) = true := by simp; omega
        go_enter Try.func9, Try.ntmps9
        go_wp2_with (first
          | (go_at_call 12; ((with_reducible refine (awake_any _).mono ?_); rintro e w1 ⟨rfl, B⟩; have HB := Lib.hid B; clear B)))
        go_ret
        exact ⟨rfl, HB.out⟩
    · have t1 : decide ((20 : Int) < len1) = true := by simp; omega
      go_enter Try.func9, Try.ntmps9
      go_wp2_with (first
        | (go_at_call 12; ((with_reducible refine (awake_any _).mono ?_); rintro e w1 ⟨rfl, B⟩; have HB := Lib.hid B; clear B)))
      go_ret
      exact ⟨rfl, HB.out⟩
  · have t0 : decide ((20 : Int) < len0) = true := by simp; omega
    go_enter Try.func9, Try.ntmps9
    go_wp2_with (first
      | (go_at_call 12; ((with_reducible refine (awake_any _).mono ?_); rintro e w1 ⟨rfl, B⟩; have HB := Lib.hid B; clear B)))
    go_ret
    exact ⟨rfl, HB.out⟩
end Go.Proofs.Ytloaabajkallnaa

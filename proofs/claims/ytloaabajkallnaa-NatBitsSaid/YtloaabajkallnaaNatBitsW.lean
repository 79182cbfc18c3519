/-
  The walk of NatBits: for all arguments, the call answers true, and nothing that was there has turned.
-/
import Derived.Test.YtloaabajkallnaaLaw
namespace Go.Proofs.Ytloaabajkallnaa
open Go.RowKit
set_option linter.unusedVariables false

set_option maxHeartbeats 4000000 in
theorem natBits_walk (a0 : Option Addr) (len0 cap0 : Nat) (z0 : List Int) (a1 : Int) (w : World) (w0 : RowIn w a0 len0 cap0 z0) (w1 : (Lit.int .i64 a1).wf = true) :
    Calls Try.prog 11 #[.slice a0 len0 cap0, .int .i64 a1] w fun e w' => e = .returned (.bool true) ∧ Below w.heap.size w w' := by
  have l0 := w0.len
  by_cases hf : len0 ≤ 20
  · have ht : decide ((20 : Int) < len0) = false := by simp; omega
    obtain ⟨a, sa⟩ := w0.rd (by omega)
    clear w0
    by_cases hn : 0 ≤ a1
    · by_cases hn2 : a1 ≤ 500
      · obtain ⟨s, rfl⟩ := Int.eq_ofNat_of_zero_le hn
        clear w1
        obtain ⟨p, hp⟩ : ∃ p, 1 * 2 ^ s = p := ⟨_, rfl⟩
        obtain ⟨q, hq⟩ : ∃ q, a / p = q := ⟨_, rfl⟩
        obtain ⟨r, hr⟩ : ∃ r, a % p = r := ⟨_, rfl⟩
        obtain ⟨m, hm⟩ : ∃ m, a * 2 ^ s = m := ⟨_, rfl⟩
        have hp' : 2 ^ s = p := by rw [← hp, Nat.one_mul]
        have hp0 : p ≠ 0 := by rw [← hp']; exact Nat.pos_iff_ne_zero.1 (Nat.two_pow_pos s)
        have HP := Lib.hid hp
        have HQ := Lib.hid hq
        have HR := Lib.hid hr
        have HM := Lib.hid hm
        have HN : Hid (a * p = m) := by show _ = _; rw [← hp']; exact hm
        have HS : Hid (a / 2 ^ s = q) := by show _ = _; rw [hp']; exact hq
        have HL : Hid (((blen p : Nat) : Int) = (s : Int) + 1) := by show _ = _; rw [← hp', blen_pow]; omega
        clear hp hq hr hm hp' hn
        go_enter Try.func11, Try.ntmps11
        go_wp2_with (first
          | (go_at_call 12; ((with_reducible refine (awake_any _).mono ?_); rintro e w1 ⟨rfl, B⟩; replace sa := sa.below B; have HB := Lib.hid B; clear B))
          | (go_at_call 29; ((with_reducible refine (vShlE (one_rd w1) (by omega) (by omega) HP.out).mono ?_); rintro e w2 ⟨Ap, np, cp, rfl, sp, kp, B⟩; replace sa := sa.below (alloc_below w1 (.cells #[.int .u32 1] 36)); replace HB := Lib.hid (HB.out.alloc HB.out.size (.cells #[.int .u32 1] 36)); replace sa := sa.below B; replace HB := Lib.hid (HB.out.trans (B.mono HB.out.size)); clear B))
          | (go_at_call 27; ((with_reducible refine (vDivE sa sp.rd (by omega) hp0 HQ.out HR.out).mono ?_); rintro e w3 ⟨Aq, nq, cq, Ar, nr, cr, rfl, sq, sr, kq, kr, B⟩; replace sa := sa.below B; replace sp := sp.below B; replace HB := Lib.hid (HB.out.trans (B.mono HB.out.size)); clear B))
          | (go_at_call 29; ((with_reducible refine (vShlE sa (by omega) (by omega) HM.out).mono ?_); rintro e w4 ⟨As, ns, cs, rfl, ss, ks, B⟩; replace sa := sa.below B; replace sp := sp.below B; replace sq := sq.below B; replace HB := Lib.hid (HB.out.trans (B.mono HB.out.size)); clear B))
          | (go_at_call 19; ((with_reducible refine (vMulE sa sp.rd (by omega) (by omega) HN.out).mono ?_); rintro e w5 ⟨Am, nm, cm, rfl, sm, km, B⟩; replace sa := sa.below B; replace sp := sp.below B; replace sq := sq.below B; replace ss := ss.below B; replace HB := Lib.hid (HB.out.trans (B.mono HB.out.size)); clear B))
          | (go_at_call 23; ((with_reducible refine (vCmpE ss.rd sm.rd (cmpI_self m)).mono ?_); rintro e w6 ⟨rfl, B⟩; replace sa := sa.below B; replace sp := sp.below B; replace sq := sq.below B; replace HB := Lib.hid (HB.out.trans (B.mono HB.out.size)); clear B))
          | (go_at_call 31; ((with_reducible refine (vShrN sa (by omega) HS.out).mono ?_); rintro e w7 ⟨Ah, nh, ch, rfl, sh, kh, B⟩; replace sa := sa.below B; replace sp := sp.below B; replace sq := sq.below B; replace HB := Lib.hid (HB.out.trans (B.mono HB.out.size)); clear B))
          | (go_at_call 23; ((with_reducible refine (vCmpE sh.rd sq.rd (cmpI_self q)).mono ?_); rintro e w8 ⟨rfl, B⟩; replace sp := sp.below B; replace HB := Lib.hid (HB.out.trans (B.mono HB.out.size)); clear B))
          | (go_at_call 25; ((with_reducible refine (vLenE sp.rd HL.out).mono ?_); rintro e w9 ⟨rfl, B⟩; replace sp := sp.below B; replace HB := Lib.hid (HB.out.trans (B.mono HB.out.size)); clear B)))
        go_ret
        exact ⟨rfl, HB.out⟩
      · have ht2 : decide (a1 < 0) = false := by simp; omega
        have ht3 : decide (500 < a1) = true := by simp; omega
        go_enter Try.func11, Try.ntmps11
        go_wp2_with (first
          | (go_at_call 12; ((with_reducible refine (awake_any _).mono ?_); rintro e w1 ⟨rfl, B⟩; have HB := Lib.hid B; clear B)))
        go_ret
        exact ⟨rfl, HB.out⟩
    · have ht2 : decide (a1 < 0) = true := by simp; omega
      go_enter Try.func11, Try.ntmps11
      go_wp2_with (first
        | (go_at_call 12; ((with_reducible refine (awake_any _).mono ?_); rintro e w1 ⟨rfl, B⟩; have HB := Lib.hid B; clear B)))
      go_ret
      exact ⟨rfl, HB.out⟩
  · have ht : decide ((20 : Int) < len0) = true := by simp; omega
    clear w0
    go_enter Try.func11, Try.ntmps11
    go_wp2_with (first
      | (go_at_call 12; ((with_reducible refine (awake_any _).mono ?_); rintro e w1 ⟨rfl, B⟩; have HB := Lib.hid B; clear B)))
    go_ret
    exact ⟨rfl, HB.out⟩
end Go.Proofs.Ytloaabajkallnaa

/-
  The walk of NatDivs: for all arguments, the call answers true, and nothing that was there has turned.
-/
import Derived.Test.YtloaabajkallnaaLaw
import Derived.Test.YtloaabajkallnaaRefd
namespace Go.Proofs.Ytloaabajkallnaa
open Go.RowKit
set_option linter.unusedVariables false

set_option maxHeartbeats 4000000 in
theorem natDivs_walk (a0 : Option Addr) (len0 cap0 : Nat) (z0 : List Int) (a1 : Option Addr) (len1 cap1 : Nat) (z1 : List Int) (w : World) (w0 : RowIn w a0 len0 cap0 z0) (w1 : RowIn w a1 len1 cap1 z1) :
    Calls Try.prog 4 #[.slice a0 len0 cap0, .slice a1 len1 cap1] w fun e w' => e = .returned (.bool true) ∧ Below w.heap.size w w' := by
  by_cases hf : len0 ≤ 40 ∧ len1 ≤ 40
  · obtain ⟨h0, h1⟩ := hf
    obtain ⟨a, sa⟩ := w0.rd (by omega)
    obtain ⟨b, sb⟩ := w1.rd (by omega)
    clear w0 w1
    by_cases hb : b = 0
    · subst hb
      go_enter Try.func4, Try.ntmps4
      go_wp2_with (first
        | (go_at_call 12; ((with_reducible refine (awake_any _).mono ?_); rintro e w1 ⟨rfl, B⟩; replace sa := sa.below B; replace sb := sb.below B; have HB := Lib.hid B; clear B))
        | (go_at_call 13; ((with_reducible refine (few_yes _ _ _ _ _ _ _ h0 h1).mono ?_); rintro e w' ⟨rfl, rfl⟩))
        | (go_at_call 27; ((with_reducible refine (vDiv0 sa sb).mono ?_); rintro e w2 ⟨rfl, B⟩; replace sa := sa.below B; replace sb := sb.below B; replace HB := Lib.hid (HB.out.trans (B.mono HB.out.size)); clear B))
        | (go_at_call 28; ((with_reducible refine (rDiv0 sa sb).mono ?_); rintro e w3 ⟨rfl, B⟩; replace sa := sa.below B; replace sb := sb.below B; replace HB := Lib.hid (HB.out.trans (B.mono HB.out.size)); clear B))
        | (go_at_call 16; ((with_reducible refine (rSame Nm.zero Nm.zero).mono ?_); rintro e w4 ⟨rfl, B⟩; replace sa := sa.below B; replace sb := sb.below B; replace HB := Lib.hid (HB.out.trans (B.mono HB.out.size)); clear B)))
      go_ret
      exact ⟨rfl, HB.out⟩
    · skip
      go_enter Try.func4, Try.ntmps4
      go_wp2_with (first
        | (go_at_call 12; ((with_reducible refine (awake_any _).mono ?_); rintro e w1 ⟨rfl, B⟩; replace sa := sa.below B; replace sb := sb.below B; have HB := Lib.hid B; clear B))
        | (go_at_call 13; ((with_reducible refine (few_yes _ _ _ _ _ _ _ h0 h1).mono ?_); rintro e w' ⟨rfl, rfl⟩))
        | (go_at_call 27; ((with_reducible refine (vDiv sa sb (by omega) hb).mono ?_); rintro e w2 ⟨Aq, nq, cq, Ar, nr, cr, rfl, sq, sr, kq, kr, B⟩; replace sa := sa.below B; replace sb := sb.below B; replace HB := Lib.hid (HB.out.trans (B.mono HB.out.size)); clear B))
        | (go_at_call 28; ((with_reducible refine (rDiv sa sb (by omega) (by omega) hb).mono ?_); rintro e w3 ⟨Ap, np, cp, As, ns, cs, rfl, sp, ss, kp, ks, B⟩; replace sa := sa.below B; replace sb := sb.below B; replace sq := sq.below B; replace sr := sr.below B; replace HB := Lib.hid (HB.out.trans (B.mono HB.out.size)); clear B))
        | (go_at_call 16; ((with_reducible refine (rSame sq sp).mono ?_); rintro e w4 ⟨rfl, B⟩; replace sa := sa.below B; replace sb := sb.below B; replace sr := sr.below B; replace ss := ss.below B; replace HB := Lib.hid (HB.out.trans (B.mono HB.out.size)); clear B))
        | (go_at_call 16; ((with_reducible refine (rSame sr ss).mono ?_); rintro e w5 ⟨rfl, B⟩; replace sa := sa.below B; replace sb := sb.below B; replace HB := Lib.hid (HB.out.trans (B.mono HB.out.size)); clear B)))
      go_ret
      exact ⟨rfl, HB.out⟩
  · have l0 := w0.len
    have l1 := w1.len
    clear w0 w1
    go_enter Try.func4, Try.ntmps4
    go_wp2_with (first
      | (go_at_call 12; ((with_reducible refine (awake_any _).mono ?_); rintro e w1 ⟨rfl, B⟩; have HB := Lib.hid B; clear B))
      | (go_at_call 13; ((with_reducible refine (few_no _ _ _ _ _ _ _ l0 l1 hf).mono ?_); rintro e w' ⟨rfl, rfl⟩)))
    go_ret
    exact ⟨rfl, HB.out⟩
end Go.Proofs.Ytloaabajkallnaa

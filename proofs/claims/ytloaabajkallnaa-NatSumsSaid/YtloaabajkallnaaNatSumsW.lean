/-
  The walk of NatSums: for all arguments, the call answers true, and nothing that was there has turned.
-/
import Derived.Test.YtloaabajkallnaaLaw
import Derived.Test.YtloaabajkallnaaRefb
namespace Go.Proofs.Ytloaabajkallnaa
open Go.RowKit
set_option linter.unusedVariables false

set_option maxHeartbeats 4000000 in
theorem natSums_walk (a0 : Option Addr) (len0 cap0 : Nat) (z0 : List Int) (a1 : Option Addr) (len1 cap1 : Nat) (z1 : List Int) (w : World) (w0 : RowIn w a0 len0 cap0 z0) (w1 : RowIn w a1 len1 cap1 z1) :
    Calls Try.prog 3 #[.slice a0 len0 cap0, .slice a1 len1 cap1] w fun e w' => e = .returned (.bool true) ∧ Below w.heap.size w w' := by
  by_cases hf : len0 ≤ 40 ∧ len1 ≤ 40
  · obtain ⟨h0, h1⟩ := hf
    obtain ⟨a, sa⟩ := w0.rd (by omega)
    obtain ⟨b, sb⟩ := w1.rd (by omega)
    clear w0 w1
    obtain ⟨p, hp, hp1, hp2⟩ : ∃ p : Int, cmpI (a : Int) (b : Int) = p ∧ -1 ≤ p ∧ p ≤ 1 := ⟨_, rfl, cmpI_bd _ _⟩
    have HP := Lib.hid hp
    obtain ⟨z, hz⟩ : ∃ z : Int, ((blen a : Nat) : Int) = z := ⟨_, rfl⟩
    have HL := Lib.hid hz
    clear hp hz
    by_cases hlt : a < b
    · skip
      go_enter Try.func3, Try.ntmps3
      go_wp2_with (first
        | (go_at_call 12; ((with_reducible refine (awake_any _).mono ?_); rintro e w1 ⟨rfl, B⟩; replace sa := sa.below B; replace sb := sb.below B; have HB := Lib.hid B; clear B))
        | (go_at_call 13; ((with_reducible refine (few_yes _ _ _ _ _ _ _ h0 h1).mono ?_); rintro e w' ⟨rfl, rfl⟩))
        | (go_at_call 14; ((with_reducible refine (vSub_lt sa sb hlt).mono ?_); rintro e w2 ⟨rfl, B⟩; replace sa := sa.below B; replace sb := sb.below B; replace HB := Lib.hid (HB.out.trans (B.mono HB.out.size)); clear B))
        | (go_at_call 15; ((with_reducible refine (rSub_lt sa sb hlt).mono ?_); rintro e w3 ⟨rfl, B⟩; replace sa := sa.below B; replace sb := sb.below B; replace HB := Lib.hid (HB.out.trans (B.mono HB.out.size)); clear B))
        | (go_at_call 17; ((with_reducible refine (vAdd sa sb (by omega) (by omega)).mono ?_); rintro e w4 ⟨A1, n1, c1, rfl, s1, k1, B⟩; replace sa := sa.below B; replace sb := sb.below B; replace HB := Lib.hid (HB.out.trans (B.mono HB.out.size)); clear B))
        | (go_at_call 18; ((with_reducible refine (rAdd sa sb (by omega) (by omega)).mono ?_); rintro e w5 ⟨A2, n2, c2, rfl, s2, k2, B⟩; replace sa := sa.below B; replace sb := sb.below B; replace s1 := s1.below B; replace HB := Lib.hid (HB.out.trans (B.mono HB.out.size)); clear B))
        | (go_at_call 16; ((with_reducible refine (rSame s1 s2).mono ?_); rintro e w6 ⟨rfl, B⟩; replace sa := sa.below B; replace sb := sb.below B; replace HB := Lib.hid (HB.out.trans (B.mono HB.out.size)); clear B))
        | (go_at_call 19; ((with_reducible refine (vMul sa sb (by omega) (by omega)).mono ?_); rintro e w7 ⟨A3, n3, c3, rfl, s3, k3, B⟩; replace sa := sa.below B; replace sb := sb.below B; replace HB := Lib.hid (HB.out.trans (B.mono HB.out.size)); clear B))
        | (go_at_call 20; ((with_reducible refine (rMul sa sb (by omega) (by omega) rfl).mono ?_); rintro e w8 ⟨A4, n4, c4, rfl, s4, k4, B⟩; replace sa := sa.below B; replace sb := sb.below B; replace s3 := s3.below B; replace HB := Lib.hid (HB.out.trans (B.mono HB.out.size)); clear B))
        | (go_at_call 16; ((with_reducible refine (rSame s3 s4).mono ?_); rintro e w9 ⟨rfl, B⟩; replace sa := sa.below B; replace sb := sb.below B; replace HB := Lib.hid (HB.out.trans (B.mono HB.out.size)); clear B))
        | (go_at_call 16; ((with_reducible refine (rSame Nm.zero Nm.zero).mono ?_); rintro e w10 ⟨rfl, B⟩; replace sa := sa.below B; replace sb := sb.below B; replace HB := Lib.hid (HB.out.trans (B.mono HB.out.size)); clear B))
        | (go_at_call 21; ((with_reducible refine (vTrim sa).mono ?_); rintro e w11 ⟨A5, n5, c5, rfl, s5, k5, B⟩; replace sa := sa.below B; replace sb := sb.below B; replace HB := Lib.hid (HB.out.trans (B.mono HB.out.size)); clear B))
        | (go_at_call 22; ((with_reducible refine (rTrim sa).mono ?_); rintro e w12 ⟨A6, n6, c6, rfl, s6, k6, B⟩; replace sa := sa.below B; replace sb := sb.below B; replace s5 := s5.below B; replace HB := Lib.hid (HB.out.trans (B.mono HB.out.size)); clear B))
        | (go_at_call 16; ((with_reducible refine (rSame s5 s6).mono ?_); rintro e w13 ⟨rfl, B⟩; replace sa := sa.below B; replace sb := sb.below B; replace HB := Lib.hid (HB.out.trans (B.mono HB.out.size)); clear B))
        | (go_at_call 23; ((with_reducible refine (vCmpE sa sb HP.out).mono ?_); rintro e w14 ⟨rfl, B⟩; replace sa := sa.below B; replace sb := sb.below B; replace HB := Lib.hid (HB.out.trans (B.mono HB.out.size)); clear B))
        | (go_at_call 24; ((with_reducible refine (rCmp sa sb HP.out).mono ?_); rintro e w15 ⟨rfl, B⟩; replace sa := sa.below B; replace sb := sb.below B; replace HB := Lib.hid (HB.out.trans (B.mono HB.out.size)); clear B))
        | (go_at_call 25; ((with_reducible refine (vLenE sa HL.out).mono ?_); rintro e w16 ⟨rfl, B⟩; replace sa := sa.below B; replace sb := sb.below B; replace HB := Lib.hid (HB.out.trans (B.mono HB.out.size)); clear B))
        | (go_at_call 26; ((with_reducible refine (rLen sa HL.out).mono ?_); rintro e w17 ⟨rfl, B⟩; replace sa := sa.below B; replace sb := sb.below B; replace HB := Lib.hid (HB.out.trans (B.mono HB.out.size)); clear B)))
      go_ret
      exact ⟨rfl, HB.out⟩
    · have hle : b ≤ a := by omega
      obtain ⟨d, hd⟩ : ∃ d, a - b = d := ⟨_, rfl⟩
      have HD := Lib.hid hd
      clear hd
      go_enter Try.func3, Try.ntmps3
      go_wp2_with (first
        | (go_at_call 12; ((with_reducible refine (awake_any _).mono ?_); rintro e w1 ⟨rfl, B⟩; replace sa := sa.below B; replace sb := sb.below B; have HB := Lib.hid B; clear B))
        | (go_at_call 13; ((with_reducible refine (few_yes _ _ _ _ _ _ _ h0 h1).mono ?_); rintro e w' ⟨rfl, rfl⟩))
        | (go_at_call 14; ((with_reducible refine (vSubE sa sb hle HD.out).mono ?_); rintro e w2 ⟨Ax, nx, cx, rfl, sx, kx, B⟩; replace sa := sa.below B; replace sb := sb.below B; replace HB := Lib.hid (HB.out.trans (B.mono HB.out.size)); clear B))
        | (go_at_call 15; ((with_reducible refine (rSub sa sb hle HD.out).mono ?_); rintro e w3 ⟨Ay, ny, cy, rfl, sy, ky, B⟩; replace sa := sa.below B; replace sb := sb.below B; replace sx := sx.below B; replace HB := Lib.hid (HB.out.trans (B.mono HB.out.size)); clear B))
        | (go_at_call 17; ((with_reducible refine (vAdd sa sb (by omega) (by omega)).mono ?_); rintro e w4 ⟨A1, n1, c1, rfl, s1, k1, B⟩; replace sa := sa.below B; replace sb := sb.below B; replace sx := sx.below B; replace sy := sy.below B; replace HB := Lib.hid (HB.out.trans (B.mono HB.out.size)); clear B))
        | (go_at_call 18; ((with_reducible refine (rAdd sa sb (by omega) (by omega)).mono ?_); rintro e w5 ⟨A2, n2, c2, rfl, s2, k2, B⟩; replace sa := sa.below B; replace sb := sb.below B; replace sx := sx.below B; replace sy := sy.below B; replace s1 := s1.below B; replace HB := Lib.hid (HB.out.trans (B.mono HB.out.size)); clear B))
        | (go_at_call 16; ((with_reducible refine (rSame s1 s2).mono ?_); rintro e w6 ⟨rfl, B⟩; replace sa := sa.below B; replace sb := sb.below B; replace sx := sx.below B; replace sy := sy.below B; replace HB := Lib.hid (HB.out.trans (B.mono HB.out.size)); clear B))
        | (go_at_call 19; ((with_reducible refine (vMul sa sb (by omega) (by omega)).mono ?_); rintro e w7 ⟨A3, n3, c3, rfl, s3, k3, B⟩; replace sa := sa.below B; replace sb := sb.below B; replace sx := sx.below B; replace sy := sy.below B; replace HB := Lib.hid (HB.out.trans (B.mono HB.out.size)); clear B))
        | (go_at_call 20; ((with_reducible refine (rMul sa sb (by omega) (by omega) rfl).mono ?_); rintro e w8 ⟨A4, n4, c4, rfl, s4, k4, B⟩; replace sa := sa.below B; replace sb := sb.below B; replace sx := sx.below B; replace sy := sy.below B; replace s3 := s3.below B; replace HB := Lib.hid (HB.out.trans (B.mono HB.out.size)); clear B))
        | (go_at_call 16; ((with_reducible refine (rSame s3 s4).mono ?_); rintro e w9 ⟨rfl, B⟩; replace sa := sa.below B; replace sb := sb.below B; replace sx := sx.below B; replace sy := sy.below B; replace HB := Lib.hid (HB.out.trans (B.mono HB.out.size)); clear B))
        | (go_at_call 16; ((with_reducible refine (rSame sx sy).mono ?_); rintro e w10 ⟨rfl, B⟩; replace sa := sa.below B; replace sb := sb.below B; replace HB := Lib.hid (HB.out.trans (B.mono HB.out.size)); clear B))
        | (go_at_call 21; ((with_reducible refine (vTrim sa).mono ?_); rintro e w11 ⟨A5, n5, c5, rfl, s5, k5, B⟩; replace sa := sa.below B; replace sb := sb.below B; replace HB := Lib.hid (HB.out.trans (B.mono HB.out.size)); clear B))
        | (go_at_call 22; ((with_reducible refine (rTrim sa).mono ?_); rintro e w12 ⟨A6, n6, c6, rfl, s6, k6, B⟩; replace sa := sa.below B; replace sb := sb.below B; replace s5 := s5.below B; replace HB := Lib.hid (HB.out.trans (B.mono HB.out.size)); clear B))
        | (go_at_call 16; ((with_reducible refine (rSame s5 s6).mono ?_); rintro e w13 ⟨rfl, B⟩; replace sa := sa.below B; replace sb := sb.below B; replace HB := Lib.hid (HB.out.trans (B.mono HB.out.size)); clear B))
        | (go_at_call 23; ((with_reducible refine (vCmpE sa sb HP.out).mono ?_); rintro e w14 ⟨rfl, B⟩; replace sa := sa.below B; replace sb := sb.below B; replace HB := Lib.hid (HB.out.trans (B.mono HB.out.size)); clear B))
        | (go_at_call 24; ((with_reducible refine (rCmp sa sb HP.out).mono ?_); rintro e w15 ⟨rfl, B⟩; replace sa := sa.below B; replace sb := sb.below B; replace HB := Lib.hid (HB.out.trans (B.mono HB.out.size)); clear B))
        | (go_at_call 25; ((with_reducible refine (vLenE sa HL.out).mono ?_); rintro e w16 ⟨rfl, B⟩; replace sa := sa.below B; replace sb := sb.below B; replace HB := Lib.hid (HB.out.trans (B.mono HB.out.size)); clear B))
        | (go_at_call 26; ((with_reducible refine (rLen sa HL.out).mono ?_); rintro e w17 ⟨rfl, B⟩; replace sa := sa.below B; replace sb := sb.below B; replace HB := Lib.hid (HB.out.trans (B.mono HB.out.size)); clear B)))
      go_ret
      exact ⟨rfl, HB.out⟩
  · have l0 := w0.len
    have l1 := w1.len
    clear w0 w1
    go_enter Try.func3, Try.ntmps3
    go_wp2_with (first
      | (go_at_call 12; ((with_reducible refine (awake_any _).mono ?_); rintro e w1 ⟨rfl, B⟩; have HB := Lib.hid B; clear B))
      | (go_at_call 13; ((with_reducible refine (few_no _ _ _ _ _ _ _ l0 l1 hf).mono ?_); rintro e w' ⟨rfl, rfl⟩)))
    go_ret
    exact ⟨rfl, HB.out⟩
end Go.Proofs.Ytloaabajkallnaa

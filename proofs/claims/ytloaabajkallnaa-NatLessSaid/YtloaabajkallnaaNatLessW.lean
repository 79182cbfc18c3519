/-
  The walk of NatLess: for all slices that come in, the call answers true, and nothing that was there has turned.
-/
import Derived.Test.YtloaabajkallnaaLaw
namespace Go.Proofs.Ytloaabajkallnaa
open Go.RowKit
set_option linter.unusedVariables false

set_option maxHeartbeats 4000000 in
theorem natLess_walk (a0 : Option Addr) (len0 cap0 : Nat) (z0 : List Int) (a1 : Option Addr) (len1 cap1 : Nat) (z1 : List Int) (w : World) (w0 : RowIn w a0 len0 cap0 z0) (w1 : RowIn w a1 len1 cap1 z1) :
    Calls Try.prog 7 #[.slice a0 len0 cap0, .slice a1 len1 cap1] w fun e w' => e = .returned (.bool true) ∧ Below w.heap.size w w' := by
  by_cases hf : len0 ≤ 40 ∧ len1 ≤ 40
  · obtain ⟨h0, h1⟩ := hf
    obtain ⟨a, sa⟩ := w0.rd (by omega)
    obtain ⟨b, sb⟩ := w1.rd (by omega)
    clear w0 w1
    obtain ⟨p, hp, hp1, hp2⟩ : ∃ p : Int, cmpI (a : Int) (b : Int) = p ∧ -1 ≤ p ∧ p ≤ 1 := ⟨_, rfl, cmpI_bd _ _⟩
    obtain ⟨q, hq, hq1, hq2⟩ : ∃ q : Int, cmpI (b : Int) (a : Int) = q ∧ -1 ≤ q ∧ q ≤ 1 := ⟨_, rfl, cmpI_bd _ _⟩
    have hpq : p = -q := by rw [← hp, ← hq]; exact cmpI_swap a b
    subst hpq
    have HP := Lib.hid hp
    have HQ := Lib.hid hq
    have HS : Hid (a + b - b = a) := by show _ = _; omega
    have HC : Hid (b + a = a + b) := Nat.add_comm _ _
    clear hp hq
    by_cases hb : b = 0
    · have HL : Hid (((blen b : Nat) : Int) = 0) := by show _ = _; rw [hb]; rfl
      have HS2 : Hid (a - (a + b) = 0) := by show _ = _; omega
      have hle : a + b ≤ a := by omega
      clear hb
      go_enter Try.func7, Try.ntmps7
      go_wp2_with (first
        | (go_at_call 12; ((with_reducible refine (awake_any _).mono ?_); rintro e w1 ⟨rfl, B⟩; replace sa := sa.below B; replace sb := sb.below B; have HB := Lib.hid B; clear B))
        | (go_at_call 13; ((with_reducible refine (few_yes _ _ _ _ _ _ _ h0 h1).mono ?_); rintro e w' ⟨rfl, rfl⟩))
        | (go_at_call 17; ((with_reducible refine (vAdd sa sb (by omega) (by omega)).mono ?_); rintro e w2 ⟨As, ns, cs, rfl, ss, ks, B⟩; replace sa := sa.below B; replace sb := sb.below B; replace HB := Lib.hid (HB.out.trans (B.mono HB.out.size)); clear B))
        | (go_at_call 14; ((with_reducible refine (vSubE ss.rd sb (Nat.le_add_left _ _) HS.out).mono ?_); rintro e w3 ⟨Ad, nd, cd, rfl, sd, kd, B⟩; replace ss := ss.below B; replace sa := sa.below B; replace sb := sb.below B; replace HB := Lib.hid (HB.out.trans (B.mono HB.out.size)); clear B))
        | (go_at_call 14; ((with_reducible refine (vSubE sa ss.rd hle HS2.out).mono ?_); rintro e w4 ⟨At, nt, ct, rfl, st, kt, B⟩; replace sd := sd.below B; replace ss := ss.below B; replace sa := sa.below B; replace sb := sb.below B; replace HB := Lib.hid (HB.out.trans (B.mono HB.out.size)); clear B))
        | (go_at_call 23; ((with_reducible refine (vCmpE sd.rd sa (cmpI_self a)).mono ?_); rintro e w5 ⟨rfl, B⟩; replace sd := sd.below B; replace ss := ss.below B; replace sa := sa.below B; replace sb := sb.below B; replace HB := Lib.hid (HB.out.trans (B.mono HB.out.size)); clear B))
        | (go_at_call 17; ((with_reducible refine (vAddE sb sa (by omega) (by omega) HC.out).mono ?_); rintro e w6 ⟨Ar, nr, cr, rfl, sr, kr, B⟩; replace sd := sd.below B; replace ss := ss.below B; replace sa := sa.below B; replace sb := sb.below B; replace HB := Lib.hid (HB.out.trans (B.mono HB.out.size)); clear B))
        | (go_at_call 23; ((with_reducible refine (vCmpE ss.rd sr.rd (cmpI_self (a + b))).mono ?_); rintro e w7 ⟨rfl, B⟩; replace sd := sd.below B; replace ss := ss.below B; replace sa := sa.below B; replace sb := sb.below B; replace HB := Lib.hid (HB.out.trans (B.mono HB.out.size)); clear B))
        | (go_at_call 25; ((with_reducible refine (vLenE sb HL.out).mono ?_); rintro e w8 ⟨rfl, B⟩; replace sa := sa.below B; replace sb := sb.below B; replace HB := Lib.hid (HB.out.trans (B.mono HB.out.size)); clear B))
        | (go_at_call 23; ((with_reducible refine (vCmpE sa sb HP.out).mono ?_); rintro e w9 ⟨rfl, B⟩; replace sa := sa.below B; replace sb := sb.below B; replace HB := Lib.hid (HB.out.trans (B.mono HB.out.size)); clear B))
        | (go_at_call 23; ((with_reducible refine (vCmpE sb sa HQ.out).mono ?_); rintro e w10 ⟨rfl, B⟩; replace sa := sa.below B; replace sb := sb.below B; replace HB := Lib.hid (HB.out.trans (B.mono HB.out.size)); clear B)))
      go_ret
      exact ⟨rfl, HB.out⟩
    · obtain ⟨z, hz, hz0⟩ : ∃ z : Int, ((blen b : Nat) : Int) = z ∧ (z == 0) = false := ⟨_, rfl, by simp; exact fun h => hb (blen_eq_zero.1 h)⟩
      have HL := Lib.hid hz
      clear hz
      have hlt : a < a + b := by omega
      go_enter Try.func7, Try.ntmps7
      go_wp2_with (first
        | (go_at_call 12; ((with_reducible refine (awake_any _).mono ?_); rintro e w1 ⟨rfl, B⟩; replace sa := sa.below B; replace sb := sb.below B; have HB := Lib.hid B; clear B))
        | (go_at_call 13; ((with_reducible refine (few_yes _ _ _ _ _ _ _ h0 h1).mono ?_); rintro e w' ⟨rfl, rfl⟩))
        | (go_at_call 17; ((with_reducible refine (vAdd sa sb (by omega) (by omega)).mono ?_); rintro e w2 ⟨As, ns, cs, rfl, ss, ks, B⟩; replace sa := sa.below B; replace sb := sb.below B; replace HB := Lib.hid (HB.out.trans (B.mono HB.out.size)); clear B))
        | (go_at_call 14; ((with_reducible refine (vSubE ss.rd sb (Nat.le_add_left _ _) HS.out).mono ?_); rintro e w3 ⟨Ad, nd, cd, rfl, sd, kd, B⟩; replace ss := ss.below B; replace sa := sa.below B; replace sb := sb.below B; replace HB := Lib.hid (HB.out.trans (B.mono HB.out.size)); clear B))
        | (go_at_call 14; ((with_reducible refine (vSub_lt sa ss.rd hlt).mono ?_); rintro e w4 ⟨rfl, B⟩; replace sd := sd.below B; replace ss := ss.below B; replace sa := sa.below B; replace sb := sb.below B; replace HB := Lib.hid (HB.out.trans (B.mono HB.out.size)); clear B))
        | (go_at_call 23; ((with_reducible refine (vCmpE sd.rd sa (cmpI_self a)).mono ?_); rintro e w5 ⟨rfl, B⟩; replace sd := sd.below B; replace ss := ss.below B; replace sa := sa.below B; replace sb := sb.below B; replace HB := Lib.hid (HB.out.trans (B.mono HB.out.size)); clear B))
        | (go_at_call 17; ((with_reducible refine (vAddE sb sa (by omega) (by omega) HC.out).mono ?_); rintro e w6 ⟨Ar, nr, cr, rfl, sr, kr, B⟩; replace sd := sd.below B; replace ss := ss.below B; replace sa := sa.below B; replace sb := sb.below B; replace HB := Lib.hid (HB.out.trans (B.mono HB.out.size)); clear B))
        | (go_at_call 23; ((with_reducible refine (vCmpE ss.rd sr.rd (cmpI_self (a + b))).mono ?_); rintro e w7 ⟨rfl, B⟩; replace sd := sd.below B; replace ss := ss.below B; replace sa := sa.below B; replace sb := sb.below B; replace HB := Lib.hid (HB.out.trans (B.mono HB.out.size)); clear B))
        | (go_at_call 25; ((with_reducible refine (vLenE sb HL.out).mono ?_); rintro e w8 ⟨rfl, B⟩; replace sa := sa.below B; replace sb := sb.below B; replace HB := Lib.hid (HB.out.trans (B.mono HB.out.size)); clear B))
        | (go_at_call 23; ((with_reducible refine (vCmpE sa sb HP.out).mono ?_); rintro e w9 ⟨rfl, B⟩; replace sa := sa.below B; replace sb := sb.below B; replace HB := Lib.hid (HB.out.trans (B.mono HB.out.size)); clear B))
        | (go_at_call 23; ((with_reducible refine (vCmpE sb sa HQ.out).mono ?_); rintro e w10 ⟨rfl, B⟩; replace sa := sa.below B; replace sb := sb.below B; replace HB := Lib.hid (HB.out.trans (B.mono HB.out.size)); clear B)))
      go_ret
      exact ⟨rfl, HB.out⟩
  · have l0 := w0.len
    have l1 := w1.len
    clear w0 w1
    go_enter Try.func7, Try.ntmps7
    go_wp2_with (first
      | (go_at_call 12; ((with_reducible refine (awake_any _).mono ?_); rintro e w1 ⟨rfl, B⟩; have HB := Lib.hid B; clear B))
      | (go_at_call 13; ((with_reducible refine (few_no _ _ _ _ _ _ _ l0 l1 hf).mono ?_); rintro e w' ⟨rfl, rfl⟩)))
    go_ret
    exact ⟨rfl, HB.out⟩
end Go.Proofs.Ytloaabajkallnaa

/-
  The walk of NatBack: for all arguments, the call answers true, and nothing that was there has turned.
-/
import Derived.Test.YtloaabajkallnaaLaw
namespace Go.Proofs.Ytloaabajkallnaa
open Go.RowKit
set_option linter.unusedVariables false

set_option maxHeartbeats 4000000 in
theorem natBack_walk (a0 : Option Addr) (len0 cap0 : Nat) (z0 : List Int) (a1 : Option Addr) (len1 cap1 : Nat) (z1 : List Int) (w : World) (w0 : RowIn w a0 len0 cap0 z0) (w1 : RowIn w a1 len1 cap1 z1) :
    Calls Try.prog 6 #[.slice a0 len0 cap0, .slice a1 len1 cap1] w fun e w' => e = .returned (.bool true) ∧ Below w.heap.size w w' := by
  by_cases hf : len0 ≤ 40 ∧ len1 ≤ 40
  · obtain ⟨h0, h1⟩ := hf
    obtain ⟨a, sa⟩ := w0.rd (by omega)
    obtain ⟨b, sb⟩ := w1.rd (by omega)
    clear w0 w1
    by_cases hb : b = 0
    · subst hb
      have HL : Hid (((blen 0 : Nat) : Int) = 0) := rfl
      go_enter Try.func6, Try.ntmps6
      go_wp2_with (first
        | (go_at_call 12; ((with_reducible refine (awake_any _).mono ?_); rintro e w1 ⟨rfl, B⟩; replace sa := sa.below B; replace sb := sb.below B; have HB := Lib.hid B; clear B))
        | (go_at_call 13; ((with_reducible refine (few_yes _ _ _ _ _ _ _ h0 h1).mono ?_); rintro e w' ⟨rfl, rfl⟩))
        | (go_at_call 27; ((with_reducible refine (vDiv0 sa sb).mono ?_); rintro e w2 ⟨rfl, B⟩; replace sa := sa.below B; replace sb := sb.below B; replace HB := Lib.hid (HB.out.trans (B.mono HB.out.size)); clear B))
        | (go_at_call 25; ((with_reducible refine (vLenE sb HL.out).mono ?_); rintro e w3 ⟨rfl, B⟩; replace sa := sa.below B; replace sb := sb.below B; replace HB := Lib.hid (HB.out.trans (B.mono HB.out.size)); clear B)))
      go_ret
      exact ⟨rfl, HB.out⟩
    · have hlt := Nat.mod_lt a (Nat.pos_of_ne_zero hb)
      have hs := div_split a b
      have HD : Hid (∀ q r, a / b = q → a % b = r → q * b + r = a ∧ r < b) := fun q r h1 h2 => by subst h1; subst h2; exact ⟨hs, hlt⟩
      obtain ⟨q, hq⟩ : ∃ q, a / b = q := ⟨_, rfl⟩
      obtain ⟨r, hr⟩ : ∃ r, a % b = r := ⟨_, rfl⟩
      have HQ := Lib.hid hq
      have HR := Lib.hid hr
      have HM := Lib.hid (HD.out q r hq hr).1
      have HZ : Hid (cmpI (r : Int) (b : Int) = -1) := cmpI_lt (by have := (HD.out q r hq hr).2; omega)
      clear hq hr HD hs hlt
      go_enter Try.func6, Try.ntmps6
      go_wp2_with (first
        | (go_at_call 12; ((with_reducible refine (awake_any _).mono ?_); rintro e w1 ⟨rfl, B⟩; replace sa := sa.below B; replace sb := sb.below B; have HB := Lib.hid B; clear B))
        | (go_at_call 13; ((with_reducible refine (few_yes _ _ _ _ _ _ _ h0 h1).mono ?_); rintro e w' ⟨rfl, rfl⟩))
        | (go_at_call 27; ((with_reducible refine (vDivE sa sb (by omega) hb HQ.out HR.out).mono ?_); rintro e w2 ⟨Aq, nq, cq, Ar, nr, cr, rfl, sq, sr, kq, kr, B⟩; replace sa := sa.below B; replace sb := sb.below B; replace HB := Lib.hid (HB.out.trans (B.mono HB.out.size)); clear B))
        | (go_at_call 19; ((with_reducible refine (vMul sq.rd sb (by omega) (by omega)).mono ?_); rintro e w3 ⟨Am, nm, cm, rfl, sm, km, B⟩; replace sq := sq.below B; replace sr := sr.below B; replace sa := sa.below B; replace sb := sb.below B; replace HB := Lib.hid (HB.out.trans (B.mono HB.out.size)); clear B))
        | (go_at_call 17; ((with_reducible refine (vAddE sm.rd sr.rd (by omega) (by omega) HM.out).mono ?_); rintro e w4 ⟨As, ns, cs, rfl, ss, ks, B⟩; replace sm := sm.below B; replace sq := sq.below B; replace sr := sr.below B; replace sa := sa.below B; replace sb := sb.below B; replace HB := Lib.hid (HB.out.trans (B.mono HB.out.size)); clear B))
        | (go_at_call 23; ((with_reducible refine (vCmpE ss.rd sa (cmpI_self a)).mono ?_); rintro e w5 ⟨rfl, B⟩; replace sr := sr.below B; replace sa := sa.below B; replace sb := sb.below B; replace HB := Lib.hid (HB.out.trans (B.mono HB.out.size)); clear B))
        | (go_at_call 23; ((with_reducible refine (vCmpE sr.rd sb HZ.out).mono ?_); rintro e w6 ⟨rfl, B⟩; replace sr := sr.below B; replace sa := sa.below B; replace sb := sb.below B; replace HB := Lib.hid (HB.out.trans (B.mono HB.out.size)); clear B)))
      go_ret
      exact ⟨rfl, HB.out⟩
  · have l0 := w0.len
    have l1 := w1.len
    clear w0 w1
    go_enter Try.func6, Try.ntmps6
    go_wp2_with (first
      | (go_at_call 12; ((with_reducible refine (awake_any _).mono ?_); rintro e w1 ⟨rfl, B⟩; have HB := Lib.hid B; clear B))
      | (go_at_call 13; ((with_reducible refine (few_no _ _ _ _ _ _ _ l0 l1 hf).mono ?_); rintro e w' ⟨rfl, rfl⟩)))
    go_ret
    exact ⟨rfl, HB.out⟩
end Go.Proofs.Ytloaabajkallnaa

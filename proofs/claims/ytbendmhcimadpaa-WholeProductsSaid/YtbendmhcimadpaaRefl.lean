/-
  The document's answers of layer 1: what Len does, said of numbers.
-/
import Derived.Test.YtbendmhcimadpaaRefa
import Derived.Test.YtbendmhcimadpaaBlen
namespace Go.Proofs.Ytbendmhcimadpaa
open Go.RowKit
set_option linter.unusedVariables false

set_option maxHeartbeats 1000000 in
theorem rLen {w : World} {A1 : Option Addr} {n c1 a : Nat} {z : Int} (h1 : Rd w A1 n c1 a) (hz : ((blen a : Nat) : Int) = z) : Calls Try.prog 62 #[.slice A1 n c1] w (PI w z) := by
  subst hz
  have HT1 := Lib.hid (rTrim h1)
  have hbl := h1.blen_le
  have hn : n ≤ 1099511627776 := by obtain ⟨_, _, h, _⟩ := h1; exact h.big
  clear h1
  go_enter Try.func62, Try.ntmps62
  go_wp2_with fail
  refine HT1.out.mono ?_
  rintro e w3 ⟨A3, p, c3, rfl, s3, k3, B3⟩
  have HB := Lib.hid B3
  clear B3
  have l3 := s3.len
  by_cases h0 : a = 0
  · obtain rfl : p = 0 := by rw [← l3, h0, limbs_zero]; rfl
    have HZ : Hid ((0 : Int) = ((blen a : Nat) : Int)) := by show _ = _; rw [h0]; rfl
    clear h0 l3 s3 HT1
    go_wp2
    go_ret
    exact ⟨ret_int HZ.out, HB.out⟩
  · have hp : p ≠ 0 := fun e => h0 (limbs_length_zero.1 (by omega))
    have hp0 : ((p : Int) == 0) = false := by simpa using hp
    have HL := blen_limbs h0
    rw [l3] at HL
    obtain ⟨b3, s3⟩ := s3
    obtain ⟨o, rfl, hc⟩ := s3.at (by omega)
    have hck := hc (p - 1) (by omega)
    have hx := (lim_limbs a).getD (p - 1)
    clear hc s3 h0 l3 HT1
    obtain ⟨x, hxe⟩ : ∃ x, (limbs a).getD (p - 1) 0 = x := ⟨_, rfl⟩
    rw [hxe] at HL hck hx
    clear hxe
    have i1 : ((p : Int) - 1).toNat = p - 1 := by omega
    obtain ⟨L, hL⟩ : ∃ L, blen a = L := ⟨_, rfl⟩
    rw [hL] at HL hbl
    have HLa := Lib.hid hL
    clear hL
    have HLL := Lib.hid HL
    clear HL
    go_wp2
    go_loop [4, 5] (fun v u => ∃ t j : Nat, u = .int .u32 t ∧ v = .int .i64 j ∧ t < 4294967296 ∧ j + blen t = L) (fun _ u => (intOf u).toNat)
    case atStart => exact ⟨x, (p - 1) * 32, rfl, by go_num, hx, HLL.out.symm⟩
    case round =>
      obtain ⟨t, j, rfl, rfl, ht, hj⟩ := hrel
      by_cases ht0 : t = 0
      · have HJ : Hid ((j : Int) = ((blen a : Nat) : Int)) := by show _ = _; rw [HLa.out, ← hj, ht0]; simp [blen]
        subst ht0
        clear hj
        go_wp2
        go_ret
        exact ⟨ret_int HJ.out, HB.out⟩
      · have hh := blen_half ht0
        have HJ : Hid (j + 1 + blen (t / 2) = L) := by show _ = _; omega
        have hjb : j ≤ n * 32 := by omega
        have ht1 : 0 < t := by omega
        clear hj hh ht0
        go_wp2
        go_round
        case rel => exact ⟨t / 2, j + 1, by go_num, by go_num, by omega, HJ.out⟩
        case measure => simp [intOf]; omega
end Go.Proofs.Ytbendmhcimadpaa

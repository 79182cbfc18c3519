/-
  What pelorusref02.Int does.
-/
import Derived.Test.YtbendmhcimadpaaQa
import Derived.Test.YtbendmhcimadpaaWf
namespace Go.Proofs.Ytbendmhcimadpaa
open Go.RowKit
set_option linter.unusedVariables false

theorem ret_ib' {k : IntKind} {a b : Int} {s t : Bool} (h : a = b) (e : s = t) : Ending.returned (.tuple #[.int k a, .bool s]) = .returned (.tuple #[.int k b, .bool t]) := by rw [h, e]

set_option maxHeartbeats 1000000 in
theorem qint_big {w : World} {A : Option Addr} {n c a : Nat} (s : Bool) (h : Rd w A n c a) (ha : 18446744073709551616 ≤ a) : Calls Try.prog 29 #[.agg #[.bool s, .slice A n c]] w (PIB w 0 false) := by
  have HA := Lib.hid ha
  clear ha
  go_enter Try.func29, Try.ntmps29
  go_wp2_with (first
    | (go_at_call 31; ((with_reducible refine (qMake s (h.below (bel1 _ _))).mono ?_); rintro e w2 ⟨s2, A2, n2, c2, rfl, h2, k2, B2⟩; have hbig := h2.1.rd.big; have h3 : 2 < n2 := by { have hb := h2.1.rd.bound; rw [sg_natAbs] at hb; rcases Nat.lt_or_ge 2 n2 with q | q; exact q; exact absurd (Nat.lt_of_lt_of_le hb (Nat.pow_le_pow_right (n := 4294967296) (j := 2) (by decide) q)) (by have := HA.out; omega) })))
  go_ret2
  exact ⟨rfl, bt (bel1 _ _) (bt B2 (bel1 _ _))⟩

set_option maxHeartbeats 2000000 in
theorem qint_small {w : World} {A : Option Addr} {n c a : Nat} (s : Bool) (h : Rd w A n c a) (ha : a < 18446744073709551616) {r : Int} {t : Bool} (ht : fits (sg s a) = t) (hr : (if t = true then sg s a else 0) = r) : Calls Try.prog 29 #[.agg #[.bool s, .slice A n c]] w (PIB w r t) := by
  have HA := Lib.hid ha
  have HT := Lib.hid ht
  have HR := Lib.hid hr
  clear ha ht hr
  go_enter Try.func29, Try.ntmps29
  go_wp2_with fail
  refine (qMake s (h.below (bel1 _ _))).mono ?_
  rintro e w2 ⟨s2, A2, n2, c2, rfl, h2, k2, B2⟩
  have hn2 : n2 ≤ 2 := by
    have hl := h2.1.len
    rw [sg_natAbs] at hl
    have : (limbs a).length ≤ 2 := limbs_length_le (by have := HA.out; simpa using this)
    omega
  obtain ⟨⟨b, hs⟩, e2⟩ := h2
  rw [sg_natAbs] at hs
  have HV := Lib.hid (val_limbs a)
  revert hs HV
  generalize limbs a = xs
  intro hs HV
  have HB := Lib.hid (bt (bel1 _ _) (bt B2 (bel1 w2 (.cells #[.bool s2, .slice A2 n2 c2] 24))))
  have hs := hs.below (bel1 w2 (.cells #[.bool s2, .slice A2 n2 c2] 24))
  have X := Bx.new w2 s2 A2 n2 c2
  have HE := Lib.hid e2
  clear B2 e2
  have x0 := X.cell0
  have x1 := X.cell1
  go_wp2
  go_loop [5, 6] (fun u i => ∃ k : Nat, k ≤ n2 ∧ i = .int .i64 ((k : Int) - 1) ∧ u = .int .u64 (val (xs.drop k) : Nat)) (fun _ i => (intOf i + 1).toNat)
  case atStart => exact ⟨n2, Nat.le_refl _, rfl, by rw [List.drop_of_length_le (by rw [hs.len]; omega)]; rfl⟩
  case round =>
    obtain ⟨k, hk, rfl, rfl⟩ := hrel
    rcases Nat.eq_zero_or_pos k with e | hk0
    · subst e
      rw [List.drop_zero, HV.out]
      have c0 : (((0 : Nat) : Int) - 1) = -1 := rfl
      rw [c0]
      obtain ⟨z, hz⟩ : ∃ z : Int, (a : Int) = z := ⟨_, rfl⟩
      have hz0 : 0 ≤ z := by omega
      have hz3 : z ≤ 18446744073709551615 := by have := HA.out; omega
      rw [hz]
      have HZ := Lib.hid hz
      clear hz hs HA hz3
      have hf : fits (sg s a) = t := HT.out
      have hr : (if t = true then sg s a else 0) = r := HR.out
      have he : s2 = decide (sg s a < 0) := HE.out
      have hz : (a : Int) = z := HZ.out
      clear HT HR HE HZ HV
      cases s2
      · have hsg : sg s a = z := by
          cases s
          · exact hz
          · have : ¬ sg true a < 0 := by simpa using he
            simp [sg] at this ⊢
            omega
        rw [hsg] at hf hr
        by_cases h3 : z < 9223372036854775808
        · have hz2 : z ≤ 9223372036854775807 := by omega
          obtain rfl : t = true := by rw [← hf]; unfold fits; exact decide_eq_true (by omega)
          obtain rfl : z = r := by simpa using hr
          clear hf hr he hsg hz
          go_wp2
          go_ret2
          exact ⟨rfl, HB.out⟩
        · have hz2 : 9223372036854775808 ≤ z := by omega
          obtain rfl : t = false := by rw [← hf]; unfold fits; exact decide_eq_false (by omega)
          obtain rfl : (0 : Int) = r := by simpa using hr
          clear hf hr he hsg hz
          go_wp2
          go_ret2
          exact ⟨rfl, HB.out⟩
      · have hsg : sg s a = -z ∧ 0 < z := by
          have : sg s a < 0 := by simpa using he.symm
          cases s
          · simp [sg] at this; omega
          · simp [sg] at this ⊢; omega
        obtain ⟨hsg, hzp⟩ := hsg
        rw [hsg] at hf hr
        by_cases h3 : z ≤ 9223372036854775808
        · obtain rfl : t = true := by rw [← hf]; unfold fits; exact decide_eq_true (by omega)
          obtain rfl : -z = r := by simpa using hr
          have hq : (z == 0) = false := by have : z ≠ 0 := by omega
                                           simpa using this
          have hz1 : 0 ≤ z - 1 := by omega
          have hz2 : z - 1 ≤ 9223372036854775807 := by omega
          clear hf hr he hsg hz
          go_wp2
          go_ret2
          exact ⟨ret_ib' (by omega) rfl, HB.out⟩
        · have hz2 : 9223372036854775808 < z := by omega
          obtain rfl : t = false := by rw [← hf]; unfold fits; exact decide_eq_false (by omega)
          obtain rfl : (0 : Int) = r := by simpa using hr
          clear hf hr he hsg hz
          go_wp2
          go_ret2
          exact ⟨rfl, HB.out⟩
    · obtain ⟨o, rfl, hcell⟩ := hs.at (by omega)
      have hck := hcell (k - 1) (by omega)
      have hx := hs.lim.getD (k - 1)
      have HD : Hid (val (xs.drop (k - 1)) = xs.getD (k - 1) 0 + 4294967296 * val (xs.drop k)) := Lib.hid (by rw [val_drop (by rw [hs.len]; omega), show k - 1 + 1 = k by omega])
      have hu : val (xs.drop k) < 4294967296 := by
        have := val_lt (hs.lim.drop k)
        rw [List.length_drop, hs.len] at this
        exact Nat.lt_of_lt_of_le this (Nat.pow_le_pow_right (n := 4294967296) (j := 1) (by decide) (by omega))
      have hi : ((k : Int) - 1).toNat = k - 1 := by omega
      clear hcell
      revert hck hx HD hu
      generalize xs.getD (k - 1) 0 = x
      generalize val (xs.drop k) = u
      intro hck hx HD hu
      go_wp2
      go_round
      case rel => exact ⟨k - 1, by omega, val_int (by omega), val_int (by have := HD.out; omega)⟩
      case measure => simp [intOf]; omega

theorem qInt {w : World} {A : Option Addr} {n c : Nat} {s : Bool} {z r : Int} {t : Bool} (h : Wr w s A n c z) (ht : fits z = t) (hr : (if t = true then z else 0) = r) : Calls Try.prog 29 #[.agg #[.bool s, .slice A n c]] w (PIB w r t) := by
  obtain ⟨a, h, e⟩ := h
  subst e
  rcases Nat.lt_or_ge a 18446744073709551616 with ha | ha
  · exact qint_small s h ha ht hr
  · have hf : fits (sg s a) = false := by
      unfold fits
      apply decide_eq_false
      cases s <;> simp [sg] <;> omega
    subst ht; subst hr
    rw [hf]
    exact qint_big s h ha
end Go.Proofs.Ytbendmhcimadpaa

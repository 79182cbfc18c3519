/-
  What whole.word and Int do.
-/
import Derived.Test.YtbendmhcimadpaaWa
import Derived.Test.YtbendmhcimadpaaVall
import Derived.IntWalk
namespace Go.Proofs.Ytbendmhcimadpaa
open Go.RowKit
set_option linter.unusedVariables false

theorem val_int {k : IntKind} {a b : Int} (h : a = b) : Value.int k a = .int k b := by rw [h]
theorem or_lo (x y : Nat) (hx : x < 4294967296) (hy : y < 4294967296) : bits BinOp.or IntKind.u64 (y : Int) ((x : Int) * 4294967296) = ((y + x * 4294967296 : Nat) : Int) := by
  have := u64_or_nat y (x * 4294967296) (by omega) (by omega)
  rw [Nat.or_comm, nat_join 32 _ _ (by omega) hy] at this
  rw [show y + x * 4294967296 = x * 4294967296 + y by omega]
  simpa using this

set_option maxHeartbeats 400000 in
theorem word_any (w : World) (b : Nat) (A : Option Addr) (n c : Nat) (xs : List Nat) (h : Sl w b A n c xs) (hn : n ≤ 2) :
    Calls Try.prog 50 #[.slice A n c] w fun e w' => e = .returned (.int .u64 (val xs : Nat)) ∧ w = w' := by
  have hc := h.cap
  go_enter Try.func50, Try.ntmps50
  go_wp2
  go_loop [3, 8] (fun u i => ∃ k : Nat, k ≤ n ∧ i = .int .i64 k ∧ u = .int .u64 (val (xs.take k) : Nat)) (fun _ i => n - (intOf i).toNat)
  case atStart => exact ⟨0, Nat.zero_le _, rfl, rfl⟩
  case round =>
    obtain ⟨k, hk, rfl, rfl⟩ := hrel
    by_cases hlt : k < n
    · obtain ⟨o, rfl, hcell⟩ := h.at (by omega)
      have hck := hcell k hlt
      have hx := h.lim.getD k
      have HV := Lib.hid (val_take_more xs k)
      clear hcell
      rcases (by omega : k = 0 ∨ k = 1) with rfl | rfl
      · revert hck hx HV
        generalize xs.getD 0 0 = x
        intro hck hx HV
        simp only [Nat.add_zero] at hck
        have hor : bits BinOp.or IntKind.u64 0 (x : Int) = x := by have := u64_or_nat 0 x (by omega) (by omega); simpa using this
        have e0 : ((val (List.take 0 xs) : Nat) : Int) = 0 := rfl
        have c0 : ((0 : Nat) : Int) = 0 := rfl
        rw [e0, c0]
        go_wp2
        go_round
        case rel => exact ⟨1, by omega, rfl, by rw [HV.out]; simp [val]⟩
        case measure => simp [intOf]; omega
      · revert hck hx HV
        generalize xs.getD 1 0 = x
        intro hck hx HV
        have c1 : ((1 : Nat) : Int) = 1 := rfl
        rw [c1]
        have hy := val_lt (h.lim.take 1)
        rw [List.length_take, h.len, Nat.min_eq_left (by omega)] at hy
        revert hy HV
        generalize val (List.take 1 xs) = y
        intro HV hy
        have hor := or_lo x y hx (by simpa using hy)
        have hb : y + x * 4294967296 < 18446744073709551616 := by omega
        go_wp2
        go_round
        case rel => exact ⟨2, by omega, rfl, val_int (by have : val (List.take 2 xs) = y + 4294967296 ^ 1 * x := HV.out; omega)⟩
        case measure => simp [intOf]; omega
    · obtain rfl : k = n := by omega
      have HT : Hid (val (xs.take k) = val xs) := Lib.hid (val_take_all (by rw [h.len]; omega))
      go_wp2
      go_ret
      exact ⟨ret_int (by rw [HT.out]), rfl⟩

theorem vWord {w : World} {A : Option Addr} {n c a : Nat} (h : Nm w A n c a) (ha : a < 18446744073709551616) : Calls Try.prog 50 #[.slice A n c] w fun e w' => e = .returned (.int .u64 (a : Nat)) ∧ w = w' := by
  have hl := h.len
  have h2 : (limbs a).length ≤ 2 := limbs_length_le (by simpa using ha)
  obtain ⟨b, h⟩ := h
  have := word_any w b A n c (limbs a) h (by omega)
  rwa [val_limbs] at this
theorem vWordZ {w : World} {A : Option Addr} {n c a : Nat} {z : Int} (h : Nm w A n c a) (ha : a < 18446744073709551616) (hz : (a : Int) = z) : Calls Try.prog 50 #[.slice A n c] w fun e w' => e = .returned (.int .u64 z) ∧ w = w' := hz ▸ vWord h ha
theorem i64_neg (a : Nat) (h : a ≤ 9223372036854775808) : IntKind.i64.wrap (IntKind.u64.wrap (-(a : Int))) = -(a : Int) := by
  simp [IntKind.wrap, IntKind.signed, IntKind.bits]
  omega
theorem ret_ib {k : IntKind} {a b : Int} {s t : Bool} (h : a = b) (e : s = t) : Ending.returned (.tuple #[.int k a, .bool s]) = .returned (.tuple #[.int k b, .bool t]) := by rw [h, e]

set_option maxHeartbeats 1000000 in
theorem int_big {w : World} {A : Option Addr} {n c a : Nat} (s : Bool) (h : Rd w A n c a) (ha : 64 < blen a) : Calls Try.prog 28 #[.agg #[.bool s, .slice A n c]] w (PIB w 0 false) := by
  have hb : blen a ≤ 35184372088832 := by have := h.blen_le; have := h.big; omega
  go_enter Try.func28, Try.ntmps28
  go_wp2_with (first
    | (go_at_call 41; ((with_reducible refine (vLen (h.below (bel1 _ _))).mono ?_); rintro e w1 ⟨rfl, B1⟩)))
  go_ret2
  exact ⟨rfl, bt (bel1 _ _) B1⟩
set_option maxHeartbeats 1000000 in
theorem int_small {w : World} {A : Option Addr} {n c a : Nat} (s : Bool) (h : Rd w A n c a) (hb : blen a ≤ 64) : Calls Try.prog 28 #[.agg #[.bool s, .slice A n c]] w (PIB w (if (s = true ∧ a ≤ 9223372036854775808) ∨ (s = false ∧ a < 9223372036854775808) then sg s a else 0) (decide ((s = true ∧ a ≤ 9223372036854775808) ∨ (s = false ∧ a < 9223372036854775808)))) := by
  have ha : a < 18446744073709551616 := Nat.lt_of_lt_of_le (blen_lt a) (Nat.pow_le_pow_right (n := 2) (j := 64) (by decide) hb)
  have HA := Lib.hid ha
  clear ha
  cases s
  · by_cases h3 : a < 9223372036854775808
    · rw [if_pos (by simp [h3]), decide_eq_true (by simp [h3])]
      obtain ⟨z, hz⟩ : ∃ z : Int, (a : Int) = z := ⟨_, rfl⟩
      have hz0 : 0 ≤ z := by omega
      have hz1 : z < 9223372036854775808 := by omega
      have hz2 : z ≤ 9223372036854775807 := by omega
      have HZ := Lib.hid hz
      clear h3 hz
      go_enter Try.func28, Try.ntmps28
      go_wp2_with (first
        | (go_at_call 41; ((with_reducible refine (vLen (h.below (bel1 _ _))).mono ?_); rintro e w1 ⟨rfl, B1⟩; obtain ⟨hc, hf⟩ := bcell B1))
        | (go_at_call 49; ((with_reducible refine (vTrim (h.below (bt (bel1 _ _) B1))).mono ?_); rintro e w2 ⟨A1, n1, c1, rfl, h1, k1, B2⟩; clear hc hf; obtain ⟨hc, hf⟩ := bcell (bt B1 B2)))
        | (go_at_call 50; ((with_reducible refine (vWordZ h1 HA.out HZ.out).mono ?_); rintro e w2 ⟨rfl, rfl⟩)))
      go_ret2
      exact ⟨ret_ib HZ.out.symm rfl, bt (bel1 _ _) (bt B1 B2)⟩
    · rw [if_neg (by simp [h3]), decide_eq_false (by simp [h3])]
      obtain ⟨z, hz⟩ : ∃ z : Int, (a : Int) = z := ⟨_, rfl⟩
      have hz0 : 0 ≤ z := by omega
      have hz1 : ¬ z < 9223372036854775808 := by omega
      have hz2 : 9223372036854775808 ≤ z := by omega
      have HZ := Lib.hid hz
      clear h3 hz
      go_enter Try.func28, Try.ntmps28
      go_wp2_with (first
        | (go_at_call 41; ((with_reducible refine (vLen (h.below (bel1 _ _))).mono ?_); rintro e w1 ⟨rfl, B1⟩; obtain ⟨hc, hf⟩ := bcell B1))
        | (go_at_call 49; ((with_reducible refine (vTrim (h.below (bt (bel1 _ _) B1))).mono ?_); rintro e w2 ⟨A1, n1, c1, rfl, h1, k1, B2⟩; clear hc hf; obtain ⟨hc, hf⟩ := bcell (bt B1 B2)))
        | (go_at_call 50; ((with_reducible refine (vWordZ h1 HA.out HZ.out).mono ?_); rintro e w2 ⟨rfl, rfl⟩)))
      go_ret2
      exact ⟨rfl, bt (bel1 _ _) (bt B1 B2)⟩
  · by_cases h3 : a ≤ 9223372036854775808
    · rw [if_pos (by simp [h3]), decide_eq_true (by simp [h3])]
      have hw := i64_neg a h3
      go_enter Try.func28, Try.ntmps28
      go_wp2_with (first
        | (go_at_call 41; ((with_reducible refine (vLen (h.below (bel1 _ _))).mono ?_); rintro e w1 ⟨rfl, B1⟩; obtain ⟨hc, hf⟩ := bcell B1))
        | (go_at_call 49; ((with_reducible refine (vTrim (h.below (bt (bel1 _ _) B1))).mono ?_); rintro e w2 ⟨A1, n1, c1, rfl, h1, k1, B2⟩; clear hc hf; obtain ⟨hc, hf⟩ := bcell (bt B1 B2)))
        | (go_at_call 50; ((with_reducible refine (vWord h1 HA.out).mono ?_); rintro e w2 ⟨rfl, rfl⟩)))
      go_ret2
      exact ⟨ret_ib rfl rfl, bt (bel1 _ _) (bt B1 B2)⟩
    · rw [if_neg (by simp [h3]), decide_eq_false (by simp [h3])]
      go_enter Try.func28, Try.ntmps28
      go_wp2_with (first
        | (go_at_call 41; ((with_reducible refine (vLen (h.below (bel1 _ _))).mono ?_); rintro e w1 ⟨rfl, B1⟩; obtain ⟨hc, hf⟩ := bcell B1))
        | (go_at_call 49; ((with_reducible refine (vTrim (h.below (bt (bel1 _ _) B1))).mono ?_); rintro e w2 ⟨A1, n1, c1, rfl, h1, k1, B2⟩; clear hc hf; obtain ⟨hc, hf⟩ := bcell (bt B1 B2)))
        | (go_at_call 50; ((with_reducible refine (vWord h1 HA.out).mono ?_); rintro e w2 ⟨rfl, rfl⟩)))
      go_ret2
      exact ⟨rfl, bt (bel1 _ _) (bt B1 B2)⟩

/-- Is an integer one of 64 bits? -/
def fits (z : Int) : Bool := decide (-9223372036854775808 ≤ z ∧ z ≤ 9223372036854775807)
theorem wInt {w : World} {A : Option Addr} {n c : Nat} {s : Bool} {z r : Int} {t : Bool} (h : Wr w s A n c z) (ht : fits z = t) (hr : (if t = true then z else 0) = r) : Calls Try.prog 28 #[.agg #[.bool s, .slice A n c]] w (PIB w r t) := by
  obtain ⟨a, h, e⟩ := h
  subst e; subst ht
  by_cases hb : blen a ≤ 64
  · have hf : fits (sg s a) = decide ((s = true ∧ a ≤ 9223372036854775808) ∨ (s = false ∧ a < 9223372036854775808)) := by
      unfold fits
      apply decide_eq_decide.2
      cases s <;> simp [sg] <;> omega
    have := int_small s h hb
    subst hr
    rw [hf]
    simp only [decide_eq_true_eq]
    exact this
  · have h1 := blen_le (n := a) (by rintro rfl; simp [blen_zero] at hb)
    have h2 : 2 ^ 64 ≤ 2 ^ (blen a - 1) := Nat.pow_le_pow_right (by decide) (by omega)
    have hf : fits (sg s a) = false := by
      unfold fits
      apply decide_eq_false
      cases s <;> simp [sg] <;> omega
    subst hr
    rw [hf]
    exact int_big s h (by omega)
end Go.Proofs.Ytbendmhcimadpaa

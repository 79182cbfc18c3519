/-
  Contracts and words that the statement's proof rests on, several texts in one: Kn, Kf.
-/
import Derived.Test.YteejbcimmmcnlaaGreatDoorYAas
import Derived.Test.YteejbcimmmcnlaaGreatDoorYAau
/-
  Rounding to numbers of 64 bits: the place of the one next to a dyadic number, on its near side and on its far side; what its value is. Plain arithmetic; no Go text.
-/
namespace Go.Proofs.YteejbcimmmcnlaaGreatDoor
open Go.RowKit
set_option linter.unusedVariables false

/-- The 64 bits from the highest one on. -/
def tp (m : Nat) : Nat := m * 2 ^ 64 / 2 ^ blen m
theorem tp_ge {m : Nat} (h : m ≠ 0) : 2 ^ 63 ≤ tp m := by
  unfold tp
  have h1 := blen_le h
  have h2 : blen m ≠ 0 := fun e => h (blen_eq_zero.1 e)
  obtain ⟨k, hk⟩ : ∃ k, blen m = k + 1 := ⟨blen m - 1, by omega⟩
  rw [hk] at h1 ⊢; rw [Nat.le_div_iff_mul_le (Nat.pow_pos (by decide)), Nat.pow_succ, Nat.add_sub_cancel] at *
  have := Nat.mul_le_mul_right (2 ^ 64) h1
  calc 2 ^ 63 * (2 ^ k * 2) = 2 ^ k * 2 ^ 64 := by rw [show (2 : Nat) ^ 64 = 2 ^ 63 * 2 by decide, Nat.mul_comm (2 ^ 63) (2 ^ k * 2), Nat.mul_assoc, Nat.mul_comm 2 (2 ^ 63)]
    _ ≤ m * 2 ^ 64 := this
theorem tp_lt (m : Nat) : tp m < 2 ^ 64 := by
  unfold tp
  rw [Nat.div_lt_iff_lt_mul (Nat.pow_pos (by decide)), Nat.mul_comm (2 ^ 64)]; exact Nat.mul_lt_mul_of_pos_right (blen_lt m) (Nat.pow_pos (by decide))
theorem blen_mul {m : Nat} (h : m ≠ 0) (t : Nat) : blen (m * 2 ^ t) = blen m + t := by
  have := blen_shift (m * 2 ^ t) t (Nat.le_mul_of_pos_left _ (by omega))
  rw [Nat.mul_div_cancel _ (Nat.pow_pos (by decide))] at this
  omega
theorem tp_mul {m : Nat} (h : m ≠ 0) (t : Nat) : tp (m * 2 ^ t) = tp m := by
  unfold tp
  rw [blen_mul h, Nat.pow_add, Nat.mul_right_comm m, Nat.mul_div_mul_right _ _ (Nat.pow_pos (by decide))]
theorem tp_big {m : Nat} (h : 64 ≤ blen m) : tp m = m / 2 ^ (blen m - 64) := by
  unfold tp
  rw [show 2 ^ blen m = 2 ^ (blen m - 64) * 2 ^ 64 by rw [← Nat.pow_add]; congr 1; omega, Nat.mul_div_mul_right _ _ (Nat.pow_pos (by decide))]
theorem tp_small {m : Nat} (h : blen m ≤ 64) : tp m = m * 2 ^ (64 - blen m) := by
  unfold tp
  rw [show 2 ^ 64 = 2 ^ (64 - blen m) * 2 ^ blen m by rw [← Nat.pow_add]; congr 1; omega, ← Nat.mul_assoc, Nat.mul_div_cancel _ (Nat.pow_pos (by decide))]

/-- The exponent of the 64 bits. -/
def xp (m : Nat) (E : Int) : Int := E + (blen m : Nat) - 64
/-- The place next to a number above nought, on its near side. -/
def lo (m : Nat) (E : Int) : Int :=
  if m = 0 then 0 else if 1048576 < xp m E then 19342822337206103650074624 else if xp m E < -1048576 then 0 else (tp m : Int) - 9223372036854775808 + 1 + (xp m E + 1048576) * 9223372036854775808
/-- It is that number itself. -/
def ext (m : Nat) (E : Int) : Bool := m == 0 || (decide (xp m E ≤ 1048576) && (decide (-1048576 ≤ xp m E) && decide (blen m ≤ 64)))
/-- The place next to a number above nought, on its far side. -/
def hi (m : Nat) (E : Int) : Int := if ext m E = true then lo m E else lo m E + 1
def rnd (up : Bool) (N E : Int) : Int := sgi (decide (N < 0)) (if (up != decide (N < 0)) = true then hi N.natAbs E else lo N.natAbs E)
theorem lo_mul {m : Nat} (h : m ≠ 0) (t : Nat) (E : Int) : lo (m * 2 ^ t) E = lo m (E + t) := by
  have h2 : m * 2 ^ t ≠ 0 := Nat.mul_ne_zero h (Nat.ne_of_gt (Nat.pow_pos (by decide)))
  unfold lo
  rw [if_neg h, if_neg h2, tp_mul h]
  unfold xp
  rw [blen_mul h, show E + ((blen m + t : Nat) : Int) - 64 = E + (t : Int) + (blen m : Nat) - 64 by omega]
theorem lo_bd (m : Nat) (E : Int) : 0 ≤ lo m E ∧ lo m E ≤ 19342822337206103650074624 := by
  unfold lo
  have h1 := tp_lt m
  by_cases h : m = 0
  · rw [if_pos h]; omega
  · rw [if_neg h]; have h0 := tp_ge h
    by_cases h3 : 1048576 < xp m E
    · rw [if_pos h3]; omega
    · rw [if_neg h3]
      by_cases h4 : xp m E < -1048576
      · rw [if_pos h4]; omega
      · rw [if_neg h4]
        omega
/-- What a place is worth, times a fixed power of two. -/
def vp (r : Int) : Int := if r ≤ 0 then 0 else ((r - 1) % 9223372036854775808 + 9223372036854775808) * 2 ^ ((r - 1) / 9223372036854775808 - 1048576 + KK).toNat
def vr (r : Int) : Int := if r < 0 then -vp (-r) else vp r
theorem vp_fin {M E : Int} (h1 : 9223372036854775808 ≤ M) (h2 : M < 18446744073709551616) (h3 : -1048576 ≤ E) : vp (M - 9223372036854775808 + 1 + (E + 1048576) * 9223372036854775808) = M * 2 ^ (E + KK).toNat := by
  unfold vp
  rw [if_neg (by omega)]
  have e1 : (M - 9223372036854775808 + 1 + (E + 1048576) * 9223372036854775808 - 1) % 9223372036854775808 + 9223372036854775808 = M := by omega
  have e2 : (M - 9223372036854775808 + 1 + (E + 1048576) * 9223372036854775808 - 1) / 9223372036854775808 - 1048576 = E := by omega
  rw [e1, e2]
theorem vp_succ {r : Int} (h : 0 ≤ r) : vp r < vp (r + 1) := by
  by_cases h0 : r = 0
  · subst h0
    have : vp 0 = 0 := rfl
    rw [this]
    unfold vp
    rw [if_neg (by omega)]; exact Int.mul_pos (by omega) (p2pos _)
  · obtain ⟨q, m, hm, hm2, e⟩ : ∃ q m : Int, 9223372036854775808 ≤ m ∧ m < 18446744073709551616 ∧ r = m - 9223372036854775808 + 1 + (q + 1048576) * 9223372036854775808 := ⟨(r - 1) / 9223372036854775808 - 1048576, (r - 1) % 9223372036854775808 + 9223372036854775808, by omega, by omega, by omega⟩
    have hq : -1048576 ≤ q := by omega
    have e0 := vp_fin hm hm2 hq; rw [← e] at e0; rw [e0]
    by_cases hc : m = 18446744073709551615
    · have e1 := vp_fin (M := 9223372036854775808) (E := q + 1) (by omega) (by omega) (by omega)
      rw [show (9223372036854775808 : Int) - 9223372036854775808 + 1 + (q + 1 + 1048576) * 9223372036854775808 = r + 1 by omega] at e1
      rw [e1, show (q + 1 + (KK : Int)).toNat = (q + KK).toNat + 1 by rw [KK_eq]; omega, Int.pow_succ, hc, ← Int.mul_assoc, Int.mul_right_comm]
      exact Int.mul_lt_mul_of_pos_right (by omega) (p2pos _)
    · have e1 := vp_fin (M := m + 1) (E := q) (by omega) (by omega) hq
      rw [show m + 1 - 9223372036854775808 + 1 + (q + 1048576) * 9223372036854775808 = r + 1 by omega] at e1
      rw [e1]; exact Int.mul_lt_mul_of_pos_right (by omega) (p2pos _)
theorem vr_succ (r : Int) : vr r < vr (r + 1) := by
  unfold vr
  by_cases h : 0 ≤ r
  · rw [if_neg (by omega), if_neg (by omega)]; exact vp_succ h
  · rw [if_pos (by omega)]
    have := vp_succ (r := -(r + 1)) (by omega)
    rw [show -(r + 1) + 1 = -r by omega] at this
    by_cases h2 : r + 1 < 0
    · rw [if_pos h2]
      omega
    · rw [if_neg h2]
      have e : r + 1 = 0 := by omega
      rw [e] at this ⊢
      rw [show vp (-0) = 0 from rfl] at this
      rw [show vp 0 = 0 from rfl]
      omega
theorem vr_add (r : Int) : ∀ n : Nat, vr r < vr (r + (n + 1 : Nat))
  | 0 => vr_succ r
  | n + 1 => by
    have h1 := vr_add r n; have h2 := vr_succ (r + (n + 1 : Nat))
    rw [show r + ((n + 1 + 1 : Nat) : Int) = r + ((n + 1 : Nat) : Int) + 1 by omega]
    omega
theorem vr_lt {r t : Int} (h : r < t) : vr r < vr t := by
  have := vr_add r (t - r - 1).toNat
  rwa [show r + (((t - r - 1).toNat + 1 : Nat) : Int) = t by omega] at this
theorem vr_cmp (r t : Int) : cmpI (vr r) (vr t) = cmpI r t := by
  rcases cmpI_tri r t with ⟨a1, a2⟩ | ⟨a1, a2⟩ | ⟨a1, a2⟩ <;> rw [a2]
  · exact cmpI_lt (vr_lt a1)
  · exact cmpI_eq (by rw [a1])
  · exact cmpI_gt (vr_lt a1)
theorem vr_neg (r : Int) : vr (-r) = -vr r := by
  unfold vr
  by_cases h : r < 0
  · rw [if_neg (by omega), if_pos h, Int.neg_neg]
  · by_cases h2 : r = 0
    · subst h2; rfl
    · rw [if_pos (by omega), if_neg h, Int.neg_neg]
theorem vr_sgi (s : Bool) (r : Int) : vr (sgi s r) = sgi s (vr r) := by
  cases s
  · rfl
  · exact vr_neg r
/-- Between its neighbours. -/
theorem lo_vr {m : Nat} {E : Int} (h : m ≠ 0) (h1 : xp m E ≤ 1048576) (h2 : -1048576 ≤ xp m E) (hE : -(KK : Int) ≤ E) (ho : m % 2 = 1) :
    vr (lo m E) ≤ (m : Int) * 2 ^ (E + KK).toNat ∧ (m : Int) * 2 ^ (E + KK).toNat < vr (lo m E + 1) ∧ (ext m E = true → vr (lo m E) = (m : Int) * 2 ^ (E + KK).toNat) ∧ (ext m E = false → vr (lo m E) < (m : Int) * 2 ^ (E + KK).toNat) := by
  have t1 := tp_ge h; have t2 := tp_lt m; have hk := KK_eq
  have hb : 0 ≤ lo m E := (lo_bd m E).1
  have el : lo m E = (tp m : Int) - 9223372036854775808 + 1 + (xp m E + 1048576) * 9223372036854775808 := by
    unfold lo
    rw [if_neg h, if_neg (by omega), if_neg (by omega)]
  have ev : vr (lo m E) = (tp m : Int) * 2 ^ (xp m E + KK).toNat := by
    unfold vr
    rw [if_neg (by omega), el]; exact vp_fin (by omega) (by omega) h2
  have ex : ext m E = decide (blen m ≤ 64) := by
    unfold ext
    rw [show (m == 0) = false by simpa using h, decide_eq_true h1, decide_eq_true h2]
    rfl
  have en : vr (lo m E + 1) = ((tp m : Int) + 1) * 2 ^ (xp m E + KK).toNat := by
    unfold vr
    rw [if_neg (by omega), el]
    by_cases hc : (tp m : Int) = 18446744073709551615
    · have e1 := vp_fin (M := 9223372036854775808) (E := xp m E + 1) (by omega) (by omega) (by omega)
      rw [show (tp m : Int) - 9223372036854775808 + 1 + (xp m E + 1048576) * 9223372036854775808 + 1 = (9223372036854775808 : Int) - 9223372036854775808 + 1 + (xp m E + 1 + 1048576) * 9223372036854775808 by omega, e1, show (xp m E + 1 + (KK : Int)).toNat = (xp m E + KK).toNat + 1 by omega, Int.pow_succ, hc, ← Int.mul_assoc, Int.mul_right_comm]
      rfl
    · have e1 := vp_fin (M := (tp m : Int) + 1) (E := xp m E) (by omega) (by omega) h2
      rw [show (tp m : Int) - 9223372036854775808 + 1 + (xp m E + 1048576) * 9223372036854775808 + 1 = (tp m : Int) + 1 - 9223372036854775808 + 1 + (xp m E + 1048576) * 9223372036854775808 by omega, e1]
  rw [ev, en, ex]
  by_cases hl : blen m ≤ 64
  · have e1 : (m : Int) * 2 ^ (E + KK).toNat = (tp m : Int) * 2 ^ (xp m E + KK).toNat := by
      have hx : (xp m E + KK).toNat + (64 - blen m) = (E + KK).toNat := by unfold xp at h2 ⊢; omega
      rw [tp_small hl, ← hx, Int.pow_add]
      push_cast
      rw [Int.mul_assoc, Int.mul_comm (2 ^ (64 - blen m))]
    have hp := p2pos (xp m E + KK).toNat; rw [e1, decide_eq_true hl]
    refine ⟨Int.le_refl _, Int.mul_lt_mul_of_pos_right (by omega) hp, fun _ => rfl, fun h => by cases h⟩
  · have hd := Nat.div_add_mod m (2 ^ (blen m - 64))
    have hm := Nat.mod_lt m (Nat.pow_pos (n := blen m - 64) (show 0 < 2 by decide))
    have hne : m % 2 ^ (blen m - 64) ≠ 0 := by
      intro e
      have : 2 ∣ m := Nat.dvd_trans (show 2 ∣ 2 ^ (blen m - 64) from ⟨2 ^ (blen m - 64 - 1), by rw [← Nat.pow_succ']; congr 1; omega⟩) (Nat.dvd_of_mod_eq_zero e)
      omega
    rw [← tp_big (by omega)] at hd
    have e1 : (2 : Int) ^ (xp m E + KK).toNat = 2 ^ (blen m - 64) * 2 ^ (E + KK).toNat := by
      rw [← Int.pow_add]
      congr 1
      unfold xp
      omega
    have hp := p2pos (E + KK).toNat
    have c1 : (tp m : Int) * 2 ^ (blen m - 64) < (m : Int) := by
      have : tp m * 2 ^ (blen m - 64) < m := by rw [Nat.mul_comm]; omega
      exact_mod_cast this
    have c2 : (m : Int) < ((tp m : Int) + 1) * 2 ^ (blen m - 64) := by
      have : m < (tp m + 1) * 2 ^ (blen m - 64) := by rw [Nat.mul_comm, Nat.mul_add, Nat.mul_one]; omega
      exact_mod_cast this
    have l1 := Int.mul_lt_mul_of_pos_right c1 hp; have l2 := Int.mul_lt_mul_of_pos_right c2 hp; rw [Int.mul_assoc] at l1 l2; rw [e1, decide_eq_false hl]
    exact ⟨Int.le_of_lt l1, l2, fun h => (by cases h), fun _ => l1⟩
end Go.Proofs.YteejbcimmmcnlaaGreatDoor

/-
  How many bits a number of 64 bits needs, by math/bits; what num.Of does.
-/
namespace Go.Proofs.YteejbcimmmcnlaaGreatDoor
open Go.RowKit
set_option linter.unusedVariables false
set_option linter.unusedSimpArgs false
set_option maxRecDepth 100000

set_option maxHeartbeats 1000000 in
theorem len64_111 (z : Int) (q : Nat) (w : World) (h0 : 0 ≤ z) (hz : z ≤ 18446744073709551615) (h1 : 4294967296 ≤ z) (h2 : 65536 ≤ z / 4294967296) (h3 : 256 ≤ z / 4294967296 / 65536) (hq : q ≤ 8)
    (hi : ∀ W, (Instr.index 9 (.string Lib.len8tab) (.int .u8 (z / 4294967296 / 65536 / 256))).run Tryz.prog W = .ok (.int .u8 (q : Int)) W) :
    Calls Tryz.prog 128 #[.int .u64 z] w fun e w' => e = .returned (.int .i64 (56 + q : Int)) ∧ w = w' := by
  go_enter Tryz.func128, Tryz.ntmps128
  go_wp2
  go_ret
  exact ⟨rfl, rfl⟩
set_option maxHeartbeats 1000000 in
theorem len64_110 (z : Int) (q : Nat) (w : World) (h0 : 0 ≤ z) (hz : z ≤ 18446744073709551615) (h1 : 4294967296 ≤ z) (h2 : 65536 ≤ z / 4294967296) (h3 : z / 4294967296 / 65536 < 256) (hq : q ≤ 8)
    (hi : ∀ W, (Instr.index 9 (.string Lib.len8tab) (.int .u8 (z / 4294967296 / 65536))).run Tryz.prog W = .ok (.int .u8 (q : Int)) W) :
    Calls Tryz.prog 128 #[.int .u64 z] w fun e w' => e = .returned (.int .i64 (48 + q : Int)) ∧ w = w' := by
  go_enter Tryz.func128, Tryz.ntmps128
  go_wp2
  go_ret
  exact ⟨rfl, rfl⟩
set_option maxHeartbeats 1000000 in
theorem len64_101 (z : Int) (q : Nat) (w : World) (h0 : 0 ≤ z) (hz : z ≤ 18446744073709551615) (h1 : 4294967296 ≤ z) (h2 : z / 4294967296 < 65536) (h3 : 256 ≤ z / 4294967296) (hq : q ≤ 8)
    (hi : ∀ W, (Instr.index 9 (.string Lib.len8tab) (.int .u8 (z / 4294967296 / 256))).run Tryz.prog W = .ok (.int .u8 (q : Int)) W) :
    Calls Tryz.prog 128 #[.int .u64 z] w fun e w' => e = .returned (.int .i64 (40 + q : Int)) ∧ w = w' := by
  go_enter Tryz.func128, Tryz.ntmps128
  go_wp2
  go_ret
  exact ⟨rfl, rfl⟩
set_option maxHeartbeats 1000000 in
theorem len64_100 (z : Int) (q : Nat) (w : World) (h0 : 0 ≤ z) (hz : z ≤ 18446744073709551615) (h1 : 4294967296 ≤ z) (h2 : z / 4294967296 < 65536) (h3 : z / 4294967296 < 256) (hq : q ≤ 8)
    (hi : ∀ W, (Instr.index 9 (.string Lib.len8tab) (.int .u8 (z / 4294967296))).run Tryz.prog W = .ok (.int .u8 (q : Int)) W) :
    Calls Tryz.prog 128 #[.int .u64 z] w fun e w' => e = .returned (.int .i64 (32 + q : Int)) ∧ w = w' := by
  go_enter Tryz.func128, Tryz.ntmps128
  go_wp2
  go_ret
  exact ⟨rfl, rfl⟩
set_option maxHeartbeats 1000000 in
theorem len64_011 (z : Int) (q : Nat) (w : World) (h0 : 0 ≤ z) (hz : z ≤ 18446744073709551615) (h1 : z < 4294967296) (h2 : 65536 ≤ z) (h3 : 256 ≤ z / 65536) (hq : q ≤ 8)
    (hi : ∀ W, (Instr.index 9 (.string Lib.len8tab) (.int .u8 (z / 65536 / 256))).run Tryz.prog W = .ok (.int .u8 (q : Int)) W) :
    Calls Tryz.prog 128 #[.int .u64 z] w fun e w' => e = .returned (.int .i64 (24 + q : Int)) ∧ w = w' := by
  go_enter Tryz.func128, Tryz.ntmps128
  go_wp2
  go_ret
  exact ⟨rfl, rfl⟩
set_option maxHeartbeats 1000000 in
theorem len64_010 (z : Int) (q : Nat) (w : World) (h0 : 0 ≤ z) (hz : z ≤ 18446744073709551615) (h1 : z < 4294967296) (h2 : 65536 ≤ z) (h3 : z / 65536 < 256) (hq : q ≤ 8)
    (hi : ∀ W, (Instr.index 9 (.string Lib.len8tab) (.int .u8 (z / 65536))).run Tryz.prog W = .ok (.int .u8 (q : Int)) W) :
    Calls Tryz.prog 128 #[.int .u64 z] w fun e w' => e = .returned (.int .i64 (16 + q : Int)) ∧ w = w' := by
  go_enter Tryz.func128, Tryz.ntmps128
  go_wp2
  go_ret
  exact ⟨rfl, rfl⟩
set_option maxHeartbeats 1000000 in
theorem len64_001 (z : Int) (q : Nat) (w : World) (h0 : 0 ≤ z) (hz : z ≤ 18446744073709551615) (h1 : z < 4294967296) (h2 : z < 65536) (h3 : 256 ≤ z) (hq : q ≤ 8)
    (hi : ∀ W, (Instr.index 9 (.string Lib.len8tab) (.int .u8 (z / 256))).run Tryz.prog W = .ok (.int .u8 (q : Int)) W) :
    Calls Tryz.prog 128 #[.int .u64 z] w fun e w' => e = .returned (.int .i64 (8 + q : Int)) ∧ w = w' := by
  go_enter Tryz.func128, Tryz.ntmps128
  go_wp2
  go_ret
  exact ⟨rfl, rfl⟩
set_option maxHeartbeats 1000000 in
theorem len64_000 (z : Int) (q : Nat) (w : World) (h0 : 0 ≤ z) (hz : z ≤ 18446744073709551615) (h1 : z < 4294967296) (h2 : z < 65536) (h3 : z < 256) (hq : q ≤ 8)
    (hi : ∀ W, (Instr.index 9 (.string Lib.len8tab) (.int .u8 (z))).run Tryz.prog W = .ok (.int .u8 (q : Int)) W) :
    Calls Tryz.prog 128 #[.int .u64 z] w fun e w' => e = .returned (.int .i64 (0 + q : Int)) ∧ w = w' := by
  go_enter Tryz.func128, Tryz.ntmps128
  go_wp2
  go_ret
  exact ⟨ret_int (by omega), rfl⟩
theorem len64_any (x : Nat) (hx : x < 18446744073709551616) (w : World) :
    Calls Tryz.prog 128 #[.int .u64 (x : Int)] w fun e w' => e = .returned (.int .i64 (blen x : Int)) ∧ w = w' := by
  by_cases h0 : 4294967296 ≤ x
  · have s0 := blen_shift (x) 32 (by omega)
    rw [show 2 ^ 32 = 4294967296 by decide] at s0
    by_cases h1 : 65536 ≤ x / 4294967296
    · have s1 := blen_shift (x / 4294967296) 16 (by omega)
      rw [show 2 ^ 16 = 65536 by decide] at s1
      by_cases h2 : 256 ≤ x / 4294967296 / 65536
      · have s2 := blen_shift (x / 4294967296 / 65536) 8 (by omega)
        rw [show 2 ^ 8 = 256 by decide] at s2
        have := len64_111 (x : Int) (blen (x / 4294967296 / 65536 / 256)) w (by omega) (by omega) (by omega) (by omega) (by omega) (blen_mono_le (by omega)) (fun W => index_len8 W (x / 4294967296 / 65536 / 256) (by omega))
        exact this.mono fun e w' h => ⟨h.1.trans (ret_int (by omega)), h.2⟩
      · have := len64_110 (x : Int) (blen (x / 4294967296 / 65536)) w (by omega) (by omega) (by omega) (by omega) (by omega) (blen_mono_le (by omega)) (fun W => index_len8 W (x / 4294967296 / 65536) (by omega))
        exact this.mono fun e w' h => ⟨h.1.trans (ret_int (by omega)), h.2⟩
    · by_cases h2 : 256 ≤ x / 4294967296
      · have s2 := blen_shift (x / 4294967296) 8 (by omega)
        rw [show 2 ^ 8 = 256 by decide] at s2
        have := len64_101 (x : Int) (blen (x / 4294967296 / 256)) w (by omega) (by omega) (by omega) (by omega) (by omega) (blen_mono_le (by omega)) (fun W => index_len8 W (x / 4294967296 / 256) (by omega))
        exact this.mono fun e w' h => ⟨h.1.trans (ret_int (by omega)), h.2⟩
      · have := len64_100 (x : Int) (blen (x / 4294967296)) w (by omega) (by omega) (by omega) (by omega) (by omega) (blen_mono_le (by omega)) (fun W => index_len8 W (x / 4294967296) (by omega))
        exact this.mono fun e w' h => ⟨h.1.trans (ret_int (by omega)), h.2⟩
  · by_cases h1 : 65536 ≤ x
    · have s1 := blen_shift (x) 16 (by omega)
      rw [show 2 ^ 16 = 65536 by decide] at s1
      by_cases h2 : 256 ≤ x / 65536
      · have s2 := blen_shift (x / 65536) 8 (by omega)
        rw [show 2 ^ 8 = 256 by decide] at s2
        have := len64_011 (x : Int) (blen (x / 65536 / 256)) w (by omega) (by omega) (by omega) (by omega) (by omega) (blen_mono_le (by omega)) (fun W => index_len8 W (x / 65536 / 256) (by omega))
        exact this.mono fun e w' h => ⟨h.1.trans (ret_int (by omega)), h.2⟩
      · have := len64_010 (x : Int) (blen (x / 65536)) w (by omega) (by omega) (by omega) (by omega) (by omega) (blen_mono_le (by omega)) (fun W => index_len8 W (x / 65536) (by omega))
        exact this.mono fun e w' h => ⟨h.1.trans (ret_int (by omega)), h.2⟩
    · by_cases h2 : 256 ≤ x
      · have s2 := blen_shift (x) 8 (by omega)
        rw [show 2 ^ 8 = 256 by decide] at s2
        have := len64_001 (x : Int) (blen (x / 256)) w (by omega) (by omega) (by omega) (by omega) (by omega) (blen_mono_le (by omega)) (fun W => index_len8 W (x / 256) (by omega))
        exact this.mono fun e w' h => ⟨h.1.trans (ret_int (by omega)), h.2⟩
      · have := len64_000 (x : Int) (blen (x)) w (by omega) (by omega) (by omega) (by omega) (by omega) (blen_mono_le (by omega)) (fun W => index_len8 W (x) (by omega))
        exact this.mono fun e w' h => ⟨h.1.trans (ret_int (by omega)), h.2⟩

set_option maxHeartbeats 400000 in
theorem lead64_any {x : Nat} {z a : Int} (w : World) (hx : x < 18446744073709551616) (hz : (x : Int) = z) (ha : 64 - (blen x : Int) = a) :
    Calls Tryz.prog 85 #[.int .u64 z] w (PI w a) := by
  have hb := blen_mono_le (n := x) (k := 64) hx; subst hz; subst ha
  go_enter Tryz.func85, Tryz.ntmps85
  go_wp2_with (go_at_call 128; refine (len64_any x hx _).mono ?_; rintro e w' ⟨rfl, rfl⟩)
  go_ret
  exact ⟨rfl, Below.refl _ _⟩
theorem of_fq {n : Int} (h0 : n ≠ 0) (h1 : -9223372036854775808 ≤ n) (h2 : n ≤ 9223372036854775807) : Fq 1 (decide (n < 0)) ((tp n.natAbs : Nat) : Int) (-(64 - (blen n.natAbs : Int))) (sgi (decide (n < 0)) (lo n.natAbs 0)) := by
  have hm : n.natAbs ≠ 0 := by omega
  have a1 := tp_ge hm; have a2 := tp_lt n.natAbs; have a3 := blen_mono_le (n := n.natAbs) (k := 64) (by omega); refine Fq.fin (by omega) (by omega) (by omega) (by omega) ?_
  congr 1
  unfold lo xp
  rw [if_neg hm, if_neg (by omega), if_neg (by omega)]
  omega
theorem of_shl {n : Int} (h0 : n ≠ 0) (h1 : -9223372036854775808 ≤ n) (h2 : n ≤ 9223372036854775807) : (n.natAbs : Int) * 2 ^ (64 - (blen n.natAbs : Int)).toNat = ((tp n.natAbs : Nat) : Int) := by
  have a3 := blen_mono_le (n := n.natAbs) (k := 64) (by omega)
  rw [tp_small a3, show (64 - (blen n.natAbs : Int)).toNat = 64 - blen n.natAbs by omega]
  push_cast
  rfl
set_option maxHeartbeats 2000000 in
theorem nOf {n r : Int} (w : World) (h1 : -9223372036854775808 ≤ n) (h2 : n ≤ 9223372036854775807) (hr : sgi (decide (n < 0)) (lo n.natAbs 0) = r) : Calls Tryz.prog 39 #[.int .i64 n] w (PN w r) := by
  by_cases h0 : n = 0
  · subst h0
    obtain rfl : 0 = r := hr
    go_enter Tryz.func39, Tryz.ntmps39
    go_upto_region 1 with (fail)
    generalize hW1 : w.alloc _ = w1 at *; obtain ⟨XR, HB⟩ := Bo.en1 hW1; clear hW1; obtain ⟨xXR0, xXR1, xXR2, xXR3⟩ := XR.u4; have zXR0 := XR.frozen; go_wp2; clear xXR0 zXR0 xXR1 xXR2 xXR3; have SX := StN.mk4 XR (.int .i64 0) (.bool false) (.int .u64 0) (.int .i64 0); exact bodyPost_ret (by simp [results, Tryz.results39, go_sem, SX.box.cell]) rfl ⟨_, _, _, _, rfl, Fq.nought, (SX.below HB.out (by omega))⟩
  · have HQ := of_fq h0 h1 h2; have hs := of_shl h0 h1 h2
    have e0 : (n == 0) = false := by simpa using h0
    have hx : n.natAbs < 18446744073709551616 := by omega
    have hb := blen_mono_le (n := n.natAbs) (k := 64) (by omega); have t1 := tp_lt n.natAbs; rw [hr] at HQ; clear hr
    by_cases hs0 : n < 0
    · obtain ⟨a, ha⟩ : ∃ a, 64 - (blen n.natAbs : Int) = a := ⟨_, rfl⟩
      have hn : ((n.natAbs : Nat) : Int) = -n := by omega
      rw [ha] at HQ hs; rw [hn] at hs
      have hd : decide (n < 0) = true := by simp; omega
      rw [hd] at HQ; have HA := Lib.hid ha; have HN := Lib.hid hn; obtain ⟨T, hT⟩ : ∃ T, ((tp n.natAbs : Nat) : Int) = T := ⟨_, rfl⟩; rw [hT] at HQ hs
      have hT2 : 0 ≤ T ∧ T < 18446744073709551616 := by omega
      have HS := Lib.hid hs
      have HW := Lib.hid (show IntKind.u64.wrap T = T from IntWalk.u64_in _ (by omega))
      have a1 : 0 ≤ a := by omega
      have hb0 : blen n.natAbs ≠ 0 := fun e => h0 (by have := blen_eq_zero.1 e; omega)
      have a2 : a < 64 := by omega
      clear hb0; clear hs ha hb t1 hT hn hT2
      go_enter Tryz.func39, Tryz.ntmps39
      go_upto_region 1 with (fail)
      generalize hW1 : w.alloc _ = w1 at *; obtain ⟨XR, HB⟩ := Bo.en1 hW1; clear hW1
      have hx1 : n.natAbs < 18446744073709551616 := hx
      have hc : IntKind.u64.wrap (-IntKind.u64.wrap n) = -n := by
        show (-(n % 18446744073709551616)) % 18446744073709551616 = -n
        omega
      go_wp2_with fail
      refine (lead64_any _ hx HN.out HA.out).mono ?_; rintro ee w2 ⟨rfl, B⟩; replace XR := XR.below B; replace HB := Lib.hid (bt HB.out B); clear B; have hs := HS.out; have hw := HW.out; obtain ⟨xXR0, xXR1, xXR2, xXR3⟩ := XR.u4; have zXR0 := XR.frozen; go_wp2; clear xXR0 zXR0 xXR1 xXR2 xXR3; have SX := StN.mk4 XR (.int .i64 1) (.bool true) (.int .u64 T) (.int .i64 (-a)); exact bodyPost_ret (by simp [results, Tryz.results39, go_sem, SX.box.cell]) rfl ⟨_, _, _, _, rfl, HQ, (SX.below HB.out (by omega))⟩
    · obtain ⟨a, ha⟩ : ∃ a, 64 - (blen n.natAbs : Int) = a := ⟨_, rfl⟩
      have hn : ((n.natAbs : Nat) : Int) = n := by omega
      rw [ha] at HQ hs; rw [hn] at hs
      have hd : decide (n < 0) = false := by simp; omega
      rw [hd] at HQ; have HA := Lib.hid ha; have HN := Lib.hid hn; obtain ⟨T, hT⟩ : ∃ T, ((tp n.natAbs : Nat) : Int) = T := ⟨_, rfl⟩; rw [hT] at HQ hs
      have hT2 : 0 ≤ T ∧ T < 18446744073709551616 := by omega
      have HS := Lib.hid hs
      have HW := Lib.hid (show IntKind.u64.wrap T = T from IntWalk.u64_in _ (by omega))
      have a1 : 0 ≤ a := by omega
      have hb0 : blen n.natAbs ≠ 0 := fun e => h0 (by have := blen_eq_zero.1 e; omega)
      have a2 : a < 64 := by omega
      clear hb0; clear hs ha hb t1 hT hn hT2
      go_enter Tryz.func39, Tryz.ntmps39
      go_upto_region 1 with (fail)
      generalize hW1 : w.alloc _ = w1 at *; obtain ⟨XR, HB⟩ := Bo.en1 hW1; clear hW1
      have hx1 : n.natAbs < 18446744073709551616 := hx
      go_wp2_with fail
      refine (lead64_any _ hx HN.out HA.out).mono ?_; rintro ee w2 ⟨rfl, B⟩; replace XR := XR.below B; replace HB := Lib.hid (bt HB.out B); clear B; have hs := HS.out; have hw := HW.out; obtain ⟨xXR0, xXR1, xXR2, xXR3⟩ := XR.u4; have zXR0 := XR.frozen; go_wp2; clear xXR0 zXR0 xXR1 xXR2 xXR3; have SX := StN.mk4 XR (.int .i64 1) (.bool false) (.int .u64 T) (.int .i64 (-a)); exact bodyPost_ret (by simp [results, Tryz.results39, go_sem, SX.box.cell]) rfl ⟨_, _, _, _, rfl, HQ, (SX.below HB.out (by omega))⟩
end Go.Proofs.YteejbcimmmcnlaaGreatDoor

/-
 Contracts that the proof rests on.
-/
import Derived.Test.YtnbliijpjcmbjaaGreatDoorYAaq
namespace Go.Proofs.YtnbliijpjcmbjaaGreatDoor
set_option maxHeartbeats 4000000
open Go.RowKit
set_option linter.unusedVariables false
def tp (m : Nat) : Nat := m * 2 ^ 64 / 2 ^ blen m
theorem tp_ge {m : Nat} (h : m ≠ 0) : 2 ^ 63 ≤ tp m := by
 unfold tp
 have h1 := blen_le h
 have h2 : blen m ≠ 0 := fun e => h (blen_eq_zero.1 e)
 obtain ⟨k, hk⟩ : ∃ k, blen m = k + 1 := ⟨blen m - 1, by omega⟩
 rw [hk] at h1 ⊢; rw [Nat.le_div_iff_mul_le (Nat.pow_pos (by decide)), Nat.pow_succ, Nat.add_sub_cancel] at *
 have := Nat.mul_le_mul_right (2 ^ 64) h1
 calc 2 ^ 63 * (2 ^ k * 2) = 2 ^ k * 2 ^ 64 := by rw [show (2 : Nat) ^ 64 = 2 ^ 63 * 2 by decide, Nat.mul_comm (2 ^ 63) (2 ^ k * 2), Nat.mul_assoc, Nat.mul_comm 2 (2 ^ 63)]
   _ ≤ m * 2 ^ 64 := this
theorem tp_lt (m : Nat) : tp m < 2 ^ 64 := by
 unfold tp
 rw [Nat.div_lt_iff_lt_mul (Nat.pow_pos (by decide)), Nat.mul_comm (2 ^ 64)]; exact Nat.mul_lt_mul_of_pos_right (blen_lt m) (Nat.pow_pos (by decide))
theorem blen_mul {m : Nat} (h : m ≠ 0) (t : Nat) : blen (m * 2 ^ t) = blen m + t := by
 have := blen_shift (m * 2 ^ t) t (Nat.le_mul_of_pos_left _ (by omega))
 rw [Nat.mul_div_cancel _ (Nat.pow_pos (by decide))] at this
 omega
theorem tp_mul {m : Nat} (h : m ≠ 0) (t : Nat) : tp (m * 2 ^ t) = tp m := by
 unfold tp
 rw [blen_mul h, Nat.pow_add, Nat.mul_right_comm m, Nat.mul_div_mul_right _ _ (Nat.pow_pos (by decide))]
theorem tp_big {m : Nat} (h : 64 ≤ blen m) : tp m = m / 2 ^ (blen m - 64) := by
 unfold tp
 rw [show 2 ^ blen m = 2 ^ (blen m - 64) * 2 ^ 64 by rw [← Nat.pow_add]; congr 1; omega, Nat.mul_div_mul_right _ _ (Nat.pow_pos (by decide))]
theorem tp_small {m : Nat} (h : blen m ≤ 64) : tp m = m * 2 ^ (64 - blen m) := by
 unfold tp
 rw [show 2 ^ 64 = 2 ^ (64 - blen m) * 2 ^ blen m by rw [← Nat.pow_add]; congr 1; omega, ← Nat.mul_assoc, Nat.mul_div_cancel _ (Nat.pow_pos (by decide))]
def xp (m : Nat) (E : Int) : Int := E + (blen m : Nat) - 64
def lo (m : Nat) (E : Int) : Int :=
 if m = 0 then 0 else if 1048576 < xp m E then 19342822337206103650074624 else if xp m E < -1048576 then 0 else (tp m : Int) - 9223372036854775808 + 1 + (xp m E + 1048576) * 9223372036854775808
def ext (m : Nat) (E : Int) : Bool := m == 0 || (decide (xp m E ≤ 1048576) && (decide (-1048576 ≤ xp m E) && decide (blen m ≤ 64)))
def hi (m : Nat) (E : Int) : Int := if ext m E = true then lo m E else lo m E + 1
def rnd (up : Bool) (N E : Int) : Int := sgi (decide (N < 0)) (if (up != decide (N < 0)) = true then hi N.natAbs E else lo N.natAbs E)
theorem lo_mul {m : Nat} (h : m ≠ 0) (t : Nat) (E : Int) : lo (m * 2 ^ t) E = lo m (E + t) := by
 have h2 : m * 2 ^ t ≠ 0 := Nat.mul_ne_zero h (Nat.ne_of_gt (Nat.pow_pos (by decide)))
 unfold lo
 rw [if_neg h, if_neg h2, tp_mul h]
 unfold xp
 rw [blen_mul h, show E + ((blen m + t : Nat) : Int) - 64 = E + (t : Int) + (blen m : Nat) - 64 by omega]
theorem lo_bd (m : Nat) (E : Int) : 0 ≤ lo m E ∧ lo m E ≤ 19342822337206103650074624 := by
 unfold lo
 have h1 := tp_lt m
 by_cases h : m = 0
 · rw [if_pos h]; omega
 · rw [if_neg h]; have h0 := tp_ge h
   by_cases h3 : 1048576 < xp m E
   · rw [if_pos h3]; omega
   · rw [if_neg h3]
     by_cases h4 : xp m E < -1048576
     · rw [if_pos h4]; omega
     · rw [if_neg h4]
       omega
theorem hi_bd (m : Nat) (E : Int) : lo m E ≤ hi m E ∧ hi m E ≤ lo m E + 1 := by
 unfold hi
 split <;> omega
def vp (r : Int) : Int := if r ≤ 0 then 0 else ((r - 1) % 9223372036854775808 + 9223372036854775808) * 2 ^ ((r - 1) / 9223372036854775808 - 1048576 + KK).toNat
def vr (r : Int) : Int := if r < 0 then -vp (-r) else vp r
theorem vp_fin {M E : Int} (h1 : 9223372036854775808 ≤ M) (h2 : LQ M) (h3 : -1048576 ≤ E) : vp (M - 9223372036854775808 + 1 + (E + 1048576) * 9223372036854775808) = M * 2 ^ (E + KK).toNat := by
 unfold vp
 rw [if_neg (by omega)]
 have e1 : (M - 9223372036854775808 + 1 + (E + 1048576) * 9223372036854775808 - 1) % 9223372036854775808 + 9223372036854775808 = M := by omega
 have e2 : (M - 9223372036854775808 + 1 + (E + 1048576) * 9223372036854775808 - 1) / 9223372036854775808 - 1048576 = E := by omega
 rw [e1, e2]
theorem vp_succ {r : Int} (h : 0 ≤ r) : vp r < vp (r + 1) := by
 by_cases h0 : r = 0
 · subst h0
   have : vp 0 = 0 := rfl
   rw [this]
   unfold vp
   rw [if_neg (by omega)]; exact Int.mul_pos (by omega) (p2pos _)
 · obtain ⟨q, m, hm, hm2, e⟩ : ∃ q m : Int, 9223372036854775808 ≤ m ∧ m < 18446744073709551616 ∧ r = m - 9223372036854775808 + 1 + (q + 1048576) * 9223372036854775808 := ⟨(r - 1) / 9223372036854775808 - 1048576, (r - 1) % 9223372036854775808 + 9223372036854775808, by omega, by omega, by omega⟩
   have hq : -1048576 ≤ q := by omega
   have e0 := vp_fin hm hm2 hq; rw [← e] at e0; rw [e0]
   by_cases hc : m = 18446744073709551615
   · have e1 := vp_fin (M := 9223372036854775808) (E := q + 1) (by omega) (by omega) (by omega)
     rw [show (9223372036854775808 : Int) - 9223372036854775808 + 1 + (q + 1 + 1048576) * 9223372036854775808 = r + 1 by omega] at e1
     rw [e1, show (q + 1 + (KK : Int)).toNat = (q + KK).toNat + 1 by rw [KK_eq]; omega, Int.pow_succ, hc, ← Int.mul_assoc, Int.mul_right_comm]
     exact Int.mul_lt_mul_of_pos_right (by omega) (p2pos _)
   · have e1 := vp_fin (M := m + 1) (E := q) (by omega) (by omega) hq
     rw [show m + 1 - 9223372036854775808 + 1 + (q + 1048576) * 9223372036854775808 = r + 1 by omega] at e1
     rw [e1]; exact Int.mul_lt_mul_of_pos_right (by omega) (p2pos _)
theorem vr_succ (r : Int) : vr r < vr (r + 1) := by
 unfold vr
 by_cases h : 0 ≤ r
 · rw [if_neg (by omega), if_neg (by omega)]; exact vp_succ h
 · rw [if_pos (by omega)]
   have := vp_succ (r := -(r + 1)) (by omega)
   rw [show -(r + 1) + 1 = -r by omega] at this
   by_cases h2 : r + 1 < 0
   · rw [if_pos h2]
     omega
   · rw [if_neg h2]
     have e : r + 1 = 0 := by omega
     rw [e] at this ⊢
     rw [show vp (-0) = 0 from rfl] at this
     rw [show vp 0 = 0 from rfl]
     omega
theorem vr_add (r : Int) : ∀ n : Nat, vr r < vr (r + (n + 1 : Nat))
 | 0 => vr_succ r
 | n + 1 => by
   have h1 := vr_add r n; have h2 := vr_succ (r + (n + 1 : Nat))
   rw [show r + ((n + 1 + 1 : Nat) : Int) = r + ((n + 1 : Nat) : Int) + 1 by omega]
   omega
theorem vr_lt {r t : Int} (h : r < t) : vr r < vr t := by
 have := vr_add r (t - r - 1).toNat
 rwa [show r + (((t - r - 1).toNat + 1 : Nat) : Int) = t by omega] at this
theorem vr_cmp (r t : Int) : cmpI (vr r) (vr t) = cmpI r t := by
 rcases cmpI_tri r t with ⟨a1, a2⟩ | ⟨a1, a2⟩ | ⟨a1, a2⟩ <;> rw [a2]
 · exact cmpI_lt (vr_lt a1)
 · exact cmpI_eq (by rw [a1])
 · exact cmpI_gt (vr_lt a1)
theorem vr_neg (r : Int) : vr (-r) = -vr r := by
 unfold vr
 by_cases h : r < 0
 · rw [if_neg (by omega), if_pos h, Int.neg_neg]
 · by_cases h2 : r = 0
   · subst h2; rfl
   · rw [if_pos (by omega), if_neg h, Int.neg_neg]
theorem vr_sgi (s : Bool) (r : Int) : vr (sgi s r) = sgi s (vr r) := by
 cases s
 · rfl
 · exact vr_neg r
theorem lo_vr {m : Nat} {E : Int} (h : m ≠ 0) (h1 : xp m E ≤ 1048576) (h2 : -1048576 ≤ xp m E) (hE : -(KK : Int) ≤ E) (ho : m % 2 = 1) :
   vr (lo m E) ≤ (m : Int) * 2 ^ (E + KK).toNat ∧ (m : Int) * 2 ^ (E + KK).toNat < vr (lo m E + 1) ∧ (ext m E = true → vr (lo m E) = (m : Int) * 2 ^ (E + KK).toNat) ∧ (ext m E = false → vr (lo m E) < (m : Int) * 2 ^ (E + KK).toNat) := by
 have t1 := tp_ge h; have t2 := tp_lt m; have hk := KK_eq
 have hb : 0 ≤ lo m E := (lo_bd m E).1
 have el : lo m E = (tp m : Int) - 9223372036854775808 + 1 + (xp m E + 1048576) * 9223372036854775808 := by
   unfold lo
   rw [if_neg h, if_neg (by omega), if_neg (by omega)]
 have ev : vr (lo m E) = (tp m : Int) * 2 ^ (xp m E + KK).toNat := by
   unfold vr
   rw [if_neg (by omega), el]; exact vp_fin (by omega) (by omega) h2
 have ex : ext m E = decide (blen m ≤ 64) := by
   unfold ext
   rw [show (m == 0) = false by simpa using h, decide_eq_true h1, decide_eq_true h2]
   rfl
 have en : vr (lo m E + 1) = ((tp m : Int) + 1) * 2 ^ (xp m E + KK).toNat := by
   unfold vr
   rw [if_neg (by omega), el]
   by_cases hc : (tp m : Int) = 18446744073709551615
   · have e1 := vp_fin (M := 9223372036854775808) (E := xp m E + 1) (by omega) (by omega) (by omega)
     rw [show (tp m : Int) - 9223372036854775808 + 1 + (xp m E + 1048576) * 9223372036854775808 + 1 = (9223372036854775808 : Int) - 9223372036854775808 + 1 + (xp m E + 1 + 1048576) * 9223372036854775808 by omega, e1, show (xp m E + 1 + (KK : Int)).toNat = (xp m E + KK).toNat + 1 by omega, Int.pow_succ, hc, ← Int.mul_assoc, Int.mul_right_comm]
     rfl
   · have e1 := vp_fin (M := (tp m : Int) + 1) (E := xp m E) (by omega) (by omega) h2
     rw [show (tp m : Int) - 9223372036854775808 + 1 + (xp m E + 1048576) * 9223372036854775808 + 1 = (tp m : Int) + 1 - 9223372036854775808 + 1 + (xp m E + 1048576) * 9223372036854775808 by omega, e1]
 rw [ev, en, ex]
 by_cases hl : blen m ≤ 64
 · have e1 : (m : Int) * 2 ^ (E + KK).toNat = (tp m : Int) * 2 ^ (xp m E + KK).toNat := by
     have hx : (xp m E + KK).toNat + (64 - blen m) = (E + KK).toNat := by unfold xp at h2 ⊢; omega
     rw [tp_small hl, ← hx, Int.pow_add]
     push_cast
     rw [Int.mul_assoc, Int.mul_comm (2 ^ (64 - blen m))]
   have hp := p2pos (xp m E + KK).toNat; rw [e1, decide_eq_true hl]
   refine ⟨Int.le_refl _, Int.mul_lt_mul_of_pos_right (by omega) hp, fun _ => rfl, fun h => by cases h⟩
 · have hd := Nat.div_add_mod m (2 ^ (blen m - 64))
   have hm := Nat.mod_lt m (Nat.pow_pos (n := blen m - 64) (show 0 < 2 by decide))
   have hne : m % 2 ^ (blen m - 64) ≠ 0 := by
     intro e
     have : 2 ∣ m := Nat.dvd_trans (show 2 ∣ 2 ^ (blen m - 64) from ⟨2 ^ (blen m - 64 - 1), by rw [← Nat.pow_succ']; congr 1; omega⟩) (Nat.dvd_of_mod_eq_zero e)
     omega
   rw [← tp_big (by omega)] at hd
   have e1 : (2 : Int) ^ (xp m E + KK).toNat = 2 ^ (blen m - 64) * 2 ^ (E + KK).toNat := by
     rw [← Int.pow_add]
     congr 1
     unfold xp
     omega
   have hp := p2pos (E + KK).toNat
   have c1 : (tp m : Int) * 2 ^ (blen m - 64) < (m : Int) := by
     have : tp m * 2 ^ (blen m - 64) < m := by rw [Nat.mul_comm]; omega
     exact_mod_cast this
   have c2 : (m : Int) < ((tp m : Int) + 1) * 2 ^ (blen m - 64) := by
     have : m < (tp m + 1) * 2 ^ (blen m - 64) := by rw [Nat.mul_comm, Nat.mul_add, Nat.mul_one]; omega
     exact_mod_cast this
   have l1 := Int.mul_lt_mul_of_pos_right c1 hp; have l2 := Int.mul_lt_mul_of_pos_right c2 hp; rw [Int.mul_assoc] at l1 l2; rw [e1, decide_eq_false hl]
   exact ⟨Int.le_of_lt l1, l2, fun h => (by cases h), fun _ => l1⟩
set_option linter.unusedSimpArgs false
set_option maxRecDepth 100000
theorem len64_111 (z : Int) (q : Nat) (w : World) (h0 : 0 ≤ z) (hz : z ≤ 18446744073709551615) (h1 : 4294967296 ≤ z) (h2 : 65536 ≤ z / 4294967296) (h3 : 256 ≤ z / 4294967296 / 65536) (hq : q ≤ 8)
   (hi : ∀ W, (Instr.index 9 (.string Lib.len8tab) (.int .u8 (z / 4294967296 / 65536 / 256))).run Tryz.prog W = .ok (.int .u8 (q : Int)) W) :
   Calls Tryz.prog 93 #[.int .u64 z] w fun e w' => e = .returned (.int .i64 (56 + q : Int)) ∧ w = w' := by
 go_enter Tryz.func93, Tryz.ntmps93
 go_wp2
 go_ret
 exact ⟨rfl, rfl⟩
theorem len64_110 (z : Int) (q : Nat) (w : World) (h0 : 0 ≤ z) (hz : z ≤ 18446744073709551615) (h1 : 4294967296 ≤ z) (h2 : 65536 ≤ z / 4294967296) (h3 : z / 4294967296 / 65536 < 256) (hq : q ≤ 8)
   (hi : ∀ W, (Instr.index 9 (.string Lib.len8tab) (.int .u8 (z / 4294967296 / 65536))).run Tryz.prog W = .ok (.int .u8 (q : Int)) W) :
   Calls Tryz.prog 93 #[.int .u64 z] w fun e w' => e = .returned (.int .i64 (48 + q : Int)) ∧ w = w' := by
 go_enter Tryz.func93, Tryz.ntmps93
 go_wp2
 go_ret
 exact ⟨rfl, rfl⟩
theorem len64_101 (z : Int) (q : Nat) (w : World) (h0 : 0 ≤ z) (hz : z ≤ 18446744073709551615) (h1 : 4294967296 ≤ z) (h2 : z / 4294967296 < 65536) (h3 : 256 ≤ z / 4294967296) (hq : q ≤ 8)
   (hi : ∀ W, (Instr.index 9 (.string Lib.len8tab) (.int .u8 (z / 4294967296 / 256))).run Tryz.prog W = .ok (.int .u8 (q : Int)) W) :
   Calls Tryz.prog 93 #[.int .u64 z] w fun e w' => e = .returned (.int .i64 (40 + q : Int)) ∧ w = w' := by
 go_enter Tryz.func93, Tryz.ntmps93
 go_wp2
 go_ret
 exact ⟨rfl, rfl⟩
theorem len64_100 (z : Int) (q : Nat) (w : World) (h0 : 0 ≤ z) (hz : z ≤ 18446744073709551615) (h1 : 4294967296 ≤ z) (h2 : z / 4294967296 < 65536) (h3 : z / 4294967296 < 256) (hq : q ≤ 8)
   (hi : ∀ W, (Instr.index 9 (.string Lib.len8tab) (.int .u8 (z / 4294967296))).run Tryz.prog W = .ok (.int .u8 (q : Int)) W) :
   Calls Tryz.prog 93 #[.int .u64 z] w fun e w' => e = .returned (.int .i64 (32 + q : Int)) ∧ w = w' := by
 go_enter Tryz.func93, Tryz.ntmps93
 go_wp2
 go_ret
 exact ⟨rfl, rfl⟩
theorem len64_011 (z : Int) (q : Nat) (w : World) (h0 : 0 ≤ z) (hz : z ≤ 18446744073709551615) (h1 : z < 4294967296) (h2 : 65536 ≤ z) (h3 : 256 ≤ z / 65536) (hq : q ≤ 8)
   (hi : ∀ W, (Instr.index 9 (.string Lib.len8tab) (.int .u8 (z / 65536 / 256))).run Tryz.prog W = .ok (.int .u8 (q : Int)) W) :
   Calls Tryz.prog 93 #[.int .u64 z] w fun e w' => e = .returned (.int .i64 (24 + q : Int)) ∧ w = w' := by
 go_enter Tryz.func93, Tryz.ntmps93
 go_wp2
 go_ret
 exact ⟨rfl, rfl⟩
theorem len64_010 (z : Int) (q : Nat) (w : World) (h0 : 0 ≤ z) (hz : z ≤ 18446744073709551615) (h1 : z < 4294967296) (h2 : 65536 ≤ z) (h3 : z / 65536 < 256) (hq : q ≤ 8)
   (hi : ∀ W, (Instr.index 9 (.string Lib.len8tab) (.int .u8 (z / 65536))).run Tryz.prog W = .ok (.int .u8 (q : Int)) W) :
   Calls Tryz.prog 93 #[.int .u64 z] w fun e w' => e = .returned (.int .i64 (16 + q : Int)) ∧ w = w' := by
 go_enter Tryz.func93, Tryz.ntmps93
 go_wp2
 go_ret
 exact ⟨rfl, rfl⟩
theorem len64_001 (z : Int) (q : Nat) (w : World) (h0 : 0 ≤ z) (hz : z ≤ 18446744073709551615) (h1 : z < 4294967296) (h2 : z < 65536) (h3 : 256 ≤ z) (hq : q ≤ 8)
   (hi : ∀ W, (Instr.index 9 (.string Lib.len8tab) (.int .u8 (z / 256))).run Tryz.prog W = .ok (.int .u8 (q : Int)) W) :
   Calls Tryz.prog 93 #[.int .u64 z] w fun e w' => e = .returned (.int .i64 (8 + q : Int)) ∧ w = w' := by
 go_enter Tryz.func93, Tryz.ntmps93
 go_wp2
 go_ret
 exact ⟨rfl, rfl⟩
theorem len64_000 (z : Int) (q : Nat) (w : World) (h0 : 0 ≤ z) (hz : z ≤ 18446744073709551615) (h1 : z < 4294967296) (h2 : z < 65536) (h3 : z < 256) (hq : q ≤ 8)
   (hi : ∀ W, (Instr.index 9 (.string Lib.len8tab) (.int .u8 (z))).run Tryz.prog W = .ok (.int .u8 (q : Int)) W) :
   Calls Tryz.prog 93 #[.int .u64 z] w fun e w' => e = .returned (.int .i64 (0 + q : Int)) ∧ w = w' := by
 go_enter Tryz.func93, Tryz.ntmps93
 go_wp2
 go_ret
 exact ⟨ret_int (by omega), rfl⟩
theorem len64_any (x : Nat) (hx : x < 18446744073709551616) (w : World) :
   Calls Tryz.prog 93 #[.int .u64 (x : Int)] w fun e w' => e = .returned (.int .i64 (blen x : Int)) ∧ w = w' := by
 by_cases h0 : 4294967296 ≤ x
 · have s0 := blen_shift (x) 32 (by omega)
   rw [show 2 ^ 32 = 4294967296 by decide] at s0
   by_cases h1 : 65536 ≤ x / 4294967296
   · have s1 := blen_shift (x / 4294967296) 16 (by omega)
     rw [show 2 ^ 16 = 65536 by decide] at s1
     by_cases h2 : 256 ≤ x / 4294967296 / 65536
     · have s2 := blen_shift (x / 4294967296 / 65536) 8 (by omega)
       rw [show 2 ^ 8 = 256 by decide] at s2
       have := len64_111 (x : Int) (blen (x / 4294967296 / 65536 / 256)) w (by omega) (by omega) (by omega) (by omega) (by omega) (blen_mono_le (by omega)) (fun W => index_len8 W (x / 4294967296 / 65536 / 256) (by omega))
       exact this.mono fun e w' h => ⟨h.1.trans (ret_int (by omega)), h.2⟩
     · have := len64_110 (x : Int) (blen (x / 4294967296 / 65536)) w (by omega) (by omega) (by omega) (by omega) (by omega) (blen_mono_le (by omega)) (fun W => index_len8 W (x / 4294967296 / 65536) (by omega))
       exact this.mono fun e w' h => ⟨h.1.trans (ret_int (by omega)), h.2⟩
   · by_cases h2 : 256 ≤ x / 4294967296
     · have s2 := blen_shift (x / 4294967296) 8 (by omega)
       rw [show 2 ^ 8 = 256 by decide] at s2
       have := len64_101 (x : Int) (blen (x / 4294967296 / 256)) w (by omega) (by omega) (by omega) (by omega) (by omega) (blen_mono_le (by omega)) (fun W => index_len8 W (x / 4294967296 / 256) (by omega))
       exact this.mono fun e w' h => ⟨h.1.trans (ret_int (by omega)), h.2⟩
     · have := len64_100 (x : Int) (blen (x / 4294967296)) w (by omega) (by omega) (by omega) (by omega) (by omega) (blen_mono_le (by omega)) (fun W => index_len8 W (x / 4294967296) (by omega))
       exact this.mono fun e w' h => ⟨h.1.trans (ret_int (by omega)), h.2⟩
 · by_cases h1 : 65536 ≤ x
   · have s1 := blen_shift (x) 16 (by omega)
     rw [show 2 ^ 16 = 65536 by decide] at s1
     by_cases h2 : 256 ≤ x / 65536
     · have s2 := blen_shift (x / 65536) 8 (by omega)
       rw [show 2 ^ 8 = 256 by decide] at s2
       have := len64_011 (x : Int) (blen (x / 65536 / 256)) w (by omega) (by omega) (by omega) (by omega) (by omega) (blen_mono_le (by omega)) (fun W => index_len8 W (x / 65536 / 256) (by omega))
       exact this.mono fun e w' h => ⟨h.1.trans (ret_int (by omega)), h.2⟩
     · have := len64_010 (x : Int) (blen (x / 65536)) w (by omega) (by omega) (by omega) (by omega) (by omega) (blen_mono_le (by omega)) (fun W => index_len8 W (x / 65536) (by omega))
       exact this.mono fun e w' h => ⟨h.1.trans (ret_int (by omega)), h.2⟩
   · by_cases h2 : 256 ≤ x
     · have s2 := blen_shift (x) 8 (by omega)
       rw [show 2 ^ 8 = 256 by decide] at s2
       have := len64_001 (x : Int) (blen (x / 256)) w (by omega) (by omega) (by omega) (by omega) (by omega) (blen_mono_le (by omega)) (fun W => index_len8 W (x / 256) (by omega))
       exact this.mono fun e w' h => ⟨h.1.trans (ret_int (by omega)), h.2⟩
     · have := len64_000 (x : Int) (blen (x)) w (by omega) (by omega) (by omega) (by omega) (by omega) (blen_mono_le (by omega)) (fun W => index_len8 W (x) (by omega))
       exact this.mono fun e w' h => ⟨h.1.trans (ret_int (by omega)), h.2⟩
theorem lead64_any {x : Nat} {z a : Int} (w : World) (hx : x < 18446744073709551616) (hz : (x : Int) = z) (ha : 64 - (blen x : Int) = a) :
   Calls Tryz.prog 65 #[.int .u64 z] w (PI w a) := by
 have hb := blen_mono_le (n := x) (k := 64) hx; subst hz; subst ha
 go_enter Tryz.func65, Tryz.ntmps65
 go_wp2_with (go_at_call 93; refine (len64_any x hx _).mono ?_; rintro e w' ⟨rfl, rfl⟩)
 go_ret
 exact ⟨rfl, Below.refl _ _⟩
theorem of_fq {n : Int} (h0 : n ≠ 0) (h1 : -9223372036854775808 ≤ n) (h2 : n ≤ 9223372036854775807) : Fq 1 (decide (n < 0)) ((tp n.natAbs : Nat) : Int) (-(64 - (blen n.natAbs : Int))) (sgi (decide (n < 0)) (lo n.natAbs 0)) := by
 have hm : n.natAbs ≠ 0 := by omega
 have a1 := tp_ge hm; have a2 := tp_lt n.natAbs; have a3 := blen_mono_le (n := n.natAbs) (k := 64) (by omega); refine Fq.fin (by omega) (by omega) (by omega) (by omega) ?_
 congr 1
 unfold lo xp
 rw [if_neg hm, if_neg (by omega), if_neg (by omega)]
 omega
theorem of_shl {n : Int} (h0 : n ≠ 0) (h1 : -9223372036854775808 ≤ n) (h2 : n ≤ 9223372036854775807) : (n.natAbs : Int) * 2 ^ (64 - (blen n.natAbs : Int)).toNat = ((tp n.natAbs : Nat) : Int) := by
 have a3 := blen_mono_le (n := n.natAbs) (k := 64) (by omega)
 rw [tp_small a3, show (64 - (blen n.natAbs : Int)).toNat = 64 - blen n.natAbs by omega]
 push_cast
 rfl
theorem nOf {n r : Int} (w : World) (h1 : -9223372036854775808 ≤ n) (h2 : n ≤ 9223372036854775807) (hr : sgi (decide (n < 0)) (lo n.natAbs 0) = r) : Calls Tryz.prog 34 #[.int .i64 n] w (PN w r) := by
 by_cases h0 : n = 0
 · subst h0
   obtain rfl : 0 = r := hr
   go_enter Tryz.func34, Tryz.ntmps34
   go_upto_region 1 with (fail)
   generalize hW1 : w.alloc _ = w1 at *; obtain ⟨XR, HB⟩ := Bo.en1 hW1; clear hW1; have xXR := XR.cell; have zXR0 := XR.frozen; go_wp2; clear xXR zXR0; have SX := StN.mk4 XR (.int .i64 0) (.bool false) (.int .u64 0) (.int .i64 0); exact bodyPost_ret (by simp [results, Tryz.results34, go_sem, SX.box.cell]) rfl ⟨_, _, _, _, rfl, Fq.nought, (SX.below HB.out (by omega))⟩
 · have HQ := of_fq h0 h1 h2; have hs := of_shl h0 h1 h2
   have e0 : (n == 0) = false := by simpa using h0
   have hx : n.natAbs < 18446744073709551616 := by omega
   have hb := blen_mono_le (n := n.natAbs) (k := 64) (by omega); have t1 := tp_lt n.natAbs; rw [hr] at HQ; clear hr
   by_cases hs0 : n < 0
   · obtain ⟨a, ha⟩ : ∃ a, 64 - (blen n.natAbs : Int) = a := ⟨_, rfl⟩
     have hn : ((n.natAbs : Nat) : Int) = -n := by omega
     rw [ha] at HQ hs; rw [hn] at hs
     have hd : decide (n < 0) = true := by simp; omega
     rw [hd] at HQ; have HA := Lib.hid ha; have HN := Lib.hid hn; obtain ⟨T, hT⟩ : ∃ T, ((tp n.natAbs : Nat) : Int) = T := ⟨_, rfl⟩; rw [hT] at HQ hs
     have hT2 : 0 ≤ T ∧ T < 18446744073709551616 := by omega
     have HS := Lib.hid hs
     have HW := Lib.hid (show IntKind.u64.wrap T = T from IntWalk.u64_in _ (by omega))
     have a1 : 0 ≤ a := by omega
     have hb0 : blen n.natAbs ≠ 0 := fun e => h0 (by have := blen_eq_zero.1 e; omega)
     have a2 : a < 64 := by omega
     clear hb0; clear hs ha hb t1 hT hn hT2
     go_enter Tryz.func34, Tryz.ntmps34
     go_upto_region 1 with (fail)
     generalize hW1 : w.alloc _ = w1 at *; obtain ⟨XR, HB⟩ := Bo.en1 hW1; clear hW1
     have hx1 : n.natAbs < 18446744073709551616 := hx
     have hc : IntKind.u64.wrap (-IntKind.u64.wrap n) = -n := by
       show (-(n % 18446744073709551616)) % 18446744073709551616 = -n
       omega
     go_wp2_with fail
     refine (lead64_any _ hx HN.out HA.out).mono ?_; rintro ee w2 ⟨rfl, B⟩; replace XR := XR.below B; replace HB := Hqb HB B; clear B; have hs := HS.out; have hw := HW.out; have xXR := XR.cell; have zXR0 := XR.frozen; go_wp2; clear xXR zXR0; have SX := StN.mk4 XR (.int .i64 1) (.bool true) (.int .u64 T) (.int .i64 (-a)); exact bodyPost_ret (by simp [results, Tryz.results34, go_sem, SX.box.cell]) rfl ⟨_, _, _, _, rfl, HQ, (SX.below HB.out (by omega))⟩
   · obtain ⟨a, ha⟩ : ∃ a, 64 - (blen n.natAbs : Int) = a := ⟨_, rfl⟩
     have hn : ((n.natAbs : Nat) : Int) = n := by omega
     rw [ha] at HQ hs; rw [hn] at hs
     have hd : decide (n < 0) = false := by simp; omega
     rw [hd] at HQ; have HA := Lib.hid ha; have HN := Lib.hid hn; obtain ⟨T, hT⟩ : ∃ T, ((tp n.natAbs : Nat) : Int) = T := ⟨_, rfl⟩; rw [hT] at HQ hs
     have hT2 : 0 ≤ T ∧ T < 18446744073709551616 := by omega
     have HS := Lib.hid hs
     have HW := Lib.hid (show IntKind.u64.wrap T = T from IntWalk.u64_in _ (by omega))
     have a1 : 0 ≤ a := by omega
     have hb0 : blen n.natAbs ≠ 0 := fun e => h0 (by have := blen_eq_zero.1 e; omega)
     have a2 : a < 64 := by omega
     clear hb0; clear hs ha hb t1 hT hn hT2
     go_enter Tryz.func34, Tryz.ntmps34
     go_upto_region 1 with (fail)
     generalize hW1 : w.alloc _ = w1 at *; obtain ⟨XR, HB⟩ := Bo.en1 hW1; clear hW1
     have hx1 : n.natAbs < 18446744073709551616 := hx
     go_wp2_with fail
     refine (lead64_any _ hx HN.out HA.out).mono ?_; rintro ee w2 ⟨rfl, B⟩; replace XR := XR.below B; replace HB := Hqb HB B; clear B; have hs := HS.out; have hw := HW.out; have xXR := XR.cell; have zXR0 := XR.frozen; go_wp2; clear xXR zXR0; have SX := StN.mk4 XR (.int .i64 1) (.bool false) (.int .u64 T) (.int .i64 (-a)); exact bodyPost_ret (by simp [results, Tryz.results34, go_sem, SX.box.cell]) rfl ⟨_, _, _, _, rfl, HQ, (SX.below HB.out (by omega))⟩
def Nl (w : World) (A : Option Addr) (n c : Nat) (l : List Int) : Prop :=
 l.length = n ∧ n ≤ c ∧ n ≤ 1099511627776 ∧ (0 < n → ∃ b o, A = some ⟨b, o, none⟩ ∧ ∀ k, k < n → ∃ D s M E, w.cell? ⟨b, o + k * 4, none⟩ = some (.int .i64 D) ∧ w.cell? ⟨b, o + k * 4 + 1, none⟩ = some (.bool s) ∧ w.cell? ⟨b, o + k * 4 + 2, none⟩ = some (.int .u64 M) ∧ w.cell? ⟨b, o + k * 4 + 3, none⟩ = some (.int .i64 E) ∧ M < 18446744073709551616 ∧ rk D s M E = l.getD k 0)
theorem Nl.below {w w' : World} {A : Option Addr} {n c : Nat} {l : List Int} (h : Nl w A n c l) (hb : Below w.heap.size w w') : Nl w' A n c l := by
 obtain ⟨h1, h2, h3, h4⟩ := h
 refine ⟨h1, h2, h3, fun hn => ?_⟩
 obtain ⟨b, o, e, hc⟩ := h4 hn
 refine ⟨b, o, e, fun k hk => ?_⟩
 obtain ⟨D, s, M, E, c0, c1, c2, c3, hM, hr⟩ := hc k hk; exact ⟨D, s, M, E, (hb.cell (p := ⟨b, _, none⟩) (block_lt_of_cell c0)).trans c0, (hb.cell (p := ⟨b, _, none⟩) (block_lt_of_cell c1)).trans c1, (hb.cell (p := ⟨b, _, none⟩) (block_lt_of_cell c2)).trans c2, (hb.cell (p := ⟨b, _, none⟩) (block_lt_of_cell c3)).trans c3, hM, hr⟩
def Jo.Fact.nl (n : Nat) (l : List Int) : Jo.Fact := ⟨fun v w => ∃ A c, v = .slice A n c ∧ Nl w A n c l, fun v w w' h b => by
 obtain ⟨A, c, e, h⟩ := h; exact ⟨A, c, e, h.below b⟩⟩
def Jo.Fact.num (r : Int) : Jo.Fact := ⟨fun v w => ∃ K s M E, v = .agg #[.int .i64 K, .bool s, .int .u64 M, .int .i64 E] ∧ Fq K s M E r, fun v w w' h b => h⟩
def mnp (l : List Int) : Int := l.foldl min TP
def mxp (l : List Int) : Int := l.foldl max (-TP)
theorem mnp_take {l : List Int} {k : Nat} (h : k < l.length) : mnp (l.take (k + 1)) = min (mnp (l.take k)) (l.getD k 0) := by
 unfold mnp
 rw [List.take_succ_eq_append_getElem h, List.foldl_append]
 simp [List.getD_eq_getElem?_getD, h]
theorem mxp_take {l : List Int} {k : Nat} (h : k < l.length) : mxp (l.take (k + 1)) = max (mxp (l.take k)) (l.getD k 0) := by
 unfold mxp
 rw [List.take_succ_eq_append_getElem h, List.foldl_append]
 simp [List.getD_eq_getElem?_getD, h]
def NInv (w : World) (g3 : Nat) (r : Int) (wr : World) : Prop :=
 ∃ K s M E, Bo wr w.heap.size #[.int .i64 0, .bool false, .int .u64 0, .int .i64 0] 24 ∧ Bo wr g3 #[.int .i64 K, .bool s, .int .u64 M, .int .i64 E] 24 ∧ Fq K s M E r ∧ Below w.heap.size w wr
theorem nLeast {w : World} {A : Option Addr} {n c : Nat} {l : List Int} {r : Int} (h : Nl w A n c l) (hr : mnp l = r) : Calls Tryz.prog 68 #[.slice A n c] w (PN w r) := by
 have HR := Lib.hid hr; have HLn := Lib.hid h.1; have hcap := h.2.1; have hbig := h.2.2.1; have hD0 := h; clear hr
 go_enter Tryz.func68, Tryz.ntmps68
 go_upto_region 1 with (fail)
 generalize hW1 : w.alloc _ = w1 at *; obtain ⟨XR, HB⟩ := Bo.en1 hW1; replace h := h.below HB.out; clear hW1
 go_wp2_with fail
 refine (nInf (s := false) rfl).mono ?_; rintro ee w2 ⟨K1, s1, M1, E1, rfl, q1, B⟩; replace XR := XR.below B; replace h := h.below B; replace HB := Hqb HB B; clear B
 go_upto_region 2 with (fail)
 have hg3 := XR.lt; have lX3 := Nat.le_refl (World.heap w2).size; have nX3XR := XR.lt; generalize hWn : w2.alloc _ = w3 at *; obtain ⟨X3, BW⟩ := Bo.nw hWn; clear hWn; replace XR := XR.below BW; replace h := h.below BW; replace HB := Hqb HB BW; clear BW
 go_wp2_with fail
 generalize w2.heap.size = g3 at *; clear h w1
 go_loopw [9] (fun i wr => ∃ k : Nat, k ≤ n ∧ i = .int .i64 k ∧ NInv w g3 (mnp (l.take k)) wr) (fun i _ => n - (intOf i).toNat)
 case atStart => exact ⟨0, Nat.zero_le _, rfl, _, _, _, _, XR, X3, q1, HB.out⟩
 case round =>
   obtain ⟨k, hk, rfl, hI⟩ := hrel; obtain ⟨K1, s1, M1, E1, XR, X3, q1, hB⟩ := hI; have HB := Lib.hid hB; have h := hD0.below hB; clear hB
   by_cases hlt : k < n
   · obtain ⟨b, o, rfl, hcell⟩ := h.2.2.2 (by omega); obtain ⟨D, s, M, E, c0, c1, c2, c3, hM, hx⟩ := hcell k hlt; clear hcell h hD0; have ht := mnp_take (l := l) (k := k) (by rw [HLn.out]; exact hlt); rw [← hx] at ht; generalize mnp (l.take k) = R at *; obtain ⟨x, hX⟩ : ∃ x, rk D s M E = x := ⟨_, rfl⟩; rw [hX] at ht; have HX := Lib.hid hX; have HT := Lib.hid ht; obtain ⟨z, hz⟩ : ∃ z, cmpI x R = z := ⟨_, rfl⟩
     have HZ := Lib.hid (show cmpI (rk D s M E) (rk K1 s1 M1 E1) = z by rw [hX, q1.rk]; exact hz)
     clear ht hX hx
     have i1 : (k : Int) < n := by omega
     have i2 : (0 : Int) ≤ k := by omega
     go_upto_region 5 with (fail)
     have hgd := X3.lt; have lX5 := Nat.le_refl (World.heap wr).size; have nX5XR := XR.lt; have nX5X3 := X3.lt; generalize hWn : wr.alloc _ = w3 at *; obtain ⟨X5, BW⟩ := Bo.nw hWn; clear hWn; replace XR := XR.below BW; replace X3 := X3.below BW; replace HB := Hqb HB BW; clear BW; clear c0 c1 c2 c3 lX5; have xX3 := X3.cell; have xX5 := X5.cell
     go_wp2_with fail
     refine (nCmp hM q1.top HZ.out).mono ?_; rintro ee w4 ⟨rfl, B⟩; clear xX3 xX5; replace XR := XR.below B; replace X3 := X3.below B; replace X5 := X5.below B; replace HB := Hqb HB B; clear B
     by_cases hb : x < R
     · obtain rfl : -1 = z := by rw [← hz, cmpI_lt hb]
       have hT2 := HT.out
       rw [show min R x = x by omega] at hT2
       have xX5 := X5.cell
       go_wp2_with fail
       refine (nTaken hM HX.out).mono ?_; rintro ee w5 ⟨K2, s2, M2, E2, rfl, q2, B⟩; clear xX5; replace XR := XR.below B; replace X3 := X3.below B; replace X5 := X5.below B; replace HB := Hqb HB B; clear B; have xX3 := X3.cell; have zX30 := X3.frozen
       go_upto_region 7 with (fail)
       clear xX3 zX30; generalize hS : (((w5.setCell _ _).setCell _ _).setCell _ _).setCell _ _ = w6 at *; have SX := StN.of4 X3 hS; replace XR := XR.stn SX (by omega); replace X5 := X5.stn SX (by omega); replace HB := Hqs HB SX (by omega); replace X3 := SX.box; clear SX hS; go_wp2
       go_roundw
       case rel =>
         refine ⟨k + 1, by omega, by go_num, K2, s2, M2, E2, XR, X3, ?_, HB.out⟩
         rw [hT2]; exact q2
       case measure => simp [intOf]; omega
     · have hT2 := HT.out
       rw [show min R x = R by omega] at hT2
       have hz0 : ¬ z < 0 := by
         rw [← hz]
         rcases cmpI_tri x R with ⟨a1, a2⟩ | ⟨a1, a2⟩ | ⟨a1, a2⟩ <;> rw [a2] <;> omega
       have e0 : decide (z < 0) = false := decide_eq_false hz0
       go_wp2
       go_roundw
       case rel =>
         refine ⟨k + 1, by omega, by go_num, K1, s1, M1, E1, XR, X3, ?_, HB.out⟩
         rw [hT2]; exact q1
       case measure => simp [intOf]; omega
   · obtain rfl : k = n := by omega
     rw [List.take_of_length_le (by rw [HLn.out]; omega), HR.out] at q1; have xXR := XR.cell; have zXR0 := XR.frozen; have xX3 := X3.cell; go_wp2; clear xXR zXR0 xX3; have SX := StN.mk4 XR (.int .i64 K1) (.bool s1) (.int .u64 M1) (.int .i64 E1); exact bodyPost_ret (by simp [results, Tryz.results68, go_sem, SX.box.cell]) rfl ⟨_, _, _, _, rfl, q1, (SX.below HB.out (by omega))⟩
theorem nMost {w : World} {A : Option Addr} {n c : Nat} {l : List Int} {r : Int} (h : Nl w A n c l) (hr : mxp l = r) : Calls Tryz.prog 67 #[.slice A n c] w (PN w r) := by
 have HR := Lib.hid hr; have HLn := Lib.hid h.1; have hcap := h.2.1; have hbig := h.2.2.1; have hD0 := h; clear hr
 go_enter Tryz.func67, Tryz.ntmps67
 go_upto_region 1 with (fail)
 generalize hW1 : w.alloc _ = w1 at *; obtain ⟨XR, HB⟩ := Bo.en1 hW1; replace h := h.below HB.out; clear hW1
 go_wp2_with fail
 refine (nInf (s := true) rfl).mono ?_; rintro ee w2 ⟨K1, s1, M1, E1, rfl, q1, B⟩; replace XR := XR.below B; replace h := h.below B; replace HB := Hqb HB B; clear B
 go_upto_region 2 with (fail)
 have hg3 := XR.lt; have lX3 := Nat.le_refl (World.heap w2).size; have nX3XR := XR.lt; generalize hWn : w2.alloc _ = w3 at *; obtain ⟨X3, BW⟩ := Bo.nw hWn; clear hWn; replace XR := XR.below BW; replace h := h.below BW; replace HB := Hqb HB BW; clear BW
 go_wp2_with fail
 generalize w2.heap.size = g3 at *; clear h w1
 go_loopw [9] (fun i wr => ∃ k : Nat, k ≤ n ∧ i = .int .i64 k ∧ NInv w g3 (mxp (l.take k)) wr) (fun i _ => n - (intOf i).toNat)
 case atStart => exact ⟨0, Nat.zero_le _, rfl, _, _, _, _, XR, X3, q1, HB.out⟩
 case round =>
   obtain ⟨k, hk, rfl, hI⟩ := hrel; obtain ⟨K1, s1, M1, E1, XR, X3, q1, hB⟩ := hI; have HB := Lib.hid hB; have h := hD0.below hB; clear hB
   by_cases hlt : k < n
   · obtain ⟨b, o, rfl, hcell⟩ := h.2.2.2 (by omega); obtain ⟨D, s, M, E, c0, c1, c2, c3, hM, hx⟩ := hcell k hlt; clear hcell h hD0; have ht := mxp_take (l := l) (k := k) (by rw [HLn.out]; exact hlt); rw [← hx] at ht; generalize mxp (l.take k) = R at *; obtain ⟨x, hX⟩ : ∃ x, rk D s M E = x := ⟨_, rfl⟩; rw [hX] at ht; have HX := Lib.hid hX; have HT := Lib.hid ht; obtain ⟨z, hz⟩ : ∃ z, cmpI x R = z := ⟨_, rfl⟩
     have HZ := Lib.hid (show cmpI (rk D s M E) (rk K1 s1 M1 E1) = z by rw [hX, q1.rk]; exact hz)
     clear ht hX hx
     have i1 : (k : Int) < n := by omega
     have i2 : (0 : Int) ≤ k := by omega
     go_upto_region 5 with (fail)
     have hgd := X3.lt; have lX5 := Nat.le_refl (World.heap wr).size; have nX5XR := XR.lt; have nX5X3 := X3.lt; generalize hWn : wr.alloc _ = w3 at *; obtain ⟨X5, BW⟩ := Bo.nw hWn; clear hWn; replace XR := XR.below BW; replace X3 := X3.below BW; replace HB := Hqb HB BW; clear BW; clear c0 c1 c2 c3 lX5; have xX3 := X3.cell; have xX5 := X5.cell
     go_wp2_with fail
     refine (nCmp hM q1.top HZ.out).mono ?_; rintro ee w4 ⟨rfl, B⟩; clear xX3 xX5; replace XR := XR.below B; replace X3 := X3.below B; replace X5 := X5.below B; replace HB := Hqb HB B; clear B
     by_cases hb : R < x
     · obtain rfl : 1 = z := by rw [← hz, cmpI_gt hb]
       have hT2 := HT.out
       rw [show max R x = x by omega] at hT2
       have xX5 := X5.cell
       go_wp2_with fail
       refine (nTaken hM HX.out).mono ?_; rintro ee w5 ⟨K2, s2, M2, E2, rfl, q2, B⟩; clear xX5; replace XR := XR.below B; replace X3 := X3.below B; replace X5 := X5.below B; replace HB := Hqb HB B; clear B; have xX3 := X3.cell; have zX30 := X3.frozen
       go_upto_region 7 with (fail)
       clear xX3 zX30; generalize hS : (((w5.setCell _ _).setCell _ _).setCell _ _).setCell _ _ = w6 at *; have SX := StN.of4 X3 hS; replace XR := XR.stn SX (by omega); replace X5 := X5.stn SX (by omega); replace HB := Hqs HB SX (by omega); replace X3 := SX.box; clear SX hS; go_wp2
       go_roundw
       case rel =>
         refine ⟨k + 1, by omega, by go_num, K2, s2, M2, E2, XR, X3, ?_, HB.out⟩
         rw [hT2]; exact q2
       case measure => simp [intOf]; omega
     · have hT2 := HT.out
       rw [show max R x = R by omega] at hT2
       have hz0 : ¬ 0 < z := by
         rw [← hz]
         rcases cmpI_tri x R with ⟨a1, a2⟩ | ⟨a1, a2⟩ | ⟨a1, a2⟩ <;> rw [a2] <;> omega
       have e0 : decide (0 < z) = false := decide_eq_false hz0
       go_wp2
       go_roundw
       case rel =>
         refine ⟨k + 1, by omega, by go_num, K1, s1, M1, E1, XR, X3, ?_, HB.out⟩
         rw [hT2]; exact q1
       case measure => simp [intOf]; omega
   · obtain rfl : k = n := by omega
     rw [List.take_of_length_le (by rw [HLn.out]; omega), HR.out] at q1; have xXR := XR.cell; have zXR0 := XR.frozen; have xX3 := X3.cell; go_wp2; clear xXR zXR0 xX3; have SX := StN.mk4 XR (.int .i64 K1) (.bool s1) (.int .u64 M1) (.int .i64 E1); exact bodyPost_ret (by simp [results, Tryz.results67, go_sem, SX.box.cell]) rfl ⟨_, _, _, _, rfl, q1, (SX.below HB.out (by omega))⟩
end Go.Proofs.YtnbliijpjcmbjaaGreatDoor
namespace Go.Proofs.YtnbliijpjcmbjaaGreatDoor.Jo
open Go Go.RowKit
set_option linter.unusedVariables false
structure Off (g : Nat) (new : Array Value) (R : TypeId) (w w' : World) : Prop where
 os : w'.os = w.os
 tape : w'.tape = w.tape
 output : w'.output = w.output
 size : w.heap.size ≤ w'.heap.size
 block : ∀ k, k < w.heap.size → k ≠ g → w'.heap[k]? = w.heap[k]?
 own : w'.heap[g]? = w.heap[g]? ∨ w'.heap[g]? = some (.cells new R (0, 0))
section
variable {g : Nat} {new : Array Value} {R : TypeId} {w w' w'' : World}
theorem Off.refl (g : Nat) (new : Array Value) (R : TypeId) (w : World) : Off g new R w w := ⟨rfl, rfl, rfl, Nat.le_refl _, fun _ _ _ => rfl, .inl rfl⟩
theorem Off.drew (w : World) : Off g new R w w.drew := ⟨rfl, rfl, rfl, Nat.le_refl _, fun _ _ _ => rfl, .inl rfl⟩
theorem Off.trans (h : Off g new R w w') (k : Off g new R w' w'') : Off g new R w w'' :=
 ⟨k.os.trans h.os, k.tape.trans h.tape, k.output.trans h.output, Nat.le_trans h.size k.size, fun i hi hn => (k.block i (Nat.lt_of_lt_of_le hi h.size) hn).trans (h.block i hi hn), by
   rcases k.own with e | e
   · rcases h.own with f | f
     · exact .inl (e.trans f)
     · exact .inr (e.trans f)
   · exact .inr e⟩
theorem Off.of_below (h : Below w.heap.size w w') (hg : g < w.heap.size) : Off g new R w w' := ⟨h.os, h.tape, h.output, h.size, fun k hk _ => h.block k hk, .inl (h.block g hg)⟩
theorem Off.of_stn {old : Array Value} (S : StN w w' g old new R) : Off g new R w w' := by
 have hb := S.2.2.2 0 w (Nat.zero_le _) (Below.refl 0 w)
 exact ⟨hb.os, hb.tape, hb.output, hb.size, fun k _ hn => S.2.2.1 k hn, .inr S.2.1⟩
theorem Off.below {B : Nat} {a : World} (O : Off g new R w w') (h : Below B a w) (hB : B ≤ g) (hg : g < w.heap.size) : Below B a w' :=
 ⟨O.os.trans h.os, O.tape.trans h.tape, O.output.trans h.output, Nat.le_trans h.size O.size, fun k hk => (O.block k (by omega) (by omega)).trans (h.block k hk)⟩
theorem _root_.Go.Proofs.YtnbliijpjcmbjaaGreatDoor.Bo.off {k : Nat} {cs : Array Value} {T : TypeId} (X : Bo w k cs T) (hk : k ≠ g) (O : Off g new R w w') : Bo w' k cs T := X.keep (O.block k X.lt hk)
theorem _root_.Go.Proofs.YtnbliijpjcmbjaaGreatDoor.Nm.off {old : Array Value} {B : Option Addr} {m d a : Nat} (h : Nm w B m d a) (X : Bo w g old R) (hn : old.all no32 = true) (O : Off g new R w w') : Nm w' B m d a := by
 obtain ⟨b, h⟩ := h
 exact ⟨b, h.keep fun hm => O.block b (h.lt hm) (fun e => by
   obtain ⟨o, _, hc⟩ := h.at hm
   have := hc 0 hm
   rw [e] at this
   exact X.no hn this)⟩
theorem _root_.Go.Proofs.YtnbliijpjcmbjaaGreatDoor.Rd.off {old : Array Value} {B : Option Addr} {m d a : Nat} (h : Rd w B m d a) (X : Bo w g old R) (hn : old.all no32 = true) (O : Off g new R w w') : Rd w' B m d a := by
 obtain ⟨b, xs, h, e⟩ := h
 exact ⟨b, xs, h.keep fun hm => O.block b (h.lt hm) (fun e => by
   obtain ⟨o, _, hc⟩ := h.at hm
   have := hc 0 hm
   rw [e] at this
   exact X.no hn this), e⟩
end
structure LFact (g : Nat) (new : Array Value) (R : TypeId) where
 P : Value → World → Prop
 keep : ∀ v w w', P v w → Off g new R w w' → P v w'
section
variable {g : Nat} {new : Array Value} {R : TypeId}
def LFact.any : LFact g new R := ⟨fun _ _ => True, fun _ _ _ h _ => h⟩
def LFact.eq (u : Value) : LFact g new R := ⟨fun v _ => v = u, fun _ _ _ h _ => h⟩
def LFact.done : LFact g new R := ⟨fun _ w => Bo w g new R, fun v w w' h o => by
 rcases o.own with e | e
 · exact h.keep e
 · exact e⟩
def lphi (F : List (LFact g new R)) (i : Nat) (v : Value) (w : World) : Prop := (F.getD i LFact.any).P v w
variable {P : Program} {ops : Array Oper} {Q : Exit → Act → World → Prop} {a0 : Act} {T : List Nat} {ds : List (Option Tmp)} {ls : List (List Nat)} {k : Nat} {F : List (LFact g new R)} {J : World → Prop}
theorem lcons {i : Nat} {o : Oper} {r : List Nat} {di : Option Tmp} {L : List (Option Tmp × Nat)} {f : LFact g new R} (ho : ops[i]? = some o) (hdi : ds.getD i none = di) (hL : ((ls.getD i []).map fun j => (ds.getD j none, j)) = L) (hf : F.getD i LFact.any = f)
   (h : ∀ vs w, J w → (∀ j ∈ ls.getD i [], lphi F j (vs j) w) → ∀ K : Act → World → Prop, Shut (∀ v w', f.P v w' → Off g new R w w' → K ((putl vs L a0).put di v) w') →
     if Region.wanted o (yielded ops (putl vs L a0).tmps) = true then Oper.wp P o (putl vs L a0) w K Q else K ((putl vs L a0).put o.dst undef) w)
   (hs : Steps P ops Q a0 (dstOf ds) (depOf ls) (lphi F) J (Off g new R) r) : Steps P ops Q a0 (dstOf ds) (depOf ls) (lphi F) J (Off g new R) (i :: r) := by
 refine Steps.cons ho (fun vs w hJ hd K hK => ?_) hs
 have e : base (dstOf ds) vs (depOf ls i) a0 = putl vs L a0 := by
   rw [base_putl, ← hL]
   rfl
 rw [e] at hK ⊢
 refine h vs w hJ hd K ?_
 intro v w' h1 h2
 have := hK.out v w' (by unfold lphi; rw [hf]; exact h1) h2
 rwa [show dstOf ds i = di from hdi] at this
theorem region_late {id fuel : Nat} {w : World} {L : List (Option Tmp × Nat)} (hm : P.follows .mixedOrders = true) (hok : ok .any ops T (dstOf ds) (depOf ls) k a0.tmps.size = true) (hnd : T.Nodup)
   (hL : (T.map fun j => (ds.getD j none, j)) = L) (hfu : ops.size - T.length = fuel)
   (step : Steps P ops (NoPanic Q) a0 (dstOf ds) (depOf ls) (lphi F) (fun wj => Off g new R w wj) (Off g new R) T)
   (fin : ∀ vs wj, Off g new R w wj → (∀ j ∈ T, lphi F j (vs j) wj) → wpAny P .any ops (NoPanic Q) fuel (mark T ops.size) (putl vs L a0) wj) :
   (Code.region id ops true).wp P Q a0 w := by
 refine wp_region_noPanic ?_
 refine wp_region_joint (T := T) (dst := dstOf ds) (D := depOf ls) (k := k) (Φ := lphi F) (J := fun wj => Off g new R w wj) (St := Off g new R) hm hok hnd (fun _ _ _ _ h => h) (fun i _ v w w' h b => (F.getD i LFact.any).keep v w w' h b) (fun _ _ h b => h.trans b) (Off.drew w) step ?_
 intro vs w hJ hd
 have e : base (dstOf ds) vs T a0 = putl vs L a0 := by
   rw [base_putl, ← hL]
   rfl
 rw [e, hfu]
 exact fin vs w hJ hd
end
end Go.Proofs.YtnbliijpjcmbjaaGreatDoor.Jo
namespace Go.Proofs.YtnbliijpjcmbjaaGreatDoor
open Go.RowKit
set_option linter.unusedVariables false
open Go in
theorem Jo.ld {g : Nat} {new : Array Value} {R : TypeId} {P : Program} {ops : Array Oper} {Q : Exit → Act → World → Prop} {a0 : Act} {ds : List (Option Tmp)} {ls : List (List Nat)} {F : List (Jo.LFact g new R)} {J : World → Prop} (i : Nat) (di : Option Tmp) (L : List (Option Tmp × Nat)) (f : Jo.LFact g new R) {o : Oper} {r : List Nat} (ho : ops[i]? = some o) (hdi : ds.getD i none = di) (hL : ((ls.getD i []).map fun j => (ds.getD j none, j)) = L) (hf : F.getD i Jo.LFact.any = f)
   (h : ∀ vs w, J w → (∀ j ∈ ls.getD i [], Jo.lphi F j (vs j) w) → ∀ K : Act → World → Prop, Shut (∀ v w', f.P v w' → Jo.Off g new R w w' → K ((Jo.putl vs L a0).put di v) w') →
     if Region.wanted o (yielded ops (Jo.putl vs L a0).tmps) = true then Oper.wp P o (Jo.putl vs L a0) w K Q else K ((Jo.putl vs L a0).put o.dst undef) w)
   (hs : Jo.Steps P ops Q a0 (Jo.dstOf ds) (Jo.depOf ls) (Jo.lphi F) J (Jo.Off g new R) r) : Jo.Steps P ops Q a0 (Jo.dstOf ds) (Jo.depOf ls) (Jo.lphi F) J (Jo.Off g new R) (i :: r) := Jo.lcons ho hdi hL hf h hs
open Go in
theorem Jo.lm {P : Program} {ops : Array Oper} {Q : Exit → Act → World → Prop} {a0 : Act} {ds : List (Option Tmp)} {ls : List (List Nat)} {g : Nat} {new : Array Value} {R : TypeId} {F : List (Jo.LFact g new R)} {J : World → Prop} {i : Nat} {o : Oper} {r : List Nat} (ho : ops[i]? = some o)
   (h : ∀ w, J w → Jo.ad (Jo.lphi F) ds w (ls.getD i []) fun l => ∀ K : Act → World → Prop, Shut (∀ v w', Jo.lphi F i v w' → Jo.Off g new R w w' → K ((Jo.pv l a0).put (ds.getD i none) v) w') →
     if Region.wanted o (yielded ops (Jo.pv l a0).tmps) = true then Oper.wp P o (Jo.pv l a0) w K Q else K ((Jo.pv l a0).put o.dst undef) w)
   (hs : Jo.Steps P ops Q a0 (Jo.dstOf ds) (Jo.depOf ls) (Jo.lphi F) J (Jo.Off g new R) r) : Jo.Steps P ops Q a0 (Jo.dstOf ds) (Jo.depOf ls) (Jo.lphi F) J (Jo.Off g new R) (i :: r) :=
 Jo.lcons ho rfl rfl rfl (fun vs w hJ hd => by
   have := Jo.ad_out vs _ _ (h w hJ) hd
   simp only [Jo.pv_map] at this
   exact this) hs
open Go in
theorem Jo.rl {P : Program} {ops : Array Oper} {Q : Exit → Act → World → Prop} {a0 : Act} {id : Nat} {w : World} (g : Nat) (new : Array Value) (R : TypeId) (T : List Nat) (ds : List (Option Tmp)) (ls : List (List Nat)) (k : Nat) (fuel : Nat) (F : List (Jo.LFact g new R))
   (hm : P.follows .mixedOrders = true) (hok : Jo.ok .any ops T (Jo.dstOf ds) (Jo.depOf ls) k a0.tmps.size = true) (hnd : T.Nodup) (hfu : ops.size - T.length = fuel)
   (step : Jo.Steps P ops (NoPanic Q) a0 (Jo.dstOf ds) (Jo.depOf ls) (Jo.lphi F) (fun wj => Jo.Off g new R w wj) (Jo.Off g new R) T)
   (fin : ∀ wj, Jo.Off g new R w wj → Jo.ad (Jo.lphi F) ds wj T fun l => True → wpAny P .any ops (NoPanic Q) fuel (Jo.mark T ops.size) (Jo.pv l a0) wj) :
   (Code.region id ops true).wp P Q a0 w :=
 Jo.region_late hm hok hnd rfl hfu step fun vs wj hJ hd => by
   have := Jo.ad_out vs _ _ (fin wj hJ) hd
   rw [Jo.pv_map] at this
   exact this trivial
abbrev Jo.k9 {g : Nat} {new : Array Value} {R : TypeId} (e : Bool) (D : Int) (s : Bool) (M E : Int) (D' : Int) (s' : Bool) (M' E' : Int) : Jo.LFact g new R := Jo.LFact.eq (.agg #[.bool e, .int .i64 D, .bool s, .int .u64 M, .int .i64 E, .int .i64 D', .bool s', .int .u64 M', .int .i64 E'])
abbrev Jo.kp {g : Nat} {new : Array Value} {R : TypeId} (h i : Nat) : Jo.LFact g new R := Jo.LFact.eq (.pointer (some ⟨h, i, none⟩))
end Go.Proofs.YtnbliijpjcmbjaaGreatDoor

/-
  What cmp.Compare and the functions of math/bits that package nat calls do.
-/
import Derived.Test.YtbendmhcimadpaaRows
import Derived.WalkKit
import Derived.WalkSpells
import Derived.WalkLawsBesides
import Derived.Deep.QuietTactic
import Derived.BigQuiet
import Derived.Lib.BitFns
import Derived.Test.YtbendmhcimadpaaMem
namespace Go.Proofs.Ytbendmhcimadpaa
open Go.RowKit
set_option linter.unusedVariables false

/-- -1, 0 or 1. -/
def cmpI (x y : Int) : Int := if x < y then -1 else if y < x then 1 else 0

theorem cmpI_lt {x y : Int} (h : x < y) : cmpI x y = -1 := by unfold cmpI; rw [if_pos h]
theorem cmpI_gt {x y : Int} (h : y < x) : cmpI x y = 1 := by unfold cmpI; rw [if_neg (by omega), if_pos h]
theorem cmpI_eq {x y : Int} (h : x = y) : cmpI x y = 0 := by unfold cmpI; rw [if_neg (by omega), if_neg (by omega)]
theorem ret_int {k : IntKind} {a b : Int} (h : a = b) : Ending.returned (.int k a) = .returned (.int k b) := by rw [h]

theorem compareInt_any (x y : Int) (w : World) : Calls Try.prog 39 #[.int .i64 x, .int .i64 y] w fun e w' => e = .returned (.int .i64 (cmpI x y)) ∧ w = w' := by
  go_enter Try.func39, Try.ntmps39
  go_wp2
  all_goals go_ret
  · exact ⟨ret_int (cmpI_lt (by assumption)).symm, rfl⟩
  · exact ⟨ret_int (cmpI_gt (by assumption)).symm, rfl⟩
  · exact ⟨ret_int (cmpI_eq (by omega)).symm, rfl⟩

theorem compareU_any (x y : Int) (w : World) : Calls Try.prog 56 #[.int .u32 x, .int .u32 y] w fun e w' => e = .returned (.int .i64 (cmpI x y)) ∧ w = w' := by
  go_enter Try.func56, Try.ntmps56
  go_wp2
  all_goals go_ret
  · exact ⟨ret_int (cmpI_lt (by assumption)).symm, rfl⟩
  · exact ⟨ret_int (cmpI_gt (by assumption)).symm, rfl⟩
  · exact ⟨ret_int (cmpI_eq (by omega)).symm, rfl⟩

theorem ret2_u32 {a b c d : Int} (h : a = c) (k : b = d) : Ending.returned (.tuple #[.int .u32 a, .int .u32 b]) = .returned (.tuple #[.int .u32 c, .int .u32 d]) := by rw [h, k]

set_option maxHeartbeats 400000 in
theorem add32_any (x y c : Nat) (hx : x < 4294967296) (hy : y < 4294967296) (hc : c ≤ 1) (w : World) :
    Calls Try.prog 73 #[.int .u32 (x : Int), .int .u32 (y : Int), .int .u32 (c : Int)] w fun e w' =>
      e = .returned (.tuple #[.int .u32 (((x + y + c) % 4294967296 : Nat) : Int), .int .u32 (((x + y + c) / 4294967296 : Nat) : Int)]) ∧ w = w' := by
  go_enter Try.func73, Try.ntmps73
  go_wp2
  go_ret2
  exact ⟨ret2_u32 (by omega) (by omega), rfl⟩

theorem add32_zero (x c : Nat) (hx : x < 4294967296) (hc : c ≤ 1) (w : World) :
    Calls Try.prog 73 #[.int .u32 (x : Int), .int .u32 0, .int .u32 (c : Int)] w fun e w' =>
      e = .returned (.tuple #[.int .u32 (((x + 0 + c) % 4294967296 : Nat) : Int), .int .u32 (((x + 0 + c) / 4294967296 : Nat) : Int)]) ∧ w = w' := add32_any x 0 c hx (by omega) hc w

/-- The borrow. -/
def bor (x y c : Nat) : Nat := if x < y + c then 1 else 0
theorem bor_le (x y c : Nat) : bor x y c ≤ 1 := by unfold bor; split <;> omega

theorem bit_cases (X Y D : Nat) (hX : X ≤ 1) (hY : Y ≤ 1) (hD : D ≤ 1) : (((1 ^^^ X) &&& Y) ||| ((1 ^^^ (X ^^^ Y)) &&& D)) = if X < Y then 1 else if Y < X then 0 else D := by
  rcases (by omega : X = 0 ∨ X = 1) with rfl | rfl <;> rcases (by omega : Y = 0 ∨ Y = 1) with rfl | rfl <;> rcases (by omega : D = 0 ∨ D = 1) with rfl | rfl <;> decide

theorem sub_borrow (x y c d : Nat) (hx : x < 4294967296) (hy : y < 4294967296) (hc : c ≤ 1) (hd : d = (x + 4294967296 - y - c) % 4294967296) :
    (((4294967295 ^^^ x) &&& y) ||| ((4294967295 ^^^ (x ^^^ y)) &&& d)) / 2147483648 = bor x y c := by
  have e : ∀ n : Nat, n / 2147483648 = n >>> 31 := fun n => by rw [Nat.shiftRight_eq_div_pow]
  rw [e, Nat.shiftRight_or_distrib, Nat.shiftRight_and_distrib, Nat.shiftRight_and_distrib, Nat.shiftRight_xor_distrib, Nat.shiftRight_xor_distrib, Nat.shiftRight_xor_distrib]
  rw [← e x, ← e y, ← e d, show (4294967295 >>> 31 : Nat) = 1 by decide]
  rw [bit_cases _ _ _ (by omega) (by omega) (by omega)]
  unfold bor
  split <;> split <;> (try split) <;> omega

theorem max_u32 : IntKind.u32.max = ((4294967295 : Nat) : Int) := by decide

theorem sub_bits (x y c : Nat) (hx : x < 4294967296) (hy : y < 4294967296) (hc : c ≤ 1) :
    bits BinOp.or IntKind.u32 (bits BinOp.and IntKind.u32 (bits BinOp.xor IntKind.u32 IntKind.u32.max ↑x) ↑y)
        (bits BinOp.and IntKind.u32 (bits BinOp.xor IntKind.u32 IntKind.u32.max (bits BinOp.xor IntKind.u32 ↑x ↑y))
          (((x : Int) - y - c) % 4294967296)) / 2147483648 = (bor x y c : Int) := by
  have hd : ((x : Int) - y - c) % 4294967296 = (((x + 4294967296 - y - c) % 4294967296 : Nat) : Int) := by omega
  have b1 : ∀ a : Nat, a < 4294967296 → 4294967295 ^^^ a < 4294967296 := fun a ha => Nat.xor_lt_two_pow (n := 32) (by decide) ha
  have b2 : x ^^^ y < 4294967296 := Nat.xor_lt_two_pow (n := 32) hx hy
  have b3 : (x + 4294967296 - y - c) % 4294967296 < 4294967296 := by omega
  rw [hd, max_u32, u32_xor_nat _ _ (by decide) hx, u32_and_nat _ _ (b1 x hx) hy, u32_xor_nat _ _ hx hy, u32_xor_nat _ _ (by decide) b2, u32_and_nat _ _ (b1 _ b2) b3,
    u32_or_nat _ _ (Nat.and_lt_two_pow (n := 32) _ hy) (Nat.and_lt_two_pow (n := 32) _ b3)]
  rw [← sub_borrow x y c _ hx hy hc rfl]
  omega

set_option maxHeartbeats 400000 in
theorem sub32_any (x y c : Nat) (hx : x < 4294967296) (hy : y < 4294967296) (hc : c ≤ 1) (w : World) :
    Calls Try.prog 74 #[.int .u32 (x : Int), .int .u32 (y : Int), .int .u32 (c : Int)] w fun e w' =>
      e = .returned (.tuple #[.int .u32 (((x + 4294967296 - y - c) % 4294967296 : Nat) : Int), .int .u32 (bor x y c : Int)]) ∧ w = w' := by
  go_enter Try.func74, Try.ntmps74
  go_wp2
  go_ret2
  exact ⟨ret2_u32 (by omega) (sub_bits x y c hx hy hc), rfl⟩

theorem sub32_zero (x c : Nat) (hx : x < 4294967296) (hc : c ≤ 1) (w : World) :
    Calls Try.prog 74 #[.int .u32 (x : Int), .int .u32 0, .int .u32 (c : Int)] w fun e w' =>
      e = .returned (.tuple #[.int .u32 (((x + 4294967296 - 0 - c) % 4294967296 : Nat) : Int), .int .u32 (bor x 0 c : Int)]) ∧ w = w' := sub32_any x 0 c hx (by omega) hc w

theorem or_join (x y : Nat) (hx : x < 4294967296) (hy : y < 4294967296) : bits BinOp.or IntKind.u64 ((x : Int) * 4294967296) (y : Int) = (x : Int) * 4294967296 + y := by
  have := u64_or_nat (x * 4294967296) y (by omega) (by omega)
  rw [nat_join 32 _ _ (by omega) hy] at this
  simpa using this

set_option maxHeartbeats 400000 in
theorem div32_any (x y d : Nat) (hx : x < d) (hy : y < 4294967296) (hd : d < 4294967296) (w : World) :
    Calls Try.prog 68 #[.int .u32 (x : Int), .int .u32 (y : Int), .int .u32 (d : Int)] w fun e w' =>
      e = .returned (.tuple #[.int .u32 (((x * 4294967296 + y) / d : Nat) : Int), .int .u32 (((x * 4294967296 + y) % d : Nat) : Int)]) ∧ ∃ n, w' = w.drewN n := by
  have hor := or_join x y (by omega) hy
  go_enter Try.func68, Try.ntmps68
  go_wp2
  go_quiet (fail)
  go_wp2
  go_ret2
  have hq : (x * 4294967296 + y) / d < 4294967296 := by
    rw [Nat.div_lt_iff_lt_mul (by omega)]
    have := Nat.mul_le_mul_right 4294967296 (show x + 1 ≤ d from hx)
    rw [Nat.mul_comm 4294967296 d]
    omega
  have hr : (x * 4294967296 + y) % d < d := Nat.mod_lt _ (by omega)
  refine ⟨ret2_u32 ?_ ?_, _, rfl⟩
  · have e : ((x : Int) * 4294967296 + y) / d = (((x * 4294967296 + y) / d : Nat) : Int) := by simp
    rw [e]; clear e hor; revert hq; generalize (x * 4294967296 + y) / d = q; intro hq; omega
  · have e : ((x : Int) * 4294967296 + y) % d = (((x * 4294967296 + y) % d : Nat) : Int) := by simp
    rw [e]; clear e hor; revert hr; generalize (x * 4294967296 + y) % d = q; intro hr; omega

/-- How many bits a number needs. -/
def blen (n : Nat) : Nat := if n = 0 then 0 else Nat.log2 n + 1

theorem blen_zero : blen 0 = 0 := rfl
theorem blen_lt (n : Nat) : n < 2 ^ blen n := by
  unfold blen
  split
  · subst_vars; decide
  · exact Nat.lt_log2_self
theorem blen_le {n : Nat} (h : n ≠ 0) : 2 ^ (blen n - 1) ≤ n := by
  unfold blen
  rw [if_neg h]
  exact Nat.log2_self_le h
theorem blen_uniq {n k : Nat} (h0 : n ≠ 0) (h1 : 2 ^ k ≤ n) (h2 : n < 2 ^ (k + 1)) : blen n = k + 1 := by
  unfold blen
  rw [if_neg h0, (Nat.log2_eq_iff h0).2 ⟨h1, h2⟩]
theorem blen_half {n : Nat} (h : n ≠ 0) : blen n = 1 + blen (n / 2) := by
  by_cases h1 : n = 1
  · subst h1; decide
  · have h2 : n / 2 ≠ 0 := by omega
    unfold blen
    rw [if_neg h, if_neg h2, Nat.log2_def, if_pos (by omega)]
    omega

theorem bitLenAux_eq : ∀ (f n : Nat), n < 2 ^ f → Lib.bitLenAux f n = blen n
  | 0, n, h => by
    have : n = 0 := by simpa using h
    subst this; rfl
  | f + 1, n, h => by
    unfold Lib.bitLenAux
    by_cases h0 : n = 0
    · subst h0; rfl
    · rw [if_neg h0, bitLenAux_eq f (n / 2) (by rw [Nat.pow_succ] at h; omega), blen_half h0]

theorem bitLen_eq (n : Nat) (h : n < 4294967296) : Lib.bitLen n = blen n := bitLenAux_eq 64 n (by omega)

theorem blen_shift (n k : Nat) (h : 2 ^ k ≤ n) : blen n = k + blen (n / 2 ^ k) := by
  induction k with
  | zero => simp
  | succ k ih =>
    have h1 : 2 ^ k ≤ n := Nat.le_trans (Nat.pow_le_pow_right (by decide) (Nat.le_succ k)) h
    have h2 : n / 2 ^ k ≠ 0 := by
      have := (Nat.le_div_iff_mul_le (Nat.two_pow_pos k)).2 (show 1 * 2 ^ k ≤ n by omega)
      omega
    rw [ih h1, blen_half h2, Nat.div_div_eq_div_mul, Nat.pow_succ]
    omega
theorem blen_mono_le {n k : Nat} (h : n < 2 ^ k) : blen n ≤ k := by
  by_cases h0 : n = 0
  · subst h0; rw [blen_zero]; omega
  · rcases Nat.lt_or_ge k (blen n) with hlt | hge
    · have := blen_le h0
      have := Nat.pow_le_pow_right (n := 2) (by decide) (show k ≤ blen n - 1 by omega)
      omega
    · exact hge

theorem index_len8 (w : World) (k : Nat) (h : k < 256) :
    (Instr.index 9 (.string Lib.len8tab) (.int .u8 (k : Int))).run Try.prog w = .ok (.int .u8 (blen k : Int)) w := by
  rw [Lib.run_index_len8tab (P := Try.prog) w 9 .u8 (k : Int) Try.underlying9 (by omega) (by omega)]
  have := Lib.len8_eq ⟨k, h⟩
  simp only at this
  rw [this, bitLen_eq k (by omega)]

set_option maxRecDepth 100000 in
set_option maxHeartbeats 1000000 in
theorem len32_a (z : Int) (q : Nat) (w : World) (h0 : 0 ≤ z) (hz : z ≤ 4294967295) (h1 : 65536 ≤ z) (h2 : 256 ≤ z / 65536) (hq : q ≤ 8)
    (hi : ∀ W, (Instr.index 9 (.string Lib.len8tab) (.int .u8 (z / 65536 / 256))).run Try.prog W = .ok (.int .u8 (q : Int)) W) :
    Calls Try.prog 57 #[.int .u32 z] w fun e w' => e = .returned (.int .i64 (24 + q : Int)) ∧ w = w' := by
  go_enter Try.func57, Try.ntmps57
  go_wp2
  go_ret
  exact ⟨rfl, rfl⟩

set_option maxRecDepth 100000 in
set_option maxHeartbeats 1000000 in
theorem len32_b (z : Int) (q : Nat) (w : World) (h0 : 0 ≤ z) (hz : z ≤ 4294967295) (h1 : 65536 ≤ z) (h2 : z / 65536 < 256) (hq : q ≤ 8)
    (hi : ∀ W, (Instr.index 9 (.string Lib.len8tab) (.int .u8 (z / 65536))).run Try.prog W = .ok (.int .u8 (q : Int)) W) :
    Calls Try.prog 57 #[.int .u32 z] w fun e w' => e = .returned (.int .i64 (16 + q : Int)) ∧ w = w' := by
  go_enter Try.func57, Try.ntmps57
  go_wp2
  go_ret
  exact ⟨rfl, rfl⟩

set_option maxRecDepth 100000 in
set_option maxHeartbeats 1000000 in
theorem len32_c (z : Int) (q : Nat) (w : World) (h0 : 0 ≤ z) (hz : z ≤ 4294967295) (h1 : z < 65536) (h2 : 256 ≤ z) (hq : q ≤ 8)
    (hi : ∀ W, (Instr.index 9 (.string Lib.len8tab) (.int .u8 (z / 256))).run Try.prog W = .ok (.int .u8 (q : Int)) W) :
    Calls Try.prog 57 #[.int .u32 z] w fun e w' => e = .returned (.int .i64 (8 + q : Int)) ∧ w = w' := by
  go_enter Try.func57, Try.ntmps57
  go_wp2
  go_ret
  exact ⟨rfl, rfl⟩

set_option maxRecDepth 100000 in
set_option maxHeartbeats 1000000 in
theorem len32_d (z : Int) (q : Nat) (w : World) (h0 : 0 ≤ z) (hz : z ≤ 4294967295) (h1 : z < 65536) (h2 : z < 256) (hq : q ≤ 8)
    (hi : ∀ W, (Instr.index 9 (.string Lib.len8tab) (.int .u8 (z))).run Try.prog W = .ok (.int .u8 (q : Int)) W) :
    Calls Try.prog 57 #[.int .u32 z] w fun e w' => e = .returned (.int .i64 (q : Int)) ∧ w = w' := by
  go_enter Try.func57, Try.ntmps57
  go_wp2
  go_ret
  exact ⟨rfl, rfl⟩

theorem len32_any (x : Nat) (hx : x < 4294967296) (w : World) :
    Calls Try.prog 57 #[.int .u32 (x : Int)] w fun e w' => e = .returned (.int .i64 (blen x : Int)) ∧ w = w' := by
  by_cases h1 : 65536 ≤ x
  · have s1 := blen_shift x 16 (by omega)
    rw [show 2 ^ 16 = 65536 by decide] at s1
    by_cases h2 : 256 ≤ x / 65536
    · have s2 := blen_shift (x / 65536) 8 (by omega)
      rw [show 2 ^ 8 = 256 by decide] at s2
      have := len32_a (x : Int) (blen (x / 65536 / 256)) w (by omega) (by omega) (by omega) (by omega) (blen_mono_le (by omega)) (fun W => index_len8 W (x / 65536 / 256) (by omega))
      exact this.mono fun e w' h => ⟨h.1.trans (ret_int (by omega)), h.2⟩
    · have := len32_b (x : Int) (blen (x / 65536)) w (by omega) (by omega) (by omega) (by omega) (blen_mono_le (by omega)) (fun W => index_len8 W (x / 65536) (by omega))
      exact this.mono fun e w' h => ⟨h.1.trans (ret_int (by omega)), h.2⟩
  · by_cases h2 : 256 ≤ x
    · have s2 := blen_shift x 8 (by omega)
      rw [show 2 ^ 8 = 256 by decide] at s2
      have := len32_c (x : Int) (blen (x / 256)) w (by omega) (by omega) (by omega) (by omega) (blen_mono_le (by omega)) (fun W => index_len8 W (x / 256) (by omega))
      exact this.mono fun e w' h => ⟨h.1.trans (ret_int (by omega)), h.2⟩
    · exact len32_d (x : Int) (blen x) w (by omega) (by omega) (by omega) (by omega) (blen_mono_le (by omega)) (fun W => index_len8 W x (by omega))

set_option maxHeartbeats 400000 in
theorem lead32_any (x : Nat) (hx : x < 4294967296) (w : World) :
    Calls Try.prog 69 #[.int .u32 (x : Int)] w fun e w' => e = .returned (.int .i64 (32 - blen x : Int)) ∧ w = w' := by
  have hb := blen_mono_le (n := x) (k := 32) hx
  go_enter Try.func69, Try.ntmps69
  go_wp2_with (go_at_call 57; refine (len32_any x hx _).mono ?_; rintro e w' ⟨rfl, rfl⟩)
  go_ret
  exact ⟨rfl, rfl⟩
end Go.Proofs.Ytbendmhcimadpaa

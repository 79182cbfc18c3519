/-
 Contracts that the proof rests on.
-/
import Derived.Lib.BitFns
import Derived.Test.YtmmallhniijdfaaGreatDoorYAad
namespace Go.Proofs.YtmmallhniijdfaaGreatDoor
set_option maxHeartbeats 1000000
open Go.RowKit
set_option linter.unusedVariables false
def cmpI (x y : Int) : Int := if x < y then -1 else if y < x then 1 else 0
theorem cmpI_lt {x y : Int} (h : x < y) : cmpI x y = -1 := by unfold cmpI; rw [if_pos h]
theorem cmpI_gt {x y : Int} (h : y < x) : cmpI x y = 1 := by unfold cmpI; rw [if_neg (by omega), if_pos h]
theorem cmpI_eq {x y : Int} (h : x = y) : cmpI x y = 0 := by unfold cmpI; rw [if_neg (by omega), if_neg (by omega)]
theorem ret_int {k : IntKind} {a b : Int} (h : a = b) : Ending.returned (.int k a) = .returned (.int k b) := by rw [h]
theorem compareInt_any (x y : Int) (w : World) : Calls Tryz.prog 74 #[.int .i64 x, .int .i64 y] w fun e w' => e = .returned (.int .i64 (cmpI x y)) ∧ w = w' := by
 go_enter Tryz.func74, Tryz.ntmps74
 go_wp2
 all_goals go_ret
 · exact ⟨ret_int (cmpI_lt (by assumption)).symm, rfl⟩
 · exact ⟨ret_int (cmpI_gt (by assumption)).symm, rfl⟩
 · exact ⟨ret_int (cmpI_eq (by omega)).symm, rfl⟩
theorem compareU_any (x y : Int) (w : World) : Calls Tryz.prog 138 #[.int .u32 x, .int .u32 y] w fun e w' => e = .returned (.int .i64 (cmpI x y)) ∧ w = w' := by
 go_enter Tryz.func138, Tryz.ntmps138
 go_wp2
 all_goals go_ret
 · exact ⟨ret_int (cmpI_lt (by assumption)).symm, rfl⟩
 · exact ⟨ret_int (cmpI_gt (by assumption)).symm, rfl⟩
 · exact ⟨ret_int (cmpI_eq (by omega)).symm, rfl⟩
theorem ret2_u32 {a b c d : Int} (h : a = c) (k : b = d) : Ending.returned (.tuple #[.int .u32 a, .int .u32 b]) = .returned (.tuple #[.int .u32 c, .int .u32 d]) := by rw [h, k]
theorem add32_any (x y c : Nat) (hx : x < 4294967296) (hy : y < 4294967296) (hc : c ≤ 1) (w : World) :
   Calls Tryz.prog 134 #[.int .u32 (x : Int), .int .u32 (y : Int), .int .u32 (c : Int)] w fun e w' =>
     e = .returned (.tuple #[.int .u32 (((x + y + c) % 4294967296 : Nat) : Int), .int .u32 (((x + y + c) / 4294967296 : Nat) : Int)]) ∧ w = w' := by
 go_enter Tryz.func134, Tryz.ntmps134
 go_wp2
 go_ret2
 exact ⟨ret2_u32 (by omega) (by omega), rfl⟩
theorem add32_zero (x c : Nat) (hx : x < 4294967296) (hc : c ≤ 1) (w : World) :
   Calls Tryz.prog 134 #[.int .u32 (x : Int), .int .u32 0, .int .u32 (c : Int)] w fun e w' =>
     e = .returned (.tuple #[.int .u32 (((x + 0 + c) % 4294967296 : Nat) : Int), .int .u32 (((x + 0 + c) / 4294967296 : Nat) : Int)]) ∧ w = w' := add32_any x 0 c hx (by omega) hc w
def bor (x y c : Nat) : Nat := if x < y + c then 1 else 0
theorem bor_le (x y c : Nat) : bor x y c ≤ 1 := by unfold bor; split <;> omega
theorem bit_cases (X Y D : Nat) (hX : X ≤ 1) (hY : Y ≤ 1) (hD : D ≤ 1) : (((1 ^^^ X) &&& Y) ||| ((1 ^^^ (X ^^^ Y)) &&& D)) = if X < Y then 1 else if Y < X then 0 else D := by
 rcases (by omega : X = 0 ∨ X = 1) with rfl | rfl <;> rcases (by omega : Y = 0 ∨ Y = 1) with rfl | rfl <;> rcases (by omega : D = 0 ∨ D = 1) with rfl | rfl <;> decide
theorem sub_borrow (x y c d : Nat) (hx : x < 4294967296) (hy : y < 4294967296) (hc : c ≤ 1) (hd : d = (x + 4294967296 - y - c) % 4294967296) :
   (((4294967295 ^^^ x) &&& y) ||| ((4294967295 ^^^ (x ^^^ y)) &&& d)) / 2147483648 = bor x y c := by
 have e : ∀ n : Nat, n / 2147483648 = n >>> 31 := fun n => by rw [Nat.shiftRight_eq_div_pow]
 rw [e, Nat.shiftRight_or_distrib, Nat.shiftRight_and_distrib, Nat.shiftRight_and_distrib, Nat.shiftRight_xor_distrib, Nat.shiftRight_xor_distrib, Nat.shiftRight_xor_distrib]
 rw [← e x, ← e y, ← e d, show (4294967295 >>> 31 : Nat) = 1 by decide]
 rw [bit_cases _ _ _ (by omega) (by omega) (by omega)]
 unfold bor
 split <;> split <;> (try split) <;> omega
theorem max_u32 : IntKind.u32.max = ((4294967295 : Nat) : Int) := by decide
theorem sub_bits (x y c : Nat) (hx : x < 4294967296) (hy : y < 4294967296) (hc : c ≤ 1) :
   bits BinOp.or IntKind.u32 (bits BinOp.and IntKind.u32 (bits BinOp.xor IntKind.u32 IntKind.u32.max ↑x) ↑y)
       (bits BinOp.and IntKind.u32 (bits BinOp.xor IntKind.u32 IntKind.u32.max (bits BinOp.xor IntKind.u32 ↑x ↑y))
         (((x : Int) - y - c) % 4294967296)) / 2147483648 = (bor x y c : Int) := by
 have hd : ((x : Int) - y - c) % 4294967296 = (((x + 4294967296 - y - c) % 4294967296 : Nat) : Int) := by omega
 have b1 : ∀ a : Nat, a < 4294967296 → 4294967295 ^^^ a < 4294967296 := fun a ha => Nat.xor_lt_two_pow (n := 32) (by decide) ha
 have b2 : x ^^^ y < 4294967296 := Nat.xor_lt_two_pow (n := 32) hx hy
 have b3 : (x + 4294967296 - y - c) % 4294967296 < 4294967296 := by omega
 rw [hd, max_u32, u32_xor_nat _ _ (by decide) hx, u32_and_nat _ _ (b1 x hx) hy, u32_xor_nat _ _ hx hy, u32_xor_nat _ _ (by decide) b2, u32_and_nat _ _ (b1 _ b2) b3,
   u32_or_nat _ _ (Nat.and_lt_two_pow (n := 32) _ hy) (Nat.and_lt_two_pow (n := 32) _ b3)]
 rw [← sub_borrow x y c _ hx hy hc rfl]
 omega
theorem sub32_any (x y c : Nat) (hx : x < 4294967296) (hy : y < 4294967296) (hc : c ≤ 1) (w : World) :
   Calls Tryz.prog 139 #[.int .u32 (x : Int), .int .u32 (y : Int), .int .u32 (c : Int)] w fun e w' =>
     e = .returned (.tuple #[.int .u32 (((x + 4294967296 - y - c) % 4294967296 : Nat) : Int), .int .u32 (bor x y c : Int)]) ∧ w = w' := by
 go_enter Tryz.func139, Tryz.ntmps139
 go_wp2
 go_ret2
 exact ⟨ret2_u32 (by omega) (sub_bits x y c hx hy hc), rfl⟩
theorem sub32_zero (x c : Nat) (hx : x < 4294967296) (hc : c ≤ 1) (w : World) :
   Calls Tryz.prog 139 #[.int .u32 (x : Int), .int .u32 0, .int .u32 (c : Int)] w fun e w' =>
     e = .returned (.tuple #[.int .u32 (((x + 4294967296 - 0 - c) % 4294967296 : Nat) : Int), .int .u32 (bor x 0 c : Int)]) ∧ w = w' := sub32_any x 0 c hx (by omega) hc w
theorem or_join (x y : Nat) (hx : x < 4294967296) (hy : y < 4294967296) : bits BinOp.or IntKind.u64 ((x : Int) * 4294967296) (y : Int) = (x : Int) * 4294967296 + y := by
 have := u64_or_nat (x * 4294967296) y (by omega) (by omega)
 rw [nat_join 32 _ _ (by omega) hy] at this
 simpa using this
theorem div32_any (x y d : Nat) (hx : x < d) (hy : y < 4294967296) (hd : d < 4294967296) (w : World) :
   Calls Tryz.prog 140 #[.int .u32 (x : Int), .int .u32 (y : Int), .int .u32 (d : Int)] w fun e w' =>
     e = .returned (.tuple #[.int .u32 (((x * 4294967296 + y) / d : Nat) : Int), .int .u32 (((x * 4294967296 + y) % d : Nat) : Int)]) ∧ ∃ n, w' = w.drewN n := by
 have hor := or_join x y (by omega) hy
 go_enter Tryz.func140, Tryz.ntmps140
 go_wp2
 go_quiet (fail)
 go_wp2
 go_ret2
 have hq : (x * 4294967296 + y) / d < 4294967296 := by
   rw [Nat.div_lt_iff_lt_mul (by omega)]
   have := Nat.mul_le_mul_right 4294967296 (show x + 1 ≤ d from hx)
   rw [Nat.mul_comm 4294967296 d]
   omega
 have hr : (x * 4294967296 + y) % d < d := Nat.mod_lt _ (by omega)
 refine ⟨ret2_u32 ?_ ?_, _, rfl⟩
 · have e : ((x : Int) * 4294967296 + y) / d = (((x * 4294967296 + y) / d : Nat) : Int) := by simp
   rw [e]; clear e hor; revert hq; generalize (x * 4294967296 + y) / d = q; intro hq; omega
 · have e : ((x : Int) * 4294967296 + y) % d = (((x * 4294967296 + y) % d : Nat) : Int) := by simp
   rw [e]; clear e hor; revert hr; generalize (x * 4294967296 + y) % d = q; intro hr; omega
def blen (n : Nat) : Nat := if n = 0 then 0 else Nat.log2 n + 1
theorem blen_zero : blen 0 = 0 := rfl
theorem blen_lt (n : Nat) : n < 2 ^ blen n := by
 unfold blen
 split
 · subst_vars; decide
 · exact Nat.lt_log2_self
theorem blen_le {n : Nat} (h : n ≠ 0) : 2 ^ (blen n - 1) ≤ n := by
 unfold blen
 rw [if_neg h]; exact Nat.log2_self_le h
theorem blen_uniq {n k : Nat} (h0 : n ≠ 0) (h1 : 2 ^ k ≤ n) (h2 : n < 2 ^ (k + 1)) : blen n = k + 1 := by
 unfold blen
 rw [if_neg h0, (Nat.log2_eq_iff h0).2 ⟨h1, h2⟩]
theorem blen_half {n : Nat} (h : n ≠ 0) : blen n = 1 + blen (n / 2) := by
 by_cases h1 : n = 1
 · subst h1; decide
 · have h2 : n / 2 ≠ 0 := by omega
   unfold blen
   rw [if_neg h, if_neg h2, Nat.log2_def, if_pos (by omega)]
   omega
theorem bitLenAux_eq : ∀ (f n : Nat), n < 2 ^ f → Lib.bitLenAux f n = blen n
 | 0, n, h => by
   have : n = 0 := by simpa using h
   subst this; rfl
 | f + 1, n, h => by
   unfold Lib.bitLenAux
   by_cases h0 : n = 0
   · subst h0; rfl
   · rw [if_neg h0, bitLenAux_eq f (n / 2) (by rw [Nat.pow_succ] at h; omega), blen_half h0]
theorem bitLen_eq (n : Nat) (h : n < 4294967296) : Lib.bitLen n = blen n := bitLenAux_eq 64 n (by omega)
theorem blen_shift (n k : Nat) (h : 2 ^ k ≤ n) : blen n = k + blen (n / 2 ^ k) := by
 induction k with
 | zero => simp
 | succ k ih =>
   have h1 : 2 ^ k ≤ n := Nat.le_trans (Nat.pow_le_pow_right (by decide) (Nat.le_succ k)) h
   have h2 : n / 2 ^ k ≠ 0 := by
     have := (Nat.le_div_iff_mul_le (Nat.two_pow_pos k)).2 (show 1 * 2 ^ k ≤ n by omega)
     omega
   rw [ih h1, blen_half h2, Nat.div_div_eq_div_mul, Nat.pow_succ]
   omega
theorem blen_mono_le {n k : Nat} (h : n < 2 ^ k) : blen n ≤ k := by
 by_cases h0 : n = 0
 · subst h0; rw [blen_zero]; omega
 · rcases Nat.lt_or_ge k (blen n) with hlt | hge
   · have := blen_le h0
     have := Nat.pow_le_pow_right (n := 2) (by decide) (show k ≤ blen n - 1 by omega)
     omega
   · exact hge
theorem index_len8 (w : World) (k : Nat) (h : k < 256) :
   (Instr.index 9 (.string Lib.len8tab) (.int .u8 (k : Int))).run Tryz.prog w = .ok (.int .u8 (blen k : Int)) w := by
 rw [Lib.run_index_len8tab (P := Tryz.prog) w 9 .u8 (k : Int) Tryz.underlying9 (by omega) (by omega)]
 have := Lib.len8_eq ⟨k, h⟩
 simp only at this; rw [this, bitLen_eq k (by omega)]
set_option maxRecDepth 100000 in
theorem len32_a (z : Int) (q : Nat) (w : World) (h0 : 0 ≤ z) (hz : z ≤ 4294967295) (h1 : 65536 ≤ z) (h2 : 256 ≤ z / 65536) (hq : q ≤ 8)
   (hi : ∀ W, (Instr.index 9 (.string Lib.len8tab) (.int .u8 (z / 65536 / 256))).run Tryz.prog W = .ok (.int .u8 (q : Int)) W) :
   Calls Tryz.prog 125 #[.int .u32 z] w fun e w' => e = .returned (.int .i64 (24 + q : Int)) ∧ w = w' := by
 go_enter Tryz.func125, Tryz.ntmps125
 go_wp2
 go_ret
 exact ⟨rfl, rfl⟩
set_option maxRecDepth 100000 in
theorem len32_b (z : Int) (q : Nat) (w : World) (h0 : 0 ≤ z) (hz : z ≤ 4294967295) (h1 : 65536 ≤ z) (h2 : z / 65536 < 256) (hq : q ≤ 8)
   (hi : ∀ W, (Instr.index 9 (.string Lib.len8tab) (.int .u8 (z / 65536))).run Tryz.prog W = .ok (.int .u8 (q : Int)) W) :
   Calls Tryz.prog 125 #[.int .u32 z] w fun e w' => e = .returned (.int .i64 (16 + q : Int)) ∧ w = w' := by
 go_enter Tryz.func125, Tryz.ntmps125
 go_wp2
 go_ret
 exact ⟨rfl, rfl⟩
set_option maxRecDepth 100000 in
theorem len32_c (z : Int) (q : Nat) (w : World) (h0 : 0 ≤ z) (hz : z ≤ 4294967295) (h1 : z < 65536) (h2 : 256 ≤ z) (hq : q ≤ 8)
   (hi : ∀ W, (Instr.index 9 (.string Lib.len8tab) (.int .u8 (z / 256))).run Tryz.prog W = .ok (.int .u8 (q : Int)) W) :
   Calls Tryz.prog 125 #[.int .u32 z] w fun e w' => e = .returned (.int .i64 (8 + q : Int)) ∧ w = w' := by
 go_enter Tryz.func125, Tryz.ntmps125
 go_wp2
 go_ret
 exact ⟨rfl, rfl⟩
set_option maxRecDepth 100000 in
theorem len32_d (z : Int) (q : Nat) (w : World) (h0 : 0 ≤ z) (hz : z ≤ 4294967295) (h1 : z < 65536) (h2 : z < 256) (hq : q ≤ 8)
   (hi : ∀ W, (Instr.index 9 (.string Lib.len8tab) (.int .u8 (z))).run Tryz.prog W = .ok (.int .u8 (q : Int)) W) :
   Calls Tryz.prog 125 #[.int .u32 z] w fun e w' => e = .returned (.int .i64 (q : Int)) ∧ w = w' := by
 go_enter Tryz.func125, Tryz.ntmps125
 go_wp2
 go_ret
 exact ⟨rfl, rfl⟩
theorem len32_any (x : Nat) (hx : x < 4294967296) (w : World) :
   Calls Tryz.prog 125 #[.int .u32 (x : Int)] w fun e w' => e = .returned (.int .i64 (blen x : Int)) ∧ w = w' := by
 by_cases h1 : 65536 ≤ x
 · have s1 := blen_shift x 16 (by omega)
   rw [show 2 ^ 16 = 65536 by decide] at s1
   by_cases h2 : 256 ≤ x / 65536
   · have s2 := blen_shift (x / 65536) 8 (by omega)
     rw [show 2 ^ 8 = 256 by decide] at s2
     have := len32_a (x : Int) (blen (x / 65536 / 256)) w (by omega) (by omega) (by omega) (by omega) (blen_mono_le (by omega)) (fun W => index_len8 W (x / 65536 / 256) (by omega))
     exact this.mono fun e w' h => ⟨h.1.trans (ret_int (by omega)), h.2⟩
   · have := len32_b (x : Int) (blen (x / 65536)) w (by omega) (by omega) (by omega) (by omega) (blen_mono_le (by omega)) (fun W => index_len8 W (x / 65536) (by omega))
     exact this.mono fun e w' h => ⟨h.1.trans (ret_int (by omega)), h.2⟩
 · by_cases h2 : 256 ≤ x
   · have s2 := blen_shift x 8 (by omega)
     rw [show 2 ^ 8 = 256 by decide] at s2
     have := len32_c (x : Int) (blen (x / 256)) w (by omega) (by omega) (by omega) (by omega) (blen_mono_le (by omega)) (fun W => index_len8 W (x / 256) (by omega))
     exact this.mono fun e w' h => ⟨h.1.trans (ret_int (by omega)), h.2⟩
   · exact len32_d (x : Int) (blen x) w (by omega) (by omega) (by omega) (by omega) (blen_mono_le (by omega)) (fun W => index_len8 W x (by omega))
theorem lead32_any (x : Nat) (hx : x < 4294967296) (w : World) :
   Calls Tryz.prog 141 #[.int .u32 (x : Int)] w fun e w' => e = .returned (.int .i64 (32 - blen x : Int)) ∧ w = w' := by
 have hb := blen_mono_le (n := x) (k := 32) hx
 go_enter Tryz.func141, Tryz.ntmps141
 go_wp2_with (go_at_call 125; refine (len32_any x hx _).mono ?_; rintro e w' ⟨rfl, rfl⟩)
 go_ret
 exact ⟨rfl, rfl⟩
theorem cmp_core (w : World) (b1 b2 : Nat) (A1 A2 : Option Addr) (n m c1 c2 : Nat) (xs ys : List Nat) (n' m' : Nat) (h1 : Sl w b1 A1 n' c1 xs) (h2 : Sl w b2 A2 m' c2 ys)
   (HC1 : Hid (Calls Tryz.prog 105 #[.slice A1 n c1] w fun e w' => e = .returned (.slice A1 n' c1) ∧ w = w'))
   (HC2 : Hid (Calls Tryz.prog 105 #[.slice A2 m c2] w fun e w' => e = .returned (.slice A2 m' c2) ∧ w = w'))
   (hne : n' ≠ m' → cmpI (n' : Int) (m' : Int) = cmpI (val xs : Nat) (val ys : Nat)) :
   Calls Tryz.prog 127 #[.slice A1 n c1, .slice A2 m c2] w fun e w' => e = .returned (.int .i64 (cmpI (val xs : Nat) (val ys : Nat))) ∧ ∃ q, w' = w.drewN q := by
 have hb1 := h1.big; have hb2 := h2.big; have hl1 := Lib.hid h1.len; have hl2 := Lib.hid h2.len
 by_cases heq : n' = m'
 · subst heq; clear hne
   have hne' : ((n' : Int) != (n' : Int)) = false := by simp
   go_enter Tryz.func127, Tryz.ntmps127
   go_wp2_with (first
     | (go_at_call 105; ((with_reducible refine HC1.out.mono ?_); rintro e w' ⟨rfl, rfl⟩))
     | (go_at_call 105; ((with_reducible refine HC2.out.mono ?_); rintro e w' ⟨rfl, rfl⟩)))
   clear HC1 HC2
   go_loopw [23] (fun i wr => ∃ k q : Nat, k ≤ n' ∧ i = .int .i64 k ∧ wr = w.drewN q ∧ val (xs.drop (n' - k)) = val (ys.drop (n' - k))) (fun i _ => n' - (intOf i).toNat)
   case atStart => exact ⟨0, 0, Nat.zero_le _, rfl, rfl, by rw [List.drop_of_length_le (by rw [hl1.out]; omega), List.drop_of_length_le (by rw [hl2.out]; omega)]⟩
   case round =>
     obtain ⟨k, q, hk, rfl, rfl, hz⟩ := hrel; have HZ := Lib.hid hz; clear hz
     by_cases hlt : k < n'
     · obtain ⟨o1, rfl, hc1⟩ := h1.at (by omega); obtain ⟨o2, rfl, hc2⟩ := h2.at (by omega); have g1 := hc1 (n' - 1 - k) (by omega); have g2 := hc2 (n' - 1 - k) (by omega); clear hc1 hc2; have HX := Lib.hid (val_limb_cases h1.lim h2.lim hl1.out hl2.out hlt HZ.out)
       revert g1 g2 HX
       generalize xs.getD (n' - 1 - k) 0 = x; generalize ys.getD (n' - 1 - k) 0 = y
       intro g1 g2 HX
       have i1 : ((n' : Int) - 1 - k).toNat = n' - 1 - k := by omega
       by_cases hxy : x = y
       · subst hxy; go_wp2
         go_quiet (fail)
         go_wp2
         go_roundw
         case rel => exact ⟨k + 1, _, by omega, by go_num, rfl, by rw [show n' - (k + 1) = n' - 1 - k by omega]; exact HX.out.2.2 (by first | trivial | rfl)⟩
         case measure => simp [intOf]; omega
       · have HR : Hid (cmpI (x : Int) (y : Int) = cmpI (val xs : Nat) (val ys : Nat)) := by
           rcases Nat.lt_or_gt_of_ne hxy with h | h
           · exact (cmpI_lt (by omega)).trans (cmpI_lt (by have := HX.out.1 h; omega)).symm
           · exact (cmpI_gt (by omega)).trans (cmpI_gt (by have := HX.out.2.1 h; omega)).symm
         have hxy' : ((x : Int) != (y : Int)) = true := by simp; omega
         clear hxy HX; go_wp2
         go_quiet (fail)
         go_wp2
         go_quiet ((go_at_call 138; first | exact quiet_add_left (compareU_any _ _ _) | exact quiet_left (compareU_any _ _ _)))
         go_wp2
         go_ret
         exact ⟨ret_int HR.out, _, by rw [World.drewN_drewN, World.drewN_drewN]⟩
     · go_wp2
       go_ret
       have hkn : k = n' := by omega
       subst hkn; have e := HZ.out; rw [Nat.sub_self, List.drop_zero, List.drop_zero] at e; exact ⟨ret_int (cmpI_eq (by omega)).symm, _, rfl⟩
 · have hne' : ((n' : Int) != (m' : Int)) = true := by simp; omega
   have HN := Lib.hid (hne heq); clear hne heq
   go_enter Tryz.func127, Tryz.ntmps127
   go_wp2_with (first
     | (go_at_call 105; ((with_reducible refine HC1.out.mono ?_); rintro e w' ⟨rfl, rfl⟩))
     | (go_at_call 105; ((with_reducible refine HC2.out.mono ?_); rintro e w' ⟨rfl, rfl⟩))
     | (go_at_call 74; ((with_reducible refine (compareInt_any _ _ _).mono ?_); rintro e w' ⟨rfl, rfl⟩)))
   go_ret
   exact ⟨ret_int HN.out, 0, rfl⟩
theorem cmp_any (w : World) (b1 b2 : Nat) (A1 A2 : Option Addr) (n m c1 c2 : Nat) (xs ys : List Nat) (h1 : Sl w b1 A1 n c1 xs) (h2 : Sl w b2 A2 m c2 ys) :
   Calls Tryz.prog 127 #[.slice A1 n c1, .slice A2 m c2] w fun e w' => e = .returned (.int .i64 (cmpI (val xs : Nat) (val ys : Nat))) ∧ ∃ q, w' = w.drewN q := by
 have s1 := h1.take (k := (limbs (val xs)).length) (by have := val_limbs_le h1.lim; have := h1.len; omega); have s2 := h2.take (k := (limbs (val ys)).length) (by have := val_limbs_le h2.lim; have := h2.len; omega); rw [limbs_prefix h1.lim] at s1; rw [limbs_prefix h2.lim] at s2
 have := cmp_core w b1 b2 A1 A2 n m c1 c2 _ _ _ _ s1 s2 (cut_any w b1 A1 n c1 xs h1) (cut_any w b2 A2 m c2 ys h2) (fun hne => by
   rw [val_limbs, val_limbs]
   rcases Nat.lt_or_gt_of_ne hne with h | h
   · exact (cmpI_lt (by omega)).trans (cmpI_lt (by have := limbs_length_lt_of_lt h; omega)).symm
   · exact (cmpI_gt (by omega)).trans (cmpI_gt (by have := limbs_length_lt_of_lt h; omega)).symm)
 rw [val_limbs, val_limbs] at this; exact this
def Turned (w : World) (g o : Nat) (l zs : List Nat) (w' : World) : Prop := Own w' g (mid l o zs) ∧ w.grownBy w' (some g) ∧ Lim zs
theorem Turned.step {w wr : World} {g o : Nat} {l zs : List Nat} (h : Turned w g o l zs wr) (hk : o + zs.length < l.length) {x : Nat} (hx : x < 4294967296) :
   Turned w g o l (zs ++ [x]) (wr.setCell ⟨g, o + zs.length, none⟩ (.int .u32 (x : Int))) :=
 ⟨by have := h.1.set (o + zs.length) x; rwa [mid_set hk] at this, grown_set h.2.1 _, h.2.2.append (Lim.cons hx Lim.nil)⟩
theorem Turned.cell {w wr : World} {g o : Nat} {l zs : List Nat} (h : Turned w g o l zs wr) (hk : o + zs.length < l.length) : wr.cell? ⟨g, o + zs.length, none⟩ = some (.int .u32 (l.getD (o + zs.length) 0 : Nat)) := by
 rw [h.1.cell (by rw [mid_length (by omega)]; omega), mid_getD hk]
def AddInv (w : World) (g o : Nat) (l ys : List Nat) (k cy : Nat) (wr : World) : Prop :=
 ∃ zs, zs.length = k ∧ Turned w g o l zs wr ∧ cy ≤ 1 ∧ val zs + cy * 4294967296 ^ k = val ((l.drop o).take k) + val (ys.take k)
theorem AddInv.step {w wr : World} {g o : Nat} {l ys : List Nat} {k cy x y : Nat} (h : AddInv w g o l ys k cy wr) (hk : o + k < l.length) (hx : l.getD (o + k) 0 = x) (hy : ys.getD k 0 = y) (hl : Lim l) (hly : Lim ys) :
   AddInv w g o l ys (k + 1) ((x + y + cy) / 4294967296) (wr.setCell ⟨g, o + k, none⟩ (.int .u32 (((x + y + cy) % 4294967296 : Nat) : Int))) := by
 obtain ⟨zs, rfl, ht, hc, hv⟩ := h
 have bx : x < 4294967296 := by rw [← hx]; exact hl.getD _
 have by' : y < 4294967296 := by rw [← hy]; exact hly.getD _
 refine ⟨zs ++ [(x + y + cy) % 4294967296], by simp, ht.step hk (by omega), by omega, ?_⟩
 rw [val_snoc, val_take_more, val_take_more, hy, getD_drop, hx, Nat.pow_succ]; exact add_step hv
def AddPost (w : World) (g o n : Nat) (l ys : List Nat) (e : Ending) (w' : World) : Prop :=
 e = .returned (.tuple #[]) ∧ ∃ zs cy, zs.length = n ∧ Turned w g o l zs w' ∧ cy ≤ 1 ∧ val zs + cy * 4294967296 ^ n = val ((l.drop o).take n) + val ys
theorem AddInv.done {w wr : World} {g o n : Nat} {l ys : List Nat} {cy : Nat} (h : AddInv w g o l ys n cy wr) (hm : ys.length ≤ n) : AddPost w g o n l ys (.returned (.tuple #[])) wr := by
 obtain ⟨zs, hz, ht, hc, hv⟩ := h; exact ⟨rfl, zs, cy, hz, ht, hc, by rw [hv, val_take_all hm]⟩
theorem mid_more {l zs : List Nat} {o n : Nat} (h : o + n ≤ l.length) (hz : zs.length ≤ n) : mid l o (zs ++ (l.drop (o + zs.length)).take (n - zs.length)) = mid l o zs := by
 unfold mid
 have e : (zs ++ (l.drop (o + zs.length)).take (n - zs.length)).length = n := by simp; omega
 rw [e, List.append_assoc, List.append_assoc, List.append_assoc]
 congr 2
 have : l.drop (o + n) = (l.drop (o + zs.length)).drop (n - zs.length) := by rw [List.drop_drop]; congr 1; omega
 rw [this, List.take_append_drop]
theorem val_seg_split {l : List Nat} {o n k : Nat} (h : o + n ≤ l.length) (hk : k ≤ n) : val ((l.drop o).take n) = val ((l.drop o).take k) + 4294967296 ^ k * val ((l.drop (o + k)).take (n - k)) := by
 have h1 := val_take_drop ((l.drop o).take n) (k := k) (by simp; omega); rw [List.take_take, Nat.min_eq_left hk, List.drop_take, List.drop_drop] at h1; exact h1
theorem AddInv.early {w wr : World} {g o n k : Nat} {l ys : List Nat} (h : AddInv w g o l ys k 0 wr) (hl : Lim l) (hn : o + n ≤ l.length) (hk : k ≤ n) (hm : ys.length ≤ k) : AddPost w g o n l ys (.returned (.tuple #[])) wr := by
 obtain ⟨zs, rfl, ht, hc, hv⟩ := h; refine ⟨rfl, zs ++ (l.drop (o + zs.length)).take (n - zs.length), 0, by simp; omega, ⟨by rw [mid_more hn hk]; exact ht.1, ht.2.1, ht.2.2.append ((hl.drop _).take _)⟩, by omega, ?_⟩
 rw [val_append, val_seg_split hn hk]; rw [val_take_all hm] at hv
 omega
theorem addTo_any (w : World) (g o n c b m c2 : Nat) (A : Option Addr) (l ys : List Nat) (hg : Own w g l) (hl : Lim l) (hn : o + n ≤ l.length) (hbl : l.length ≤ 1099511627776) (h2 : Sl w b A m c2 ys) (hne : 0 < m → b ≠ g) (hm : m ≤ n) :
   Calls Tryz.prog 112 #[.slice (some ⟨g, o, none⟩) n c, .slice A m c2] w (AddPost w g o n l ys) := by
 have hl2 := Lib.hid h2.len
 go_enter Tryz.func112, Tryz.ntmps112
 go_wp2
 go_loopw [4, 9] (fun u i wr => ∃ k cy : Nat, k ≤ n ∧ i = .int .i64 k ∧ u = .int .u32 cy ∧ AddInv w g o l ys k cy wr) (fun _ i _ => n - (intOf i).toNat)
 case atStart => exact ⟨0, 0, Nat.zero_le _, rfl, rfl, [], rfl, ⟨by rw [mid_nil]; exact hg, grown_refl _ _, Lim.nil⟩, by omega, by simp [val]⟩
 case round =>
   obtain ⟨k, cy, hk, rfl, rfl, hI⟩ := hrel; have HI := Lib.hid hI; clear hI
   by_cases hlt : k < n
   · have HI' := HI
     obtain ⟨zs, hz, ht, hcy, -⟩ := HI'; have hcell := ht.cell (by omega); rw [hz] at hcell
     have hfr : wr.frozen? ⟨g, o + k, none⟩ = false := ht.1.frozen _
     have bx := hl.getD (o + k)
     have HS := Lib.hid (fun y hy => HI.out.step (y := y) (by omega) rfl hy hl h2.lim)
     have hsl := h2.grown ht.2.1 (fun h => by simpa using hne h)
     clear ht hz hg; obtain ⟨x, hx⟩ : ∃ x, l.getD (o + k) 0 = x := ⟨_, rfl⟩; rw [hx] at hcell bx HS; clear hx
     by_cases hkm : k < m
     · obtain ⟨o2, rfl, hc2⟩ := hsl.at (by omega); have hcell2 := hc2 k hkm
       have by' := h2.lim.getD k
       have HS' := Lib.hid (HS.out _ rfl)
       clear HS hc2
       revert hcell2 by' HS'
       generalize ys.getD k 0 = y
       intro hcell2 by' HS'
       go_wp2_with (go_at_call 134; ((with_reducible refine (add32_any x y cy bx by' hcy _).mono ?_); rintro e w' ⟨rfl, rfl⟩))
       go_roundw
       case rel => exact ⟨k + 1, _, by omega, by go_num, rfl, HS'.out⟩
       case measure => simp [intOf]; omega
     · have HS' := Lib.hid (HS.out 0 (getD_beyond (by rw [hl2.out]; omega)))
       clear HS
       by_cases hc0 : cy = 0
       · subst hc0; go_wp2; refine bodyPost_ret (results_none rfl _ _ _) rfl ?_; exact HI.out.early hl hn hk (by rw [hl2.out]; omega)
       · have hc0' : ((cy : Int) == 0) = false := by simpa using hc0
         go_wp2_with (go_at_call 134; ((with_reducible refine (add32_zero x cy bx hcy _).mono ?_); rintro e w' ⟨rfl, rfl⟩))
         go_roundw
         case rel => exact ⟨k + 1, _, by omega, by go_num, rfl, HS'.out⟩
         case measure => simp [intOf]; omega
   · go_wp2
     go_end0
     have hkn : k = n := by omega
     subst hkn; exact HI.out.done (by rw [hl2.out]; omega)
def MulInv (w : World) (g o : Nat) (l ys : List Nat) (f k cy : Nat) (wr : World) : Prop :=
 ∃ zs, zs.length = k ∧ Turned w g o l zs wr ∧ cy < 4294967296 ∧ val zs + cy * 4294967296 ^ k = val ((l.drop o).take k) + f * val (ys.take k)
theorem prod_lt {y f : Nat} (hy : y < 4294967296) (hf : f < 4294967296) : y * f ≤ 4294967295 * 4294967295 := Nat.mul_le_mul (by omega) (by omega)
theorem wrap_u64_nat (s : Nat) (h : s < 18446744073709551616) : IntKind.u64.wrap (s : Int) = s := by
 rw [show IntKind.u64.wrap (s : Int) = (s : Int) % 18446744073709551616 from by simp [IntKind.wrap, IntKind.bits, IntKind.signed]]
 omega
theorem mul_sums {y f x cy : Nat} (hy : y < 4294967296) (hf : f < 4294967296) (hx : x < 4294967296) (hc : cy < 4294967296) :
   ∃ p q s : Nat, Hid (s = y * f + x + cy) ∧ Hid (s / 4294967296 < 4294967296) ∧ IntKind.u64.wrap ((y : Int) * f) = p ∧ IntKind.u64.wrap ((p : Int) + x) = q ∧ IntKind.u64.wrap ((q : Int) + cy) = s := by
 have hp := prod_lt hy hf; refine ⟨y * f, y * f + x, y * f + x + cy, rfl, ?_, ?_, ?_, ?_⟩
 · show _ < _; omega
 · have := wrap_u64_nat (y * f) (by omega); simpa using this
 · have := wrap_u64_nat (y * f + x) (by omega); simpa using this
 · have := wrap_u64_nat (y * f + x + cy) (by omega); simpa using this
theorem MulInv.step {w wr : World} {g o : Nat} {l ys : List Nat} {f k cy x y s : Nat} (h : MulInv w g o l ys f k cy wr) (hk : o + k < l.length) (hx : l.getD (o + k) 0 = x) (hy : ys.getD k 0 = y)
   (hs : s = y * f + x + cy) (hb : s / 4294967296 < 4294967296) (q : Nat) :
   MulInv w g o l ys f (k + 1) (s / 4294967296) ((wr.drewN q).setCell ⟨g, o + k, none⟩ (.int .u32 ((s % 4294967296 : Nat) : Int))) := by
 obtain ⟨zs, rfl, ht, hc, hv⟩ := h
 have ht' : Turned w g o l zs (wr.drewN q) := ⟨ht.1, grown_drewN ht.2.1 q, ht.2.2⟩
 refine ⟨zs ++ [s % 4294967296], by simp, ht'.step hk (by omega), hb, ?_⟩
 rw [val_snoc, val_take_more, val_take_more, hy, getD_drop, hx, Nat.pow_succ, hs]; exact mul_step hv
def MulPost (w : World) (g o n : Nat) (l ys : List Nat) (f : Nat) (e : Ending) (w' : World) : Prop :=
 ∃ cy : Nat, e = .returned (.int .u32 (cy : Int)) ∧ ∃ zs, zs.length = n ∧ Turned w g o l zs w' ∧ cy < 4294967296 ∧ val zs + cy * 4294967296 ^ n = val ((l.drop o).take n) + f * val ys
theorem addTimes_any (w : World) (g o n c b c2 f : Nat) (A : Option Addr) (l ys : List Nat) (hg : Own w g l) (hl : Lim l) (hn : o + n ≤ l.length) (hbl : l.length ≤ 1099511627776) (h2 : Sl w b A n c2 ys) (hne : 0 < n → b ≠ g) (hf : f < 4294967296) :
   Calls Tryz.prog 126 #[.slice (some ⟨g, o, none⟩) n c, .slice A n c2, .int .u32 (f : Int)] w (MulPost w g o n l ys f) := by
 have hl2 := Lib.hid h2.len
 go_enter Tryz.func126, Tryz.ntmps126
 go_wp2
 go_loopw [7, 12] (fun u i wr => ∃ k cy : Nat, k ≤ n ∧ i = .int .i64 k ∧ u = .int .u64 cy ∧ MulInv w g o l ys f k cy wr) (fun _ i _ => n - (intOf i).toNat)
 case atStart => exact ⟨0, 0, Nat.zero_le _, rfl, rfl, [], rfl, ⟨by rw [mid_nil]; exact hg, grown_refl _ _, Lim.nil⟩, by omega, by simp [val]⟩
 case round =>
   obtain ⟨k, cy, hk, rfl, rfl, hI⟩ := hrel; have HI := Lib.hid hI; clear hI
   by_cases hlt : k < n
   · have HI' := HI
     obtain ⟨zs, hz, ht, hcy, -⟩ := HI'; have hcell := ht.cell (by omega); rw [hz] at hcell
     have hfr : wr.frozen? ⟨g, o + k, none⟩ = false := ht.1.frozen _
     have bx := hl.getD (o + k)
     have hsl := h2.grown ht.2.1 (fun h => by simpa using hne h)
     clear ht hz hg; obtain ⟨x, hx⟩ : ∃ x, l.getD (o + k) 0 = x := ⟨_, rfl⟩; rw [hx] at hcell bx; have HX := Lib.hid hx; clear hx; obtain ⟨o2, rfl, hc2⟩ := hsl.at (by omega); have hcell2 := hc2 k hlt
     have by' := h2.lim.getD k
     clear hc2; obtain ⟨y, hy⟩ : ∃ y, ys.getD k 0 = y := ⟨_, rfl⟩; rw [hy] at hcell2 by'
     have HY := Lib.hid hy; clear hy; obtain ⟨p, q, s, HS, HB, e1, e2, e3⟩ := mul_sums by' hf bx hcy
     go_wp2
     go_quiet (fail)
     go_wp2
     go_roundw
     case rel => exact ⟨k + 1, s / 4294967296, by omega, by go_num, by go_num, HI.out.step (by omega) HX.out HY.out HS.out HB.out _⟩
     case measure => simp [intOf]; omega
   · obtain ⟨zs, hz, ht, hcy, hv⟩ := HI.out; have HV := Lib.hid hv; clear hv
     have hkn : k = n := by omega
     subst hkn; go_wp2
     go_ret
     refine ⟨cy, ret_int (by omega), zs, hz, ht, hcy, ?_⟩; rw [HV.out, val_take_all (xs := ys) (by rw [hl2.out]; omega)]
theorem take_step {p A Y v x y f ov bo s a b : Nat} (h : A + (ov + bo) * p = v + f * Y) (hs : s = ov + y * f) (ha : x + b * 4294967296 = a + s % 4294967296 + bo) :
   (A + p * x) + (s / 4294967296 + b) * (p * 4294967296) = (v + p * a) + f * (Y + p * y) := by
 have e := Nat.mod_add_div s 4294967296
 have e2 : p * (x + b * 4294967296) = p * (a + s % 4294967296 + bo) := by rw [ha]
 have e3 : p * (s % 4294967296 + 4294967296 * (s / 4294967296)) = p * (ov + y * f) := by rw [e, hs]
 grind
def TakeInv (w : World) (g o : Nat) (l ys : List Nat) (f k ov bo : Nat) (wr : World) : Prop :=
 ∃ zs, zs.length = k ∧ Turned w g o l zs wr ∧ ov < 4294967296 ∧ bo ≤ 1 ∧ val ((l.drop o).take k) + (ov + bo) * 4294967296 ^ k = val zs + f * val (ys.take k)
theorem bor_eq {x t bo : Nat} (hx : x < 4294967296) (ht : t < 4294967296) (hb : bo ≤ 1) : x + bor x t bo * 4294967296 = (x + 4294967296 - t - bo) % 4294967296 + t + bo := by
 unfold bor
 split <;> omega
theorem TakeInv.step {w wr : World} {g o : Nat} {l ys : List Nat} {f k ov bo x y s t u : Nat} (h : TakeInv w g o l ys f k ov bo wr) (hk : o + k < l.length) (hx : l.getD (o + k) 0 = x) (hl : Lim l) (hy : ys.getD k 0 = y)
   (hs : s = ov + y * f) (ht : t = s % 4294967296) (hu : u = s / 4294967296) (hb : s / 4294967296 < 4294967296) :
   TakeInv w g o l ys f (k + 1) u (bor x t bo) (wr.setCell ⟨g, o + k, none⟩ (.int .u32 (((x + 4294967296 - t - bo) % 4294967296 : Nat) : Int))) := by
 obtain ⟨zs, rfl, hT, hov, hbo, hv⟩ := h; subst ht; subst hu
 have bx : x < 4294967296 := by rw [← hx]; exact hl.getD _
 refine ⟨zs ++ [(x + 4294967296 - s % 4294967296 - bo) % 4294967296], by simp, hT.step hk (by omega), hb, bor_le _ _ _, ?_⟩
 rw [val_snoc, val_take_more, val_take_more, hy, getD_drop, hx, Nat.pow_succ]; exact take_step hv hs (bor_eq bx (by omega) hbo)
def TakePost (w : World) (g o n : Nat) (l ys : List Nat) (f : Nat) (e : Ending) (w' : World) : Prop :=
 ∃ q : Nat, e = .returned (.bool (decide (0 < q))) ∧ ∃ zs, zs.length = n ∧ Turned w g o l zs w' ∧ val ((l.drop o).take n) + q * 4294967296 ^ n = val zs + f * val ys
theorem TakeInv.early {w wr : World} {g o n k : Nat} {l ys : List Nat} {f : Nat} (h : TakeInv w g o l ys f k 0 0 wr) (hl : Lim l) (hn : o + n ≤ l.length) (hk : k ≤ n) (hm : ys.length ≤ k) : TakePost w g o n l ys f (.returned (.bool false)) wr := by
 obtain ⟨zs, rfl, ht, _, _, hv⟩ := h; refine ⟨0, rfl, zs ++ (l.drop (o + zs.length)).take (n - zs.length), by simp; omega, ⟨by rw [mid_more hn hk]; exact ht.1, ht.2.1, ht.2.2.append ((hl.drop _).take _)⟩, ?_⟩
 rw [val_append, val_seg_split hn hk]; rw [val_take_all hm] at hv
 omega
theorem TakeInv.done {w wr : World} {g o n : Nat} {l ys : List Nat} {f ov bo : Nat} (h : TakeInv w g o l ys f n ov bo wr) (hm : ys.length ≤ n) {t : Bool} (ht : t = decide (0 < ov + bo)) : TakePost w g o n l ys f (.returned (.bool t)) wr := by
 obtain ⟨zs, hz, hT, _, _, hv⟩ := h; exact ⟨ov + bo, by rw [ht], zs, hz, hT, by rw [hv, val_take_all hm]⟩
theorem take_sums {y f ov : Nat} (hy : y < 4294967296) (hf : f < 4294967296) (hc : ov < 4294967296) :
   ∃ p s t u : Nat, Hid (s = ov + y * f) ∧ Hid (t = s % 4294967296) ∧ Hid (u = s / 4294967296) ∧ Hid (s / 4294967296 < 4294967296) ∧ t < 4294967296 ∧ IntKind.u64.wrap ((y : Int) * f) = p ∧ IntKind.u64.wrap ((ov : Int) + p) = s ∧
     (s : Int) % 4294967296 = t ∧ (s : Int) / 4294967296 = u := by
 have hp := prod_lt hy hf; refine ⟨y * f, ov + y * f, (ov + y * f) % 4294967296, (ov + y * f) / 4294967296, rfl, rfl, rfl, ?_, by omega, ?_, ?_, by omega, by omega⟩
 · show _ < _; omega
 · have := wrap_u64_nat (y * f) (by omega); simpa using this
 · have := wrap_u64_nat (ov + y * f) (by omega); simpa using this
theorem takeFrom_any (w : World) (g o n c b m c2 f : Nat) (A : Option Addr) (l ys : List Nat) (hg : Own w g l) (hl : Lim l) (hn : o + n ≤ l.length) (hbl : l.length ≤ 1099511627776) (h2 : Sl w b A m c2 ys) (hne : 0 < m → b ≠ g) (hm : m ≤ n) (hf : f < 4294967296) :
   Calls Tryz.prog 128 #[.slice (some ⟨g, o, none⟩) n c, .slice A m c2, .int .u32 (f : Int)] w (TakePost w g o n l ys f) := by
 have hl2 := Lib.hid h2.len
 go_enter Tryz.func128, Tryz.ntmps128
 go_wp2
 go_loopw [7, 8, 12] (fun v u i wr => ∃ k ov bo : Nat, k ≤ n ∧ i = .int .i64 k ∧ v = .int .u64 ov ∧ u = .int .u32 bo ∧ TakeInv w g o l ys f k ov bo wr) (fun _ _ i _ => n - (intOf i).toNat)
 case atStart => exact ⟨0, 0, 0, Nat.zero_le _, rfl, rfl, rfl, [], rfl, ⟨by rw [mid_nil]; exact hg, grown_refl _ _, Lim.nil⟩, by omega, by omega, by simp [val]⟩
 case round =>
   obtain ⟨k, ov, bo, hk, rfl, rfl, rfl, hI⟩ := hrel; have HI := Lib.hid hI; clear hI
   by_cases hlt : k < n
   · have HI' := HI
     obtain ⟨zs, hz, ht, hov, hbo, -⟩ := HI'; have hcell := ht.cell (by omega); rw [hz] at hcell
     have hfr : wr.frozen? ⟨g, o + k, none⟩ = false := ht.1.frozen _
     have bx := hl.getD (o + k)
     have hsl := h2.grown ht.2.1 (fun h => by simpa using hne h)
     clear ht hz hg; obtain ⟨x, hx⟩ : ∃ x, l.getD (o + k) 0 = x := ⟨_, rfl⟩; rw [hx] at hcell bx; have HX := Lib.hid hx; clear hx
     by_cases hkm : k < m
     · obtain ⟨o2, rfl, hc2⟩ := hsl.at (by omega); have hcell2 := hc2 k hkm
       have by' := h2.lim.getD k
       clear hc2; obtain ⟨y, hy⟩ : ∃ y, ys.getD k 0 = y := ⟨_, rfl⟩; rw [hy] at hcell2 by'
       have HY := Lib.hid hy; clear hy; obtain ⟨p, s, t, u, HS, HT, HU, HB, bt, e1, e2, e3, e4⟩ := take_sums by' hf hov
       go_wp2_with (go_at_call 139; ((with_reducible refine (sub32_any x t bo bx bt hbo _).mono ?_); rintro e w' ⟨rfl, rfl⟩))
       go_roundw
       case rel => exact ⟨k + 1, u, bor x t bo, by omega, by go_num, rfl, rfl, HI.out.step (by omega) HX.out hl HY.out HS.out HT.out HU.out HB.out⟩
       case measure => simp [intOf]; omega
     · have HY := Lib.hid (getD_beyond (xs := ys) (k := k) (by rw [hl2.out]; omega))
       have HS' := Lib.hid (HI.out.step (s := ov) (t := ov) (u := 0) (by omega) HX.out hl HY.out (by simp) (by omega) (by omega) (by omega))
       by_cases h0 : ov = 0
       · subst h0
         by_cases h1 : bo = 0
         · subst h1; go_wp2
           go_ret
           exact HI.out.early hl hn hk (by rw [hl2.out]; omega)
         · have h1' : ((bo : Int) == 0) = false := by simpa using h1
           go_wp2_with (go_at_call 139; ((with_reducible refine (sub32_zero x bo bx hbo _).mono ?_); rintro e w' ⟨rfl, rfl⟩))
           go_roundw
           case rel => exact ⟨k + 1, 0, bor x 0 bo, by omega, by go_num, rfl, rfl, HS'.out⟩
           case measure => simp [intOf]; omega
       · have h0' : ((ov : Int) == 0) = false := by simpa using h0
         go_wp2_with (go_at_call 139; ((with_reducible refine (sub32_any x ov bo bx hov hbo _).mono ?_); rintro e w' ⟨rfl, rfl⟩))
         go_roundw
         case rel => exact ⟨k + 1, 0, bor x ov bo, by omega, by go_num, by congr 1; omega, rfl, HS'.out⟩
         case measure => simp [intOf]; omega
   · have hkn : k = n := by omega
     subst hkn
     have HD := Lib.hid (fun t => HI.out.done (t := t) (by rw [hl2.out]; omega))
     by_cases h0 : ov = 0
     · subst h0
       by_cases h1 : bo = 0
       · subst h1; go_wp2
         go_ret
         exact HD.out _ (by simp)
       · have h1' : ((bo : Int) != 0) = true := by simpa using h1
         go_wp2
         go_ret
         exact HD.out _ (by simp; omega)
     · have h0' : ((ov : Int) != 0) = true := by simpa using h0
       go_wp2
       go_ret
       exact HD.out _ (by simp; omega)
theorem takeFrom_none (w : World) (c m c2 f : Nat) (A B : Option Addr) :
   Calls Tryz.prog 128 #[.slice B 0 c, .slice A m c2, .int .u32 (f : Int)] w fun e w' => e = .returned (.bool false) ∧ w = w' := by
 go_enter Tryz.func128, Tryz.ntmps128
 go_wp2
 go_loop [7, 8, 12] (fun v u i => v = .int .u64 0 ∧ u = .int .u32 0 ∧ i = .int .i64 0) (fun _ _ _ => 0)
 case atStart => exact ⟨rfl, rfl, rfl⟩
 case round =>
   obtain ⟨rfl, rfl, rfl⟩ := hrel; go_wp2
   go_ret
   exact ⟨rfl, rfl⟩
theorem takeFrom_one (w : World) (g o n c b m c2 : Nat) (A : Option Addr) (l ys : List Nat) (hg : Own w g l) (hl : Lim l) (hn : o + n ≤ l.length) (hbl : l.length ≤ 1099511627776) (h2 : Sl w b A m c2 ys) (hne : 0 < m → b ≠ g) (hm : m ≤ n) :
   Calls Tryz.prog 128 #[.slice (some ⟨g, o, none⟩) n c, .slice A m c2, .int .u32 1] w (TakePost w g o n l ys 1) := takeFrom_any w g o n c b m c2 1 A l ys hg hl hn hbl h2 hne hm (by omega)
theorem takeFrom_none1 (w : World) (c m c2 : Nat) (A B : Option Addr) :
   Calls Tryz.prog 128 #[.slice B 0 c, .slice A m c2, .int .u32 1] w fun e w' => e = .returned (.bool false) ∧ w = w' := takeFrom_none w c m c2 1 A B
end Go.Proofs.YtmmallhniijdfaaGreatDoor

/-
  Contracts and words that the statement's proof rests on: Bits, Acc, Sum, Diva, Guess.
-/
import Derived.Lib.BitFns
import Derived.Test.YtpnmphofengoeaaDoorYHad
namespace Go.Proofs.YtpnmphofengoeaaDoor
open Go.RowKit
set_option linter.unusedVariables false

def cmpI (x y : Int) : Int := if x < y then -1 else if y < x then 1 else 0

theorem cmpI_lt {x y : Int} (h : x < y) : cmpI x y = -1 := by unfold cmpI; rw [if_pos h]
theorem cmpI_gt {x y : Int} (h : y < x) : cmpI x y = 1 := by unfold cmpI; rw [if_neg (by omega), if_pos h]
theorem cmpI_eq {x y : Int} (h : x = y) : cmpI x y = 0 := by unfold cmpI; rw [if_neg (by omega), if_neg (by omega)]
theorem ret_int {k : IntKind} {a b : Int} (h : a = b) : Ending.returned (.int k a) = .returned (.int k b) := by rw [h]

theorem compareInt_any (x y : Int) (w : World) : Calls Tryd.prog 70 #[.int .i64 x, .int .i64 y] w fun e w' => e = .returned (.int .i64 (cmpI x y)) ∧ w = w' := by
  go_enter Tryd.func70, Tryd.ntmps70
  go_wp2
  all_goals go_ret
  · exact ⟨ret_int (cmpI_lt (by assumption)).symm, rfl⟩
  · exact ⟨ret_int (cmpI_gt (by assumption)).symm, rfl⟩
  · exact ⟨ret_int (cmpI_eq (by omega)).symm, rfl⟩

def blen (n : Nat) : Nat := if n = 0 then 0 else Nat.log2 n + 1

theorem blen_zero : blen 0 = 0 := rfl
theorem blen_lt (n : Nat) : n < 2 ^ blen n := by
  unfold blen
  split
  · subst_vars; decide
  · exact Nat.lt_log2_self
theorem blen_le {n : Nat} (h : n ≠ 0) : 2 ^ (blen n - 1) ≤ n := by
  unfold blen
  rw [if_neg h]; exact Nat.log2_self_le h
theorem blen_uniq {n k : Nat} (h0 : n ≠ 0) (h1 : 2 ^ k ≤ n) (h2 : n < 2 ^ (k + 1)) : blen n = k + 1 := by
  unfold blen
  rw [if_neg h0, (Nat.log2_eq_iff h0).2 ⟨h1, h2⟩]
theorem blen_half {n : Nat} (h : n ≠ 0) : blen n = 1 + blen (n / 2) := by
  by_cases h1 : n = 1
  · subst h1; decide
  · have h2 : n / 2 ≠ 0 := by omega
    unfold blen
    rw [if_neg h, if_neg h2, Nat.log2_def, if_pos (by omega)]
    omega

theorem bitLenAux_eq : ∀ (f n : Nat), n < 2 ^ f → Lib.bitLenAux f n = blen n
  | 0, n, h => by
    have : n = 0 := by simpa using h
    subst this; rfl
  | f + 1, n, h => by
    unfold Lib.bitLenAux
    by_cases h0 : n = 0
    · subst h0; rfl
    · rw [if_neg h0, bitLenAux_eq f (n / 2) (by rw [Nat.pow_succ] at h; omega), blen_half h0]

theorem bitLen_eq (n : Nat) (h : n < 4294967296) : Lib.bitLen n = blen n := bitLenAux_eq 64 n (by omega)

theorem blen_shift (n k : Nat) (h : 2 ^ k ≤ n) : blen n = k + blen (n / 2 ^ k) := by
  induction k with
  | zero => simp
  | succ k ih =>
    have h1 : 2 ^ k ≤ n := Nat.le_trans (Nat.pow_le_pow_right (by decide) (Nat.le_succ k)) h
    have h2 : n / 2 ^ k ≠ 0 := by
      have := (Nat.le_div_iff_mul_le (Nat.two_pow_pos k)).2 (show 1 * 2 ^ k ≤ n by omega)
      omega
    rw [ih h1, blen_half h2, Nat.div_div_eq_div_mul, Nat.pow_succ]
    omega
theorem blen_mono_le {n k : Nat} (h : n < 2 ^ k) : blen n ≤ k := by
  by_cases h0 : n = 0
  · subst h0; rw [blen_zero]; omega
  · rcases Nat.lt_or_ge k (blen n) with hlt | hge
    · have := blen_le h0
      have := Nat.pow_le_pow_right (n := 2) (by decide) (show k ≤ blen n - 1 by omega)
      omega
    · exact hge

theorem index_len8 (w : World) (k : Nat) (h : k < 256) :
    (Instr.index 9 (.string Lib.len8tab) (.int .u8 (k : Int))).run Tryd.prog w = .ok (.int .u8 (blen k : Int)) w := by
  rw [Lib.run_index_len8tab (P := Tryd.prog) w 9 .u8 (k : Int) Tryd.underlying9 (by omega) (by omega)]
  have := Lib.len8_eq ⟨k, h⟩
  simp only at this; rw [this, bitLen_eq k (by omega)]

end Go.Proofs.YtpnmphofengoeaaDoor

namespace Go.Proofs.YtpnmphofengoeaaDoor
open Go.RowKit
set_option linter.unusedVariables false

def Turned (w : World) (g o : Nat) (l zs : List Nat) (w' : World) : Prop := Own w' g (mid l o zs) ∧ w.grownBy w' (some g) ∧ Lim zs

theorem Turned.cell {w wr : World} {g o : Nat} {l zs : List Nat} (h : Turned w g o l zs wr) (hk : o + zs.length < l.length) : wr.cell? ⟨g, o + zs.length, none⟩ = some (.int .u32 (l.getD (o + zs.length) 0 : Nat)) := by
  rw [h.1.cell (by rw [mid_length (by omega)]; omega), mid_getD hk]

end Go.Proofs.YtpnmphofengoeaaDoor

namespace Go.Proofs.YtpnmphofengoeaaDoor
open Go.RowKit
set_option linter.unusedVariables false

theorem Turned.all {w w' : World} {g : Nat} {l zs : List Nat} (h : Turned w g 0 l zs w') (hz : zs.length = l.length) : Own w' g zs := by
  have := h.1
  unfold mid at this
  rw [hz] at this
  simpa using this

end Go.Proofs.YtpnmphofengoeaaDoor

namespace Go.Proofs.YtpnmphofengoeaaDoor
open Go.RowKit
set_option linter.unusedVariables false

def Out (w : World) (l : List Nat) (A : Option Addr) (c : Nat) : Prop := ∃ b, Sl w b A l.length c l ∧ (0 < l.length → ∃ cs, w.heap[b]? = some (.cells cs 81 (0, 0)))

theorem Out.below {w w' : World} {l : List Nat} {A : Option Addr} {c : Nat} (h : Out w l A c) (hb : Below w.heap.size w w') : Out w' l A c := by
  obtain ⟨b, h, k⟩ := h
  refine ⟨b, h.below hb, fun hn => ?_⟩
  obtain ⟨cs, e⟩ := k hn; exact ⟨cs, (hb.block b (h.lt hn)).trans e⟩
end Go.Proofs.YtpnmphofengoeaaDoor

namespace Go.Proofs.YtpnmphofengoeaaDoor
open Go.RowKit
set_option linter.unusedVariables false

theorem Turned.trans {w w1 w2 : World} {g o : Nat} {l zs ys : List Nat} (h : Turned w g o l zs w1) (k : Turned w1 g o (mid l o zs) ys w2) (hl : o + zs.length ≤ l.length) (hz : ys.length = zs.length) : Turned w g o l ys w2 :=
  ⟨by have := k.1; rwa [mid_mid hl hz] at this, grown_trans h.2.1 k.2.1, k.2.2⟩

end Go.Proofs.YtpnmphofengoeaaDoor

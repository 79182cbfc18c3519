/-
  Contracts and words that the statement's proof rests on, several texts in one: Ke, Kn, Kf, Kg, Jt, Kh, Ki.
-/
import Derived.Below
import Derived.BigQuiet
import Derived.Carry
import Derived.Deep.DeepCutAuto
import Derived.Deep.Draws
import Derived.Deep.MidRow
import Derived.Deep.QuietTactic
import Derived.Deep.RegionHeld3
import Derived.Deep.RegionWith
import Derived.IntWalk
import Derived.Laws.CopyOwn
import Derived.Laws.MakeOwn
import Derived.Laws.OwnMore
import Derived.Laws.Rows
import Derived.Lib.BitFns
import Derived.Lib.Hide
import Derived.Maps.AppendAt
import Derived.StillTailTactics
import Derived.Test.YtbhnpmkdmnnclaaDoorRows
import Derived.WalkKit
import Derived.WalkLawsBesides
import Derived.WalkSpells
import Derived.Test.YtbhnpmkdmnnclaaDoorYBag
import Derived.Test.YtbhnpmkdmnnclaaDoorYBal
import Derived.Test.YtbhnpmkdmnnclaaDoorYBam
import Derived.Test.YtbhnpmkdmnnclaaDoorYBan
import Derived.Test.YtbhnpmkdmnnclaaDoorYBao
import Derived.Test.YtbhnpmkdmnnclaaDoorYBap
/-
  What the document's finite and Next do.
-/
namespace Go.Proofs.YtbhnpmkdmnnclaaDoor
open Go.RowKit
set_option linter.unusedVariables false
set_option linter.unusedSimpArgs false
set_option maxRecDepth 100000

/-- The place of a number of a sign, 64 bits and an exponent, as far as it may be. -/
def fin (s : Bool) (M E : Int) (aw : Bool) : Int := sgi s (if 1048576 < E then (if aw = true then TP else TP - 1) else if E < -1048576 then (if aw = true then 1 else 0) else M - 9223372036854775808 + 1 + (E + 1048576) * 9223372036854775808)
set_option maxHeartbeats 4000000 in
theorem yFin {w : World} {s aw : Bool} {M E r : Int} (h1 : 9223372036854775808 ≤ M) (h2 : M < 18446744073709551616) (hr : fin s M E aw = r) : Calls Tryd.prog 71 #[.bool s, .int .u64 M, .int .i64 E, .bool aw] w (PN w r) := by
  unfold fin at hr
  have htp := TP_eq
  by_cases hb : 1048576 < E
  · rw [if_pos hb] at hr
    by_cases ha : aw = true
    · subst ha
      rw [if_pos rfl] at hr
      have HR := Lib.hid hr
      clear hr
      go_enter Tryd.func71, Tryd.ntmps71
      go_upto_region 1 with (fail)
      have XR := (Bo.newAt w (g := w.heap.size) (by simp) #[.int .i64 0, .bool false, .int .u64 0, .int .i64 0] 24)
      have HB := Lib.hid (bel1 w (.cells #[.int .i64 0, .bool false, .int .u64 0, .int .i64 0] 24))
      generalize hW1 : (w.alloc (.cells #[.int .i64 0, .bool false, .int .u64 0, .int .i64 0] 24)) = w1 at *
      clear hW1
      go_wp2_with fail
      refine (yInf HR.out).mono ?_
      rintro ee w2 ⟨K2, s2, M2, E2, rfl, q2, B⟩
      replace XR := XR.below B
      replace HB := Lib.hid (bt HB.out B)
      clear B
      have xXR0 := XR.at (i := 0) (v := .int .i64 0) rfl
      have zXR0 := XR.frozen 0
      have xXR1 := XR.at (i := 1) (v := .bool false) rfl
      have zXR1 := XR.frozen 1
      have xXR2 := XR.at (i := 2) (v := .int .u64 0) rfl
      have zXR2 := XR.frozen 2
      have xXR3 := XR.at (i := 3) (v := .int .i64 0) rfl
      have zXR3 := XR.frozen 3
      go_wp2
      clear xXR0 zXR0 xXR1 zXR1 xXR2 zXR2 xXR3 zXR3
      have SX := StN.mk4 XR (.int .i64 K2) (.bool s2) (.int .u64 M2) (.int .i64 E2)
      replace HB := Lib.hid (SX.below HB.out (by omega))
      replace XR := SX.box
      clear SX
      generalize (World.setCell (World.setCell (World.setCell (World.setCell w2 ⟨w.heap.size, 0, none⟩ (.int .i64 K2)) ⟨w.heap.size, 1, none⟩ (.bool s2)) ⟨w.heap.size, 2, none⟩ (.int .u64 M2)) ⟨w.heap.size, 3, none⟩ (.int .i64 E2)) = w3 at *
      have r0 := XR.cell 0
      have r1 := XR.cell 1
      have r2 := XR.cell 2
      have r3 := XR.cell 3
      exact bodyPost_ret (v := .agg #[.int .i64 K2, .bool s2, .int .u64 M2, .int .i64 E2]) (by simp [results, Tryd.results71, go_sem, r0, r1, r2, r3]) rfl ⟨_, _, _, _, rfl, q2, HB.out⟩
    · have ha : aw = false := by simpa using ha
      subst ha
      rw [if_neg (by decide)] at hr
      have hF : Fq 1 s 18446744073709551615 1048576 r := Fq.fin (by decide) (by decide) (by decide) (by decide) hr
      clear hr
      go_enter Tryd.func71, Tryd.ntmps71
      go_upto_region 1 with (fail)
      have XR := (Bo.newAt w (g := w.heap.size) (by simp) #[.int .i64 0, .bool false, .int .u64 0, .int .i64 0] 24)
      have HB := Lib.hid (bel1 w (.cells #[.int .i64 0, .bool false, .int .u64 0, .int .i64 0] 24))
      generalize hW1 : (w.alloc (.cells #[.int .i64 0, .bool false, .int .u64 0, .int .i64 0] 24)) = w1 at *
      clear hW1
      have xXR0 := XR.at (i := 0) (v := .int .i64 0) rfl
      have zXR0 := XR.frozen 0
      have xXR1 := XR.at (i := 1) (v := .bool false) rfl
      have zXR1 := XR.frozen 1
      have xXR2 := XR.at (i := 2) (v := .int .u64 0) rfl
      have zXR2 := XR.frozen 2
      have xXR3 := XR.at (i := 3) (v := .int .i64 0) rfl
      have zXR3 := XR.frozen 3
      go_wp2
      clear xXR0 zXR0 xXR1 zXR1 xXR2 zXR2 xXR3 zXR3
      have SX := StN.mk4 XR (.int .i64 1) (.bool s) (.int .u64 18446744073709551615) (.int .i64 1048576)
      replace HB := Lib.hid (SX.below HB.out (by omega))
      replace XR := SX.box
      clear SX
      generalize (World.setCell (World.setCell (World.setCell (World.setCell w1 ⟨w.heap.size, 0, none⟩ (.int .i64 1)) ⟨w.heap.size, 1, none⟩ (.bool s)) ⟨w.heap.size, 2, none⟩ (.int .u64 18446744073709551615)) ⟨w.heap.size, 3, none⟩ (.int .i64 1048576)) = w3 at *
      have r0 := XR.cell 0
      have r1 := XR.cell 1
      have r2 := XR.cell 2
      have r3 := XR.cell 3
      exact bodyPost_ret (v := .agg #[.int .i64 1, .bool s, .int .u64 18446744073709551615, .int .i64 1048576]) (by simp [results, Tryd.results71, go_sem, r0, r1, r2, r3]) rfl ⟨_, _, _, _, rfl, hF, HB.out⟩
  · rw [if_neg hb] at hr
    by_cases hl : E < -1048576
    · rw [if_pos hl] at hr
      by_cases ha : aw = true
      · subst ha
        rw [if_pos rfl] at hr
        have hF : Fq 1 s 9223372036854775808 (-1048576) r := Fq.fin (by decide) (by decide) (by decide) (by decide) hr
        clear hr
        go_enter Tryd.func71, Tryd.ntmps71
        go_upto_region 1 with (fail)
        have XR := (Bo.newAt w (g := w.heap.size) (by simp) #[.int .i64 0, .bool false, .int .u64 0, .int .i64 0] 24)
        have HB := Lib.hid (bel1 w (.cells #[.int .i64 0, .bool false, .int .u64 0, .int .i64 0] 24))
        generalize hW1 : (w.alloc (.cells #[.int .i64 0, .bool false, .int .u64 0, .int .i64 0] 24)) = w1 at *
        clear hW1
        have xXR0 := XR.at (i := 0) (v := .int .i64 0) rfl
        have zXR0 := XR.frozen 0
        have xXR1 := XR.at (i := 1) (v := .bool false) rfl
        have zXR1 := XR.frozen 1
        have xXR2 := XR.at (i := 2) (v := .int .u64 0) rfl
        have zXR2 := XR.frozen 2
        have xXR3 := XR.at (i := 3) (v := .int .i64 0) rfl
        have zXR3 := XR.frozen 3
        go_wp2
        clear xXR0 zXR0 xXR1 zXR1 xXR2 zXR2 xXR3 zXR3
        have SX := StN.mk4 XR (.int .i64 1) (.bool s) (.int .u64 9223372036854775808) (.int .i64 (-1048576))
        replace HB := Lib.hid (SX.below HB.out (by omega))
        replace XR := SX.box
        clear SX
        generalize (World.setCell (World.setCell (World.setCell (World.setCell w1 ⟨w.heap.size, 0, none⟩ (.int .i64 1)) ⟨w.heap.size, 1, none⟩ (.bool s)) ⟨w.heap.size, 2, none⟩ (.int .u64 9223372036854775808)) ⟨w.heap.size, 3, none⟩ (.int .i64 (-1048576))) = w3 at *
        have r0 := XR.cell 0
        have r1 := XR.cell 1
        have r2 := XR.cell 2
        have r3 := XR.cell 3
        exact bodyPost_ret (v := .agg #[.int .i64 1, .bool s, .int .u64 9223372036854775808, .int .i64 (-1048576)]) (by simp [results, Tryd.results71, go_sem, r0, r1, r2, r3]) rfl ⟨_, _, _, _, rfl, hF, HB.out⟩
      · have ha : aw = false := by simpa using ha
        subst ha
        rw [if_neg (by decide)] at hr
        obtain rfl : 0 = r := by rw [← hr]; cases s <;> rfl
        clear hr
        go_enter Tryd.func71, Tryd.ntmps71
        go_upto_region 1 with (fail)
        have XR := (Bo.newAt w (g := w.heap.size) (by simp) #[.int .i64 0, .bool false, .int .u64 0, .int .i64 0] 24)
        have HB := Lib.hid (bel1 w (.cells #[.int .i64 0, .bool false, .int .u64 0, .int .i64 0] 24))
        generalize hW1 : (w.alloc (.cells #[.int .i64 0, .bool false, .int .u64 0, .int .i64 0] 24)) = w1 at *
        clear hW1
        have xXR0 := XR.at (i := 0) (v := .int .i64 0) rfl
        have zXR0 := XR.frozen 0
        have xXR1 := XR.at (i := 1) (v := .bool false) rfl
        have zXR1 := XR.frozen 1
        have xXR2 := XR.at (i := 2) (v := .int .u64 0) rfl
        have zXR2 := XR.frozen 2
        have xXR3 := XR.at (i := 3) (v := .int .i64 0) rfl
        have zXR3 := XR.frozen 3
        go_wp2
        clear xXR0 zXR0 xXR1 zXR1 xXR2 zXR2 xXR3 zXR3
        have SX := StN.mk4 XR (.int .i64 0) (.bool false) (.int .u64 0) (.int .i64 0)
        replace HB := Lib.hid (SX.below HB.out (by omega))
        replace XR := SX.box
        clear SX
        generalize (World.setCell (World.setCell (World.setCell (World.setCell w1 ⟨w.heap.size, 0, none⟩ (.int .i64 0)) ⟨w.heap.size, 1, none⟩ (.bool false)) ⟨w.heap.size, 2, none⟩ (.int .u64 0)) ⟨w.heap.size, 3, none⟩ (.int .i64 0)) = w3 at *
        have r0 := XR.cell 0
        have r1 := XR.cell 1
        have r2 := XR.cell 2
        have r3 := XR.cell 3
        exact bodyPost_ret (v := .agg #[.int .i64 0, .bool false, .int .u64 0, .int .i64 0]) (by simp [results, Tryd.results71, go_sem, r0, r1, r2, r3]) rfl ⟨_, _, _, _, rfl, Fq.nought, HB.out⟩
    · rw [if_neg hl] at hr
      have hF : Fq 1 s M E r := Fq.fin h1 h2 (by omega) (by omega) hr
      clear hr
      go_enter Tryd.func71, Tryd.ntmps71
      go_upto_region 1 with (fail)
      have XR := (Bo.newAt w (g := w.heap.size) (by simp) #[.int .i64 0, .bool false, .int .u64 0, .int .i64 0] 24)
      have HB := Lib.hid (bel1 w (.cells #[.int .i64 0, .bool false, .int .u64 0, .int .i64 0] 24))
      generalize hW1 : (w.alloc (.cells #[.int .i64 0, .bool false, .int .u64 0, .int .i64 0] 24)) = w1 at *
      clear hW1
      have xXR0 := XR.at (i := 0) (v := .int .i64 0) rfl
      have zXR0 := XR.frozen 0
      have xXR1 := XR.at (i := 1) (v := .bool false) rfl
      have zXR1 := XR.frozen 1
      have xXR2 := XR.at (i := 2) (v := .int .u64 0) rfl
      have zXR2 := XR.frozen 2
      have xXR3 := XR.at (i := 3) (v := .int .i64 0) rfl
      have zXR3 := XR.frozen 3
      go_wp2
      clear xXR0 zXR0 xXR1 zXR1 xXR2 zXR2 xXR3 zXR3
      have SX := StN.mk4 XR (.int .i64 1) (.bool s) (.int .u64 M) (.int .i64 E)
      replace HB := Lib.hid (SX.below HB.out (by omega))
      replace XR := SX.box
      clear SX
      generalize (World.setCell (World.setCell (World.setCell (World.setCell w1 ⟨w.heap.size, 0, none⟩ (.int .i64 1)) ⟨w.heap.size, 1, none⟩ (.bool s)) ⟨w.heap.size, 2, none⟩ (.int .u64 M)) ⟨w.heap.size, 3, none⟩ (.int .i64 E)) = w3 at *
      have r0 := XR.cell 0
      have r1 := XR.cell 1
      have r2 := XR.cell 2
      have r3 := XR.cell 3
      exact bodyPost_ret (v := .agg #[.int .i64 1, .bool s, .int .u64 M, .int .i64 E]) (by simp [results, Tryd.results71, go_sem, r0, r1, r2, r3]) rfl ⟨_, _, _, _, rfl, hF, HB.out⟩
end Go.Proofs.YtbhnpmkdmnnclaaDoor

/-
  Rounding to numbers of 64 bits: the place of the one next to a dyadic number, on its near side and on its far side; what its value is. Plain arithmetic; no Go text.
-/
namespace Go.Proofs.YtbhnpmkdmnnclaaDoor
open Go.RowKit
set_option linter.unusedVariables false

/-- The 64 bits from the highest one on. -/
def tp (m : Nat) : Nat := m * 2 ^ 64 / 2 ^ blen m
theorem tp_ge {m : Nat} (h : m ≠ 0) : 2 ^ 63 ≤ tp m := by
  unfold tp
  have h1 := blen_le h
  have h2 : blen m ≠ 0 := fun e => h (blen_eq_zero.1 e)
  obtain ⟨k, hk⟩ : ∃ k, blen m = k + 1 := ⟨blen m - 1, by omega⟩
  rw [hk] at h1 ⊢
  rw [Nat.le_div_iff_mul_le (Nat.pow_pos (by decide)), Nat.pow_succ, Nat.add_sub_cancel] at *
  have := Nat.mul_le_mul_right (2 ^ 64) h1
  calc 2 ^ 63 * (2 ^ k * 2) = 2 ^ k * 2 ^ 64 := by rw [show (2 : Nat) ^ 64 = 2 ^ 63 * 2 by decide, Nat.mul_comm (2 ^ 63) (2 ^ k * 2), Nat.mul_assoc, Nat.mul_comm 2 (2 ^ 63)]
    _ ≤ m * 2 ^ 64 := this
theorem tp_lt (m : Nat) : tp m < 2 ^ 64 := by
  unfold tp
  rw [Nat.div_lt_iff_lt_mul (Nat.pow_pos (by decide)), Nat.mul_comm (2 ^ 64)]
  exact Nat.mul_lt_mul_of_pos_right (blen_lt m) (Nat.pow_pos (by decide))
theorem blen_mul {m : Nat} (h : m ≠ 0) (t : Nat) : blen (m * 2 ^ t) = blen m + t := by
  have := blen_shift (m * 2 ^ t) t (Nat.le_mul_of_pos_left _ (by omega))
  rw [Nat.mul_div_cancel _ (Nat.pow_pos (by decide))] at this
  omega
theorem tp_mul {m : Nat} (h : m ≠ 0) (t : Nat) : tp (m * 2 ^ t) = tp m := by
  unfold tp
  rw [blen_mul h, Nat.pow_add, Nat.mul_right_comm m, Nat.mul_div_mul_right _ _ (Nat.pow_pos (by decide))]
theorem tp_big {m : Nat} (h : 64 ≤ blen m) : tp m = m / 2 ^ (blen m - 64) := by
  unfold tp
  rw [show 2 ^ blen m = 2 ^ (blen m - 64) * 2 ^ 64 by rw [← Nat.pow_add]; congr 1; omega, Nat.mul_div_mul_right _ _ (Nat.pow_pos (by decide))]
theorem tp_small {m : Nat} (h : blen m ≤ 64) : tp m = m * 2 ^ (64 - blen m) := by
  unfold tp
  rw [show 2 ^ 64 = 2 ^ (64 - blen m) * 2 ^ blen m by rw [← Nat.pow_add]; congr 1; omega, ← Nat.mul_assoc, Nat.mul_div_cancel _ (Nat.pow_pos (by decide))]

/-- The exponent of the 64 bits. -/
def xp (m : Nat) (E : Int) : Int := E + (blen m : Nat) - 64
/-- The place next to a number above nought, on its near side. -/
def lo (m : Nat) (E : Int) : Int :=
  if m = 0 then 0 else if 1048576 < xp m E then 19342822337206103650074624 else if xp m E < -1048576 then 0 else (tp m : Int) - 9223372036854775808 + 1 + (xp m E + 1048576) * 9223372036854775808
/-- It is that number itself. -/
def ext (m : Nat) (E : Int) : Bool := m == 0 || (decide (xp m E ≤ 1048576) && (decide (-1048576 ≤ xp m E) && decide (blen m ≤ 64)))
/-- The place next to a number above nought, on its far side. -/
def hi (m : Nat) (E : Int) : Int := if ext m E = true then lo m E else lo m E + 1
def rnd (up : Bool) (N E : Int) : Int := sgi (decide (N < 0)) (if (up != decide (N < 0)) = true then hi N.natAbs E else lo N.natAbs E)
theorem lo_mul {m : Nat} (h : m ≠ 0) (t : Nat) (E : Int) : lo (m * 2 ^ t) E = lo m (E + t) := by
  have h2 : m * 2 ^ t ≠ 0 := Nat.mul_ne_zero h (Nat.ne_of_gt (Nat.pow_pos (by decide)))
  unfold lo
  rw [if_neg h, if_neg h2, tp_mul h]
  unfold xp
  rw [blen_mul h, show E + ((blen m + t : Nat) : Int) - 64 = E + (t : Int) + (blen m : Nat) - 64 by omega]
theorem lo_bd (m : Nat) (E : Int) : 0 ≤ lo m E ∧ lo m E ≤ 19342822337206103650074624 := by
  unfold lo
  have h1 := tp_lt m
  by_cases h : m = 0
  · rw [if_pos h]; omega
  · rw [if_neg h]
    have h0 := tp_ge h
    by_cases h3 : 1048576 < xp m E
    · rw [if_pos h3]; omega
    · rw [if_neg h3]
      by_cases h4 : xp m E < -1048576
      · rw [if_pos h4]; omega
      · rw [if_neg h4]
        omega
theorem hi_bd (m : Nat) (E : Int) : lo m E ≤ hi m E ∧ hi m E ≤ lo m E + 1 := by
  unfold hi
  split <;> omega
/-- What a place is worth, times a fixed power of two. -/
def vp (r : Int) : Int := if r ≤ 0 then 0 else ((r - 1) % 9223372036854775808 + 9223372036854775808) * 2 ^ ((r - 1) / 9223372036854775808 - 1048576 + KK).toNat
def vr (r : Int) : Int := if r < 0 then -vp (-r) else vp r
theorem vp_fin {M E : Int} (h1 : 9223372036854775808 ≤ M) (h2 : M < 18446744073709551616) (h3 : -1048576 ≤ E) : vp (M - 9223372036854775808 + 1 + (E + 1048576) * 9223372036854775808) = M * 2 ^ (E + KK).toNat := by
  unfold vp
  rw [if_neg (by omega)]
  have e1 : (M - 9223372036854775808 + 1 + (E + 1048576) * 9223372036854775808 - 1) % 9223372036854775808 + 9223372036854775808 = M := by omega
  have e2 : (M - 9223372036854775808 + 1 + (E + 1048576) * 9223372036854775808 - 1) / 9223372036854775808 - 1048576 = E := by omega
  rw [e1, e2]
theorem vp_succ {r : Int} (h : 0 ≤ r) : vp r < vp (r + 1) := by
  by_cases h0 : r = 0
  · subst h0
    have : vp 0 = 0 := rfl
    rw [this]
    unfold vp
    rw [if_neg (by omega)]
    exact Int.mul_pos (by omega) (p2pos _)
  · obtain ⟨q, m, hm, hm2, e⟩ : ∃ q m : Int, 9223372036854775808 ≤ m ∧ m < 18446744073709551616 ∧ r = m - 9223372036854775808 + 1 + (q + 1048576) * 9223372036854775808 := ⟨(r - 1) / 9223372036854775808 - 1048576, (r - 1) % 9223372036854775808 + 9223372036854775808, by omega, by omega, by omega⟩
    have hq : -1048576 ≤ q := by omega
    have e0 := vp_fin hm hm2 hq
    rw [← e] at e0
    rw [e0]
    by_cases hc : m = 18446744073709551615
    · have e1 := vp_fin (M := 9223372036854775808) (E := q + 1) (by omega) (by omega) (by omega)
      rw [show (9223372036854775808 : Int) - 9223372036854775808 + 1 + (q + 1 + 1048576) * 9223372036854775808 = r + 1 by omega] at e1
      rw [e1, show (q + 1 + (KK : Int)).toNat = (q + KK).toNat + 1 by rw [KK_eq]; omega, Int.pow_succ, hc, ← Int.mul_assoc, Int.mul_right_comm]
      exact Int.mul_lt_mul_of_pos_right (by omega) (p2pos _)
    · have e1 := vp_fin (M := m + 1) (E := q) (by omega) (by omega) hq
      rw [show m + 1 - 9223372036854775808 + 1 + (q + 1048576) * 9223372036854775808 = r + 1 by omega] at e1
      rw [e1]
      exact Int.mul_lt_mul_of_pos_right (by omega) (p2pos _)
theorem vr_succ (r : Int) : vr r < vr (r + 1) := by
  unfold vr
  by_cases h : 0 ≤ r
  · rw [if_neg (by omega), if_neg (by omega)]
    exact vp_succ h
  · rw [if_pos (by omega)]
    have := vp_succ (r := -(r + 1)) (by omega)
    rw [show -(r + 1) + 1 = -r by omega] at this
    by_cases h2 : r + 1 < 0
    · rw [if_pos h2]
      omega
    · rw [if_neg h2]
      have e : r + 1 = 0 := by omega
      rw [e] at this ⊢
      rw [show vp (-0) = 0 from rfl] at this
      rw [show vp 0 = 0 from rfl]
      omega
theorem vr_add (r : Int) : ∀ n : Nat, vr r < vr (r + (n + 1 : Nat))
  | 0 => vr_succ r
  | n + 1 => by
    have h1 := vr_add r n
    have h2 := vr_succ (r + (n + 1 : Nat))
    rw [show r + ((n + 1 + 1 : Nat) : Int) = r + ((n + 1 : Nat) : Int) + 1 by omega]
    omega
theorem vr_lt {r t : Int} (h : r < t) : vr r < vr t := by
  have := vr_add r (t - r - 1).toNat
  rwa [show r + (((t - r - 1).toNat + 1 : Nat) : Int) = t by omega] at this
theorem vr_cmp (r t : Int) : cmpI (vr r) (vr t) = cmpI r t := by
  rcases cmpI_tri r t with ⟨a1, a2⟩ | ⟨a1, a2⟩ | ⟨a1, a2⟩ <;> rw [a2]
  · exact cmpI_lt (vr_lt a1)
  · exact cmpI_eq (by rw [a1])
  · exact cmpI_gt (vr_lt a1)
theorem vr_neg (r : Int) : vr (-r) = -vr r := by
  unfold vr
  by_cases h : r < 0
  · rw [if_neg (by omega), if_pos h, Int.neg_neg]
  · by_cases h2 : r = 0
    · subst h2; rfl
    · rw [if_pos (by omega), if_neg h, Int.neg_neg]
theorem vr_sgi (s : Bool) (r : Int) : vr (sgi s r) = sgi s (vr r) := by
  cases s
  · rfl
  · exact vr_neg r
/-- Between its neighbours. -/
theorem lo_vr {m : Nat} {E : Int} (h : m ≠ 0) (h1 : xp m E ≤ 1048576) (h2 : -1048576 ≤ xp m E) (hE : -(KK : Int) ≤ E) (ho : m % 2 = 1) :
    vr (lo m E) ≤ (m : Int) * 2 ^ (E + KK).toNat ∧ (m : Int) * 2 ^ (E + KK).toNat < vr (lo m E + 1) ∧ (ext m E = true → vr (lo m E) = (m : Int) * 2 ^ (E + KK).toNat) ∧ (ext m E = false → vr (lo m E) < (m : Int) * 2 ^ (E + KK).toNat) := by
  have t1 := tp_ge h
  have t2 := tp_lt m
  have hk := KK_eq
  have hb : 0 ≤ lo m E := (lo_bd m E).1
  have el : lo m E = (tp m : Int) - 9223372036854775808 + 1 + (xp m E + 1048576) * 9223372036854775808 := by
    unfold lo
    rw [if_neg h, if_neg (by omega), if_neg (by omega)]
  have ev : vr (lo m E) = (tp m : Int) * 2 ^ (xp m E + KK).toNat := by
    unfold vr
    rw [if_neg (by omega), el]
    exact vp_fin (by omega) (by omega) h2
  have ex : ext m E = decide (blen m ≤ 64) := by
    unfold ext
    rw [show (m == 0) = false by simpa using h, decide_eq_true h1, decide_eq_true h2]
    rfl
  have en : vr (lo m E + 1) = ((tp m : Int) + 1) * 2 ^ (xp m E + KK).toNat := by
    unfold vr
    rw [if_neg (by omega), el]
    by_cases hc : (tp m : Int) = 18446744073709551615
    · have e1 := vp_fin (M := 9223372036854775808) (E := xp m E + 1) (by omega) (by omega) (by omega)
      rw [show (tp m : Int) - 9223372036854775808 + 1 + (xp m E + 1048576) * 9223372036854775808 + 1 = (9223372036854775808 : Int) - 9223372036854775808 + 1 + (xp m E + 1 + 1048576) * 9223372036854775808 by omega, e1, show (xp m E + 1 + (KK : Int)).toNat = (xp m E + KK).toNat + 1 by omega, Int.pow_succ, hc, ← Int.mul_assoc, Int.mul_right_comm]
      rfl
    · have e1 := vp_fin (M := (tp m : Int) + 1) (E := xp m E) (by omega) (by omega) h2
      rw [show (tp m : Int) - 9223372036854775808 + 1 + (xp m E + 1048576) * 9223372036854775808 + 1 = (tp m : Int) + 1 - 9223372036854775808 + 1 + (xp m E + 1048576) * 9223372036854775808 by omega, e1]
  rw [ev, en, ex]
  by_cases hl : blen m ≤ 64
  · have e1 : (m : Int) * 2 ^ (E + KK).toNat = (tp m : Int) * 2 ^ (xp m E + KK).toNat := by
      have hx : (xp m E + KK).toNat + (64 - blen m) = (E + KK).toNat := by unfold xp at h2 ⊢; omega
      rw [tp_small hl, ← hx, Int.pow_add]
      push_cast
      rw [Int.mul_assoc, Int.mul_comm (2 ^ (64 - blen m))]
    have hp := p2pos (xp m E + KK).toNat
    rw [e1, decide_eq_true hl]
    refine ⟨Int.le_refl _, Int.mul_lt_mul_of_pos_right (by omega) hp, fun _ => rfl, fun h => by cases h⟩
  · have hd := Nat.div_add_mod m (2 ^ (blen m - 64))
    have hm := Nat.mod_lt m (Nat.pow_pos (n := blen m - 64) (show 0 < 2 by decide))
    have hne : m % 2 ^ (blen m - 64) ≠ 0 := by
      intro e
      have : 2 ∣ m := Nat.dvd_trans (show 2 ∣ 2 ^ (blen m - 64) from ⟨2 ^ (blen m - 64 - 1), by rw [← Nat.pow_succ']; congr 1; omega⟩) (Nat.dvd_of_mod_eq_zero e)
      omega
    rw [← tp_big (by omega)] at hd
    have e1 : (2 : Int) ^ (xp m E + KK).toNat = 2 ^ (blen m - 64) * 2 ^ (E + KK).toNat := by
      rw [← Int.pow_add]
      congr 1
      unfold xp
      omega
    have hp := p2pos (E + KK).toNat
    have c1 : (tp m : Int) * 2 ^ (blen m - 64) < (m : Int) := by
      have : tp m * 2 ^ (blen m - 64) < m := by rw [Nat.mul_comm]; omega
      exact_mod_cast this
    have c2 : (m : Int) < ((tp m : Int) + 1) * 2 ^ (blen m - 64) := by
      have : m < (tp m + 1) * 2 ^ (blen m - 64) := by rw [Nat.mul_comm, Nat.mul_add, Nat.mul_one]; omega
      exact_mod_cast this
    have l1 := Int.mul_lt_mul_of_pos_right c1 hp
    have l2 := Int.mul_lt_mul_of_pos_right c2 hp
    rw [Int.mul_assoc] at l1 l2
    rw [e1, decide_eq_false hl]
    exact ⟨Int.le_of_lt l1, l2, fun h => (by cases h), fun _ => l1⟩
end Go.Proofs.YtbhnpmkdmnnclaaDoor

/-
  How many bits a number of 64 bits needs, by math/bits; what num.Of does.
-/
namespace Go.Proofs.YtbhnpmkdmnnclaaDoor
open Go.RowKit
set_option linter.unusedVariables false
set_option linter.unusedSimpArgs false
set_option maxRecDepth 100000

set_option maxHeartbeats 1000000 in
theorem len64_111 (z : Int) (q : Nat) (w : World) (h0 : 0 ≤ z) (hz : z ≤ 18446744073709551615) (h1 : 4294967296 ≤ z) (h2 : 65536 ≤ z / 4294967296) (h3 : 256 ≤ z / 4294967296 / 65536) (hq : q ≤ 8)
    (hi : ∀ W, (Instr.index 9 (.string Lib.len8tab) (.int .u8 (z / 4294967296 / 65536 / 256))).run Tryd.prog W = .ok (.int .u8 (q : Int)) W) :
    Calls Tryd.prog 95 #[.int .u64 z] w fun e w' => e = .returned (.int .i64 (56 + q : Int)) ∧ w = w' := by
  go_enter Tryd.func95, Tryd.ntmps95
  go_wp2
  go_ret
  exact ⟨rfl, rfl⟩
set_option maxHeartbeats 1000000 in
theorem len64_110 (z : Int) (q : Nat) (w : World) (h0 : 0 ≤ z) (hz : z ≤ 18446744073709551615) (h1 : 4294967296 ≤ z) (h2 : 65536 ≤ z / 4294967296) (h3 : z / 4294967296 / 65536 < 256) (hq : q ≤ 8)
    (hi : ∀ W, (Instr.index 9 (.string Lib.len8tab) (.int .u8 (z / 4294967296 / 65536))).run Tryd.prog W = .ok (.int .u8 (q : Int)) W) :
    Calls Tryd.prog 95 #[.int .u64 z] w fun e w' => e = .returned (.int .i64 (48 + q : Int)) ∧ w = w' := by
  go_enter Tryd.func95, Tryd.ntmps95
  go_wp2
  go_ret
  exact ⟨rfl, rfl⟩
set_option maxHeartbeats 1000000 in
theorem len64_101 (z : Int) (q : Nat) (w : World) (h0 : 0 ≤ z) (hz : z ≤ 18446744073709551615) (h1 : 4294967296 ≤ z) (h2 : z / 4294967296 < 65536) (h3 : 256 ≤ z / 4294967296) (hq : q ≤ 8)
    (hi : ∀ W, (Instr.index 9 (.string Lib.len8tab) (.int .u8 (z / 4294967296 / 256))).run Tryd.prog W = .ok (.int .u8 (q : Int)) W) :
    Calls Tryd.prog 95 #[.int .u64 z] w fun e w' => e = .returned (.int .i64 (40 + q : Int)) ∧ w = w' := by
  go_enter Tryd.func95, Tryd.ntmps95
  go_wp2
  go_ret
  exact ⟨rfl, rfl⟩
set_option maxHeartbeats 1000000 in
theorem len64_100 (z : Int) (q : Nat) (w : World) (h0 : 0 ≤ z) (hz : z ≤ 18446744073709551615) (h1 : 4294967296 ≤ z) (h2 : z / 4294967296 < 65536) (h3 : z / 4294967296 < 256) (hq : q ≤ 8)
    (hi : ∀ W, (Instr.index 9 (.string Lib.len8tab) (.int .u8 (z / 4294967296))).run Tryd.prog W = .ok (.int .u8 (q : Int)) W) :
    Calls Tryd.prog 95 #[.int .u64 z] w fun e w' => e = .returned (.int .i64 (32 + q : Int)) ∧ w = w' := by
  go_enter Tryd.func95, Tryd.ntmps95
  go_wp2
  go_ret
  exact ⟨rfl, rfl⟩
set_option maxHeartbeats 1000000 in
theorem len64_011 (z : Int) (q : Nat) (w : World) (h0 : 0 ≤ z) (hz : z ≤ 18446744073709551615) (h1 : z < 4294967296) (h2 : 65536 ≤ z) (h3 : 256 ≤ z / 65536) (hq : q ≤ 8)
    (hi : ∀ W, (Instr.index 9 (.string Lib.len8tab) (.int .u8 (z / 65536 / 256))).run Tryd.prog W = .ok (.int .u8 (q : Int)) W) :
    Calls Tryd.prog 95 #[.int .u64 z] w fun e w' => e = .returned (.int .i64 (24 + q : Int)) ∧ w = w' := by
  go_enter Tryd.func95, Tryd.ntmps95
  go_wp2
  go_ret
  exact ⟨rfl, rfl⟩
set_option maxHeartbeats 1000000 in
theorem len64_010 (z : Int) (q : Nat) (w : World) (h0 : 0 ≤ z) (hz : z ≤ 18446744073709551615) (h1 : z < 4294967296) (h2 : 65536 ≤ z) (h3 : z / 65536 < 256) (hq : q ≤ 8)
    (hi : ∀ W, (Instr.index 9 (.string Lib.len8tab) (.int .u8 (z / 65536))).run Tryd.prog W = .ok (.int .u8 (q : Int)) W) :
    Calls Tryd.prog 95 #[.int .u64 z] w fun e w' => e = .returned (.int .i64 (16 + q : Int)) ∧ w = w' := by
  go_enter Tryd.func95, Tryd.ntmps95
  go_wp2
  go_ret
  exact ⟨rfl, rfl⟩
set_option maxHeartbeats 1000000 in
theorem len64_001 (z : Int) (q : Nat) (w : World) (h0 : 0 ≤ z) (hz : z ≤ 18446744073709551615) (h1 : z < 4294967296) (h2 : z < 65536) (h3 : 256 ≤ z) (hq : q ≤ 8)
    (hi : ∀ W, (Instr.index 9 (.string Lib.len8tab) (.int .u8 (z / 256))).run Tryd.prog W = .ok (.int .u8 (q : Int)) W) :
    Calls Tryd.prog 95 #[.int .u64 z] w fun e w' => e = .returned (.int .i64 (8 + q : Int)) ∧ w = w' := by
  go_enter Tryd.func95, Tryd.ntmps95
  go_wp2
  go_ret
  exact ⟨rfl, rfl⟩
set_option maxHeartbeats 1000000 in
theorem len64_000 (z : Int) (q : Nat) (w : World) (h0 : 0 ≤ z) (hz : z ≤ 18446744073709551615) (h1 : z < 4294967296) (h2 : z < 65536) (h3 : z < 256) (hq : q ≤ 8)
    (hi : ∀ W, (Instr.index 9 (.string Lib.len8tab) (.int .u8 (z))).run Tryd.prog W = .ok (.int .u8 (q : Int)) W) :
    Calls Tryd.prog 95 #[.int .u64 z] w fun e w' => e = .returned (.int .i64 (0 + q : Int)) ∧ w = w' := by
  go_enter Tryd.func95, Tryd.ntmps95
  go_wp2
  go_ret
  exact ⟨ret_int (by omega), rfl⟩
theorem len64_any (x : Nat) (hx : x < 18446744073709551616) (w : World) :
    Calls Tryd.prog 95 #[.int .u64 (x : Int)] w fun e w' => e = .returned (.int .i64 (blen x : Int)) ∧ w = w' := by
  by_cases h0 : 4294967296 ≤ x
  · have s0 := blen_shift (x) 32 (by omega)
    rw [show 2 ^ 32 = 4294967296 by decide] at s0
    by_cases h1 : 65536 ≤ x / 4294967296
    · have s1 := blen_shift (x / 4294967296) 16 (by omega)
      rw [show 2 ^ 16 = 65536 by decide] at s1
      by_cases h2 : 256 ≤ x / 4294967296 / 65536
      · have s2 := blen_shift (x / 4294967296 / 65536) 8 (by omega)
        rw [show 2 ^ 8 = 256 by decide] at s2
        have := len64_111 (x : Int) (blen (x / 4294967296 / 65536 / 256)) w (by omega) (by omega) (by omega) (by omega) (by omega) (blen_mono_le (by omega)) (fun W => index_len8 W (x / 4294967296 / 65536 / 256) (by omega))
        exact this.mono fun e w' h => ⟨h.1.trans (ret_int (by omega)), h.2⟩
      · have := len64_110 (x : Int) (blen (x / 4294967296 / 65536)) w (by omega) (by omega) (by omega) (by omega) (by omega) (blen_mono_le (by omega)) (fun W => index_len8 W (x / 4294967296 / 65536) (by omega))
        exact this.mono fun e w' h => ⟨h.1.trans (ret_int (by omega)), h.2⟩
    · by_cases h2 : 256 ≤ x / 4294967296
      · have s2 := blen_shift (x / 4294967296) 8 (by omega)
        rw [show 2 ^ 8 = 256 by decide] at s2
        have := len64_101 (x : Int) (blen (x / 4294967296 / 256)) w (by omega) (by omega) (by omega) (by omega) (by omega) (blen_mono_le (by omega)) (fun W => index_len8 W (x / 4294967296 / 256) (by omega))
        exact this.mono fun e w' h => ⟨h.1.trans (ret_int (by omega)), h.2⟩
      · have := len64_100 (x : Int) (blen (x / 4294967296)) w (by omega) (by omega) (by omega) (by omega) (by omega) (blen_mono_le (by omega)) (fun W => index_len8 W (x / 4294967296) (by omega))
        exact this.mono fun e w' h => ⟨h.1.trans (ret_int (by omega)), h.2⟩
  · by_cases h1 : 65536 ≤ x
    · have s1 := blen_shift (x) 16 (by omega)
      rw [show 2 ^ 16 = 65536 by decide] at s1
      by_cases h2 : 256 ≤ x / 65536
      · have s2 := blen_shift (x / 65536) 8 (by omega)
        rw [show 2 ^ 8 = 256 by decide] at s2
        have := len64_011 (x : Int) (blen (x / 65536 / 256)) w (by omega) (by omega) (by omega) (by omega) (by omega) (blen_mono_le (by omega)) (fun W => index_len8 W (x / 65536 / 256) (by omega))
        exact this.mono fun e w' h => ⟨h.1.trans (ret_int (by omega)), h.2⟩
      · have := len64_010 (x : Int) (blen (x / 65536)) w (by omega) (by omega) (by omega) (by omega) (by omega) (blen_mono_le (by omega)) (fun W => index_len8 W (x / 65536) (by omega))
        exact this.mono fun e w' h => ⟨h.1.trans (ret_int (by omega)), h.2⟩
    · by_cases h2 : 256 ≤ x
      · have s2 := blen_shift (x) 8 (by omega)
        rw [show 2 ^ 8 = 256 by decide] at s2
        have := len64_001 (x : Int) (blen (x / 256)) w (by omega) (by omega) (by omega) (by omega) (by omega) (blen_mono_le (by omega)) (fun W => index_len8 W (x / 256) (by omega))
        exact this.mono fun e w' h => ⟨h.1.trans (ret_int (by omega)), h.2⟩
      · have := len64_000 (x : Int) (blen (x)) w (by omega) (by omega) (by omega) (by omega) (by omega) (blen_mono_le (by omega)) (fun W => index_len8 W (x) (by omega))
        exact this.mono fun e w' h => ⟨h.1.trans (ret_int (by omega)), h.2⟩

set_option maxHeartbeats 400000 in
theorem lead64_any {x : Nat} {z a : Int} (w : World) (hx : x < 18446744073709551616) (hz : (x : Int) = z) (ha : 64 - (blen x : Int) = a) :
    Calls Tryd.prog 57 #[.int .u64 z] w (PI w a) := by
  have hb := blen_mono_le (n := x) (k := 64) hx
  subst hz
  subst ha
  go_enter Tryd.func57, Tryd.ntmps57
  go_wp2_with (go_at_call 95; refine (len64_any x hx _).mono ?_; rintro e w' ⟨rfl, rfl⟩)
  go_ret
  exact ⟨rfl, Below.refl _ _⟩
theorem of_fq {n : Int} (h0 : n ≠ 0) (h1 : -9223372036854775808 ≤ n) (h2 : n ≤ 9223372036854775807) : Fq 1 (decide (n < 0)) ((tp n.natAbs : Nat) : Int) (-(64 - (blen n.natAbs : Int))) (sgi (decide (n < 0)) (lo n.natAbs 0)) := by
  have hm : n.natAbs ≠ 0 := by omega
  have a1 := tp_ge hm
  have a2 := tp_lt n.natAbs
  have a3 := blen_mono_le (n := n.natAbs) (k := 64) (by omega)
  refine Fq.fin (by omega) (by omega) (by omega) (by omega) ?_
  congr 1
  unfold lo xp
  rw [if_neg hm, if_neg (by omega), if_neg (by omega)]
  omega
theorem of_shl {n : Int} (h0 : n ≠ 0) (h1 : -9223372036854775808 ≤ n) (h2 : n ≤ 9223372036854775807) : (n.natAbs : Int) * 2 ^ (64 - (blen n.natAbs : Int)).toNat = ((tp n.natAbs : Nat) : Int) := by
  have a3 := blen_mono_le (n := n.natAbs) (k := 64) (by omega)
  rw [tp_small a3, show (64 - (blen n.natAbs : Int)).toNat = 64 - blen n.natAbs by omega]
  push_cast
  rfl
set_option maxHeartbeats 2000000 in
theorem nOf {n r : Int} (w : World) (h1 : -9223372036854775808 ≤ n) (h2 : n ≤ 9223372036854775807) (hr : sgi (decide (n < 0)) (lo n.natAbs 0) = r) : Calls Tryd.prog 33 #[.int .i64 n] w (PN w r) := by
  by_cases h0 : n = 0
  · subst h0
    obtain rfl : 0 = r := hr
    go_enter Tryd.func33, Tryd.ntmps33
    go_upto_region 1 with (fail)
    have XR := (Bo.newAt w (g := w.heap.size) (by simp) #[.int .i64 0, .bool false, .int .u64 0, .int .i64 0] 24)
    have HB := Lib.hid (bel1 w (.cells #[.int .i64 0, .bool false, .int .u64 0, .int .i64 0] 24))
    generalize hW1 : (w.alloc (.cells #[.int .i64 0, .bool false, .int .u64 0, .int .i64 0] 24)) = w1 at *
    clear hW1
    have xXR0 := XR.at (i := 0) (v := .int .i64 0) rfl
    have zXR0 := XR.frozen 0
    have xXR1 := XR.at (i := 1) (v := .bool false) rfl
    have zXR1 := XR.frozen 1
    have xXR2 := XR.at (i := 2) (v := .int .u64 0) rfl
    have zXR2 := XR.frozen 2
    have xXR3 := XR.at (i := 3) (v := .int .i64 0) rfl
    have zXR3 := XR.frozen 3
    go_wp2
    clear xXR0 zXR0 xXR1 zXR1 xXR2 zXR2 xXR3 zXR3
    have SX := StN.mk4 XR (.int .i64 0) (.bool false) (.int .u64 0) (.int .i64 0)
    replace HB := Lib.hid (SX.below HB.out (by omega))
    replace XR := SX.box
    clear SX
    generalize (World.setCell (World.setCell (World.setCell (World.setCell w1 ⟨w.heap.size, 0, none⟩ (.int .i64 0)) ⟨w.heap.size, 1, none⟩ (.bool false)) ⟨w.heap.size, 2, none⟩ (.int .u64 0)) ⟨w.heap.size, 3, none⟩ (.int .i64 0)) = w3 at *
    have r0 := XR.cell 0
    have r1 := XR.cell 1
    have r2 := XR.cell 2
    have r3 := XR.cell 3
    exact bodyPost_ret (v := .agg #[.int .i64 0, .bool false, .int .u64 0, .int .i64 0]) (by simp [results, Tryd.results33, go_sem, r0, r1, r2, r3]) rfl ⟨_, _, _, _, rfl, Fq.nought, HB.out⟩
  · have HQ := of_fq h0 h1 h2
    have hs := of_shl h0 h1 h2
    have e0 : (n == 0) = false := by simpa using h0
    have hx : n.natAbs < 18446744073709551616 := by omega
    have hb := blen_mono_le (n := n.natAbs) (k := 64) (by omega)
    have t1 := tp_lt n.natAbs
    rw [hr] at HQ
    clear hr
    by_cases hs0 : n < 0
    · obtain ⟨a, ha⟩ : ∃ a, 64 - (blen n.natAbs : Int) = a := ⟨_, rfl⟩
      have hn : ((n.natAbs : Nat) : Int) = -n := by omega
      rw [ha] at HQ hs
      rw [hn] at hs
      have hd : decide (n < 0) = true := by simp; omega
      rw [hd] at HQ
      have HA := Lib.hid ha
      have HN := Lib.hid hn
      obtain ⟨T, hT⟩ : ∃ T, ((tp n.natAbs : Nat) : Int) = T := ⟨_, rfl⟩
      rw [hT] at HQ hs
      have hT2 : 0 ≤ T ∧ T < 18446744073709551616 := by omega
      have HS := Lib.hid hs
      have HW := Lib.hid (show IntKind.u64.wrap T = T from IntWalk.u64_in _ (by omega))
      have a1 : 0 ≤ a := by omega
      have hb0 : blen n.natAbs ≠ 0 := fun e => h0 (by have := blen_eq_zero.1 e; omega)
      have a2 : a < 64 := by omega
      clear hb0
      clear hs ha hb t1 hT hn hT2
      go_enter Tryd.func33, Tryd.ntmps33
      go_upto_region 1 with (fail)
      have XR := (Bo.newAt w (g := w.heap.size) (by simp) #[.int .i64 0, .bool false, .int .u64 0, .int .i64 0] 24)
      have HB := Lib.hid (bel1 w (.cells #[.int .i64 0, .bool false, .int .u64 0, .int .i64 0] 24))
      generalize hW1 : (w.alloc (.cells #[.int .i64 0, .bool false, .int .u64 0, .int .i64 0] 24)) = w1 at *
      clear hW1
      have hx1 : n.natAbs < 18446744073709551616 := hx
      have hc : IntKind.u64.wrap (-IntKind.u64.wrap n) = -n := by
        show (-(n % 18446744073709551616)) % 18446744073709551616 = -n
        omega
      go_wp2_with fail
      refine (lead64_any _ hx HN.out HA.out).mono ?_
      rintro ee w2 ⟨rfl, B⟩
      replace XR := XR.below B
      replace HB := Lib.hid (bt HB.out B)
      clear B
      have hs := HS.out
      have hw := HW.out
      have xXR0 := XR.at (i := 0) (v := .int .i64 0) rfl
      have zXR0 := XR.frozen 0
      have xXR1 := XR.at (i := 1) (v := .bool false) rfl
      have zXR1 := XR.frozen 1
      have xXR2 := XR.at (i := 2) (v := .int .u64 0) rfl
      have zXR2 := XR.frozen 2
      have xXR3 := XR.at (i := 3) (v := .int .i64 0) rfl
      have zXR3 := XR.frozen 3
      go_wp2
      clear xXR0 zXR0 xXR1 zXR1 xXR2 zXR2 xXR3 zXR3
      have SX := StN.mk4 XR (.int .i64 1) (.bool true) (.int .u64 T) (.int .i64 (-a))
      replace HB := Lib.hid (SX.below HB.out (by omega))
      replace XR := SX.box
      clear SX
      generalize (World.setCell (World.setCell (World.setCell (World.setCell w2 ⟨w.heap.size, 0, none⟩ (.int .i64 1)) ⟨w.heap.size, 1, none⟩ (.bool true)) ⟨w.heap.size, 2, none⟩ (.int .u64 T)) ⟨w.heap.size, 3, none⟩ (.int .i64 (-a))) = w3 at *
      have r0 := XR.cell 0
      have r1 := XR.cell 1
      have r2 := XR.cell 2
      have r3 := XR.cell 3
      exact bodyPost_ret (v := .agg #[.int .i64 1, .bool true, .int .u64 T, .int .i64 (-a)]) (by simp [results, Tryd.results33, go_sem, r0, r1, r2, r3]) rfl ⟨_, _, _, _, rfl, HQ, HB.out⟩
    · obtain ⟨a, ha⟩ : ∃ a, 64 - (blen n.natAbs : Int) = a := ⟨_, rfl⟩
      have hn : ((n.natAbs : Nat) : Int) = n := by omega
      rw [ha] at HQ hs
      rw [hn] at hs
      have hd : decide (n < 0) = false := by simp; omega
      rw [hd] at HQ
      have HA := Lib.hid ha
      have HN := Lib.hid hn
      obtain ⟨T, hT⟩ : ∃ T, ((tp n.natAbs : Nat) : Int) = T := ⟨_, rfl⟩
      rw [hT] at HQ hs
      have hT2 : 0 ≤ T ∧ T < 18446744073709551616 := by omega
      have HS := Lib.hid hs
      have HW := Lib.hid (show IntKind.u64.wrap T = T from IntWalk.u64_in _ (by omega))
      have a1 : 0 ≤ a := by omega
      have hb0 : blen n.natAbs ≠ 0 := fun e => h0 (by have := blen_eq_zero.1 e; omega)
      have a2 : a < 64 := by omega
      clear hb0
      clear hs ha hb t1 hT hn hT2
      go_enter Tryd.func33, Tryd.ntmps33
      go_upto_region 1 with (fail)
      have XR := (Bo.newAt w (g := w.heap.size) (by simp) #[.int .i64 0, .bool false, .int .u64 0, .int .i64 0] 24)
      have HB := Lib.hid (bel1 w (.cells #[.int .i64 0, .bool false, .int .u64 0, .int .i64 0] 24))
      generalize hW1 : (w.alloc (.cells #[.int .i64 0, .bool false, .int .u64 0, .int .i64 0] 24)) = w1 at *
      clear hW1
      have hx1 : n.natAbs < 18446744073709551616 := hx
      go_wp2_with fail
      refine (lead64_any _ hx HN.out HA.out).mono ?_
      rintro ee w2 ⟨rfl, B⟩
      replace XR := XR.below B
      replace HB := Lib.hid (bt HB.out B)
      clear B
      have hs := HS.out
      have hw := HW.out
      have xXR0 := XR.at (i := 0) (v := .int .i64 0) rfl
      have zXR0 := XR.frozen 0
      have xXR1 := XR.at (i := 1) (v := .bool false) rfl
      have zXR1 := XR.frozen 1
      have xXR2 := XR.at (i := 2) (v := .int .u64 0) rfl
      have zXR2 := XR.frozen 2
      have xXR3 := XR.at (i := 3) (v := .int .i64 0) rfl
      have zXR3 := XR.frozen 3
      go_wp2
      clear xXR0 zXR0 xXR1 zXR1 xXR2 zXR2 xXR3 zXR3
      have SX := StN.mk4 XR (.int .i64 1) (.bool false) (.int .u64 T) (.int .i64 (-a))
      replace HB := Lib.hid (SX.below HB.out (by omega))
      replace XR := SX.box
      clear SX
      generalize (World.setCell (World.setCell (World.setCell (World.setCell w2 ⟨w.heap.size, 0, none⟩ (.int .i64 1)) ⟨w.heap.size, 1, none⟩ (.bool false)) ⟨w.heap.size, 2, none⟩ (.int .u64 T)) ⟨w.heap.size, 3, none⟩ (.int .i64 (-a))) = w3 at *
      have r0 := XR.cell 0
      have r1 := XR.cell 1
      have r2 := XR.cell 2
      have r3 := XR.cell 3
      exact bodyPost_ret (v := .agg #[.int .i64 1, .bool false, .int .u64 T, .int .i64 (-a)]) (by simp [results, Tryd.results33, go_sem, r0, r1, r2, r3]) rfl ⟨_, _, _, _, rfl, HQ, HB.out⟩
end Go.Proofs.YtbhnpmkdmnnclaaDoor

/-
  What num.Least and Most do, and the document's.
-/
namespace Go.Proofs.YtbhnpmkdmnnclaaDoor
open Go.RowKit
set_option linter.unusedVariables false
set_option linter.unusedSimpArgs false
set_option maxRecDepth 100000

/-- A slice of numbers, as they came in or as they are; their places are l. -/
def Nl (w : World) (A : Option Addr) (n c : Nat) (l : List Int) : Prop :=
  l.length = n ∧ n ≤ c ∧ n ≤ 1099511627776 ∧ (0 < n → ∃ b o, A = some ⟨b, o, none⟩ ∧ ∀ k, k < n → ∃ D s M E, w.cell? ⟨b, o + k * 4, none⟩ = some (.int .i64 D) ∧ w.cell? ⟨b, o + k * 4 + 1, none⟩ = some (.bool s) ∧ w.cell? ⟨b, o + k * 4 + 2, none⟩ = some (.int .u64 M) ∧ w.cell? ⟨b, o + k * 4 + 3, none⟩ = some (.int .i64 E) ∧ M < 18446744073709551616 ∧ rk D s M E = l.getD k 0)
theorem Nl.below {w w' : World} {A : Option Addr} {n c : Nat} {l : List Int} (h : Nl w A n c l) (hb : Below w.heap.size w w') : Nl w' A n c l := by
  obtain ⟨h1, h2, h3, h4⟩ := h
  refine ⟨h1, h2, h3, fun hn => ?_⟩
  obtain ⟨b, o, e, hc⟩ := h4 hn
  refine ⟨b, o, e, fun k hk => ?_⟩
  obtain ⟨D, s, M, E, c0, c1, c2, c3, hM, hr⟩ := hc k hk
  exact ⟨D, s, M, E, (hb.cell (p := ⟨b, _, none⟩) (block_lt_of_cell c0)).trans c0, (hb.cell (p := ⟨b, _, none⟩) (block_lt_of_cell c1)).trans c1, (hb.cell (p := ⟨b, _, none⟩) (block_lt_of_cell c2)).trans c2, (hb.cell (p := ⟨b, _, none⟩) (block_lt_of_cell c3)).trans c3, hM, hr⟩
def Jo.Fact.nl (n : Nat) (l : List Int) : Jo.Fact := ⟨fun v w => ∃ A c, v = .slice A n c ∧ Nl w A n c l, fun v w w' h b => by
  obtain ⟨A, c, e, h⟩ := h
  exact ⟨A, c, e, h.below b⟩⟩
def Jo.Fact.num (r : Int) : Jo.Fact := ⟨fun v w => ∃ K s M E, v = .agg #[.int .i64 K, .bool s, .int .u64 M, .int .i64 E] ∧ Fq K s M E r, fun v w w' h b => h⟩
def NInv (w : World) (g3 : Nat) (r : Int) (wr : World) : Prop :=
  ∃ K s M E, Bo wr w.heap.size #[.int .i64 0, .bool false, .int .u64 0, .int .i64 0] 24 ∧ Bo wr g3 #[.int .i64 K, .bool s, .int .u64 M, .int .i64 E] 24 ∧ Fq K s M E r ∧ Below w.heap.size w wr
end Go.Proofs.YtbhnpmkdmnnclaaDoor

/-
  The joint rule for a region with a store that may come before or behind other operations: the stored box is as it was or as it is to be, all other blocks are as they were. No Go text.
-/
namespace Go.Proofs.YtbhnpmkdmnnclaaDoor.Jo
open Go Go.RowKit
set_option linter.unusedVariables false

/-- All blocks but g are as they were; g is as it was, or just the cells new. -/
structure Off (g : Nat) (new : Array Value) (R : TypeId) (w w' : World) : Prop where
  os : w'.os = w.os
  tape : w'.tape = w.tape
  output : w'.output = w.output
  size : w.heap.size ≤ w'.heap.size
  block : ∀ k, k < w.heap.size → k ≠ g → w'.heap[k]? = w.heap[k]?
  own : w'.heap[g]? = w.heap[g]? ∨ w'.heap[g]? = some (.cells new R (0, 0))

section
variable {g : Nat} {new : Array Value} {R : TypeId} {w w' w'' : World}
theorem Off.refl (g : Nat) (new : Array Value) (R : TypeId) (w : World) : Off g new R w w := ⟨rfl, rfl, rfl, Nat.le_refl _, fun _ _ _ => rfl, .inl rfl⟩
theorem Off.drew (w : World) : Off g new R w w.drew := ⟨rfl, rfl, rfl, Nat.le_refl _, fun _ _ _ => rfl, .inl rfl⟩
theorem Off.trans (h : Off g new R w w') (k : Off g new R w' w'') : Off g new R w w'' :=
  ⟨k.os.trans h.os, k.tape.trans h.tape, k.output.trans h.output, Nat.le_trans h.size k.size, fun i hi hn => (k.block i (Nat.lt_of_lt_of_le hi h.size) hn).trans (h.block i hi hn), by
    rcases k.own with e | e
    · rcases h.own with f | f
      · exact .inl (e.trans f)
      · exact .inr (e.trans f)
    · exact .inr e⟩
theorem Off.of_stn {old : Array Value} (S : StN w w' g old new R) : Off g new R w w' := by
  have hb := S.2.2.2 0 w (Nat.zero_le _) (Below.refl 0 w)
  exact ⟨hb.os, hb.tape, hb.output, hb.size, fun k _ hn => S.2.2.1 k hn, .inr S.2.1⟩
theorem Off.below {B : Nat} {a : World} (O : Off g new R w w') (h : Below B a w) (hB : B ≤ g) (hg : g < w.heap.size) : Below B a w' :=
  ⟨O.os.trans h.os, O.tape.trans h.tape, O.output.trans h.output, Nat.le_trans h.size O.size, fun k hk => (O.block k (by omega) (by omega)).trans (h.block k hk)⟩
theorem _root_.Go.Proofs.YtbhnpmkdmnnclaaDoor.Bo.off {k : Nat} {cs : Array Value} {T : TypeId} (X : Bo w k cs T) (hk : k ≠ g) (O : Off g new R w w') : Bo w' k cs T := X.keep (O.block k X.lt hk)
theorem _root_.Go.Proofs.YtbhnpmkdmnnclaaDoor.Nm.off {old : Array Value} {B : Option Addr} {m d a : Nat} (h : Nm w B m d a) (X : Bo w g old R) (hn : old.all no32 = true) (O : Off g new R w w') : Nm w' B m d a := by
  obtain ⟨b, h⟩ := h
  exact ⟨b, h.keep fun hm => O.block b (h.lt hm) (fun e => by
    obtain ⟨o, _, hc⟩ := h.at hm
    have := hc 0 hm
    rw [e] at this
    exact X.no hn this)⟩
theorem _root_.Go.Proofs.YtbhnpmkdmnnclaaDoor.Rd.off {old : Array Value} {B : Option Addr} {m d a : Nat} (h : Rd w B m d a) (X : Bo w g old R) (hn : old.all no32 = true) (O : Off g new R w w') : Rd w' B m d a := by
  obtain ⟨b, xs, h, e⟩ := h
  exact ⟨b, xs, h.keep fun hm => O.block b (h.lt hm) (fun e => by
    obtain ⟨o, _, hc⟩ := h.at hm
    have := hc 0 hm
    rw [e] at this
    exact X.no hn this), e⟩
end

/-- What is known of a value, kept by what such a region does. -/
structure LFact (g : Nat) (new : Array Value) (R : TypeId) where
  P : Value → World → Prop
  keep : ∀ v w w', P v w → Off g new R w w' → P v w'
section
variable {g : Nat} {new : Array Value} {R : TypeId}
def LFact.any : LFact g new R := ⟨fun _ _ => True, fun _ _ _ h _ => h⟩
def LFact.eq (u : Value) : LFact g new R := ⟨fun v _ => v = u, fun _ _ _ h _ => h⟩
/-- The store is done. -/
def LFact.done : LFact g new R := ⟨fun _ w => Bo w g new R, fun v w w' h o => by
  rcases o.own with e | e
  · exact h.keep e
  · exact e⟩
def lphi (F : List (LFact g new R)) (i : Nat) (v : Value) (w : World) : Prop := (F.getD i LFact.any).P v w
variable {P : Program} {ops : Array Oper} {Q : Exit → Act → World → Prop} {a0 : Act} {T : List Nat} {ds : List (Option Tmp)} {ls : List (List Nat)} {k : Nat} {F : List (LFact g new R)} {J : World → Prop}
theorem lcons {i : Nat} {o : Oper} {r : List Nat} {di : Option Tmp} {L : List (Option Tmp × Nat)} {f : LFact g new R} (ho : ops[i]? = some o) (hdi : ds.getD i none = di) (hL : ((ls.getD i []).map fun j => (ds.getD j none, j)) = L) (hf : F.getD i LFact.any = f)
    (h : ∀ vs w, J w → (∀ j ∈ ls.getD i [], lphi F j (vs j) w) → ∀ K : Act → World → Prop, Shut (∀ v w', f.P v w' → Off g new R w w' → K ((putl vs L a0).put di v) w') →
      if Region.wanted o (yielded ops (putl vs L a0).tmps) = true then Oper.wp P o (putl vs L a0) w K Q else K ((putl vs L a0).put o.dst undef) w)
    (hs : Steps P ops Q a0 (dstOf ds) (depOf ls) (lphi F) J (Off g new R) r) : Steps P ops Q a0 (dstOf ds) (depOf ls) (lphi F) J (Off g new R) (i :: r) := by
  refine Steps.cons ho (fun vs w hJ hd K hK => ?_) hs
  have e : base (dstOf ds) vs (depOf ls i) a0 = putl vs L a0 := by
    rw [base_putl, ← hL]
    rfl
  rw [e] at hK ⊢
  refine h vs w hJ hd K ?_
  intro v w' h1 h2
  have := hK.out v w' (by unfold lphi; rw [hf]; exact h1) h2
  rwa [show dstOf ds i = di from hdi] at this
theorem region_late {id fuel : Nat} {w : World} {L : List (Option Tmp × Nat)} (hm : P.follows .mixedOrders = true) (hok : ok .any ops T (dstOf ds) (depOf ls) k a0.tmps.size = true) (hnd : T.Nodup)
    (hL : (T.map fun j => (ds.getD j none, j)) = L) (hfu : ops.size - T.length = fuel)
    (step : Steps P ops (NoPanic Q) a0 (dstOf ds) (depOf ls) (lphi F) (fun wj => Off g new R w wj) (Off g new R) T)
    (fin : ∀ vs wj, Off g new R w wj → (∀ j ∈ T, lphi F j (vs j) wj) → wpAny P .any ops (NoPanic Q) fuel (mark T ops.size) (putl vs L a0) wj) :
    (Code.region id ops true).wp P Q a0 w := by
  refine wp_region_noPanic ?_
  refine wp_region_joint (T := T) (dst := dstOf ds) (D := depOf ls) (k := k) (Φ := lphi F) (J := fun wj => Off g new R w wj) (St := Off g new R) hm hok hnd (fun _ _ _ _ h => h) (fun i _ v w w' h b => (F.getD i LFact.any).keep v w w' h b) (fun _ _ h b => h.trans b) (Off.drew w) step ?_
  intro vs w hJ hd
  have e : base (dstOf ds) vs T a0 = putl vs L a0 := by
    rw [base_putl, ← hL]
    rfl
  rw [e, hfu]
  exact fin vs w hJ hd
end
end Go.Proofs.YtbhnpmkdmnnclaaDoor.Jo

/-
  What num.word and cut do, and the document's word.
-/
namespace Go.Proofs.YtbhnpmkdmnnclaaDoor
open Go.RowKit
set_option linter.unusedVariables false
set_option linter.unusedSimpArgs false
set_option maxRecDepth 100000

/-- A word is answered. -/
def PU (w : World) (z : Int) (e : Ending) (w' : World) : Prop := e = .returned (.int .u64 z) ∧ Below w.heap.size w w'
set_option maxHeartbeats 1000000 in
theorem yWord {w : World} {A : Option Addr} {n c v : Nat} {T : Int} (h : Nm w A n c v) (hv : v < 18446744073709551616) (hT : (v : Int) = T) : Calls Tryd.prog 72 #[.slice A n c] w (PU w T) := by
  have HT := Lib.hid hT
  clear hT
  have hn2 : n ≤ 2 := by
    have hl := h.len
    have : (limbs v).length ≤ 2 := limbs_length_le (by simpa using hv)
    omega
  obtain ⟨b, hs⟩ := h
  have HV := Lib.hid (val_limbs v)
  revert hs HV
  generalize limbs v = xs
  intro hs HV
  go_enter Tryd.func72, Tryd.ntmps72
  go_wp2
  go_loop [3, 4] (fun u i => ∃ k : Nat, k ≤ n ∧ i = .int .i64 ((k : Int) - 1) ∧ u = .int .u64 (val (xs.drop k) : Nat)) (fun _ i => (intOf i + 1).toNat)
  case atStart => exact ⟨n, Nat.le_refl _, rfl, by rw [List.drop_of_length_le (by rw [hs.len]; omega)]; rfl⟩
  case round =>
    obtain ⟨k, hk, rfl, rfl⟩ := hrel
    rcases Nat.eq_zero_or_pos k with e | hk0
    · subst e
      rw [List.drop_zero, HV.out, HT.out]
      have c0 : (((0 : Nat) : Int) - 1) = -1 := rfl
      rw [c0]
      go_wp2
      go_ret
      exact ⟨rfl, Below.refl _ _⟩
    · obtain ⟨o, rfl, hcell⟩ := hs.at (by omega)
      have hck := hcell (k - 1) (by omega)
      have hx := hs.lim.getD (k - 1)
      have HD : Hid (val (xs.drop (k - 1)) = xs.getD (k - 1) 0 + 4294967296 * val (xs.drop k)) := Lib.hid (by rw [val_drop (by rw [hs.len]; omega), show k - 1 + 1 = k by omega])
      have hu : val (xs.drop k) < 4294967296 := by
        have := val_lt (hs.lim.drop k)
        rw [List.length_drop, hs.len] at this
        exact Nat.lt_of_lt_of_le this (Nat.pow_le_pow_right (n := 4294967296) (j := 1) (by decide) (by omega))
      have hi : ((k : Int) - 1).toNat = k - 1 := by omega
      clear hcell
      revert hck hx HD hu
      generalize xs.getD (k - 1) 0 = x
      generalize val (xs.drop k) = u
      intro hck hx HD hu
      go_wp2
      go_round
      case rel => exact ⟨k - 1, by omega, val_int (by omega), val_int (by have := HD.out; omega)⟩
      case measure => simp [intOf]; omega

/-- A number and a truth are answered. -/
def PNB (w : World) (r : Int) (t : Bool) (e : Ending) (w' : World) : Prop := ∃ K s M E, e = .returned (.tuple #[.agg #[.int .i64 K, .bool s, .int .u64 M, .int .i64 E], .bool t]) ∧ Fq K s M E r ∧ Below w.heap.size w w'
end Go.Proofs.YtbhnpmkdmnnclaaDoor

/-
  What num.Round and Exact do, and the document's limbs and Exact.
-/
namespace Go.Proofs.YtbhnpmkdmnnclaaDoor
open Go.RowKit
set_option linter.unusedVariables false
set_option linter.unusedSimpArgs false
set_option maxRecDepth 100000

theorem nx_sgi (s : Bool) {x : Int} (h0 : 0 ≤ x) (h1 : x ≤ 19342822337206103650074624) : nx (!s) (sgi s x) = sgi s (x + 1) := by
  have := TP_eq
  unfold nx
  cases s
  · show min TP (x + 1) = x + 1
    omega
  · show max (-TP) (-x - 1) = -(x + 1)
    omega
theorem nx_lo {a : Nat} {E : Int} (s : Bool) (h : ext a E = false) : nx (!s) (sgi s (lo a E)) = sgi s (hi a E) := by
  obtain ⟨h1, h2⟩ := lo_bd a E
  have hh : hi a E = lo a E + 1 := by
    unfold hi
    rw [h, if_neg (by decide)]
  rw [hh, nx_sgi s h1 h2]
theorem pick_t (s : Bool) (x y : Int) (b : Bool) (h : b = true) : sgi s (if b = true then x else y) = sgi s x := by rw [if_pos h]
theorem pick_f (s : Bool) (x y : Int) (b : Bool) (h : b = false) : sgi s (if b = true then x else y) = sgi s y := by rw [h, if_neg (by decide)]
theorem rnd_ext {up : Bool} {N E : Int} (h : ext N.natAbs E = true) : rnd up N E = sgi (decide (N < 0)) (lo N.natAbs E) := by
  unfold rnd hi
  rw [if_pos h]
  cases hb : (up != decide (N < 0))
  · exact pick_f _ _ _ _ rfl
  · exact pick_t _ _ _ _ rfl
theorem rnd_same {up s : Bool} {N E : Int} (hs : s = decide (N < 0)) (h : s = up) : rnd up N E = sgi s (lo N.natAbs E) := by
  unfold rnd
  rw [← hs, h]
  exact pick_f _ _ _ _ (by cases up <;> rfl)
theorem rnd_diff {s : Bool} {N E : Int} (hs : s = decide (N < 0)) : rnd (!s) N E = sgi s (hi N.natAbs E) := by
  unfold rnd
  rw [← hs]
  exact pick_t _ _ _ _ (by cases s <;> rfl)
/-- A dyadic number and a truth are answered. -/
def PDB (w : World) (N E : Int) (t : Bool) (e : Ending) (w' : World) : Prop := ∃ s A n c, e = .returned (.tuple #[.agg #[.bool s, .slice A n c, .int .i64 E], .bool t]) ∧ Wn w' s A n c N ∧ n ≤ 2 ∧ Below w.heap.size w w'
def exb (D : Int) (s : Bool) (M E : Int) : Bool := decide (MayQ D s M E) && !(D == 2)
def exq (D : Int) (s : Bool) (M E : Int) : Int × Int := if exb D s M E = true then mk (sgi s M) E else (0, 0)
def Jo.Fact.rd (a K : Nat) : Jo.Fact := ⟨fun v w => ∃ A n c, v = .slice A n c ∧ Rd w A n c a ∧ n ≤ K, fun v w w' h b => by
  obtain ⟨A, n, c, e, h, k⟩ := h
  exact ⟨A, n, c, e, h.below b, k⟩⟩
theorem lit_rd (W : World) {X Y a : Nat} (hX : X < 4294967296) (hY : Y < 4294967296) (ha : Y + 4294967296 * X = a) : Rd (W.alloc (.cells #[.int .u32 (Y : Int), .int .u32 (X : Int)] 59)) (some ⟨W.heap.size, 0, none⟩) 2 2 a :=
  ⟨_, _, lit2 W Y X hY hX, by simp [val]; omega⟩
theorem sg_toNat {s : Bool} {M : Int} (h : 0 ≤ M) : sg s M.toNat = sgi s M := by
  have : ((M.toNat : Nat) : Int) = M := by omega
  unfold sg sgi
  rw [this]
set_option maxHeartbeats 4000000 in
theorem yexact_a {w : World} {D M E : Int} {s : Bool} (hm : decide (MayQ D s M E) = false) : Calls Tryd.prog 41 #[.agg #[.int .i64 D, .bool s, .int .u64 M, .int .i64 E]] w (PDB w 0 0 false) := by
  have HM := Lib.hid hm
  clear hm
  go_enter Tryd.func41, Tryd.ntmps41
  go_upto_region 1 with (fail)
  have X1 := (Bo.newAt w (g := w.heap.size) (by simp) #[.int .i64 D, .bool s, .int .u64 M, .int .i64 E] 24).below (bel1 _ (.cells #[.bool false, .slice none 0 0, .int .i64 0] 39))
  have XR := (Bo.newAt (w.alloc (.cells #[.int .i64 D, .bool s, .int .u64 M, .int .i64 E] 24)) (g := w.heap.size + 1) (by simp) #[.bool false, .slice none 0 0, .int .i64 0] 39)
  have HB := Lib.hid (bel2 w (.cells #[.int .i64 D, .bool s, .int .u64 M, .int .i64 E] 24) (.cells #[.bool false, .slice none 0 0, .int .i64 0] 39))
  generalize hW1 : ((w.alloc (.cells #[.int .i64 D, .bool s, .int .u64 M, .int .i64 E] 24)).alloc (.cells #[.bool false, .slice none 0 0, .int .i64 0] 39)) = w1 at *
  clear hW1
  have xX10 := X1.at (i := 0) (v := .int .i64 D) rfl
  have xX11 := X1.at (i := 1) (v := .bool s) rfl
  have xX12 := X1.at (i := 2) (v := .int .u64 M) rfl
  have xX13 := X1.at (i := 3) (v := .int .i64 E) rfl
  go_wp2_with fail
  refine (yMay HM.out).mono ?_
  rintro ee w2 ⟨rfl, B⟩
  clear xX10 xX11 xX12 xX13
  replace X1 := X1.below B
  replace XR := XR.below B
  replace HB := Lib.hid (bt HB.out B)
  clear B
  have xXR0 := XR.at (i := 0) (v := .bool false) rfl
  have zXR0 := XR.frozen 0
  have xXR1 := XR.at (i := 1) (v := .slice none 0 0) rfl
  have zXR1 := XR.frozen 1
  have xXR2 := XR.at (i := 2) (v := .int .i64 0) rfl
  have zXR2 := XR.frozen 2
  have xX10 := X1.at (i := 0) (v := .int .i64 D) rfl
  have xX11 := X1.at (i := 1) (v := .bool s) rfl
  have xX12 := X1.at (i := 2) (v := .int .u64 M) rfl
  have xX13 := X1.at (i := 3) (v := .int .i64 E) rfl
  go_wp2
  clear xXR0 zXR0 xXR1 zXR1 xXR2 zXR2 xX10 xX11 xX12 xX13
  have SX := StN.mk3 XR (.bool false) (.slice none 0 0) (.int .i64 0)
  replace X1 := X1.stn SX (by omega)
  replace HB := Lib.hid (SX.below HB.out (by omega))
  replace XR := SX.box
  clear SX
  generalize (World.setCell (World.setCell (World.setCell w2 ⟨w.heap.size + 1, 0, none⟩ (.bool false)) ⟨w.heap.size + 1, 1, none⟩ (.slice none 0 0)) ⟨w.heap.size + 1, 2, none⟩ (.int .i64 0)) = w3 at *
  have r0 := XR.cell 0
  have r1 := XR.cell 1
  have r2 := XR.cell 2
  exact bodyPost_ret (v := .tuple #[.agg #[.bool false, .slice none 0 0, .int .i64 0], .bool false]) (by simp [results, Tryd.results41, go_sem, r0, r1, r2]) rfl ⟨_, _, _, _, rfl, Wn.zero, by decide, HB.out⟩
set_option maxHeartbeats 4000000 in
theorem yexact_b {w : World} {D M E : Int} {s : Bool} (hm : decide (MayQ D s M E) = true) (hd : D = 2) : Calls Tryd.prog 41 #[.agg #[.int .i64 D, .bool s, .int .u64 M, .int .i64 E]] w (PDB w 0 0 false) := by
  have HM := Lib.hid hm
  clear hm
  subst hd
  go_enter Tryd.func41, Tryd.ntmps41
  go_upto_region 1 with (fail)
  have X1 := (Bo.newAt w (g := w.heap.size) (by simp) #[.int .i64 2, .bool s, .int .u64 M, .int .i64 E] 24).below (bel1 _ (.cells #[.bool false, .slice none 0 0, .int .i64 0] 39))
  have XR := (Bo.newAt (w.alloc (.cells #[.int .i64 2, .bool s, .int .u64 M, .int .i64 E] 24)) (g := w.heap.size + 1) (by simp) #[.bool false, .slice none 0 0, .int .i64 0] 39)
  have HB := Lib.hid (bel2 w (.cells #[.int .i64 2, .bool s, .int .u64 M, .int .i64 E] 24) (.cells #[.bool false, .slice none 0 0, .int .i64 0] 39))
  generalize hW1 : ((w.alloc (.cells #[.int .i64 2, .bool s, .int .u64 M, .int .i64 E] 24)).alloc (.cells #[.bool false, .slice none 0 0, .int .i64 0] 39)) = w1 at *
  clear hW1
  have xX10 := X1.at (i := 0) (v := .int .i64 2) rfl
  have xX11 := X1.at (i := 1) (v := .bool s) rfl
  have xX12 := X1.at (i := 2) (v := .int .u64 M) rfl
  have xX13 := X1.at (i := 3) (v := .int .i64 E) rfl
  go_wp2_with fail
  refine (yMay HM.out).mono ?_
  rintro ee w2 ⟨rfl, B⟩
  clear xX10 xX11 xX12 xX13
  replace X1 := X1.below B
  replace XR := XR.below B
  replace HB := Lib.hid (bt HB.out B)
  clear B
  have xXR0 := XR.at (i := 0) (v := .bool false) rfl
  have zXR0 := XR.frozen 0
  have xXR1 := XR.at (i := 1) (v := .slice none 0 0) rfl
  have zXR1 := XR.frozen 1
  have xXR2 := XR.at (i := 2) (v := .int .i64 0) rfl
  have zXR2 := XR.frozen 2
  have xX10 := X1.at (i := 0) (v := .int .i64 2) rfl
  have xX11 := X1.at (i := 1) (v := .bool s) rfl
  have xX12 := X1.at (i := 2) (v := .int .u64 M) rfl
  have xX13 := X1.at (i := 3) (v := .int .i64 E) rfl
  go_wp2
  clear xXR0 zXR0 xXR1 zXR1 xXR2 zXR2 xX10 xX11 xX12 xX13
  have SX := StN.mk3 XR (.bool false) (.slice none 0 0) (.int .i64 0)
  replace X1 := X1.stn SX (by omega)
  replace HB := Lib.hid (SX.below HB.out (by omega))
  replace XR := SX.box
  clear SX
  generalize (World.setCell (World.setCell (World.setCell w2 ⟨w.heap.size + 1, 0, none⟩ (.bool false)) ⟨w.heap.size + 1, 1, none⟩ (.slice none 0 0)) ⟨w.heap.size + 1, 2, none⟩ (.int .i64 0)) = w3 at *
  have r0 := XR.cell 0
  have r1 := XR.cell 1
  have r2 := XR.cell 2
  exact bodyPost_ret (v := .tuple #[.agg #[.bool false, .slice none 0 0, .int .i64 0], .bool false]) (by simp [results, Tryd.results41, go_sem, r0, r1, r2]) rfl ⟨_, _, _, _, rfl, Wn.zero, by decide, HB.out⟩
set_option maxHeartbeats 4000000 in
theorem yexact_z {w : World} {s : Bool} {M E : Int} (hm : decide (MayQ 0 s M E) = true) : Calls Tryd.prog 41 #[.agg #[.int .i64 0, .bool s, .int .u64 M, .int .i64 E]] w (PDB w 0 0 true) := by
  have HM := Lib.hid hm
  clear hm
  go_enter Tryd.func41, Tryd.ntmps41
  go_upto_region 1 with (fail)
  have X1 := (Bo.newAt w (g := w.heap.size) (by simp) #[.int .i64 0, .bool s, .int .u64 M, .int .i64 E] 24).below (bel1 _ (.cells #[.bool false, .slice none 0 0, .int .i64 0] 39))
  have XR := (Bo.newAt (w.alloc (.cells #[.int .i64 0, .bool s, .int .u64 M, .int .i64 E] 24)) (g := w.heap.size + 1) (by simp) #[.bool false, .slice none 0 0, .int .i64 0] 39)
  have HB := Lib.hid (bel2 w (.cells #[.int .i64 0, .bool s, .int .u64 M, .int .i64 E] 24) (.cells #[.bool false, .slice none 0 0, .int .i64 0] 39))
  generalize hW1 : ((w.alloc (.cells #[.int .i64 0, .bool s, .int .u64 M, .int .i64 E] 24)).alloc (.cells #[.bool false, .slice none 0 0, .int .i64 0] 39)) = w1 at *
  clear hW1
  have xX10 := X1.at (i := 0) (v := .int .i64 0) rfl
  have xX11 := X1.at (i := 1) (v := .bool s) rfl
  have xX12 := X1.at (i := 2) (v := .int .u64 M) rfl
  have xX13 := X1.at (i := 3) (v := .int .i64 E) rfl
  go_wp2_with fail
  refine (yMay HM.out).mono ?_
  rintro ee w2 ⟨rfl, B⟩
  clear xX10 xX11 xX12 xX13
  replace X1 := X1.below B
  replace XR := XR.below B
  replace HB := Lib.hid (bt HB.out B)
  clear B
  have xXR0 := XR.at (i := 0) (v := .bool false) rfl
  have zXR0 := XR.frozen 0
  have xXR1 := XR.at (i := 1) (v := .slice none 0 0) rfl
  have zXR1 := XR.frozen 1
  have xXR2 := XR.at (i := 2) (v := .int .i64 0) rfl
  have zXR2 := XR.frozen 2
  have xX10 := X1.at (i := 0) (v := .int .i64 0) rfl
  have xX11 := X1.at (i := 1) (v := .bool s) rfl
  have xX12 := X1.at (i := 2) (v := .int .u64 M) rfl
  have xX13 := X1.at (i := 3) (v := .int .i64 E) rfl
  go_wp2
  clear xXR0 zXR0 xXR1 zXR1 xXR2 zXR2 xX10 xX11 xX12 xX13
  have SX := StN.mk3 XR (.bool false) (.slice none 0 0) (.int .i64 0)
  replace X1 := X1.stn SX (by omega)
  replace HB := Lib.hid (SX.below HB.out (by omega))
  replace XR := SX.box
  clear SX
  generalize (World.setCell (World.setCell (World.setCell w2 ⟨w.heap.size + 1, 0, none⟩ (.bool false)) ⟨w.heap.size + 1, 1, none⟩ (.slice none 0 0)) ⟨w.heap.size + 1, 2, none⟩ (.int .i64 0)) = w3 at *
  have r0 := XR.cell 0
  have r1 := XR.cell 1
  have r2 := XR.cell 2
  exact bodyPost_ret (v := .tuple #[.agg #[.bool false, .slice none 0 0, .int .i64 0], .bool true]) (by simp [results, Tryd.results41, go_sem, r0, r1, r2]) rfl ⟨_, _, _, _, rfl, Wn.zero, by decide, HB.out⟩
/-- The limbs of a word are answered. -/
def PR (w : World) (a : Nat) (e : Ending) (w' : World) : Prop := ∃ A n c, e = .returned (.slice A n c) ∧ Rd w' A n c a ∧ n ≤ 2 ∧ Below w.heap.size w w'
set_option maxHeartbeats 1000000 in
theorem yLimbs {w : World} {M : Int} (h0 : 0 ≤ M) (hM : M < 18446744073709551616) : Calls Tryd.prog 69 #[.int .u64 M] w (PR w M.toNat) := by
  obtain ⟨X, hX⟩ : ∃ X : Nat, M / 4294967296 = X := ⟨(M / 4294967296).toNat, by omega⟩
  obtain ⟨Y, hY⟩ : ∃ Y : Nat, M % 4294967296 = Y := ⟨(M % 4294967296).toNat, by omega⟩
  have hx : X < 4294967296 := by omega
  have hy : Y < 4294967296 := by omega
  have ha : Y + 4294967296 * X = M.toNat := by omega
  have w1 : IntKind.u32.wrap (X : Int) = X := IntWalk.u32_in _ (by omega)
  have w2 : IntKind.u32.wrap (Y : Int) = Y := IntWalk.u32_in _ (by omega)
  go_enter Tryd.func69, Tryd.ntmps69
  go_wp2
  go_ret
  exact ⟨_, 2, 2, rfl, lit_rd w hx hy ha, by decide, bel1 _ _⟩
set_option maxHeartbeats 4000000 in
theorem yexact_m {w : World} {D M E : Int} {s : Bool} {N F : Int} (h0 : 0 ≤ M) (hM : M < 18446744073709551616) (hm : decide (MayQ D s M E) = true) (hd : D ≠ 2) (hz : D ≠ 0) (hN : (mk (sgi s M) E).1 = N) (hE : (mk (sgi s M) E).2 = F) : Calls Tryd.prog 41 #[.agg #[.int .i64 D, .bool s, .int .u64 M, .int .i64 E]] w (PDB w N F true) := by
  have HM := Lib.hid hm
  have HN := Lib.hid hN
  have HE := Lib.hid hE
  have e2 : (D == 2) = false := by simpa using hd
  have e0 : (D == 0) = false := by simpa using hz
  obtain ⟨X, hX⟩ : ∃ X : Nat, M / 4294967296 = X := ⟨(M / 4294967296).toNat, by omega⟩
  obtain ⟨Y, hY⟩ : ∃ Y : Nat, M % 4294967296 = Y := ⟨(M % 4294967296).toNat, by omega⟩
  have hx : X < 4294967296 := by omega
  have hy : Y < 4294967296 := by omega
  have ha : Y + 4294967296 * X = M.toNat := by omega
  have HX := Lib.hid hX
  have HY : Hid (IntKind.u32.wrap M = (Y : Int)) := Lib.hid (by
    show M % 4294967296 = (Y : Int)
    exact hY)
  have HX2 : Hid (IntKind.u32.wrap (X : Int) = (X : Int)) := Lib.hid (IntWalk.u32_in _ (by omega))
  have HS : Hid (sg s M.toNat = sgi s M) := Lib.hid (sg_toNat h0)
  clear hm hN hE hX hY
  go_enter Tryd.func41, Tryd.ntmps41
  go_upto_region 1 with (fail)
  have X1 := (Bo.newAt w (g := w.heap.size) (by simp) #[.int .i64 D, .bool s, .int .u64 M, .int .i64 E] 24).below (bel1 _ (.cells #[.bool false, .slice none 0 0, .int .i64 0] 39))
  have XR := (Bo.newAt (w.alloc (.cells #[.int .i64 D, .bool s, .int .u64 M, .int .i64 E] 24)) (g := w.heap.size + 1) (by simp) #[.bool false, .slice none 0 0, .int .i64 0] 39)
  have HB := Lib.hid (bel2 w (.cells #[.int .i64 D, .bool s, .int .u64 M, .int .i64 E] 24) (.cells #[.bool false, .slice none 0 0, .int .i64 0] 39))
  generalize hW1 : ((w.alloc (.cells #[.int .i64 D, .bool s, .int .u64 M, .int .i64 E] 24)).alloc (.cells #[.bool false, .slice none 0 0, .int .i64 0] 39)) = w1 at *
  clear hW1
  have xX10 := X1.at (i := 0) (v := .int .i64 D) rfl
  have xX11 := X1.at (i := 1) (v := .bool s) rfl
  have xX12 := X1.at (i := 2) (v := .int .u64 M) rfl
  have xX13 := X1.at (i := 3) (v := .int .i64 E) rfl
  go_wp2_with fail
  refine (yMay HM.out).mono ?_
  rintro ee w2 ⟨rfl, B⟩
  clear xX10 xX11 xX12 xX13
  replace X1 := X1.below B
  replace XR := XR.below B
  replace HB := Lib.hid (bt HB.out B)
  clear B
  have xX10 := X1.at (i := 0) (v := .int .i64 D) rfl
  have xX11 := X1.at (i := 1) (v := .bool s) rfl
  have xX12 := X1.at (i := 2) (v := .int .u64 M) rfl
  have xX13 := X1.at (i := 3) (v := .int .i64 E) rfl
  go_upto_region 6 with (fail)
  clear xX10 xX11 xX12 xX13
  refine Jo.region_joint (T := [0, 1, 2, 3, 4, 5, 6, 7, 8]) (ds := [some 19, some 20, some 21, some 22, some 23, some 24, some 25, some 26, some 27, none, some 3]) (ls := [[], [0], [], [2], [3], [1, 4], [], [6], [5, 7], [], []]) (k := 11) (L := [(some 19, 0), (some 20, 1), (some 21, 2), (some 22, 3), (some 23, 4), (some 24, 5), (some 25, 6), (some 26, 7), (some 27, 8)]) (fuel := 2) (J := fun wj => Below (World.heap w2).size w2 wj)
    (F := [Jo.Fact.eq (.pointer (some ⟨w.heap.size, 1, none⟩)), Jo.Fact.eq (.bool s), Jo.Fact.eq (.pointer (some ⟨w.heap.size, 2, none⟩)), Jo.Fact.eq (.int .u64 M), Jo.Fact.rd M.toNat 2, Jo.Fact.wn (sgi s M) 2, Jo.Fact.eq (.pointer (some ⟨w.heap.size, 3, none⟩)), Jo.Fact.eq (.int .i64 E), Jo.Fact.dy N F 2, Jo.Fact.any, Jo.Fact.any])
    (by kernel_rfl) (by kernel_rfl) (by decide) rfl rfl (fun _ _ h b => bt h b) ((Below.refl _ _).drew) ?_ (fun vs w3 hJ hd => ?_)
  · refine Jo.jcons (i := 0) (o := ⟨some 19, _, _, _, _, _⟩) (di := some 19) (L := []) (f := Jo.Fact.eq (.pointer (some ⟨w.heap.size, 1, none⟩))) rfl rfl rfl rfl (fun vs wj hJ hd K hK => ?_) ?_
    · clear hd
      simp only [Jo.putl, List.foldl_nil, Act.put, List.setIfInBounds_toArray, List.set_cons_zero, List.set_cons_succ] at hK ⊢
      go_simp
      exact hK.out _ _ rfl (Below.refl _ _)
    refine Jo.jcons (i := 1) (o := ⟨some 20, _, _, _, _, _⟩) (di := some 20) (L := [(some 19, 0)]) (f := Jo.Fact.eq (.bool s)) rfl rfl rfl rfl (fun vs wj hJ hd K hK => ?_) ?_
    · have d0 : (Jo.Fact.eq (.pointer (some ⟨w.heap.size, 1, none⟩))).P (vs 0) wj := hd 0 (by decide)
      clear hd
      simp only [Jo.putl, List.foldl_cons, List.foldl_nil, Act.put, List.setIfInBounds_toArray, List.set_cons_zero, List.set_cons_succ] at hK ⊢
      generalize vs 0 = u0 at hK d0 ⊢
      replace d0 : u0 = _ := d0
      subst d0
      have xX10 : World.cell? wj ⟨w.heap.size, 0, none⟩ = some (.int .i64 D) := (X1.below hJ).cell 0
      have xX11 : World.cell? wj ⟨w.heap.size, 1, none⟩ = some (.bool s) := (X1.below hJ).cell 1
      have xX12 : World.cell? wj ⟨w.heap.size, 2, none⟩ = some (.int .u64 M) := (X1.below hJ).cell 2
      have xX13 : World.cell? wj ⟨w.heap.size, 3, none⟩ = some (.int .i64 E) := (X1.below hJ).cell 3
      go_simp
      exact hK.out _ _ rfl (Below.refl _ _)
    refine Jo.jcons (i := 2) (o := ⟨some 21, _, _, _, _, _⟩) (di := some 21) (L := []) (f := Jo.Fact.eq (.pointer (some ⟨w.heap.size, 2, none⟩))) rfl rfl rfl rfl (fun vs wj hJ hd K hK => ?_) ?_
    · clear hd
      simp only [Jo.putl, List.foldl_nil, Act.put, List.setIfInBounds_toArray, List.set_cons_zero, List.set_cons_succ] at hK ⊢
      go_simp
      exact hK.out _ _ rfl (Below.refl _ _)
    refine Jo.jcons (i := 3) (o := ⟨some 22, _, _, _, _, _⟩) (di := some 22) (L := [(some 21, 2)]) (f := Jo.Fact.eq (.int .u64 M)) rfl rfl rfl rfl (fun vs wj hJ hd K hK => ?_) ?_
    · have d2 : (Jo.Fact.eq (.pointer (some ⟨w.heap.size, 2, none⟩))).P (vs 2) wj := hd 2 (by decide)
      clear hd
      simp only [Jo.putl, List.foldl_cons, List.foldl_nil, Act.put, List.setIfInBounds_toArray, List.set_cons_zero, List.set_cons_succ] at hK ⊢
      generalize vs 2 = u2 at hK d2 ⊢
      replace d2 : u2 = _ := d2
      subst d2
      have xX10 : World.cell? wj ⟨w.heap.size, 0, none⟩ = some (.int .i64 D) := (X1.below hJ).cell 0
      have xX11 : World.cell? wj ⟨w.heap.size, 1, none⟩ = some (.bool s) := (X1.below hJ).cell 1
      have xX12 : World.cell? wj ⟨w.heap.size, 2, none⟩ = some (.int .u64 M) := (X1.below hJ).cell 2
      have xX13 : World.cell? wj ⟨w.heap.size, 3, none⟩ = some (.int .i64 E) := (X1.below hJ).cell 3
      go_simp
      exact hK.out _ _ rfl (Below.refl _ _)
    refine Jo.jcons (i := 4) (o := ⟨some 23, _, _, _, _, _⟩) (di := some 23) (L := [(some 22, 3)]) (f := Jo.Fact.rd M.toNat 2) rfl rfl rfl rfl (fun vs wj hJ hd K hK => ?_) ?_
    · have d3 : (Jo.Fact.eq (.int .u64 M)).P (vs 3) wj := hd 3 (by decide)
      clear hd
      simp only [Jo.putl, List.foldl_cons, List.foldl_nil, Act.put, List.setIfInBounds_toArray, List.set_cons_zero, List.set_cons_succ] at hK ⊢
      generalize vs 3 = u3 at hK d3 ⊢
      replace d3 : u3 = _ := d3
      subst d3
      go_simp
      refine (yLimbs h0 hM).mono ?_
      rintro ee wk ⟨A3, n3, c3, rfl, p3, k3, B⟩
      exact hK.out _ _ ⟨A3, n3, c3, rfl, p3, k3⟩ B
    refine Jo.jcons (i := 5) (o := ⟨some 24, _, _, _, _, _⟩) (di := some 24) (L := [(some 20, 1), (some 23, 4)]) (f := Jo.Fact.wn (sgi s M) 2) rfl rfl rfl rfl (fun vs wj hJ hd K hK => ?_) ?_
    · have d1 : (Jo.Fact.eq (.bool s)).P (vs 1) wj := hd 1 (by decide)
      have d4 : (Jo.Fact.rd M.toNat 2).P (vs 4) wj := hd 4 (by decide)
      clear hd
      simp only [Jo.putl, List.foldl_cons, List.foldl_nil, Act.put, List.setIfInBounds_toArray, List.set_cons_zero, List.set_cons_succ] at hK ⊢
      generalize vs 1 = u1 at hK d1 ⊢
      generalize vs 4 = u4 at hK d4 ⊢
      replace d1 : u1 = _ := d1
      subst d1
      obtain ⟨A3, n3, c3, rfl, p3, k3⟩ := d4
      go_simp
      refine (qMake s p3).mono ?_
      rintro ee wk ⟨s4, A4, n4, c4, rfl, p4, k4, B⟩
      exact hK.out _ _ ⟨s4, A4, n4, c4, rfl, HS.out ▸ p4, by omega⟩ B
    refine Jo.jcons (i := 6) (o := ⟨some 25, _, _, _, _, _⟩) (di := some 25) (L := []) (f := Jo.Fact.eq (.pointer (some ⟨w.heap.size, 3, none⟩))) rfl rfl rfl rfl (fun vs wj hJ hd K hK => ?_) ?_
    · clear hd
      simp only [Jo.putl, List.foldl_nil, Act.put, List.setIfInBounds_toArray, List.set_cons_zero, List.set_cons_succ] at hK ⊢
      go_simp
      exact hK.out _ _ rfl (Below.refl _ _)
    refine Jo.jcons (i := 7) (o := ⟨some 26, _, _, _, _, _⟩) (di := some 26) (L := [(some 25, 6)]) (f := Jo.Fact.eq (.int .i64 E)) rfl rfl rfl rfl (fun vs wj hJ hd K hK => ?_) ?_
    · have d6 : (Jo.Fact.eq (.pointer (some ⟨w.heap.size, 3, none⟩))).P (vs 6) wj := hd 6 (by decide)
      clear hd
      simp only [Jo.putl, List.foldl_cons, List.foldl_nil, Act.put, List.setIfInBounds_toArray, List.set_cons_zero, List.set_cons_succ] at hK ⊢
      generalize vs 6 = u6 at hK d6 ⊢
      replace d6 : u6 = _ := d6
      subst d6
      have xX10 : World.cell? wj ⟨w.heap.size, 0, none⟩ = some (.int .i64 D) := (X1.below hJ).cell 0
      have xX11 : World.cell? wj ⟨w.heap.size, 1, none⟩ = some (.bool s) := (X1.below hJ).cell 1
      have xX12 : World.cell? wj ⟨w.heap.size, 2, none⟩ = some (.int .u64 M) := (X1.below hJ).cell 2
      have xX13 : World.cell? wj ⟨w.heap.size, 3, none⟩ = some (.int .i64 E) := (X1.below hJ).cell 3
      go_simp
      exact hK.out _ _ rfl (Below.refl _ _)
    refine Jo.jcons (i := 8) (o := ⟨some 27, _, _, _, _, _⟩) (di := some 27) (L := [(some 24, 5), (some 26, 7)]) (f := Jo.Fact.dy N F 2) rfl rfl rfl rfl (fun vs wj hJ hd K hK => ?_) ?_
    · have d5 : (Jo.Fact.wn (sgi s M) 2).P (vs 5) wj := hd 5 (by decide)
      have d7 : (Jo.Fact.eq (.int .i64 E)).P (vs 7) wj := hd 7 (by decide)
      clear hd
      simp only [Jo.putl, List.foldl_cons, List.foldl_nil, Act.put, List.setIfInBounds_toArray, List.set_cons_zero, List.set_cons_succ] at hK ⊢
      generalize vs 5 = u5 at hK d5 ⊢
      generalize vs 7 = u7 at hK d7 ⊢
      obtain ⟨s4, A4, n4, c4, rfl, p4, k4⟩ := d5
      replace d7 : u7 = _ := d7
      subst d7
      go_simp
      refine (q3Make p4.wr (by omega) HN.out HE.out).mono ?_
      rintro ee wk ⟨s5, A5, n5, c5, rfl, p5, k5, B⟩
      exact hK.out _ _ ⟨s5, A5, n5, c5, rfl, p5, by omega⟩ B
    exact Jo.Steps.nil
  have d0 : (Jo.Fact.eq (.pointer (some ⟨w.heap.size, 1, none⟩))).P (vs 0) w3 := hd 0 (by decide)
  have d1 : (Jo.Fact.eq (.bool s)).P (vs 1) w3 := hd 1 (by decide)
  have d2 : (Jo.Fact.eq (.pointer (some ⟨w.heap.size, 2, none⟩))).P (vs 2) w3 := hd 2 (by decide)
  have d3 : (Jo.Fact.eq (.int .u64 M)).P (vs 3) w3 := hd 3 (by decide)
  have d4 : (Jo.Fact.rd M.toNat 2).P (vs 4) w3 := hd 4 (by decide)
  have d5 : (Jo.Fact.wn (sgi s M) 2).P (vs 5) w3 := hd 5 (by decide)
  have d6 : (Jo.Fact.eq (.pointer (some ⟨w.heap.size, 3, none⟩))).P (vs 6) w3 := hd 6 (by decide)
  have d7 : (Jo.Fact.eq (.int .i64 E)).P (vs 7) w3 := hd 7 (by decide)
  have d8 : (Jo.Fact.dy N F 2).P (vs 8) w3 := hd 8 (by decide)
  clear hd
  simp only [Jo.putl, List.foldl_cons, List.foldl_nil, Act.put, List.setIfInBounds_toArray, List.set_cons_zero, List.set_cons_succ]
  generalize vs 0 = u0 at d0 ⊢
  generalize vs 1 = u1 at d1 ⊢
  generalize vs 2 = u2 at d2 ⊢
  generalize vs 3 = u3 at d3 ⊢
  generalize vs 4 = u4 at d4 ⊢
  generalize vs 5 = u5 at d5 ⊢
  generalize vs 6 = u6 at d6 ⊢
  generalize vs 7 = u7 at d7 ⊢
  generalize vs 8 = u8 at d8 ⊢
  clear vs
  replace d0 : u0 = _ := d0
  subst d0
  replace d1 : u1 = _ := d1
  subst d1
  replace d2 : u2 = _ := d2
  subst d2
  replace d3 : u3 = _ := d3
  subst d3
  obtain ⟨A3, n3, c3, rfl, _, _⟩ := d4
  obtain ⟨s4, A4, n4, c4, rfl, _, _⟩ := d5
  replace d6 : u6 = _ := d6
  subst d6
  replace d7 : u7 = _ := d7
  subst d7
  obtain ⟨s5, A5, n5, c5, rfl, p5, k5⟩ := d8
  replace X1 := X1.below hJ
  replace XR := XR.below hJ
  replace HB := Lib.hid (bt HB.out hJ)
  have xXR0 := XR.at (i := 0) (v := .bool false) rfl
  have zXR0 := XR.frozen 0
  have xXR1 := XR.at (i := 1) (v := .slice none 0 0) rfl
  have zXR1 := XR.frozen 1
  have xXR2 := XR.at (i := 2) (v := .int .i64 0) rfl
  have zXR2 := XR.frozen 2
  refine Jo.jnext (i := 9) (o := ⟨none, _, _, _, _, _⟩) (by kernel_rfl) rfl (fun K hK => ?_)
  go_simp
  refine hK.out _ _ ?_
  clear hK K xXR0 zXR0 xXR1 zXR1 xXR2 zXR2
  have SX := StN.mk3 XR (.bool s5) (.slice A5 n5 c5) (.int .i64 F)
  replace X1 := X1.stn SX (by omega)
  replace p5 := p5.stn SX (by simp [no32])
  replace HB := Lib.hid (SX.below HB.out (by omega))
  replace XR := SX.box
  clear SX
  generalize (World.setCell (World.setCell (World.setCell w3 ⟨w.heap.size + 1, 0, none⟩ (.bool s5)) ⟨w.heap.size + 1, 1, none⟩ (.slice A5 n5 c5)) ⟨w.heap.size + 1, 2, none⟩ (.int .i64 F)) = w4 at *
  refine Jo.jnext (i := 10) (o := ⟨some 3, _, _, _, _, _⟩) (by kernel_rfl) rfl (fun K hK => ?_)
  go_simp
  refine hK.out _ _ ?_
  clear hK K
  refine Jo.jdone (by kernel_rfl) ?_
  go_wp2
  have r0 := XR.cell 0
  have r1 := XR.cell 1
  have r2 := XR.cell 2
  exact bodyPost_ret (v := .tuple #[.agg #[.bool s5, .slice A5 n5 c5, .int .i64 F], .bool true]) (by simp [results, Tryd.results41, go_sem, r0, r1, r2]) rfl ⟨_, _, _, _, rfl, p5, k5, HB.out⟩
theorem yExact0 {w : World} {t : Bool} {D M E : Int} {s : Bool} {N F : Int} (h0 : 0 ≤ M) (hM : M < 18446744073709551616) (hq : exb D s M E = t) (hN : (exq D s M E).1 = N) (hE : (exq D s M E).2 = F) : Calls Tryd.prog 41 #[.agg #[.int .i64 D, .bool s, .int .u64 M, .int .i64 E]] w (PDB w N F t) := by
  unfold exq at hN hE
  rw [hq] at hN hE
  unfold exb at hq
  cases hm : decide (MayQ D s M E)
  · rw [hm, Bool.false_and] at hq
    subst hq
    subst hN
    subst hE
    exact yexact_a hm
  · rw [hm, Bool.true_and] at hq
    by_cases hd : D = 2
    · have e : (D == 2) = true := by simpa using hd
      rw [e] at hq
      subst hq
      subst hN
      subst hE
      exact yexact_b hm hd
    · have e : (D == 2) = false := by simpa using hd
      rw [e] at hq
      obtain rfl : true = t := hq
      rw [if_pos rfl] at hN hE
      by_cases hz : D = 0
      · subst hz
        have e1 : s = false ∧ M = 0 ∧ E = 0 := by
          have := of_decide_eq_true hm
          unfold MayQ at this
          simpa using this
        obtain ⟨rfl, rfl, rfl⟩ := e1
        have e2 : mk (sgi false 0) 0 = (0, 0) := mk_zero 0
        rw [e2] at hN hE
        subst hN
        subst hE
        exact yexact_z hm
      · exact yexact_m h0 hM hm hd hz hN hE
end Go.Proofs.YtbhnpmkdmnnclaaDoor

/-
  Contracts and words that the statement's proof rests on, several texts in one: If, Ik.
-/
import Derived.Below
import Derived.BigCall
import Derived.BigGuard
import Derived.BigQuiet
import Derived.Carry
import Derived.Deep.DeepCutAuto
import Derived.Deep.Draws
import Derived.Deep.MidRow
import Derived.Deep.QuietTactic
import Derived.Deep.RegionHeld3
import Derived.Deep.RegionWith
import Derived.IntWalk
import Derived.Laws.AppendOwn
import Derived.Laws.Bits64b
import Derived.Laws.CopyOwn
import Derived.Laws.Externs
import Derived.Laws.MakeOwn
import Derived.Laws.OwnMore
import Derived.Laws.RangeAny
import Derived.Laws.Rows
import Derived.Lib.AppendIntMem
import Derived.Lib.Atoi
import Derived.Lib.AtoiErrMem
import Derived.Lib.BitFns
import Derived.Lib.FrozenHead2
import Derived.Lib.Hide
import Derived.Lib.ItoaMem
import Derived.Lib.ItoaNum
import Derived.Lib.Mul64
import Derived.Lib.OthersKept
import Derived.Lib.Repeat
import Derived.Lib.Strings
import Derived.Lib.TrailingZeros
import Derived.Lib.TrimByte
import Derived.Lib.UnsafeStr
import Derived.Maps.AppendAt
import Derived.RegionTactic
import Derived.StillTailTactics
import Derived.Test.YtpmakljahhhnfaaDoorRows
import Derived.WalkKit
import Derived.WalkLawsBesides
import Derived.WalkMore
import Derived.WalkSpells
import Derived.Test.YtpmakljahhhnfaaDoorYAac
import Derived.Test.YtpmakljahhhnfaaDoorYAaf
import Derived.Test.YtpmakljahhhnfaaDoorYAag
import Derived.Test.YtpmakljahhhnfaaDoorYAah
import Derived.Test.YtpmakljahhhnfaaDoorYAaj
import Derived.Test.YtpmakljahhhnfaaDoorYAal
import Derived.Test.YtpmakljahhhnfaaDoorYAan
import Derived.Test.YtpmakljahhhnfaaDoorYAat
import Derived.Test.YtpmakljahhhnfaaDoorYAav
import Derived.Test.YtpmakljahhhnfaaDoorYAaw
import Derived.Test.YtpmakljahhhnfaaDoorYAax
import Derived.Test.YtpmakljahhhnfaaDoorYAbc
import Derived.Test.YtpmakljahhhnfaaDoorYAbd
import Derived.Test.YtpmakljahhhnfaaDoorYAbe
/-
  What the document's From of layer 7 does.
-/
namespace Go.Proofs.YtpmakljahhhnfaaDoor
open Go.RowKit
set_option linter.unusedVariables false
set_option linter.unusedSimpArgs false
set_option maxRecDepth 100000

/-- The place of a decimal number. -/
def Fm (up : Bool) (may : Bool) (z t r : Int) : Prop := if may = false then r = 0 else if 0 ≤ t then Rq up (z * ((10 ^ t.toNat : Nat) : Int)) 1 r else Rq up z ((10 ^ (-t).toNat : Nat) : Int) r
theorem fm_no {up : Bool} {z t r : Int} : Fm up false z t r ↔ r = 0 := by
  unfold Fm
  rw [if_pos rfl]
theorem fm_up {up : Bool} {z t r : Int} (h : 0 ≤ t) : Fm up true z t r ↔ Rq up (z * ((10 ^ t.toNat : Nat) : Int)) 1 r := by
  unfold Fm
  rw [if_neg (by decide), if_pos h]
theorem fm_dn {up : Bool} {z t r : Int} (h : ¬ 0 ≤ t) : Fm up true z t r ↔ Rq up z ((10 ^ (-t).toNat : Nat) : Int) r := by
  unfold Fm
  rw [if_neg (by decide), if_neg h]
theorem fm_tens {s : Bool} {n a : Nat} {t : Int} (h : mayC s n a t = true) : -400 ≤ t ∧ t ≤ 400 := by
  unfold mayC at h
  by_cases h0 : n = 0
  · rw [if_pos h0] at h
    simp at h
    omega
  · rw [if_neg h0] at h
    simp at h
    omega
end Go.Proofs.YtpmakljahhhnfaaDoor

/-
  What the examples of layer 7 rest on: a third, a half, the root of four. Plain arithmetic; no Go text.
-/
namespace Go.Proofs.YtpmakljahhhnfaaDoor
open Go.RowKit
set_option linter.unusedVariables false

theorem opl_fz {n : Int} (h0 : n ≠ 0) (h1 : -9223372036854775808 ≤ n) (h2 : n ≤ 9223372036854775807) : Fz (opl n) 1600 := by
  have q := of_fq h0 h1 h2
  have hb := blen_mono_le (n := n.natAbs) (k := 64) (by omega)
  have hf : fewq 1 (-(64 - (blen n.natAbs : Int))) = true := by
    unfold fewq
    rw [decide_eq_true (show -1500 ≤ -(64 - (blen n.natAbs : Int)) by omega), decide_eq_true (show -(64 - (blen n.natAbs : Int)) ≤ 1500 by omega)]
    rfl
  have := few_fz (s := decide (n < 0)) q.top hf
  rw [q.rk] at this
  exact this
theorem fz_fit {x : Int} {h : Nat} (f : Fz x h) (hi : infp x = false) : Fit h (ep x) := by
  rcases f with f | f
  · rw [hi] at f; cases f
  · exact f
theorem pow_three : ∀ k : Nat, (2 : Int) ^ k % 3 ≠ 0
  | 0 => by decide
  | k + 1 => by
    have := pow_three k
    rw [Int.pow_succ]
    omega
def qtr : Int := 9670807037734637837221889
theorem fq_qtr : Fq 1 false 9223372036854775808 (-65) qtr := Fq.fin (by decide) (by decide) (by decide) (by decide) (by decide)
theorem qtr_vr : vr qtr * 4 = 2 ^ KK := by
  have hk := KK_eq
  obtain ⟨_, _, _, _, _, _, _, hv, _⟩ := fq_vr fq_qtr
  rw [hv, wsg_f, show (9223372036854775808 : Int) = 2 ^ 63 by decide, show (4 : Int) = 2 ^ 2 by decide, ← Int.pow_add, ← Int.pow_add]
  congr 1
theorem fin_one {D : Int} {s : Bool} {M E r : Int} (q : Fq D s M E r) (h0 : 0 < r) (h1 : r < 19342822337206103650074625) : D = 1 := by
  rcases q.cases with ⟨_, _, _, _, h⟩ | ⟨h, _⟩ | ⟨_, _, _, ⟨_, h⟩ | ⟨_, h⟩⟩
  · omega
  · exact h
  · omega
  · omega
/-- A third is none of the numbers, so both sides are neighbours, above nought. -/
theorem third : ∃ l h, Qt false (opl 1) (opl 3) l ∧ Qt true (opl 1) (opl 3) h ∧ nx true l = h ∧ 0 < l ∧ l < 19342822337206103650074625 := by
  have htp := TP_eq
  obtain ⟨l, hl⟩ := qt_ex false (opl 1) (opl 3)
  obtain ⟨h, hh⟩ := qt_ex true (opl 1) (opl 3)
  obtain ⟨a1, a2⟩ := opl_pos (n := 1) (by decide) (by decide)
  obtain ⟨b1, b2⟩ := opl_pos (n := 3) (by decide) (by decide)
  have va := opl_vr (n := 1) (by decide) (by decide)
  have vb := opl_vr (n := 3) (by decide) (by decide)
  have ia := infp_fin (show -19342822337206103650074625 < opl 1 by omega) a2
  have ib := infp_fin (show -19342822337206103650074625 < opl 3 by omega) b2
  have fa := fz_fit (opl_fz (n := 1) (by decide) (by decide) (by decide)) ia
  have fb := fz_fit (opl_fz (n := 3) (by decide) (by decide) (by decide)) ib
  obtain ⟨c1, c2, c3, c4, c5, c6, c7⟩ := qt_holds (by omega) a2 b1 b2 fa fb hl hh
  rw [va, vb] at c5 c6
  have hz := p2pos KK
  have hne : h ≠ l := by
    intro e
    rw [e] at c6
    have e1 : vr l * (3 * 2 ^ KK) = 1 * 2 ^ KK * 2 ^ KK := by omega
    have e2 : vr l * 3 = 2 ^ KK := by
      refine Int.eq_of_mul_eq_mul_right (Int.ne_of_gt hz) ?_
      rw [Int.mul_assoc, e1, Int.one_mul]
    have := pow_three KK
    omega
  have el : h = l + 1 := by omega
  have hn : ¬ (opl 1 = 0 ∨ infp (opl 3) = true) := by
    rw [ib]
    rintro (c | c)
    · omega
    · cases c
  have sl := (qt_fin (by omega) hn ia).1 hl
  rw [decide_eq_false (show ¬ opl 3 < 0 by omega), wsg_f, wsg_f, va, vb] at sl
  have sq : Sid false (vr qtr) 1 qtr := sid_exact (by decide) (by decide) (by decide) (Int.mul_one _)
  have hq := qtr_vr
  have hlow := sq.mono (by decide) (show (0 : Int) < 3 * 2 ^ KK by omega) sl (by
    rw [Int.mul_one, Int.one_mul, ← Int.mul_assoc]
    refine Int.mul_le_mul_of_nonneg_right ?_ (Int.le_of_lt hz)
    omega)
  have hqp : 0 < qtr := by decide
  refine ⟨l, h, hl, hh, ?_, by omega, c2⟩
  unfold nx
  rw [if_pos rfl]
  omega
theorem root_four : Ro true (opl 4) (opl 2) true := by
  obtain ⟨a1, a2⟩ := opl_pos (n := 4) (by decide) (by decide)
  have ia := infp_fin (show -19342822337206103650074625 < opl 4 by omega) a2
  refine (ro_fin (by omega) ?_).2 ⟨?_, rfl⟩
  · rw [ia]
    rintro (c | c)
    · omega
    · cases c
  · have := rt_square (up := true) (n := 2) (by decide) (by decide)
    rw [show (2 : Int) * 2 = 4 by decide] at this
    exact this
theorem limbs_five : limbs 5 = [5] := by
  rw [limbs_pos (by decide), show (5 : Nat) / 4294967296 = 0 by decide, limbs_zero]
theorem may_half : mayC false 1 5 (-1) = true := by
  unfold mayC mayB
  rw [limbs_five]
  decide
theorem from_half : Fm false true 5 (-1) hlf := by
  refine (fm_dn (by decide)).2 ?_
  rw [show (-(-1 : Int)).toNat = 1 by decide, show ((10 ^ 1 : Nat) : Int) = 10 by decide]
  refine (rq_some (by decide)).2 ?_
  rw [decide_eq_false (by decide), wsg_f, wsg_f]
  have h := hlf_vr
  refine sid_exact (by decide) (by decide) (by decide) ?_
  omega
theorem half_one : mulp true (opl 1) hlf = hlf := by
  rw [mulp_comm]
  exact mulp_one true (by decide) (by decide)
end Go.Proofs.YtpmakljahhhnfaaDoor

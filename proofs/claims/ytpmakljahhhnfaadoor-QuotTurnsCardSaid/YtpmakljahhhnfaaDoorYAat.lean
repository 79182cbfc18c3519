/-
  Contracts and words that the statement's proof rests on, several texts in one: Kq, Gm, Gn, Gq, Gr, Ha, Hb, Ga, Kk, Mq.
-/
import Derived.Below
import Derived.BigQuiet
import Derived.Carry
import Derived.Deep.DeepCutAuto
import Derived.Deep.Draws
import Derived.Deep.MidRow
import Derived.Deep.QuietTactic
import Derived.Deep.RegionHeld3
import Derived.Deep.RegionWith
import Derived.IntWalk
import Derived.Laws.CopyOwn
import Derived.Laws.MakeOwn
import Derived.Laws.OwnMore
import Derived.Laws.Rows
import Derived.Lib.BitFns
import Derived.Lib.Hide
import Derived.Maps.AppendAt
import Derived.StillTailTactics
import Derived.Test.YtpmakljahhhnfaaDoorRows
import Derived.WalkKit
import Derived.WalkLawsBesides
import Derived.WalkSpells
import Derived.Test.YtpmakljahhhnfaaDoorYAaf
import Derived.Test.YtpmakljahhhnfaaDoorYAag
import Derived.Test.YtpmakljahhhnfaaDoorYAah
import Derived.Test.YtpmakljahhhnfaaDoorYAaj
import Derived.Test.YtpmakljahhhnfaaDoorYAal
import Derived.Test.YtpmakljahhhnfaaDoorYAan
import Derived.Test.YtpmakljahhhnfaaDoorYAao
import Derived.Test.YtpmakljahhhnfaaDoorYAaq
import Derived.Test.YtpmakljahhhnfaaDoorYAar
import Derived.Test.YtpmakljahhhnfaaDoorYAas
/-
  What any dyadic number in normal form is rounded to, however great or small: how it lies beside its neighbours; of a greater one no lesser one. Plain arithmetic; no Go text.
-/
namespace Go.Proofs.YtpmakljahhhnfaaDoor
open Go.RowKit
set_option linter.unusedVariables false

/-- The place of the least number above, and of the greatest below, by the worth alone. -/
def Dn (X r : Int) : Prop := -19342822337206103650074625 ≤ r ∧ r ≤ 19342822337206103650074624 ∧ (-19342822337206103650074625 < r → vr r ≤ X) ∧ (r < 19342822337206103650074624 → X < vr (r + 1))
def Up (X r : Int) : Prop := Dn (-X) (-r)
theorem Dn.mono {X Y r t : Int} (h : Dn X r) (k : Dn Y t) (hXY : X ≤ Y) : r ≤ t := by
  obtain ⟨h1, h2, h3, h4⟩ := h
  obtain ⟨k1, k2, k3, k4⟩ := k
  rcases Int.lt_or_le t r with q | q
  · exfalso
    have a := h3 (by omega)
    have b := k4 (by omega)
    rcases Int.lt_or_eq_of_le (show t + 1 ≤ r by omega) with q | q
    · have := vr_lt q
      omega
    · rw [q] at b
      omega
  · exact q
theorem Dn.uniq {X r t : Int} (h : Dn X r) (k : Dn X t) : r = t := by
  have a := h.mono k (Int.le_refl _)
  have b := k.mono h (Int.le_refl _)
  omega
theorem Up.mono {X Y r t : Int} (h : Up X r) (k : Up Y t) (hXY : X ≤ Y) : r ≤ t := by
  have := Dn.mono k h (by omega)
  omega
theorem Up.uniq {X r t : Int} (h : Up X r) (k : Up X t) : r = t := by
  have := Dn.uniq h k
  omega
/-- A place's own worth is told by it, to either side. -/
theorem dn_self {r : Int} (h1 : -19342822337206103650074625 < r) (h2 : r < 19342822337206103650074625) : Dn (vr r) r := ⟨by omega, by omega, fun _ => Int.le_refl _, fun _ => vr_succ r⟩
theorem up_self {r : Int} (h1 : -19342822337206103650074625 < r) (h2 : r < 19342822337206103650074625) : Up (vr r) r := by
  unfold Up
  rw [← vr_neg]
  exact dn_self (by omega) (by omega)
theorem m_lt (m : Nat) {a b : Int} (ha : 0 ≤ a) (hb : 0 ≤ b) (h : (blen m : Int) + a ≤ b) : (m : Int) * 2 ^ a.toNat < 2 ^ b.toNat := by
  have h1 := Nat.mul_lt_mul_of_pos_right (blen_lt m) (Nat.pow_pos (n := a.toNat) (show 0 < 2 by decide))
  rw [← Nat.pow_add] at h1
  have h2 := Nat.lt_of_lt_of_le h1 (Nat.pow_le_pow_right (show 0 < 2 by decide) (show blen m + a.toNat ≤ b.toNat by omega))
  exact_mod_cast h2
theorem m_ge {m : Nat} (h0 : m ≠ 0) {a b : Int} (ha : 0 ≤ a) (hb : 0 ≤ b) (h : b ≤ (blen m : Int) - 1 + a) : (2 : Int) ^ b.toNat ≤ (m : Int) * 2 ^ a.toNat := by
  have hl : blen m ≠ 0 := fun e => h0 (blen_eq_zero.1 e)
  have h1 := Nat.mul_le_mul_right (2 ^ a.toNat) (blen_le h0)
  rw [← Nat.pow_add] at h1
  have h2 := Nat.le_trans (Nat.pow_le_pow_right (show 0 < 2 by decide) (show b.toNat ≤ blen m - 1 + a.toNat by omega)) h1
  exact_mod_cast h2
theorem vp_one : vp 1 = 2 ^ (63 - 1048576 + (KK : Int)).toNat := by
  have := vp_fin (M := 9223372036854775808) (E := -1048576) (by decide) (by decide) (by decide)
  rw [show (9223372036854775808 : Int) - 9223372036854775808 + 1 + (-1048576 + 1048576) * 9223372036854775808 = 1 by decide] at this
  rw [this, show (63 - 1048576 + (KK : Int)).toNat = 63 + (-1048576 + (KK : Int)).toNat by rw [KK_eq]; omega, Int.pow_add]
  rfl
theorem vp_top : vp 19342822337206103650074624 < 2 ^ (64 + 1048576 + (KK : Int)).toNat := by
  have := vp_fin (M := 18446744073709551615) (E := 1048576) (by decide) (by decide) (by decide)
  rw [show (18446744073709551615 : Int) - 9223372036854775808 + 1 + (1048576 + 1048576) * 9223372036854775808 = 19342822337206103650074624 by decide] at this
  rw [this, show (64 + 1048576 + (KK : Int)).toNat = 64 + (1048576 + (KK : Int)).toNat by rw [KK_eq]; omega, Int.pow_add]
  exact Int.mul_lt_mul_of_pos_right (by decide) (p2pos _)
/-- A number above nought between what is next to it on both sides. -/
theorem lo_dn {m : Nat} {E : Int} (h0 : m ≠ 0) (hE1 : -4194304 ≤ E) (hE2 : E ≤ 4194304) (ho : m % 2 = 1) : Dn ((m : Int) * 2 ^ (E + KK).toNat) (lo m E) ∧ Up ((m : Int) * 2 ^ (E + KK).toNat) (hi m E) ∧ 0 ≤ lo m E ∧ 0 ≤ hi m E := by
  have hk := KK_eq
  obtain ⟨b1, b2⟩ := lo_bd m E
  have hl : blen m ≠ 0 := fun e => h0 (blen_eq_zero.1 e)
  have hx : xp m E = E + (blen m : Nat) - 64 := rfl
  have e0 : (m == 0) = false := by simpa using h0
  have hpos : 0 < (m : Int) * 2 ^ (E + KK).toNat := Int.mul_pos (by omega) (p2pos _)
  by_cases c1 : 1048576 < xp m E
  · have el : lo m E = 19342822337206103650074624 := by
      unfold lo
      rw [if_neg h0, if_pos c1]
    have ex : ext m E = false := by
      unfold ext
      rw [e0, decide_eq_false (show ¬ xp m E ≤ 1048576 by omega)]
      rfl
    have eh : hi m E = lo m E + 1 := by
      unfold hi
      rw [ex, if_neg (by decide)]
    have g := m_ge h0 (a := E + KK) (b := 64 + 1048576 + KK) (by omega) (by omega) (by omega)
    have ht := vp_top
    have ev : vr 19342822337206103650074624 = vp 19342822337206103650074624 := by
      unfold vr
      rw [if_neg (by decide)]
    rw [eh, el]
    refine ⟨⟨by decide, by decide, fun _ => by omega, fun h => absurd h (by decide)⟩, ⟨by decide, by decide, fun h => absurd h (by decide), fun _ => ?_⟩, by decide, by decide⟩
    have en : vr (-(19342822337206103650074624 + 1) + 1) = -vr 19342822337206103650074624 := vr_neg 19342822337206103650074624
    omega
  · by_cases c2 : xp m E < -1048576
    · have el : lo m E = 0 := by
        unfold lo
        rw [if_neg h0, if_neg c1, if_pos c2]
      have ex : ext m E = false := by
        unfold ext
        rw [e0, decide_eq_false (show ¬ -1048576 ≤ xp m E by omega)]
        simp
      have eh : hi m E = lo m E + 1 := by
        unfold hi
        rw [ex, if_neg (by decide)]
      have g := m_lt m (a := E + KK) (b := 63 - 1048576 + KK) (by omega) (by omega) (by omega)
      have h1 := vp_one
      have ev : vr 1 = vp 1 := by
        unfold vr
        rw [if_neg (by decide)]
      have ez : vr 0 = 0 := rfl
      rw [eh, el]
      have en : vr (-(0 + 1)) = -vr 1 := vr_neg 1
      refine ⟨⟨by decide, by decide, fun _ => by omega, fun _ => ?_⟩, ⟨by decide, by decide, fun _ => by omega, fun _ => ?_⟩, by decide, by decide⟩
      · rw [show (0 : Int) + 1 = 1 from rfl]
        omega
      · rw [show (-(0 + 1) + 1 : Int) = 0 from rfl]
        omega
    · obtain ⟨v1, v2, v3, v4⟩ := lo_vr (m := m) (E := E) h0 (by omega) (by omega) (by omega) ho
      revert v1 v2 v3 v4
      have hh : hi m E = if ext m E = true then lo m E else lo m E + 1 := rfl
      cases hx : ext m E
      · rw [hx, if_neg (by decide)] at hh
        rw [hh]
        revert b1 b2
        generalize lo m E = l
        intro b1 b2 v1 v2 v3 v4
        have v5 := v4 rfl
        have n1 := vr_neg (l + 1)
        have n2 := vr_neg l
        refine ⟨⟨by omega, by omega, fun _ => v1, fun _ => v2⟩, ⟨by omega, by omega, fun _ => by omega, fun _ => ?_⟩, b1, by omega⟩
        rw [show -(l + 1) + 1 = -l by omega]
        omega
      · rw [hx, if_pos rfl] at hh
        rw [hh]
        revert b1 b2
        generalize lo m E = l
        intro b1 b2 v1 v2 v3 v4
        have v5 := v3 rfl
        have n1 := vr_neg l
        have n2 := vr_succ (-l)
        refine ⟨⟨by omega, by omega, fun _ => v1, fun _ => v2⟩, ⟨by omega, by omega, fun _ => by omega, fun _ => by omega⟩, b1, b1⟩
theorem up_of_dn {X r : Int} (h : Dn X r) : Up (-X) (-r) := by
  unfold Up
  rw [Int.neg_neg, Int.neg_neg]
  exact h
theorem dn_of_up {X r : Int} (h : Up X r) : Dn (-X) (-r) := h
/-- Rounding is told by the worth alone. -/
theorem rnd_spec {P : Int × Int} (hP : Nf P) : Dn (vl P) (rnd false P.1 P.2) ∧ Up (vl P) (rnd true P.1 P.2) := by
  rcases hP.cases with e | ⟨h0, ho, e1, e2⟩
  · subst e
    rw [rnd_nought, rnd_nought, vl_zero]
    have h := dn_self (r := 0) (by decide) (by decide)
    have k := up_self (r := 0) (by decide) (by decide)
    rw [show vr 0 = 0 from rfl] at h k
    exact ⟨h, k⟩
  · obtain ⟨d, u, _, _⟩ := lo_dn (m := P.1.natAbs) (E := P.2) (by omega) e1 e2 ho
    have hvl : vl P = P.1 * 2 ^ (P.2 + KK).toNat := rfl
    rcases Int.lt_or_lt_of_ne h0 with hn | hp
    · have hs : true = decide (P.1 < 0) := (decide_eq_true hn).symm
      have r1 := rnd_diff (E := P.2) hs
      have r2 := rnd_same (up := true) (E := P.2) hs rfl
      rw [show (!true) = false from rfl] at r1
      have ev : vl P = -((P.1.natAbs : Int) * 2 ^ (P.2 + KK).toNat) := by
        rw [hvl, ← Int.neg_mul]
        congr 1
        omega
      have s1 : ∀ x, sgi true x = -x := fun x => if_pos rfl
      rw [r1, r2, ev, s1, s1]
      exact ⟨dn_of_up u, up_of_dn d⟩
    · have hs : false = decide (P.1 < 0) := (decide_eq_false (by omega)).symm
      have r1 := rnd_same (up := false) (E := P.2) hs rfl
      have r2 := rnd_diff (E := P.2) hs
      rw [show (!false) = true from rfl] at r2
      have ev : vl P = (P.1.natAbs : Int) * 2 ^ (P.2 + KK).toNat := by
        rw [hvl]
        congr 1
        omega
      have s1 : ∀ x, sgi false x = x := fun x => if_neg (by decide)
      rw [r1, r2, ev, s1, s1]
      exact ⟨d, u⟩
theorem rnd_monoA {P Q : Int × Int} (hP : Nf P) (hQ : Nf Q) (h : vl P ≤ vl Q) (up : Bool) : rnd up P.1 P.2 ≤ rnd up Q.1 Q.2 := by
  cases up
  · exact (rnd_spec hP).1.mono (rnd_spec hQ).1 h
  · exact (rnd_spec hP).2.mono (rnd_spec hQ).2 h
/-- What is rounded down is not above what is rounded up, and of the opposite both are turned. -/
theorem rnd_turn {P : Int × Int} (hP : Nf P) (up : Bool) : rnd (!up) (-P.1) P.2 = -rnd up P.1 P.2 := by
  have hn : Nf (ng P) := ng_nf hP
  have hv := vl_ng P
  obtain ⟨a, b⟩ := rnd_spec hP
  obtain ⟨c, d⟩ := rnd_spec hn
  rw [hv] at c d
  cases up
  · have := d.uniq (up_of_dn a)
    exact this
  · have := c.uniq (dn_of_up b)
    exact this
end Go.Proofs.YtpmakljahhhnfaaDoor

/-
  Sums and products of numbers, rounded to either side, told of their places. Plain arithmetic; no Go text.
-/
namespace Go.Proofs.YtpmakljahhhnfaaDoor
open Go.RowKit
set_option linter.unusedVariables false

/-- The dyadic number that a finite place is. -/
def ep (r : Int) : Int × Int := if r = 0 then (0, 0) else mk (sgi (decide (r < 0)) (((r.natAbs : Int) - 1) % 9223372036854775808 + 9223372036854775808)) (((r.natAbs : Int) - 1) / 9223372036854775808 - 1048576)
theorem exq_ep {D : Int} {s : Bool} {M E r : Int} (q : Fq D s M E r) (hx : exb D s M E = true) : exq D s M E = ep r := by
  unfold exq ep
  rw [if_pos hx]
  rcases q.cases with ⟨rfl, rfl, rfl, rfl, h0⟩ | ⟨rfl, h1, h2, h3, h4, ⟨rfl, h5⟩ | ⟨rfl, h5⟩⟩ | ⟨rfl, _⟩
  · rw [if_pos h0, show sgi false 0 = 0 from if_neg (by decide)]
    exact mk_zero 0
  · rw [if_neg (by omega), decide_eq_false (show ¬ r < 0 by omega)]
    congr 2
    · omega
    · omega
  · rw [if_neg (by omega), decide_eq_true (show r < 0 by omega)]
    congr 2
    · omega
    · omega
  · exact absurd hx (by unfold exb; simp)
theorem ep_nf (r : Int) : Nf (ep r) := by
  unfold ep
  split
  · exact mk_zero 0
  · exact mk_nf _ _
theorem fq_of {r : Int} (h1 : -19342822337206103650074625 < r) (h2 : r < 19342822337206103650074625) : ∃ D s M E, Fq D s M E r := by
  by_cases h0 : r = 0
  · exact ⟨0, false, 0, 0, h0 ▸ Fq.nought⟩
  · by_cases hn : r < 0
    · refine ⟨1, true, ((r.natAbs : Int) - 1) % 9223372036854775808 + 9223372036854775808, ((r.natAbs : Int) - 1) / 9223372036854775808 - 1048576, Fq.fin (by omega) (by omega) (by omega) (by omega) ?_⟩
      rw [show ∀ x, sgi true x = -x from fun x => if_pos rfl]
      omega
    · refine ⟨1, false, ((r.natAbs : Int) - 1) % 9223372036854775808 + 9223372036854775808, ((r.natAbs : Int) - 1) / 9223372036854775808 - 1048576, Fq.fin (by omega) (by omega) (by omega) (by omega) ?_⟩
      rw [show ∀ x, sgi false x = x from fun x => if_neg (by decide)]
      omega
theorem ep_vl {r : Int} (h1 : -19342822337206103650074625 < r) (h2 : r < 19342822337206103650074625) : vl (ep r) = vr r := by
  obtain ⟨D, s, M, E, q⟩ := fq_of h1 h2
  obtain ⟨a, b⟩ := exq_vl q h1 h2
  rw [← exq_ep q a, b]
/-- So far as exponents go. -/
theorem ep_fit (r : Int) (h1 : -19342822337206103650074625 < r) (h2 : r < 19342822337206103650074625) {h : Nat} (hh : 1048700 ≤ h) (hh2 : h ≤ 4194304) : Fit h (ep r) := by
  unfold ep
  by_cases h0 : r = 0
  · rw [if_pos h0]
    exact Fit.zero h
  · rw [if_neg h0]
    obtain ⟨M, hM⟩ : ∃ M, ((r.natAbs : Int) - 1) % 9223372036854775808 + 9223372036854775808 = M := ⟨_, rfl⟩
    obtain ⟨E, hE⟩ : ∃ E, ((r.natAbs : Int) - 1) / 9223372036854775808 - 1048576 = E := ⟨_, rfl⟩
    rw [hM, hE]
    refine (mk_fit (z := sgi (decide (r < 0)) M) (e := E) (h := h) hh2 (by omega) ?_).1
    have ha : (sgi (decide (r < 0)) M).natAbs = M.toNat := by
      cases decide (r < 0)
      · rw [show sgi false M = M from if_neg (by decide)]; omega
      · rw [show sgi true M = -M from if_pos rfl]; omega
    rw [ha]
    have : M.toNat < 2 ^ 64 := by omega
    have := Nat.mul_lt_mul_of_pos_right this (Nat.pow_pos (n := (E + (h : Int)).toNat) (show 0 < 2 by decide))
    rw [← Nat.pow_add] at this
    exact Nat.lt_of_lt_of_le this (Nat.pow_le_pow_right (by decide) (by omega))
/-- It is infinite. -/
def infp (x : Int) : Bool := x == TP || x == -TP
def mulp (up : Bool) (x y : Int) : Int :=
  if x = 0 ∨ y = 0 then 0 else if infp x = true ∨ infp y = true then sgi (decide (x < 0) != decide (y < 0)) TP else rnd up (ml (ep x) (ep y)).1 (ml (ep x) (ep y)).2
theorem infp_false {x : Int} (h1 : -19342822337206103650074625 ≤ x) (h2 : x ≤ 19342822337206103650074625) (h : infp x = false) : -19342822337206103650074625 < x ∧ x < 19342822337206103650074625 := by
  unfold infp at h
  simp [TP_eq] at h
  omega
theorem infp_true {x : Int} (h : infp x = true) : x = 19342822337206103650074625 ∨ x = -19342822337206103650074625 := by
  unfold infp at h
  simp [TP_eq] at h
  omega
/-- The exact sum's worth, and the rounded one's. -/
theorem sum_spec {x y : Int} (x1 : -19342822337206103650074625 < x) (x2 : x < 19342822337206103650074625) (y1 : -19342822337206103650074625 < y) (y2 : y < 19342822337206103650074625) : Nf (pl (ep x) (ep y)) ∧ vl (pl (ep x) (ep y)) = vr x + vr y := by
  obtain ⟨η, hη⟩ : ∃ η : Nat, η = 2000000 := ⟨_, rfl⟩
  have f := ep_fit x x1 x2 (h := η) (by omega) (by omega)
  have g := ep_fit y y1 y2 (h := η) (by omega) (by omega)
  obtain ⟨a, b⟩ := pl_fit (by omega) f g
  exact ⟨a.nf, by rw [b, ep_vl x1 x2, ep_vl y1 y2]⟩
theorem pro_spec {x y : Int} (x1 : -19342822337206103650074625 < x) (x2 : x < 19342822337206103650074625) (y1 : -19342822337206103650074625 < y) (y2 : y < 19342822337206103650074625) : Nf (ml (ep x) (ep y)) ∧ vl (ml (ep x) (ep y)) * 2 ^ KK = vr x * vr y := by
  obtain ⟨η, hη⟩ : ∃ η : Nat, η = 2000000 := ⟨_, rfl⟩
  have f := ep_fit x x1 x2 (h := η) (by omega) (by omega)
  have g := ep_fit y y1 y2 (h := η) (by omega) (by omega)
  obtain ⟨a, b⟩ := ml_fit (by omega) f g
  exact ⟨a.nf, by rw [b, ep_vl x1 x2, ep_vl y1 y2]⟩
theorem ff : ¬ (false = true) := Bool.false_ne_true
theorem mulp_zero {x y : Int} (up : Bool) (h : x = 0 ∨ y = 0) : mulp up x y = 0 := by
  unfold mulp
  rw [if_pos h]
theorem mulp_inf {x y : Int} (up : Bool) (h : ¬ (x = 0 ∨ y = 0)) (hi : infp x = true ∨ infp y = true) : mulp up x y = sgi (decide (x < 0) != decide (y < 0)) TP := by
  unfold mulp
  rw [if_neg h, if_pos hi]
theorem mulp_fin {x y : Int} (up : Bool) (h : ¬ (x = 0 ∨ y = 0)) (hi : ¬ (infp x = true ∨ infp y = true)) : mulp up x y = rnd up (ml (ep x) (ep y)).1 (ml (ep x) (ep y)).2 := by
  unfold mulp
  rw [if_neg h, if_neg hi]
theorem mulp_comm {x y : Int} (up : Bool) : mulp up x y = mulp up y x := by
  by_cases h0 : x = 0 ∨ y = 0
  · rw [mulp_zero up h0, mulp_zero up h0.symm]
  · have h0' : ¬ (y = 0 ∨ x = 0) := fun c => h0 c.symm
    by_cases h1 : infp x = true ∨ infp y = true
    · rw [mulp_inf up h0 h1, mulp_inf up h0' h1.symm]
      cases decide (x < 0) <;> cases decide (y < 0) <;> rfl
    · rw [mulp_fin up h0 h1, mulp_fin up h0' (fun c => h1 c.symm), ml_comm (ep x) (ep y)]
theorem infp_neg (x : Int) : infp (-x) = infp x := by
  unfold infp
  rw [Bool.eq_iff_iff]
  simp
  omega
theorem sgi_neg (s : Bool) (x : Int) : sgi (!s) x = -sgi s x := by
  cases s
  · rw [show (!false) = true from rfl, show sgi true x = -x from if_pos rfl, show sgi false x = x from if_neg (by decide)]
  · rw [show (!true) = false from rfl, show sgi true x = -x from if_pos rfl, show sgi false x = x from if_neg (by decide), Int.neg_neg]
theorem neg_sign {x : Int} (h : x ≠ 0) : decide (-x < 0) = !decide (x < 0) := by
  by_cases c : x < 0
  · rw [decide_eq_true c, decide_eq_false (by omega)]
    rfl
  · rw [decide_eq_false c, decide_eq_true (by omega)]
    rfl
end Go.Proofs.YtpmakljahhhnfaaDoor

/-
  More of sums and products of places: the product grows with a factor that is not below nought; what nought and one do; what dy.Add may be asked of two finite numbers. Plain arithmetic; no Go text.
-/
namespace Go.Proofs.YtpmakljahhhnfaaDoor
open Go.RowKit
set_option linter.unusedVariables false

theorem vr_pos {x : Int} (h : 0 < x) : 0 < vr x := by
  have := vr_lt h
  rwa [show vr 0 = 0 from rfl] at this
theorem vr_nn {x : Int} (h : 0 ≤ x) : 0 ≤ vr x := by
  rcases Int.lt_or_eq_of_le h with q | q
  · exact Int.le_of_lt (vr_pos q)
  · rw [← q]; decide
theorem vr_le {x y : Int} (h : x ≤ y) : vr x ≤ vr y := by
  rcases Int.lt_or_eq_of_le h with q | q
  · exact Int.le_of_lt (vr_lt q)
  · rw [q]; exact Int.le_refl _
theorem ep_zero : ep 0 = (0, 0) := if_pos rfl
end Go.Proofs.YtpmakljahhhnfaaDoor

/-
  One and two as factors; numbers far apart; what is rounded to both sides lies beside the exact one. Plain arithmetic; no Go text.
-/
namespace Go.Proofs.YtpmakljahhhnfaaDoor
open Go.RowKit
set_option linter.unusedVariables false

/-- An exact worth that a place has is rounded to it, to either side. -/
theorem rnd_exact {P : Int × Int} (hP : Nf P) {r : Int} (up : Bool) (h1 : -19342822337206103650074625 < r) (h2 : r < 19342822337206103650074625) (h : vl P = vr r) : rnd up P.1 P.2 = r := by
  obtain ⟨a, b⟩ := rnd_spec hP
  rw [h] at a b
  cases up
  · exact a.uniq (dn_self h1 h2)
  · exact b.uniq (up_self h1 h2)
theorem opl_pos {n : Int} (h : 0 < n) (h1 : n ≤ 9223372036854775807) : 0 < opl n ∧ opl n < 19342822337206103650074625 := by
  have e : opl n = lo n.natAbs 0 := by
    unfold opl
    rw [decide_eq_false (show ¬ n < 0 by omega)]
    exact if_neg (by decide)
  have hc := opl_cmp (a := n) (b := 0) (by omega) h1 (by decide) (by decide)
  rw [opl_zero, cmpI_gt h] at hc
  have := (lo_bd n.natAbs 0).2
  rw [← e] at this
  refine ⟨?_, by omega⟩
  rcases cmpI_tri (opl n) 0 with ⟨a, b⟩ | ⟨a, b⟩ | ⟨a, b⟩
  · rw [b] at hc; exact absurd hc (by decide)
  · rw [b] at hc; exact absurd hc (by decide)
  · exact a
theorem infp_fin {x : Int} (h1 : -19342822337206103650074625 < x) (h2 : x < 19342822337206103650074625) : infp x = false := by
  cases h : infp x
  · rfl
  · have := infp_true h; omega
theorem mulp_one {x : Int} (up : Bool) (x1 : -19342822337206103650074625 ≤ x) (x2 : x ≤ 19342822337206103650074625) : mulp up x (opl 1) = x := by
  have htp := TP_eq
  obtain ⟨o1, o2⟩ := opl_pos (n := 1) (by decide) (by decide)
  have hv := opl_vr (n := 1) (by decide) (by decide)
  rw [Int.one_mul] at hv
  have oi := infp_fin (x := opl 1) (by omega) o2
  revert o1 o2 hv oi
  generalize opl 1 = o
  intro o1 o2 hv oi
  by_cases h0 : x = 0
  · rw [mulp_zero up (.inl h0), h0]
  · cases hx : infp x
    · obtain ⟨x3, x4⟩ := infp_false x1 x2 hx
      rw [mulp_fin up (by omega) (by rw [hx, oi]; simp)]
      obtain ⟨n, v⟩ := pro_spec x3 x4 (show -19342822337206103650074625 < o by omega) o2
      rw [hv] at v
      exact rnd_exact n up x3 x4 (Int.eq_of_mul_eq_mul_right (Int.ne_of_gt (p2pos KK)) v)
    · rw [mulp_inf up (by omega) (.inl hx), decide_eq_false (show ¬ o < 0 by omega)]
      rcases infp_true hx with q | q
      · rw [decide_eq_false (show ¬ x < 0 by omega), show sgi (false != false) TP = TP from if_neg (by decide)]
        omega
      · rw [decide_eq_true (show x < 0 by omega), show sgi (true != false) TP = -TP from if_pos rfl]
        omega
end Go.Proofs.YtpmakljahhhnfaaDoor

/-
  Sums of numbers far apart; half of twice as much. Plain arithmetic; no Go text.
-/
namespace Go.Proofs.YtpmakljahhhnfaaDoor
open Go.RowKit
set_option linter.unusedVariables false

/-- A half's place. -/
def hlf : Int := 9670816261106674691997697
theorem hlf_vr : vr hlf * 2 = 2 ^ KK := by
  have hk := KK_eq
  have := vp_fin (M := 9223372036854775808) (E := -64) (by decide) (by decide) (by decide)
  rw [show (9223372036854775808 : Int) - 9223372036854775808 + 1 + (-64 + 1048576) * 9223372036854775808 = hlf by decide] at this
  have e : vr hlf = vp hlf := by
    unfold vr
    rw [if_neg (by decide)]
  rw [e, this, show (9223372036854775808 : Int) = 2 ^ 63 by decide, Int.mul_right_comm, ← Int.pow_succ, ← Int.pow_add]
  rfl
end Go.Proofs.YtpmakljahhhnfaaDoor

/-
  Sums and products of two numbers within 128 bits: what is rounded of them is what is rounded of the exact ones, though far bits are told by one alone. Plain arithmetic; no Go text.
-/
namespace Go.Proofs.YtpmakljahhhnfaaDoor
open Go.RowKit
set_option linter.unusedVariables false

theorem wsg_f (x : Int) : sgi false x = x := if_neg (by decide)
theorem wsg_t (x : Int) : sgi true x = -x := if_pos rfl
theorem eq_rnd {P Q : Int × Int} (up : Bool) (hP : Nf P) (hQ : Nf Q) (h : vl P = vl Q) : rnd up P.1 P.2 = rnd up Q.1 Q.2 := by
  have a := rnd_monoA hP hQ (Int.le_of_eq h) up
  have b := rnd_monoA hQ hP (Int.le_of_eq h.symm) up
  exact Int.le_antisymm a b
theorem mk_vl {z e : Int} (h : z.natAbs < 2 ^ 128) (h1 : -3000000 ≤ e) (h2 : e ≤ 3000000) : vl (mk z e) = z * 2 ^ (e + KK).toNat := by
  obtain ⟨η, hη⟩ : ∃ η : Nat, η = 4000000 := ⟨_, rfl⟩
  refine (mk_fit (h := η) (by omega) (by omega) ?_).2
  have := Nat.mul_lt_mul_of_pos_right h (Nat.pow_pos (n := (e + (η : Int)).toNat) (show 0 < 2 by decide))
  rw [← Nat.pow_add] at this
  exact Nat.lt_of_lt_of_le this (Nat.pow_le_pow_right (by decide) (by omega))
theorem p2_le {a b : Nat} (h : a ≤ b) : (2 : Int) ^ a ≤ 2 ^ b := by
  have := Nat.pow_le_pow_right (show 0 < 2 by decide) h
  exact_mod_cast this
theorem div_le_self {M p : Int} (h0 : 0 ≤ M) (hp : 0 < p) : 0 ≤ M / p ∧ M / p ≤ M := ⟨Int.ediv_nonneg h0 (Int.le_of_lt hp), Int.ediv_le_self _ h0⟩
theorem fq_vr {s : Bool} {M E x : Int} (q : Fq 1 s M E x) : 9223372036854775808 ≤ M ∧ M < 18446744073709551616 ∧ -1048576 ≤ E ∧ E ≤ 1048576 ∧ -19342822337206103650074625 < x ∧ x < 19342822337206103650074625 ∧ x ≠ 0 ∧ vr x = sgi s (M * 2 ^ (E + KK).toNat) ∧ decide (x < 0) = s := by
  rcases q.cases with ⟨c, _⟩ | ⟨_, h1, h2, h3, h4, h5⟩ | ⟨c, _⟩
  · exact absurd c (by decide)
  · have hv := vp_fin h1 h2 h3
    have hx : x = sgi s (M - 9223372036854775808 + 1 + (E + 1048576) * 9223372036854775808) := by
      rcases h5 with ⟨rfl, h5⟩ | ⟨rfl, h5⟩
      · rw [wsg_f]; omega
      · rw [wsg_t]; omega
    have hw : vr x = sgi s (M * 2 ^ (E + KK).toNat) := by
      rw [hx, vp_vr s (by omega), hv]
    refine ⟨h1, h2, h3, h4, ?_, ?_, ?_, hw, ?_⟩
    · rcases h5 with ⟨_, h5⟩ | ⟨_, h5⟩ <;> omega
    · rcases h5 with ⟨_, h5⟩ | ⟨_, h5⟩ <;> omega
    · rcases h5 with ⟨_, h5⟩ | ⟨_, h5⟩ <;> omega
    · rcases h5 with ⟨rfl, h5⟩ | ⟨rfl, h5⟩
      · exact decide_eq_false (by omega)
      · exact decide_eq_true (by omega)
  · exact absurd c (by decide)
theorem sgi_abs (s : Bool) {S : Int} (h : 0 ≤ S) : (sgi s S).natAbs = S.toNat := by
  cases s
  · rw [wsg_f]; omega
  · rw [wsg_t]; omega
/-- The product of two. -/
theorem pro_wide {s1 s2 : Bool} {M1 M2 E1 E2 x y : Int} (up : Bool) (q1 : Fq 1 s1 M1 E1 x) (q2 : Fq 1 s2 M2 E2 y) :
    0 ≤ M1 * M2 ∧ M1 * M2 < 340282366920938463463374607431768211456 ∧ rnd up (mk (sgi (s1 != s2) (M1 * M2)) (E1 + E2)).1 (mk (sgi (s1 != s2) (M1 * M2)) (E1 + E2)).2 = mulp up x y := by
  obtain ⟨a1, a2, a3, a4, a5, a6, a7, a8, a9⟩ := fq_vr q1
  obtain ⟨b1, b2, b3, b4, b5, b6, b7, b8, b9⟩ := fq_vr q2
  have hk := KK_eq
  have h0 : 0 ≤ M1 * M2 := Int.mul_nonneg (by omega) (by omega)
  have h1 : M1 * M2 < 340282366920938463463374607431768211456 := by
    have l1 : M1 * M2 ≤ 18446744073709551615 * M2 := Int.mul_le_mul_of_nonneg_right (by omega) (by omega)
    omega
  refine ⟨h0, h1, ?_⟩
  rw [mulp_fin up (by omega) (by rw [infp_fin a5 a6, infp_fin b5 b6]; simp)]
  obtain ⟨nf, ev⟩ := pro_spec a5 a6 b5 b6
  have nfP := mk_nf (sgi (s1 != s2) (M1 * M2)) (E1 + E2)
  have evP := mk_vl (z := sgi (s1 != s2) (M1 * M2)) (e := E1 + E2) (by rw [sgi_abs _ h0]; omega) (by omega) (by omega)
  refine eq_rnd up nfP nf ?_
  refine Int.eq_of_mul_eq_mul_right (Int.ne_of_gt (p2pos KK)) ?_
  rw [ev, evP, a8, b8, Int.mul_assoc, ← Int.pow_add, show (E1 + E2 + (KK : Int)).toNat + KK = (E1 + (KK : Int)).toNat + (E2 + (KK : Int)).toNat by omega, Int.pow_add]
  generalize (2 : Int) ^ (E1 + (KK : Int)).toNat = U
  generalize (2 : Int) ^ (E2 + (KK : Int)).toNat = V
  have e : ∀ a b : Int, a * b * (U * V) = a * U * (b * V) := fun a b => by
    rw [Int.mul_assoc, Int.mul_assoc, ← Int.mul_assoc b, Int.mul_comm b U, Int.mul_assoc U]
  cases s1 <;> cases s2
  · rw [show (false != false) = false from rfl, wsg_f, wsg_f, wsg_f]; exact e _ _
  · rw [show (false != true) = true from rfl, wsg_f, wsg_t, wsg_t, Int.neg_mul, Int.mul_neg]; rw [e]
  · rw [show (true != false) = true from rfl, wsg_f, wsg_t, wsg_t, Int.neg_mul, Int.neg_mul]; rw [e]
  · rw [show (true != true) = false from rfl, wsg_f, wsg_t, wsg_t, Int.neg_mul, Int.mul_neg, Int.neg_neg]; exact e _ _
end Go.Proofs.YtpmakljahhhnfaaDoor

/-
  A number of 128 bits, raised to its highest bit; the place next to it, and what it is rounded to. Plain arithmetic; no Go text.
-/
namespace Go.Proofs.YtpmakljahhhnfaaDoor
open Go.RowKit
set_option linter.unusedVariables false

theorem raise_top {h l : Nat} (h0 : h ≠ 0) (hh : h < 18446744073709551616) :
    blen (h * 18446744073709551616 + l) = 64 + blen h ∨ 18446744073709551616 ≤ l := by
  rcases Nat.lt_or_ge l 18446744073709551616 with hl | hl
  · left
    have := blen_shift (h * 18446744073709551616 + l) 64 (by omega)
    rw [this]
    congr 2
    omega
  · exact .inr hl
/-- Raised: the 64 highest bits, whether there is something behind them, and how far. -/
def Ra (S : Nat) (F T K X : Int) : Prop := 0 ≤ T ∧ T < 18446744073709551616 ∧ 0 ≤ K ∧ K < 18446744073709551616 ∧ T = (tp S : Nat) ∧ (S ≠ 0 → X = xp S F ∧ (K = 0 ↔ tp S * 2 ^ blen S = S * 2 ^ 64))
theorem ra_low {l : Nat} {e : Int} (hl : l < 18446744073709551616) : Ra l (e - 64) ((l * 2 ^ (64 - blen l) : Nat) : Int) 0 (e - 64 - (64 - (blen l : Int))) := by
  have hb := blen_mono_le (n := l) (k := 64) hl
  have ht := tp_small hb
  have h2 := tp_lt l
  rw [ht] at h2
  refine ⟨by omega, by omega, by omega, by omega, by rw [ht], fun h0 => ⟨by unfold xp; omega, fun _ => ?_, fun _ => rfl⟩⟩
  rw [ht, Nat.mul_assoc, ← Nat.pow_add]
  congr 2
  omega
theorem ra_high {h l : Nat} {e : Int} (h0 : h ≠ 0) (hh : h < 18446744073709551616) (hl : l < 18446744073709551616) :
    Ra (h * 18446744073709551616 + l) (e - 64) ((h * 2 ^ (64 - blen h) + l / 2 ^ blen h : Nat) : Int) ((l * 2 ^ (64 - blen h) % 18446744073709551616 : Nat) : Int) (e - (64 - (blen h : Int))) := by
  have hb := blen_mono_le (n := h) (k := 64) hh
  have hbs : blen (h * 18446744073709551616 + l) = 64 + blen h := by
    rcases raise_top (l := l) h0 hh with q | q
    · exact q
    · omega
  have hp : 0 < 2 ^ blen h := Nat.pow_pos (by decide)
  have hn : 2 ^ 64 = 2 ^ (64 - blen h) * 2 ^ blen h := by rw [← Nat.pow_add]; congr 1; omega
  have hn' : (18446744073709551616 : Nat) = 2 ^ blen h * 2 ^ (64 - blen h) := by rw [Nat.mul_comm, ← hn]
  have ht : tp (h * 18446744073709551616 + l) = h * 2 ^ (64 - blen h) + l / 2 ^ blen h := by
    unfold tp
    rw [hbs, Nat.pow_add, Nat.mul_comm (2 ^ 64) (2 ^ blen h), Nat.mul_div_mul_right _ _ (Nat.pow_pos (by decide)), hn', show h * (2 ^ blen h * 2 ^ (64 - blen h)) = 2 ^ blen h * (h * 2 ^ (64 - blen h)) by rw [← Nat.mul_assoc, Nat.mul_comm h, Nat.mul_assoc], Nat.mul_add_div hp]
  have hm : l * 2 ^ (64 - blen h) % 18446744073709551616 = l % 2 ^ blen h * 2 ^ (64 - blen h) := by
    rw [hn', Nat.mul_mod_mul_right]
  have ht2 := tp_lt (h * 18446744073709551616 + l)
  have hml := Nat.mod_lt (l * 2 ^ (64 - blen h)) (show 0 < 18446744073709551616 by decide)
  refine ⟨by omega, by omega, by omega, by omega, by rw [ht], fun _ => ⟨?_, ?_⟩⟩
  · unfold xp
    rw [hbs]
    omega
  · rw [hm, hbs, ht, Nat.pow_add, Nat.mul_comm (2 ^ 64) (2 ^ blen h), ← Nat.mul_assoc]
    have hd := Nat.div_add_mod l (2 ^ blen h)
    have hS : h * 18446744073709551616 + l = (h * 2 ^ (64 - blen h) + l / 2 ^ blen h) * 2 ^ blen h + l % 2 ^ blen h := by
      rw [Nat.add_mul, Nat.mul_assoc h, ← hn, Nat.mul_comm (l / 2 ^ blen h), Nat.add_assoc, hd]
    rw [hS]
    have hp2 : 0 < 2 ^ (64 - blen h) := Nat.pow_pos (by decide)
    revert hS
    generalize (h * 2 ^ (64 - blen h) + l / 2 ^ blen h) * 2 ^ blen h = Z
    generalize l % 2 ^ blen h = m
    intro _
    constructor
    · intro q
      have q1 : m * 2 ^ (64 - blen h) = 0 := by exact_mod_cast q
      have q2 : m = 0 := by
        rcases Nat.mul_eq_zero.1 q1 with c | c
        · exact c
        · omega
      rw [q2, Nat.add_zero]
    · intro q
      have q1 : Z = Z + m := Nat.eq_of_mul_eq_mul_right (show 0 < 2 ^ 64 by decide) q
      have q2 : m = 0 := by omega
      rw [q2, Nat.zero_mul]
      rfl
/-- Is the place next to it that number itself? -/
def exw (S : Nat) (F : Int) : Bool := S == 0 || (decide (xp S F ≤ 1048576) && (decide (-1048576 ≤ xp S F) && decide (tp S * 2 ^ blen S = S * 2 ^ 64)))
theorem exw_odd {m : Nat} (ho : m % 2 = 1) (t : Nat) (F : Int) : exw (m * 2 ^ t) F = ext m (F + t) := by
  have h0 : m ≠ 0 := by omega
  have h2 : m * 2 ^ t ≠ 0 := Nat.mul_ne_zero h0 (Nat.ne_of_gt (Nat.pow_pos (by decide)))
  have ex : xp (m * 2 ^ t) F = xp m (F + t) := by
    unfold xp
    rw [blen_mul h0]
    omega
  have e1 : (m * 2 ^ t == 0) = false := by simpa using h2
  have e2 : (m == 0) = false := by simpa using h0
  have e3 : (tp (m * 2 ^ t) * 2 ^ blen (m * 2 ^ t) = m * 2 ^ t * 2 ^ 64) ↔ blen m ≤ 64 := by
    rw [tp_mul h0, blen_mul h0, Nat.pow_add, ← Nat.mul_assoc, Nat.mul_right_comm m]
    constructor
    · intro q
      have q1 := Nat.eq_of_mul_eq_mul_right (Nat.pow_pos (n := t) (show 0 < 2 by decide)) q
      rcases Nat.lt_or_ge 64 (blen m) with c | c
      · exfalso
        rw [show 2 ^ blen m = 2 ^ (blen m - 65) * 2 * 2 ^ 64 by rw [← Nat.pow_succ, ← Nat.pow_add]; congr 1; omega, ← Nat.mul_assoc] at q1
        have q2 := Nat.eq_of_mul_eq_mul_right (show 0 < 2 ^ 64 by decide) q1
        rw [← Nat.mul_assoc] at q2
        omega
      · exact c
    · intro c
      rw [tp_small c, Nat.mul_assoc m, ← Nat.pow_add, show 64 - blen m + blen m = 64 by omega]
  unfold exw ext
  rw [ex, e1, e2, decide_eq_decide.2 e3]
theorem wide_rnd {S : Nat} {F N E : Int} {neg : Bool} (hS : S < 340282366920938463463374607431768211456) (h1 : -3000000 ≤ F) (h2 : F ≤ 3000000) (hN : (mk (sgi neg (S : Int)) F).1 = N) (hE : (mk (sgi neg (S : Int)) F).2 = E) :
    (exw S F = true → ∀ up, rnd up N E = sgi neg (lo S F)) ∧ rnd neg N E = sgi neg (lo S F) ∧ (exw S F = false → rnd (!neg) N E = nx (!neg) (sgi neg (lo S F))) := by
  by_cases h0 : S = 0
  · subst h0
    have e0 : sgi neg ((0 : Nat) : Int) = 0 := by cases neg <;> rfl
    rw [e0, mk_zero] at hN hE
    subst hN
    subst hE
    have e1 : sgi neg (lo 0 F) = 0 := by
      have : lo 0 F = 0 := by
        unfold lo
        rw [if_pos rfl]
      rw [this]
      cases neg <;> rfl
    have e2 : exw 0 F = true := by
      unfold exw
      rfl
    rw [e1, e2]
    exact ⟨fun _ up => rnd_nought up, rnd_nought neg, fun c => absurd c (by decide)⟩
  · have hab : (sgi neg (S : Int)).natAbs = S := by rw [sgi_abs neg (by omega)]; omega
    obtain ⟨s1, s2⟩ := v2_spec S h0
    have hv : v2 S < 128 := by
      have h3 := v2_pow_le h0
      have h4 : 2 ^ v2 S < 2 ^ 128 := by omega
      exact (Nat.pow_lt_pow_iff_right (by decide)).1 h4
    have hz : sgi neg (S : Int) ≠ 0 := by
      intro c
      rw [c] at hab
      exact h0 hab.symm
    obtain ⟨m1, m2, m3, m4, m5⟩ := mk_in (z := sgi neg (S : Int)) (e := F) hz (by omega) (by rw [hab]; omega)
    rw [hab] at m1 m2
    rw [hE] at m1
    rw [hN] at m2 m3
    have hsn : neg = decide (N < 0) := by
      cases neg
      · rw [wsg_f] at m3
        exact (decide_eq_false (by omega)).symm
      · rw [wsg_t] at m3
        exact (decide_eq_true (by omega)).symm
    have hx : exw S F = ext N.natAbs E := by
      rw [m2, m1]
      conv => lhs; rw [s1]
      exact exw_odd s2 _ F
    have hl : lo S F = lo N.natAbs E := by
      rw [m2, m1]
      conv => lhs; rw [s1]
      exact lo_mul (by omega) _ F
    rw [hx, hl]
    refine ⟨fun c up => ?_, ?_, fun c => ?_⟩
    · rw [rnd_ext c, ← hsn]
    · exact rnd_same hsn rfl
    · rw [rnd_diff hsn, nx_lo neg c]
end Go.Proofs.YtpmakljahhhnfaaDoor

/-
  What the document's Fair, Add, Mul, Sub, Half, Twice of layer 6 do.
-/
namespace Go.Proofs.YtpmakljahhhnfaaDoor
open Go.RowKit
set_option linter.unusedVariables false
set_option linter.unusedSimpArgs false
set_option maxRecDepth 100000

theorem fq_inf {D : Int} {s : Bool} {M E x : Int} (q : Fq D s M E x) : infp x = (D == 2) := by
  have htp := TP_eq
  rcases q.cases with ⟨rfl, rfl, rfl, rfl, h0⟩ | ⟨rfl, h1, h2, h3, h4, ⟨rfl, h5⟩ | ⟨rfl, h5⟩⟩ | ⟨rfl, rfl, rfl, ⟨rfl, h5⟩ | ⟨rfl, h5⟩⟩ <;> unfold infp <;> rw [Bool.eq_iff_iff] <;> simp <;> omega
theorem fq_fin {D : Int} {s : Bool} {M E x : Int} (q : Fq D s M E x) (h : D ≠ 2) : 0 ≤ M ∧ exb D s M E = true ∧ exq D s M E = ep x := by
  have hb : exb D s M E = true := by
    unfold exb
    rw [decide_eq_true q.1, Bool.true_and]
    simpa using h
  exact ⟨by rcases q.cases with ⟨_, _, h, _⟩ | ⟨_, h, _⟩ | ⟨_, h, _⟩ <;> omega, hb, exq_ep q hb⟩
end Go.Proofs.YtpmakljahhhnfaaDoor

/-
  What every statement of layer 5 begins with: the chapter's examples.
-/
namespace Go.Proofs.YtpmakljahhhnfaaDoor
open Go.RowKit
set_option linter.unusedVariables false
set_option linter.unusedSimpArgs false
set_option maxRecDepth 100000

theorem blen_one : blen 1 = 1 := blen_uniq (k := 0) (by decide) (by decide) (by decide)
theorem tp_one1 : tp 1 = 9223372036854775808 := by
  rw [tp_small (by rw [blen_one]; decide), blen_one]
theorem fq_one : Fq 1 false 9223372036854775808 (-63) (sgi (decide ((1 : Int) < 0)) (lo (1 : Int).natAbs 0)) := by
  have := of_fq (n := 1) (by decide) (by decide) (by decide)
  rw [show (1 : Int).natAbs = 1 from rfl, tp_one1, blen_one] at this
  exact this
end Go.Proofs.YtpmakljahhhnfaaDoor

/-
  What the helpers of quotients do: limbs, moved, away, taken, power.
-/
namespace Go.Proofs.YtpmakljahhhnfaaDoor
open Go.RowKit
set_option linter.unusedVariables false
set_option linter.unusedSimpArgs false
set_option maxRecDepth 100000

/-- Two limbs are answered. -/
def PR2 (w : World) (v : Nat) (e : Ending) (w' : World) : Prop := ∃ A, e = .returned (.slice A 2 2) ∧ Rd w' A 2 2 v ∧ Below w.heap.size w w'
theorem qLimbs {w : World} {M : Int} {N : Nat} (hM : (N : Int) = M) (h : N < 18446744073709551616) : Calls Tryd.prog 31 #[.int .u64 M] w (PR2 w N) := by
  subst hM
  go_enter Tryd.func31, Tryd.ntmps31
  go_wp2
  go_ret
  exact ⟨_, rfl, two_rd _ (by simp) (k := N) (by omega) (by omega) h, bel1 _ _⟩
theorem qmoved_up {w : World} {A : Option Addr} {n c α k r : Nat} (h : Rd w A n c α) (hn : n ≤ 8000) (hk : k ≤ 200000) (hr : α * 2 ^ k = r) : Calls Tryd.prog 61 #[.slice A n c, .int .i64 (k : Int)] w (P1B w 15000 r true) := by
  have HR := Lib.hid hr
  clear hr
  have hd : decide ((0 : Int) ≤ (k : Int)) = true := decide_eq_true (Int.natCast_nonneg k)
  go_enter Tryd.func61, Tryd.ntmps61
  go_wp2_with fail
  refine (vShlE h (by omega) (by omega) HR.out).mono ?_
  rintro ee w2 ⟨A2, n2, c2, rfl, p2, k2, B2⟩
  go_wp2
  exact bodyPost_ret (v := .tuple #[.slice A2 n2 c2, .bool true]) (by simp [results, Tryd.results61, go_sem]) rfl ⟨A2, n2, c2, rfl, p2, by omega, B2⟩
theorem qmoved_dn {w : World} {A : Option Addr} {n c α k d r : Nat} {z y : Int} {t : Bool} (h : Rd w A n c α) (hn : n ≤ 8000) (hk : k ≤ 200000) (h0 : 0 < k) (hz : -z = (k : Int)) (hr : α / 2 ^ k = r) (hd : r * 2 ^ k = d) (hy : cmpI (d : Int) (α : Int) = y) (ht : (y == 0) = t) : Calls Tryd.prog 61 #[.slice A n c, .int .i64 z] w (P1B w 15000 r t) := by
  have HR : Hid (α / 2 ^ (k : Int).toNat = r) := Lib.hid (by rw [Int.toNat_natCast]; exact hr)
  have HD := Lib.hid hd
  have HY := Lib.hid hy
  have hlt : decide (0 ≤ z) = false := decide_eq_false (by omega)
  have hlt2 : ¬ (0 ≤ z) := by omega
  have hw : IntKind.i64.wrap (-z) = (k : Int) := by rw [hz]; exact IntWalk.i64_in _ (by omega)
  clear hr hd hy
  go_enter Tryd.func61, Tryd.ntmps61
  go_wp2_with fail
  refine (vShrE (z := (k : Int)) h (by omega) HR.out).mono ?_
  rintro ee w2 ⟨A2, n2, c2, rfl, p2, k2, B2⟩
  go_wp2_with fail
  refine (vShlE p2.rd (by omega) (by omega) HD.out).mono ?_
  rintro ee w3 ⟨A3, n3, c3, rfl, p3, k3, B3⟩
  go_wp2_with fail
  refine (vCmpE p3.rd ((h.below B2).below B3) HY.out).mono ?_
  rintro ee w4 ⟨rfl, B4⟩
  go_wp2
  exact bodyPost_ret (v := .tuple #[.slice A2 n2 c2, .bool t]) (by simp [results, Tryd.results61, go_sem]) rfl ⟨A2, n2, c2, rfl, (p2.below B3).below B4, by omega, bt B2 (bt B3 B4)⟩
set_option maxHeartbeats 2000000 in
theorem qAway {w : World} {up : Bool} {r : Int} (hr : sgi (!up) TP = r) : Calls Tryd.prog 28 #[.bool up] w (PN w r) := by
  have HR := Lib.hid hr
  clear hr
  go_enter Tryd.func28, Tryd.ntmps28
  go_upto_region 1 with (fail)
  have XR := (Bo.newAt w (g := w.heap.size) (by simp) #[.int .i64 0, .bool false, .int .u64 0, .int .i64 0] 24)
  have HB := Lib.hid (bel1 w (.cells #[.int .i64 0, .bool false, .int .u64 0, .int .i64 0] 24))
  generalize hW1 : (w.alloc (.cells #[.int .i64 0, .bool false, .int .u64 0, .int .i64 0] 24)) = w1 at *
  clear hW1
  go_wp2_with fail
  refine (nInf (s := !up) HR.out).mono ?_
  rintro ee w2 ⟨K1, s1, M1, E1, rfl, q1, B⟩
  replace XR := XR.below B
  replace HB := Lib.hid (bt HB.out B)
  clear B
  have xXR0 := XR.at (i := 0) (v := .int .i64 0) rfl
  have zXR0 := XR.frozen 0
  have xXR1 := XR.at (i := 1) (v := .bool false) rfl
  have zXR1 := XR.frozen 1
  have xXR2 := XR.at (i := 2) (v := .int .u64 0) rfl
  have zXR2 := XR.frozen 2
  have xXR3 := XR.at (i := 3) (v := .int .i64 0) rfl
  have zXR3 := XR.frozen 3
  go_wp2
  clear xXR0 zXR0 xXR1 zXR1 xXR2 zXR2 xXR3 zXR3
  have SX := StN.mk4 XR (.int .i64 K1) (.bool s1) (.int .u64 M1) (.int .i64 E1)
  replace HB := Lib.hid (SX.below HB.out (by omega))
  replace XR := SX.box
  clear SX
  generalize (World.setCell (World.setCell (World.setCell (World.setCell w2 ⟨w.heap.size, 0, none⟩ (.int .i64 K1)) ⟨w.heap.size, 1, none⟩ (.bool s1)) ⟨w.heap.size, 2, none⟩ (.int .u64 M1)) ⟨w.heap.size, 3, none⟩ (.int .i64 E1)) = w3 at *
  have r0 := XR.cell 0
  have r1 := XR.cell 1
  have r2 := XR.cell 2
  have r3 := XR.cell 3
  exact bodyPost_ret (v := .agg #[.int .i64 K1, .bool s1, .int .u64 M1, .int .i64 E1]) (by simp [results, Tryd.results28, go_sem, r0, r1, r2, r3]) rfl ⟨_, _, _, _, rfl, q1, HB.out⟩
theorem fq_tk7 {D : Int} {s : Bool} {M E : Int} (hM : M < 18446744073709551616) : ∃ K1 s1 M1 E1, Fq K1 s1 M1 E1 (rk D s M E) := by
  by_cases hm : MayQ D s M E
  · exact ⟨_, _, _, _, rk_fq hM hm⟩
  · rw [rk_not hm]
    exact ⟨_, _, _, _, Fq.nought⟩
set_option maxHeartbeats 2000000 in
theorem qTaken {w : World} {D M E : Int} {s : Bool} {K1 M1 E1 x : Int} {s1 : Bool} (hM : M < 18446744073709551616) (q : Fq K1 s1 M1 E1 x) (hx : rk D s M E = x) : Calls Tryd.prog 27 #[.agg #[.int .i64 D, .bool s, .int .u64 M, .int .i64 E]] w (fun e w' => e = .returned (.agg #[.int .i64 K1, .bool s1, .int .u64 M1, .int .i64 E1]) ∧ Below w.heap.size w w') := by
  by_cases hm : MayQ D s M E
  · obtain ⟨rfl, rfl, rfl, rfl⟩ := q.uniq (hx ▸ rk_fq hM hm)
    have HC := Lib.hid (show decide (MayQ K1 s1 M1 E1) = true from decide_eq_true hm)
    clear hm hx hM q
    go_enter Tryd.func27, Tryd.ntmps27
    go_upto_region 1 with (fail)
    have X1 := (Bo.newAt w (g := w.heap.size) (by simp) #[.int .i64 K1, .bool s1, .int .u64 M1, .int .i64 E1] 24).below (bel1 _ (.cells #[.int .i64 0, .bool false, .int .u64 0, .int .i64 0] 24))
    have XR := (Bo.newAt (w.alloc (.cells #[.int .i64 K1, .bool s1, .int .u64 M1, .int .i64 E1] 24)) (g := w.heap.size + 1) (by simp) #[.int .i64 0, .bool false, .int .u64 0, .int .i64 0] 24)
    have HB := Lib.hid (bel2 w (.cells #[.int .i64 K1, .bool s1, .int .u64 M1, .int .i64 E1] 24) (.cells #[.int .i64 0, .bool false, .int .u64 0, .int .i64 0] 24))
    generalize hW1 : ((w.alloc (.cells #[.int .i64 K1, .bool s1, .int .u64 M1, .int .i64 E1] 24)).alloc (.cells #[.int .i64 0, .bool false, .int .u64 0, .int .i64 0] 24)) = w1 at *
    clear hW1
    have xX10 := X1.at (i := 0) (v := .int .i64 K1) rfl
    have xX11 := X1.at (i := 1) (v := .bool s1) rfl
    have xX12 := X1.at (i := 2) (v := .int .u64 M1) rfl
    have xX13 := X1.at (i := 3) (v := .int .i64 E1) rfl
    go_wp2_with fail
    refine (nMay HC.out).mono ?_
    rintro ee w2 ⟨rfl, B⟩
    clear xX10 xX11 xX12 xX13
    replace X1 := X1.below B
    replace XR := XR.below B
    replace HB := Lib.hid (bt HB.out B)
    clear B
    have xXR0 := XR.at (i := 0) (v := .int .i64 0) rfl
    have zXR0 := XR.frozen 0
    have xXR1 := XR.at (i := 1) (v := .bool false) rfl
    have zXR1 := XR.frozen 1
    have xXR2 := XR.at (i := 2) (v := .int .u64 0) rfl
    have zXR2 := XR.frozen 2
    have xXR3 := XR.at (i := 3) (v := .int .i64 0) rfl
    have zXR3 := XR.frozen 3
    have xX10 := X1.at (i := 0) (v := .int .i64 K1) rfl
    have xX11 := X1.at (i := 1) (v := .bool s1) rfl
    have xX12 := X1.at (i := 2) (v := .int .u64 M1) rfl
    have xX13 := X1.at (i := 3) (v := .int .i64 E1) rfl
    go_wp2
    clear xXR0 zXR0 xXR1 zXR1 xXR2 zXR2 xXR3 zXR3 xX10 xX11 xX12 xX13
    have SX := StN.mk4 XR (.int .i64 K1) (.bool s1) (.int .u64 M1) (.int .i64 E1)
    replace X1 := X1.stn SX (by omega)
    replace HB := Lib.hid (SX.below HB.out (by omega))
    replace XR := SX.box
    clear SX
    generalize (World.setCell (World.setCell (World.setCell (World.setCell w2 ⟨w.heap.size + 1, 0, none⟩ (.int .i64 K1)) ⟨w.heap.size + 1, 1, none⟩ (.bool s1)) ⟨w.heap.size + 1, 2, none⟩ (.int .u64 M1)) ⟨w.heap.size + 1, 3, none⟩ (.int .i64 E1)) = w3 at *
    have r0 := XR.cell 0
    have r1 := XR.cell 1
    have r2 := XR.cell 2
    have r3 := XR.cell 3
    exact bodyPost_ret (v := .agg #[.int .i64 K1, .bool s1, .int .u64 M1, .int .i64 E1]) (by simp [results, Tryd.results27, go_sem, r0, r1, r2, r3]) rfl ⟨rfl, HB.out⟩
  · rw [rk_not hm] at hx
    subst hx
    obtain ⟨rfl, rfl, rfl, rfl⟩ := q.uniq Fq.nought
    have HC := Lib.hid (show decide (MayQ D s M E) = false from decide_eq_false hm)
    clear hm hM q
    go_enter Tryd.func27, Tryd.ntmps27
    go_upto_region 1 with (fail)
    have X1 := (Bo.newAt w (g := w.heap.size) (by simp) #[.int .i64 D, .bool s, .int .u64 M, .int .i64 E] 24).below (bel1 _ (.cells #[.int .i64 0, .bool false, .int .u64 0, .int .i64 0] 24))
    have XR := (Bo.newAt (w.alloc (.cells #[.int .i64 D, .bool s, .int .u64 M, .int .i64 E] 24)) (g := w.heap.size + 1) (by simp) #[.int .i64 0, .bool false, .int .u64 0, .int .i64 0] 24)
    have HB := Lib.hid (bel2 w (.cells #[.int .i64 D, .bool s, .int .u64 M, .int .i64 E] 24) (.cells #[.int .i64 0, .bool false, .int .u64 0, .int .i64 0] 24))
    generalize hW1 : ((w.alloc (.cells #[.int .i64 D, .bool s, .int .u64 M, .int .i64 E] 24)).alloc (.cells #[.int .i64 0, .bool false, .int .u64 0, .int .i64 0] 24)) = w1 at *
    clear hW1
    have xX10 := X1.at (i := 0) (v := .int .i64 D) rfl
    have xX11 := X1.at (i := 1) (v := .bool s) rfl
    have xX12 := X1.at (i := 2) (v := .int .u64 M) rfl
    have xX13 := X1.at (i := 3) (v := .int .i64 E) rfl
    go_wp2_with fail
    refine (nMay HC.out).mono ?_
    rintro ee w2 ⟨rfl, B⟩
    clear xX10 xX11 xX12 xX13
    replace X1 := X1.below B
    replace XR := XR.below B
    replace HB := Lib.hid (bt HB.out B)
    clear B
    have xXR0 := XR.at (i := 0) (v := .int .i64 0) rfl
    have zXR0 := XR.frozen 0
    have xXR1 := XR.at (i := 1) (v := .bool false) rfl
    have zXR1 := XR.frozen 1
    have xXR2 := XR.at (i := 2) (v := .int .u64 0) rfl
    have zXR2 := XR.frozen 2
    have xXR3 := XR.at (i := 3) (v := .int .i64 0) rfl
    have zXR3 := XR.frozen 3
    have xX10 := X1.at (i := 0) (v := .int .i64 D) rfl
    have xX11 := X1.at (i := 1) (v := .bool s) rfl
    have xX12 := X1.at (i := 2) (v := .int .u64 M) rfl
    have xX13 := X1.at (i := 3) (v := .int .i64 E) rfl
    go_wp2
    clear xXR0 zXR0 xXR1 zXR1 xXR2 zXR2 xXR3 zXR3 xX10 xX11 xX12 xX13
    have SX := StN.mk4 XR (.int .i64 0) (.bool false) (.int .u64 0) (.int .i64 0)
    replace X1 := X1.stn SX (by omega)
    replace HB := Lib.hid (SX.below HB.out (by omega))
    replace XR := SX.box
    clear SX
    generalize (World.setCell (World.setCell (World.setCell (World.setCell w2 ⟨w.heap.size + 1, 0, none⟩ (.int .i64 0)) ⟨w.heap.size + 1, 1, none⟩ (.bool false)) ⟨w.heap.size + 1, 2, none⟩ (.int .u64 0)) ⟨w.heap.size + 1, 3, none⟩ (.int .i64 0)) = w3 at *
    have r0 := XR.cell 0
    have r1 := XR.cell 1
    have r2 := XR.cell 2
    have r3 := XR.cell 3
    exact bodyPost_ret (v := .agg #[.int .i64 0, .bool false, .int .u64 0, .int .i64 0]) (by simp [results, Tryd.results27, go_sem, r0, r1, r2, r3]) rfl ⟨rfl, HB.out⟩
theorem ten_len {k : Nat} : (((10 ^ k : Nat) : Int)).natAbs < 4294967296 ^ (k + 1) := by
  rw [Int.natAbs_natCast]
  have h1 : 10 ^ k ≤ 4294967296 ^ k := Nat.pow_le_pow_left (by decide) k
  have h2 : 0 < 4294967296 ^ k := Nat.pow_pos (by decide)
  rw [Nat.pow_succ]
  omega
def PowInv (w : World) (g3 : Nat) (k : Nat) (wr : World) : Prop :=
  ∃ s A m c s2 B d2 e2, Bo wr g3 #[.bool s, .slice A m c] 28 ∧ Bo wr (g3 + 1) #[.bool s2, .slice B d2 e2] 28 ∧ Bo wr w.heap.size #[.bool false, .slice none 0 0] 28 ∧ Wn wr s A m c ((10 ^ k : Nat) : Int) ∧ Wn wr s2 B d2 e2 10 ∧ w.heap.size < g3 ∧ Below w.heap.size w wr
theorem prd_ten (j : Nat) : prd [((10 ^ j : Nat) : Int), 10] = ((10 ^ (j + 1) : Nat) : Int) := by
  have : prd [((10 ^ j : Nat) : Int), 10] = ((10 ^ j : Nat) : Int) * 10 := by simp [prd]
  rw [this, Nat.pow_succ, Int.natCast_mul]
  rfl
set_option maxHeartbeats 2000000 in
theorem qPower {w : World} {k : Nat} {t : Int} (ht : (k : Int) = t) (hk : k ≤ 1000) : Calls Tryd.prog 50 #[.int .i64 t] w (W1 w (k + 1) ((10 ^ k : Nat) : Int)) := by
  subst ht
  go_enter Tryd.func50, Tryd.ntmps50
  go_upto_region 1 with (fail)
  have XR := (Bo.newAt w (g := w.heap.size) (by simp) #[.bool false, .slice none 0 0] 28)
  have HB := Lib.hid (bel1 w (.cells #[.bool false, .slice none 0 0] 28))
  generalize hW1 : (w.alloc (.cells #[.bool false, .slice none 0 0] 28)) = w1 at *
  clear hW1
  go_wp2_with fail
  refine (wFrom 1 _ (by decide) (by decide)).mono ?_
  rintro ee w2 ⟨s1, A1, n1, c1, rfl, p1, k1, B⟩
  replace XR := XR.below B
  replace HB := Lib.hid (bt HB.out B)
  clear B
  go_wp2_with fail
  refine (wFrom 10 _ (by decide) (by decide)).mono ?_
  rintro ee w3 ⟨s2, A2, n2, c2, rfl, p2, k2, B⟩
  replace XR := XR.below B
  replace p1 := p1.below B
  replace HB := Lib.hid (bt HB.out B)
  clear B
  go_upto_region 2 with (fail)
  have e4 : (World.alloc w3 (.cells #[.bool s1, .slice A1 n1 c1] 28)).heap.size = w3.heap.size + 1 := by simp
  have lX3 := Nat.le_refl (World.heap w3).size
  have nX3XR := XR.lt
  replace XR := XR.below (bel1 _ (.cells #[.bool s1, .slice A1 n1 c1] 28))
  replace p1 := p1.below (bel1 _ (.cells #[.bool s1, .slice A1 n1 c1] 28))
  replace p2 := p2.below (bel1 _ (.cells #[.bool s1, .slice A1 n1 c1] 28))
  replace HB := Lib.hid (bt HB.out (bel1 _ (.cells #[.bool s1, .slice A1 n1 c1] 28)))
  have X3 := Bo.new w3 #[.bool s1, .slice A1 n1 c1] 28
  generalize hWn : World.alloc w3 (.cells #[.bool s1, .slice A1 n1 c1] 28) = w4 at *
  clear hWn
  have lX4 := Nat.le_refl (World.heap w4).size
  have nX4XR := XR.lt
  have nX4X3 := X3.lt
  replace XR := XR.below (bel1 _ (.cells #[.bool s2, .slice A2 n2 c2] 28))
  replace X3 := X3.below (bel1 _ (.cells #[.bool s2, .slice A2 n2 c2] 28))
  replace p1 := p1.below (bel1 _ (.cells #[.bool s2, .slice A2 n2 c2] 28))
  replace p2 := p2.below (bel1 _ (.cells #[.bool s2, .slice A2 n2 c2] 28))
  replace HB := Lib.hid (bt HB.out (bel1 _ (.cells #[.bool s2, .slice A2 n2 c2] 28)))
  have X4 := Bo.new w4 #[.bool s2, .slice A2 n2 c2] 28
  generalize hWn : World.alloc w4 (.cells #[.bool s2, .slice A2 n2 c2] 28) = w5 at *
  clear hWn
  rw [e4] at X4
  have HI0 := Lib.hid (show PowInv w w3.heap.size 0 w5 from ⟨s1, A1, n1, c1, s2, A2, n2, c2, X3, X4, XR, p1, p2, nX3XR, HB.out⟩)
  clear X3 X4 XR p1 p2 HB lX3 lX4 nX3XR nX4XR nX4X3 k1 k2 e4
  generalize w3.heap.size = g3 at HI0 ⊢
  go_wp2
  go_loopw [8] (fun i wr => ∃ j : Nat, i = .int .i64 j ∧ j ≤ k ∧ PowInv w g3 j wr) (fun i _ => 2000 - (intOf i).toNat)
  case atStart => exact ⟨0, rfl, Nat.zero_le _, HI0.out⟩
  case round =>
    obtain ⟨j, rfl, hj, s6, A6, m6, c6, s7, B7, d7, e7, X3, X4, XR, p6, p7, g1, hB⟩ := hrel
    have HB := Lib.hid hB
    clear hB HI0
    have k6 := p6.len_le (k := j + 1) ten_len
    have k7 := p7.len_le (k := 1) (by decide)
    by_cases hlt : j < k
    · have tlt : decide ((j : Int) < (k : Int)) = true := by simp; omega
      have HP := Lib.hid (prd_ten j)
      have xX30 := X3.at (i := 0) (v := .bool s6) rfl
      have xX31 := X3.at (i := 1) (v := .slice A6 m6 c6) rfl
      have xX40 := X4.at (i := 0) (v := .bool s7) rfl
      have xX41 := X4.at (i := 1) (v := .slice B7 d7 e7) rfl
      go_wp2_with fail
      refine (wMul (K := j + 1) (Wl.lit2 rfl p6.wr p7.wr (by omega) (by omega)) (by omega) HP.out).mono ?_
      rintro ee w8 ⟨s8, A8, n8, c8, rfl, p8, k8, B⟩
      clear xX30 xX31 xX40 xX41
      replace B := bt (bel1 _ _) B
      replace X3 := X3.below B
      replace X4 := X4.below B
      replace XR := XR.below B
      replace p6 := p6.below B
      replace p7 := p7.below B
      replace HB := Lib.hid (bt HB.out B)
      clear B
      clear p6 HP k6 k7
      have xX30 := X3.at (i := 0) (v := .bool s6) rfl
      have zX30 := X3.frozen 0
      have xX31 := X3.at (i := 1) (v := .slice A6 m6 c6) rfl
      have zX31 := X3.frozen 1
      go_wp2
      clear xX30 zX30 xX31 zX31
      have SX := StN.mk2 X3 (.bool s8) (.slice A8 n8 c8)
      replace X4 := X4.stn SX (by omega)
      replace XR := XR.stn SX (by omega)
      replace p7 := p7.stn SX (by simp [no32])
      replace p8 := p8.stn SX (by simp [no32])
      replace HB := Lib.hid (SX.below HB.out (by omega))
      replace X3 := SX.box
      clear SX
      generalize (World.setCell (World.setCell w8 ⟨g3, 0, none⟩ (.bool s8)) ⟨g3, 1, none⟩ (.slice A8 n8 c8)) = w9 at *
      have HI := Lib.hid (show PowInv w g3 (j + 1) w9 from ⟨s8, A8, n8, c8, s7, B7, d7, e7, X3, X4, XR, p8, p7, g1, HB.out⟩)
      clear X3 X4 XR p7 p8 HB
      go_roundw
      case rel => exact ⟨j + 1, by simp, by omega, HI.out⟩
      case measure => simp [intOf]; omega
    · obtain rfl : j = k := by omega
      have xXR0 := XR.at (i := 0) (v := .bool false) rfl
      have zXR0 := XR.frozen 0
      have xXR1 := XR.at (i := 1) (v := .slice none 0 0) rfl
      have zXR1 := XR.frozen 1
      have xX30 := X3.at (i := 0) (v := .bool s6) rfl
      have xX31 := X3.at (i := 1) (v := .slice A6 m6 c6) rfl
      go_wp2
      clear xXR0 zXR0 xXR1 zXR1 xX30 xX31
      have SX := StN.mk2 XR (.bool s6) (.slice A6 m6 c6)
      replace X3 := X3.stn SX (by omega)
      replace X4 := X4.stn SX (by omega)
      replace p6 := p6.stn SX (by simp [no32])
      replace p7 := p7.stn SX (by simp [no32])
      replace HB := Lib.hid (SX.below HB.out (by omega))
      replace XR := SX.box
      clear SX
      generalize (World.setCell (World.setCell wr ⟨w.heap.size, 0, none⟩ (.bool s6)) ⟨w.heap.size, 1, none⟩ (.slice A6 m6 c6)) = w9 at *
      have r0 := XR.cell 0
      have r1 := XR.cell 1
      exact bodyPost_ret (v := .agg #[.bool s6, .slice A6 m6 c6]) (by simp [results, Tryd.results50, go_sem, r0, r1]) rfl ⟨s6, A6, m6, c6, rfl, p6, k6, HB.out⟩
end Go.Proofs.YtpmakljahhhnfaaDoor

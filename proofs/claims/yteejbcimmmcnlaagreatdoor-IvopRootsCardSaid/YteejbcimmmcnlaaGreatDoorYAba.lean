/-
  Contracts and words that the statement's proof rests on, several texts in one: Kl, Kq, Gm, Gn, Gq, Gr, Ca, Ha, Hb.
-/
import Derived.Below
import Derived.BigQuiet
import Derived.Carry
import Derived.Deep.DeepCutAuto
import Derived.Deep.Draws
import Derived.Deep.MidRow
import Derived.Deep.QuietTactic
import Derived.Deep.RegionHeld3
import Derived.Deep.RegionWith
import Derived.IntWalk
import Derived.Laws.CopyOwn
import Derived.Laws.MakeOwn
import Derived.Laws.OwnMore
import Derived.Laws.Rows
import Derived.Lib.BitFns
import Derived.Lib.Hide
import Derived.Maps.AppendAt
import Derived.StillTailTactics
import Derived.Test.YteejbcimmmcnlaaGreatDoorRows
import Derived.WalkKit
import Derived.WalkLawsBesides
import Derived.WalkSpells
import Derived.Test.YteejbcimmmcnlaaGreatDoorYAai
import Derived.Test.YteejbcimmmcnlaaGreatDoorYAaj
import Derived.Test.YteejbcimmmcnlaaGreatDoorYAam
import Derived.Test.YteejbcimmmcnlaaGreatDoorYAas
import Derived.Test.YteejbcimmmcnlaaGreatDoorYAaz
/-
  What the statements of layer 5 rest on: how numbers that are rounded lie beside what they are rounded of. Plain arithmetic; no Go text.
-/
namespace Go.Proofs.YteejbcimmmcnlaaGreatDoor
open Go.RowKit
set_option linter.unusedVariables false

theorem sgi_mul (s : Bool) (x y : Int) : sgi s x * y = sgi s (x * y) := by
  cases s
  · rfl
  · exact Int.neg_mul _ _
theorem vp_vr {x : Int} (s : Bool) (h : 0 < x) : vr (sgi s x) = sgi s (vp x) := by
  rw [vr_sgi]
  congr 1
  unfold vr
  rw [if_neg (by omega)]
/-- A number's worth is that of the dyadic one. -/
theorem exq_vl {D : Int} {s : Bool} {M E r : Int} (q : Fq D s M E r) (h1 : -19342822337206103650074625 < r) (h2 : r < 19342822337206103650074625) : exb D s M E = true ∧ vl (exq D s M E) = vr r := by
  have hb : exb D s M E = true := by
    unfold exb
    rw [decide_eq_true q.1, Bool.true_and]
    rcases q.cases with ⟨rfl, rfl, rfl, rfl, h0⟩ | ⟨rfl, _⟩ | ⟨rfl, rfl, rfl, ⟨rfl, h5⟩ | ⟨rfl, h5⟩⟩
    · rfl
    · rfl
    · omega
    · omega
  refine ⟨hb, ?_⟩
  unfold exq
  rw [if_pos hb]; have hr := q.2.2
  rcases q.1 with ⟨rfl, rfl, rfl, rfl⟩ | ⟨rfl, g1, g2, g3⟩ | ⟨rfl, rfl, rfl⟩
  · obtain rfl : 0 = r := hr
    have e0 : sgi false 0 = 0 := if_neg (by decide)
    rw [e0, mk_zero, vl_zero]
    rfl
  · have hM := q.2.1
    have hpl : plc 1 M E = M - 9223372036854775808 + 1 + (E + 1048576) * 9223372036854775808 := rfl
    rw [hpl] at hr
    have ha : (sgi s M).natAbs = M.toNat := by
      cases s
      · show M.natAbs = M.toNat; omega
      · show (-M).natAbs = M.toNat; omega
    obtain ⟨η, hη⟩ : ∃ η : Nat, 4194304 = η := ⟨_, rfl⟩
    have hf := mk_fit (z := sgi s M) (e := E) (h := η) (by omega) (by omega) (by
      rw [ha]
      have : M.toNat < 2 ^ 64 := by omega
      have := Nat.mul_lt_mul_of_pos_right this (Nat.pow_pos (n := (E + (η : Int)).toNat) (show 0 < 2 by decide))
      rw [← Nat.pow_add] at this; exact Nat.lt_of_lt_of_le this (Nat.pow_le_pow_right (by decide) (by omega)))
    rw [hf.2, ← hr, vp_vr s (by omega), vp_fin g1 hM (by omega), sgi_mul]
  · exfalso
    have : r = sgi s TP := hr.symm
    have := TP_eq
    cases s
    · have e : sgi false TP = TP := if_neg (by decide)
      omega
    · have e : sgi true TP = -TP := if_pos rfl
      omega
theorem rnd_nought (up : Bool) : rnd up 0 0 = 0 := by
  rw [rnd_ext rfl]
  rfl
/-- A whole number's place, and its worth. -/
def opl (n : Int) : Int := sgi (decide (n < 0)) (lo n.natAbs 0)
theorem opl_zero : opl 0 = 0 := rfl
theorem opl_vr {n : Int} (h1 : -9223372036854775808 ≤ n) (h2 : n ≤ 9223372036854775807) : vr (opl n) = n * 2 ^ KK := by
  by_cases h0 : n = 0
  · subst h0; rw [opl_zero, Int.zero_mul]
    rfl
  · have q := of_fq h0 h1 h2; have hs := of_shl h0 h1 h2; have a3 := blen_mono_le (n := n.natAbs) (k := 64) (by omega)
    have hr : _ = opl n := q.2.2
    have g := q.plc (by decide)
    rcases g with ⟨_, g1, g2, g3, g4, g5⟩ | ⟨g, _⟩
    · rw [← hr, vp_vr _ (by rw [g5]; omega), g5, vp_fin g1 g2 (by omega), ← hs, Int.mul_assoc, ← Int.pow_add, show (64 - (blen n.natAbs : Int)).toNat + (-(64 - (blen n.natAbs : Int)) + (KK : Int)).toNat = KK by rw [KK_eq]; omega, ← sgi_mul]
      congr 1
      by_cases hn : n < 0
      · rw [decide_eq_true hn]; show -(n.natAbs : Int) = n; omega
      · rw [decide_eq_false hn]; show (n.natAbs : Int) = n; omega
    · exact absurd g (by decide)
theorem opl_cmp {a b : Int} (h1 : -9223372036854775808 ≤ a) (h2 : a ≤ 9223372036854775807) (k1 : -9223372036854775808 ≤ b) (k2 : b ≤ 9223372036854775807) : cmpI (opl a) (opl b) = cmpI a b := by
  rw [← vr_cmp, opl_vr h1 h2, opl_vr k1 k2, cmpI_scale (p2pos KK)]
theorem sgi_not {n : Int} (h0 : n ≠ 0) (l : Int) : sgi (decide (-n < 0)) l = -sgi (decide (n < 0)) l := by
  by_cases hn : n < 0
  · rw [decide_eq_true hn, decide_eq_false (show ¬ -n < 0 by omega), show sgi false l = l from if_neg (by decide), show sgi true l = -l from if_pos rfl, Int.neg_neg]
  · rw [decide_eq_false hn, decide_eq_true (show -n < 0 by omega), show sgi false l = l from if_neg (by decide), show sgi true l = -l from if_pos rfl]
theorem opl_neg (n : Int) : opl (-n) = -opl n := by
  by_cases h0 : n = 0
  · rw [h0, Int.neg_zero, opl_zero, Int.neg_zero]
  · unfold opl
    rw [Int.natAbs_neg]; exact sgi_not h0 _
end Go.Proofs.YteejbcimmmcnlaaGreatDoor

/-
  What any dyadic number in normal form is rounded to, however great or small: how it lies beside its neighbours; of a greater one no lesser one. Plain arithmetic; no Go text.
-/
namespace Go.Proofs.YteejbcimmmcnlaaGreatDoor
open Go.RowKit
set_option linter.unusedVariables false

/-- The place of the least number above, and of the greatest below, by the worth alone. -/
def Dn (X r : Int) : Prop := -19342822337206103650074625 ≤ r ∧ r ≤ 19342822337206103650074624 ∧ (-19342822337206103650074625 < r → vr r ≤ X) ∧ (r < 19342822337206103650074624 → X < vr (r + 1))
def Up (X r : Int) : Prop := Dn (-X) (-r)
theorem Dn.mono {X Y r t : Int} (h : Dn X r) (k : Dn Y t) (hXY : X ≤ Y) : r ≤ t := by
  obtain ⟨h1, h2, h3, h4⟩ := h; obtain ⟨k1, k2, k3, k4⟩ := k
  rcases Int.lt_or_le t r with q | q
  · exfalso
    have a := h3 (by omega); have b := k4 (by omega)
    rcases Int.lt_or_eq_of_le (show t + 1 ≤ r by omega) with q | q
    · have := vr_lt q
      omega
    · rw [q] at b
      omega
  · exact q
theorem Dn.uniq {X r t : Int} (h : Dn X r) (k : Dn X t) : r = t := by
  have a := h.mono k (Int.le_refl _); have b := k.mono h (Int.le_refl _)
  omega
theorem Up.mono {X Y r t : Int} (h : Up X r) (k : Up Y t) (hXY : X ≤ Y) : r ≤ t := by
  have := Dn.mono k h (by omega)
  omega
theorem Up.uniq {X r t : Int} (h : Up X r) (k : Up X t) : r = t := by
  have := Dn.uniq h k
  omega
/-- A place's own worth is told by it, to either side. -/
theorem dn_self {r : Int} (h1 : -19342822337206103650074625 < r) (h2 : r < 19342822337206103650074625) : Dn (vr r) r := ⟨by omega, by omega, fun _ => Int.le_refl _, fun _ => vr_succ r⟩
theorem up_self {r : Int} (h1 : -19342822337206103650074625 < r) (h2 : r < 19342822337206103650074625) : Up (vr r) r := by
  unfold Up
  rw [← vr_neg]; exact dn_self (by omega) (by omega)
theorem m_lt (m : Nat) {a b : Int} (ha : 0 ≤ a) (hb : 0 ≤ b) (h : (blen m : Int) + a ≤ b) : (m : Int) * 2 ^ a.toNat < 2 ^ b.toNat := by
  have h1 := Nat.mul_lt_mul_of_pos_right (blen_lt m) (Nat.pow_pos (n := a.toNat) (show 0 < 2 by decide))
  rw [← Nat.pow_add] at h1
  have h2 := Nat.lt_of_lt_of_le h1 (Nat.pow_le_pow_right (show 0 < 2 by decide) (show blen m + a.toNat ≤ b.toNat by omega))
  exact_mod_cast h2
theorem m_ge {m : Nat} (h0 : m ≠ 0) {a b : Int} (ha : 0 ≤ a) (hb : 0 ≤ b) (h : b ≤ (blen m : Int) - 1 + a) : (2 : Int) ^ b.toNat ≤ (m : Int) * 2 ^ a.toNat := by
  have hl : blen m ≠ 0 := fun e => h0 (blen_eq_zero.1 e)
  have h1 := Nat.mul_le_mul_right (2 ^ a.toNat) (blen_le h0); rw [← Nat.pow_add] at h1
  have h2 := Nat.le_trans (Nat.pow_le_pow_right (show 0 < 2 by decide) (show b.toNat ≤ blen m - 1 + a.toNat by omega)) h1
  exact_mod_cast h2
theorem vp_one : vp 1 = 2 ^ (63 - 1048576 + (KK : Int)).toNat := by
  have := vp_fin (M := 9223372036854775808) (E := -1048576) (by decide) (by decide) (by decide)
  rw [show (9223372036854775808 : Int) - 9223372036854775808 + 1 + (-1048576 + 1048576) * 9223372036854775808 = 1 by decide] at this
  rw [this, show (63 - 1048576 + (KK : Int)).toNat = 63 + (-1048576 + (KK : Int)).toNat by rw [KK_eq]; omega, Int.pow_add]
  rfl
theorem vp_top : vp 19342822337206103650074624 < 2 ^ (64 + 1048576 + (KK : Int)).toNat := by
  have := vp_fin (M := 18446744073709551615) (E := 1048576) (by decide) (by decide) (by decide)
  rw [show (18446744073709551615 : Int) - 9223372036854775808 + 1 + (1048576 + 1048576) * 9223372036854775808 = 19342822337206103650074624 by decide] at this
  rw [this, show (64 + 1048576 + (KK : Int)).toNat = 64 + (1048576 + (KK : Int)).toNat by rw [KK_eq]; omega, Int.pow_add]
  exact Int.mul_lt_mul_of_pos_right (by decide) (p2pos _)
/-- A number above nought between what is next to it on both sides. -/
theorem lo_dn {m : Nat} {E : Int} (h0 : m ≠ 0) (hE1 : -4194304 ≤ E) (hE2 : E ≤ 4194304) (ho : m % 2 = 1) : Dn ((m : Int) * 2 ^ (E + KK).toNat) (lo m E) ∧ Up ((m : Int) * 2 ^ (E + KK).toNat) (hi m E) ∧ 0 ≤ lo m E ∧ 0 ≤ hi m E := by
  have hk := KK_eq; obtain ⟨b1, b2⟩ := lo_bd m E
  have hl : blen m ≠ 0 := fun e => h0 (blen_eq_zero.1 e)
  have hx : xp m E = E + (blen m : Nat) - 64 := rfl
  have e0 : (m == 0) = false := by simpa using h0
  have hpos : 0 < (m : Int) * 2 ^ (E + KK).toNat := Int.mul_pos (by omega) (p2pos _)
  by_cases c1 : 1048576 < xp m E
  · have el : lo m E = 19342822337206103650074624 := by
      unfold lo
      rw [if_neg h0, if_pos c1]
    have ex : ext m E = false := by
      unfold ext
      rw [e0, decide_eq_false (show ¬ xp m E ≤ 1048576 by omega)]
      rfl
    have eh : hi m E = lo m E + 1 := by
      unfold hi
      rw [ex, if_neg (by decide)]
    have g := m_ge h0 (a := E + KK) (b := 64 + 1048576 + KK) (by omega) (by omega) (by omega); have ht := vp_top
    have ev : vr 19342822337206103650074624 = vp 19342822337206103650074624 := by
      unfold vr
      rw [if_neg (by decide)]
    rw [eh, el]
    refine ⟨⟨by decide, by decide, fun _ => by omega, fun h => absurd h (by decide)⟩, ⟨by decide, by decide, fun h => absurd h (by decide), fun _ => ?_⟩, by decide, by decide⟩
    have en : vr (-(19342822337206103650074624 + 1) + 1) = -vr 19342822337206103650074624 := vr_neg 19342822337206103650074624
    omega
  · by_cases c2 : xp m E < -1048576
    · have el : lo m E = 0 := by
        unfold lo
        rw [if_neg h0, if_neg c1, if_pos c2]
      have ex : ext m E = false := by
        unfold ext
        rw [e0, decide_eq_false (show ¬ -1048576 ≤ xp m E by omega)]
        simp
      have eh : hi m E = lo m E + 1 := by
        unfold hi
        rw [ex, if_neg (by decide)]
      have g := m_lt m (a := E + KK) (b := 63 - 1048576 + KK) (by omega) (by omega) (by omega); have h1 := vp_one
      have ev : vr 1 = vp 1 := by
        unfold vr
        rw [if_neg (by decide)]
      have ez : vr 0 = 0 := rfl
      rw [eh, el]
      have en : vr (-(0 + 1)) = -vr 1 := vr_neg 1
      refine ⟨⟨by decide, by decide, fun _ => by omega, fun _ => ?_⟩, ⟨by decide, by decide, fun _ => by omega, fun _ => ?_⟩, by decide, by decide⟩
      · rw [show (0 : Int) + 1 = 1 from rfl]
        omega
      · rw [show (-(0 + 1) + 1 : Int) = 0 from rfl]
        omega
    · obtain ⟨v1, v2, v3, v4⟩ := lo_vr (m := m) (E := E) h0 (by omega) (by omega) (by omega) ho
      revert v1 v2 v3 v4
      have hh : hi m E = if ext m E = true then lo m E else lo m E + 1 := rfl
      cases hx : ext m E
      · rw [hx, if_neg (by decide)] at hh; rw [hh]
        revert b1 b2
        generalize lo m E = l
        intro b1 b2 v1 v2 v3 v4
        have v5 := v4 rfl; have n1 := vr_neg (l + 1); have n2 := vr_neg l
        refine ⟨⟨by omega, by omega, fun _ => v1, fun _ => v2⟩, ⟨by omega, by omega, fun _ => by omega, fun _ => ?_⟩, b1, by omega⟩
        rw [show -(l + 1) + 1 = -l by omega]
        omega
      · rw [hx, if_pos rfl] at hh; rw [hh]
        revert b1 b2
        generalize lo m E = l
        intro b1 b2 v1 v2 v3 v4
        have v5 := v3 rfl; have n1 := vr_neg l; have n2 := vr_succ (-l)
        refine ⟨⟨by omega, by omega, fun _ => v1, fun _ => v2⟩, ⟨by omega, by omega, fun _ => by omega, fun _ => by omega⟩, b1, b1⟩
theorem up_of_dn {X r : Int} (h : Dn X r) : Up (-X) (-r) := by
  unfold Up
  rw [Int.neg_neg, Int.neg_neg]; exact h
theorem dn_of_up {X r : Int} (h : Up X r) : Dn (-X) (-r) := h
/-- Rounding is told by the worth alone. -/
theorem rnd_spec {P : Int × Int} (hP : Nf P) : Dn (vl P) (rnd false P.1 P.2) ∧ Up (vl P) (rnd true P.1 P.2) := by
  rcases hP.cases with e | ⟨h0, ho, e1, e2⟩
  · subst e; rw [rnd_nought, rnd_nought, vl_zero]; have h := dn_self (r := 0) (by decide) (by decide); have k := up_self (r := 0) (by decide) (by decide)
    rw [show vr 0 = 0 from rfl] at h k
    exact ⟨h, k⟩
  · obtain ⟨d, u, _, _⟩ := lo_dn (m := P.1.natAbs) (E := P.2) (by omega) e1 e2 ho
    have hvl : vl P = P.1 * 2 ^ (P.2 + KK).toNat := rfl
    rcases Int.lt_or_lt_of_ne h0 with hn | hp
    · have hs : true = decide (P.1 < 0) := (decide_eq_true hn).symm
      have r1 := rnd_diff (E := P.2) hs; have r2 := rnd_same (up := true) (E := P.2) hs rfl
      rw [show (!true) = false from rfl] at r1
      have ev : vl P = -((P.1.natAbs : Int) * 2 ^ (P.2 + KK).toNat) := by
        rw [hvl, ← Int.neg_mul]
        congr 1
        omega
      have s1 : ∀ x, sgi true x = -x := fun x => if_pos rfl
      rw [r1, r2, ev, s1, s1]; exact ⟨dn_of_up u, up_of_dn d⟩
    · have hs : false = decide (P.1 < 0) := (decide_eq_false (by omega)).symm
      have r1 := rnd_same (up := false) (E := P.2) hs rfl; have r2 := rnd_diff (E := P.2) hs
      rw [show (!false) = true from rfl] at r2
      have ev : vl P = (P.1.natAbs : Int) * 2 ^ (P.2 + KK).toNat := by
        rw [hvl]
        congr 1
        omega
      have s1 : ∀ x, sgi false x = x := fun x => if_neg (by decide)
      rw [r1, r2, ev, s1, s1]; exact ⟨d, u⟩
theorem rnd_monoA {P Q : Int × Int} (hP : Nf P) (hQ : Nf Q) (h : vl P ≤ vl Q) (up : Bool) : rnd up P.1 P.2 ≤ rnd up Q.1 Q.2 := by
  cases up
  · exact (rnd_spec hP).1.mono (rnd_spec hQ).1 h
  · exact (rnd_spec hP).2.mono (rnd_spec hQ).2 h
/-- What is rounded down is not above what is rounded up, and of the opposite both are turned. -/
theorem rnd_turn {P : Int × Int} (hP : Nf P) (up : Bool) : rnd (!up) (-P.1) P.2 = -rnd up P.1 P.2 := by
  have hn : Nf (ng P) := ng_nf hP
  have hv := vl_ng P; obtain ⟨a, b⟩ := rnd_spec hP; obtain ⟨c, d⟩ := rnd_spec hn; rw [hv] at c d
  cases up
  · have := d.uniq (up_of_dn a)
    exact this
  · have := c.uniq (dn_of_up b)
    exact this
end Go.Proofs.YteejbcimmmcnlaaGreatDoor

/-
  Sums and products of numbers, rounded to either side, told of their places. Plain arithmetic; no Go text.
-/
namespace Go.Proofs.YteejbcimmmcnlaaGreatDoor
open Go.RowKit
set_option linter.unusedVariables false

/-- The dyadic number that a finite place is. -/
def ep (r : Int) : Int × Int := if r = 0 then (0, 0) else mk (sgi (decide (r < 0)) (((r.natAbs : Int) - 1) % 9223372036854775808 + 9223372036854775808)) (((r.natAbs : Int) - 1) / 9223372036854775808 - 1048576)
theorem exq_ep {D : Int} {s : Bool} {M E r : Int} (q : Fq D s M E r) (hx : exb D s M E = true) : exq D s M E = ep r := by
  unfold exq ep
  rw [if_pos hx]
  rcases q.cases with ⟨rfl, rfl, rfl, rfl, h0⟩ | ⟨rfl, h1, h2, h3, h4, ⟨rfl, h5⟩ | ⟨rfl, h5⟩⟩ | ⟨rfl, _⟩
  · rw [if_pos h0, show sgi false 0 = 0 from if_neg (by decide)]
    exact mk_zero 0
  · rw [if_neg (by omega), decide_eq_false (show ¬ r < 0 by omega)]
    congr 2
    · omega
    · omega
  · rw [if_neg (by omega), decide_eq_true (show r < 0 by omega)]
    congr 2
    · omega
    · omega
  · exact absurd hx (by unfold exb; simp)
theorem ep_nf (r : Int) : Nf (ep r) := by
  unfold ep
  split
  · exact mk_zero 0
  · exact mk_nf _ _
theorem fq_of {r : Int} (h1 : -19342822337206103650074625 < r) (h2 : r < 19342822337206103650074625) : ∃ D s M E, Fq D s M E r := by
  by_cases h0 : r = 0
  · exact ⟨0, false, 0, 0, h0 ▸ Fq.nought⟩
  · by_cases hn : r < 0
    · refine ⟨1, true, ((r.natAbs : Int) - 1) % 9223372036854775808 + 9223372036854775808, ((r.natAbs : Int) - 1) / 9223372036854775808 - 1048576, Fq.fin (by omega) (by omega) (by omega) (by omega) ?_⟩
      rw [show ∀ x, sgi true x = -x from fun x => if_pos rfl]
      omega
    · refine ⟨1, false, ((r.natAbs : Int) - 1) % 9223372036854775808 + 9223372036854775808, ((r.natAbs : Int) - 1) / 9223372036854775808 - 1048576, Fq.fin (by omega) (by omega) (by omega) (by omega) ?_⟩
      rw [show ∀ x, sgi false x = x from fun x => if_neg (by decide)]
      omega
theorem ep_vl {r : Int} (h1 : -19342822337206103650074625 < r) (h2 : r < 19342822337206103650074625) : vl (ep r) = vr r := by
  obtain ⟨D, s, M, E, q⟩ := fq_of h1 h2; obtain ⟨a, b⟩ := exq_vl q h1 h2; rw [← exq_ep q a, b]
/-- So far as exponents go. -/
theorem ep_fit (r : Int) (h1 : -19342822337206103650074625 < r) (h2 : r < 19342822337206103650074625) {h : Nat} (hh : 1048700 ≤ h) (hh2 : h ≤ 4194304) : Fit h (ep r) := by
  unfold ep
  by_cases h0 : r = 0
  · rw [if_pos h0]; exact Fit.zero h
  · rw [if_neg h0]; obtain ⟨M, hM⟩ : ∃ M, ((r.natAbs : Int) - 1) % 9223372036854775808 + 9223372036854775808 = M := ⟨_, rfl⟩; obtain ⟨E, hE⟩ : ∃ E, ((r.natAbs : Int) - 1) / 9223372036854775808 - 1048576 = E := ⟨_, rfl⟩; rw [hM, hE]; refine (mk_fit (z := sgi (decide (r < 0)) M) (e := E) (h := h) hh2 (by omega) ?_).1
    have ha : (sgi (decide (r < 0)) M).natAbs = M.toNat := by
      cases decide (r < 0)
      · rw [show sgi false M = M from if_neg (by decide)]; omega
      · rw [show sgi true M = -M from if_pos rfl]; omega
    rw [ha]
    have : M.toNat < 2 ^ 64 := by omega
    have := Nat.mul_lt_mul_of_pos_right this (Nat.pow_pos (n := (E + (h : Int)).toNat) (show 0 < 2 by decide))
    rw [← Nat.pow_add] at this; exact Nat.lt_of_lt_of_le this (Nat.pow_le_pow_right (by decide) (by omega))
/-- It is infinite. -/
def infp (x : Int) : Bool := x == TP || x == -TP
/-- The sum's place, the product's. -/
def addp (up : Bool) (x y : Int) : Int :=
  if infp x = true then (if infp y = true ∧ x ≠ y then sgi (!up) TP else x) else if infp y = true then y else rnd up (pl (ep x) (ep y)).1 (pl (ep x) (ep y)).2
def mulp (up : Bool) (x y : Int) : Int :=
  if x = 0 ∨ y = 0 then 0 else if infp x = true ∨ infp y = true then sgi (decide (x < 0) != decide (y < 0)) TP else rnd up (ml (ep x) (ep y)).1 (ml (ep x) (ep y)).2
theorem infp_true {x : Int} (h : infp x = true) : x = 19342822337206103650074625 ∨ x = -19342822337206103650074625 := by
  unfold infp at h
  simp [TP_eq] at h
  omega
theorem pro_spec {x y : Int} (x1 : -19342822337206103650074625 < x) (x2 : x < 19342822337206103650074625) (y1 : -19342822337206103650074625 < y) (y2 : y < 19342822337206103650074625) : Nf (ml (ep x) (ep y)) ∧ vl (ml (ep x) (ep y)) * 2 ^ KK = vr x * vr y := by
  obtain ⟨η, hη⟩ : ∃ η : Nat, η = 2000000 := ⟨_, rfl⟩; have f := ep_fit x x1 x2 (h := η) (by omega) (by omega); have g := ep_fit y y1 y2 (h := η) (by omega) (by omega); obtain ⟨a, b⟩ := ml_fit (by omega) f g; exact ⟨a.nf, by rw [b, ep_vl x1 x2, ep_vl y1 y2]⟩
theorem rnd_bd {P : Int × Int} (hP : Nf P) (up : Bool) : -19342822337206103650074625 ≤ rnd up P.1 P.2 ∧ rnd up P.1 P.2 ≤ 19342822337206103650074625 := by
  obtain ⟨a, b⟩ := rnd_spec hP
  cases up
  · have := a.1; have := a.2.1; omega
  · have := b.1; have := b.2.1; omega
theorem ff : ¬ (false = true) := Bool.false_ne_true
theorem addp_ff {x y : Int} (up : Bool) (hx : infp x = false) (hy : infp y = false) : addp up x y = rnd up (pl (ep x) (ep y)).1 (pl (ep x) (ep y)).2 := by
  unfold addp
  rw [hx, hy, if_neg ff, if_neg ff]
theorem addp_ft {x y : Int} (up : Bool) (hx : infp x = false) (hy : infp y = true) : addp up x y = y := by
  unfold addp
  rw [hx, hy, if_neg ff, if_pos rfl]
theorem addp_tf {x y : Int} (up : Bool) (hx : infp x = true) (hy : infp y = false) : addp up x y = x := by
  unfold addp
  rw [hx, hy, if_pos rfl, if_neg (fun c => ff c.1)]
theorem addp_diff {x y : Int} (up : Bool) (hx : infp x = true) (hy : infp y = true) (h : x ≠ y) : addp up x y = sgi (!up) TP := by
  unfold addp
  rw [hx, hy, if_pos rfl, if_pos ⟨rfl, h⟩]
theorem addp_comm {x y : Int} (up : Bool) : addp up x y = addp up y x := by
  cases hx : infp x <;> cases hy : infp y
  · rw [addp_ff up hx hy, addp_ff up hy hx, pl_comm (ep_nf x) (ep_nf y)]
  · rw [addp_ft up hx hy, addp_tf up hy hx]
  · rw [addp_tf up hx hy, addp_ft up hy hx]
  · by_cases h : x = y
    · rw [h]
    · rw [addp_diff up hx hy h, addp_diff up hy hx (fun e => h e.symm)]
theorem mulp_zero {x y : Int} (up : Bool) (h : x = 0 ∨ y = 0) : mulp up x y = 0 := by
  unfold mulp
  rw [if_pos h]
theorem mulp_inf {x y : Int} (up : Bool) (h : ¬ (x = 0 ∨ y = 0)) (hi : infp x = true ∨ infp y = true) : mulp up x y = sgi (decide (x < 0) != decide (y < 0)) TP := by
  unfold mulp
  rw [if_neg h, if_pos hi]
theorem mulp_fin {x y : Int} (up : Bool) (h : ¬ (x = 0 ∨ y = 0)) (hi : ¬ (infp x = true ∨ infp y = true)) : mulp up x y = rnd up (ml (ep x) (ep y)).1 (ml (ep x) (ep y)).2 := by
  unfold mulp
  rw [if_neg h, if_neg hi]
theorem mulp_comm {x y : Int} (up : Bool) : mulp up x y = mulp up y x := by
  by_cases h0 : x = 0 ∨ y = 0
  · rw [mulp_zero up h0, mulp_zero up h0.symm]
  · have h0' : ¬ (y = 0 ∨ x = 0) := fun c => h0 c.symm
    by_cases h1 : infp x = true ∨ infp y = true
    · rw [mulp_inf up h0 h1, mulp_inf up h0' h1.symm]
      cases decide (x < 0) <;> cases decide (y < 0) <;> rfl
    · rw [mulp_fin up h0 h1, mulp_fin up h0' (fun c => h1 c.symm), ml_comm (ep x) (ep y)]
end Go.Proofs.YteejbcimmmcnlaaGreatDoor

/-
  More of sums and products of places: the product grows with a factor that is not below nought; what nought and one do; what dy.Add may be asked of two finite numbers. Plain arithmetic; no Go text.
-/
namespace Go.Proofs.YteejbcimmmcnlaaGreatDoor
open Go.RowKit
set_option linter.unusedVariables false

theorem vr_pos {x : Int} (h : 0 < x) : 0 < vr x := by
  have := vr_lt h
  rwa [show vr 0 = 0 from rfl] at this
theorem vr_nn {x : Int} (h : 0 ≤ x) : 0 ≤ vr x := by
  rcases Int.lt_or_eq_of_le h with q | q
  · exact Int.le_of_lt (vr_pos q)
  · rw [← q]; decide
theorem vr_le {x y : Int} (h : x ≤ y) : vr x ≤ vr y := by
  rcases Int.lt_or_eq_of_le h with q | q
  · exact Int.le_of_lt (vr_lt q)
  · rw [q]; exact Int.le_refl _
theorem sgT (s : Bool) : sgi s TP = TP ∨ sgi s TP = -TP := by
  cases s
  · exact .inl (if_neg (by decide))
  · exact .inr (if_pos rfl)
theorem mulp_bd {x y : Int} (up : Bool) : -19342822337206103650074625 ≤ mulp up x y ∧ mulp up x y ≤ 19342822337206103650074625 := by
  have htp := TP_eq
  by_cases h0 : x = 0 ∨ y = 0
  · rw [mulp_zero up h0]; omega
  · by_cases h1 : infp x = true ∨ infp y = true
    · rw [mulp_inf up h0 h1]
      have := sgT (decide (x < 0) != decide (y < 0))
      omega
    · rw [mulp_fin up h0 h1]; exact rnd_bd (mk_nf _ _) up
theorem ep_zero : ep 0 = (0, 0) := if_pos rfl
theorem infp_zero : infp 0 = false := by decide
end Go.Proofs.YteejbcimmmcnlaaGreatDoor

/-
  One and two as factors; numbers far apart; what is rounded to both sides lies beside the exact one. Plain arithmetic; no Go text.
-/
namespace Go.Proofs.YteejbcimmmcnlaaGreatDoor
open Go.RowKit
set_option linter.unusedVariables false

/-- An exact worth that a place has is rounded to it, to either side. -/
theorem rnd_exact {P : Int × Int} (hP : Nf P) {r : Int} (up : Bool) (h1 : -19342822337206103650074625 < r) (h2 : r < 19342822337206103650074625) (h : vl P = vr r) : rnd up P.1 P.2 = r := by
  obtain ⟨a, b⟩ := rnd_spec hP; rw [h] at a b
  cases up
  · exact a.uniq (dn_self h1 h2)
  · exact b.uniq (up_self h1 h2)
theorem opl_pos {n : Int} (h : 0 < n) (h1 : n ≤ 9223372036854775807) : 0 < opl n ∧ opl n < 19342822337206103650074625 := by
  have e : opl n = lo n.natAbs 0 := by
    unfold opl
    rw [decide_eq_false (show ¬ n < 0 by omega)]
    exact if_neg (by decide)
  have hc := opl_cmp (a := n) (b := 0) (by omega) h1 (by decide) (by decide); rw [opl_zero, cmpI_gt h] at hc
  have := (lo_bd n.natAbs 0).2
  rw [← e] at this; refine ⟨?_, by omega⟩
  rcases cmpI_tri (opl n) 0 with ⟨a, b⟩ | ⟨a, b⟩ | ⟨a, b⟩
  · rw [b] at hc; exact absurd hc (by decide)
  · rw [b] at hc; exact absurd hc (by decide)
  · exact a
theorem infp_fin {x : Int} (h1 : -19342822337206103650074625 < x) (h2 : x < 19342822337206103650074625) : infp x = false := by
  cases h : infp x
  · rfl
  · have := infp_true h; omega
end Go.Proofs.YteejbcimmmcnlaaGreatDoor

/-
  Sums of numbers far apart; half of twice as much. Plain arithmetic; no Go text.
-/
namespace Go.Proofs.YteejbcimmmcnlaaGreatDoor
open Go.RowKit
set_option linter.unusedVariables false

theorem mulp_exact {x y z : Int} (up : Bool) (x0 : x ≠ 0) (y0 : y ≠ 0) (x1 : -19342822337206103650074625 < x) (x2 : x < 19342822337206103650074625) (y1 : -19342822337206103650074625 < y) (y2 : y < 19342822337206103650074625) (z1 : -19342822337206103650074625 < z) (z2 : z < 19342822337206103650074625) (h : vr x * vr y = vr z * 2 ^ KK) : mulp up x y = z := by
  rw [mulp_fin up (by omega) (by rw [infp_fin x1 x2, infp_fin y1 y2]; simp)]; obtain ⟨n, v⟩ := pro_spec x1 x2 y1 y2; exact rnd_exact n up z1 z2 (Int.eq_of_mul_eq_mul_right (Int.ne_of_gt (p2pos KK)) (v.trans h))
end Go.Proofs.YteejbcimmmcnlaaGreatDoor

/-
  Intervals by the places of their ends: none, or all from one place to another. Plain arithmetic; no Go text.
-/
namespace Go.Proofs.YteejbcimmmcnlaaGreatDoor
open Go.RowKit
set_option linter.unusedVariables false

/-- An interval: none, or from one place to another. -/
abbrev Sp := Option (Int × Int)
def mkI (a b : Int) : Sp := if a ≤ b ∧ a < 19342822337206103650074625 ∧ -19342822337206103650074625 < b then some (a, b) else none
/-- One that may be. -/
def SpOk : Sp → Prop
  | none => True
  | some (a, b) => -19342822337206103650074625 ≤ a ∧ a ≤ b ∧ b ≤ 19342822337206103650074625 ∧ a < 19342822337206103650074625 ∧ -19342822337206103650074625 < b
theorem mkI_some {a b : Int} (h : a ≤ b) (h1 : a < 19342822337206103650074625) (h2 : -19342822337206103650074625 < b) : mkI a b = some (a, b) := by
  unfold mkI
  rw [if_pos ⟨h, h1, h2⟩]
theorem mkI_none {a b : Int} (h : ¬ (a ≤ b ∧ a < 19342822337206103650074625 ∧ -19342822337206103650074625 < b)) : mkI a b = none := by
  unfold mkI
  rw [if_neg h]
theorem mkI_ok {a b : Int} (h1 : -19342822337206103650074625 ≤ a) (h2 : b ≤ 19342822337206103650074625) : SpOk (mkI a b) := by
  by_cases h : a ≤ b ∧ a < 19342822337206103650074625 ∧ -19342822337206103650074625 < b
  · rw [mkI_some h.1 h.2.1 h.2.2]; exact ⟨h1, h.1, h2, h.2.1, h.2.2⟩
  · rw [mkI_none h]; exact trivial
def meetI : Sp → Sp → Sp
  | some (a, b), some (c, d) => mkI (max a c) (min b d)
  | _, _ => none
def allI : Sp := some (-19342822337206103650074625, 19342822337206103650074625)
def hasI (x : Sp) (n : Int) : Bool :=
  match x with
  | none => false
  | some (a, b) => !infp n && decide (a ≤ n) && decide (n ≤ b)
def witI : Sp → Sp → Bool
  | none, _ => true
  | some _, none => false
  | some (a, b), some (c, d) => decide (c ≤ a) && decide (b ≤ d)
def meetL (l : List Sp) : Sp := l.foldl meetI allI
theorem meetI_none (x : Sp) : meetI x none = none := by cases x <;> rfl
theorem all_ok : SpOk allI := ⟨by decide, by decide, by decide, by decide, by decide⟩
/-- The cases of a meeting: none have anything in common, or it is from the greater to the lesser. -/
theorem meet_cases (a b c d : Int) : (meetI (some (a, b)) (some (c, d)) = none ∧ ¬ (max a c ≤ min b d ∧ max a c < 19342822337206103650074625 ∧ -19342822337206103650074625 < min b d)) ∨ (meetI (some (a, b)) (some (c, d)) = some (max a c, min b d) ∧ max a c ≤ min b d) := by
  by_cases h : max a c ≤ min b d ∧ max a c < 19342822337206103650074625 ∧ -19342822337206103650074625 < min b d
  · exact .inr ⟨mkI_some h.1 h.2.1 h.2.2, h.1⟩
  · exact .inl ⟨mkI_none h, h⟩
theorem meet_comm (x y : Sp) : meetI x y = meetI y x := by
  rcases x with _ | ⟨a, b⟩
  · rw [meetI_none]; rfl
  · rcases y with _ | ⟨c, d⟩
    · rfl
    · show mkI _ _ = mkI _ _
      rw [show max a c = max c a by omega, show min b d = min d b by omega]
theorem wit_is_meet {x y : Sp} (hx : SpOk x) (hy : SpOk y) : witI x y = true ↔ meetI x y = x := by
  rcases x with _ | ⟨a, b⟩
  · exact ⟨fun _ => rfl, fun _ => rfl⟩
  · rcases y with _ | ⟨c, d⟩
    · exact ⟨fun h => (by cases h), fun h => (by cases h)⟩
    · obtain ⟨h1, h2, h3, h4, h5⟩ := hx; obtain ⟨k1, k2, k3, k4, k5⟩ := hy
      rcases meet_cases a b c d with ⟨e, h⟩ | ⟨e, h⟩ <;> rw [e] <;> simp [witI] <;> omega
theorem meet_all {x : Sp} (hx : SpOk x) : meetI allI x = x := by
  rw [meet_comm]; refine (wit_is_meet hx all_ok).1 ?_
  rcases x with _ | ⟨a, b⟩
  · rfl
  · obtain ⟨h1, h2, h3, h4, h5⟩ := hx
    simp [witI, allI]
    omega
end Go.Proofs.YteejbcimmmcnlaaGreatDoor

/-
  Sums and products of two numbers within 128 bits: what is rounded of them is what is rounded of the exact ones, though far bits are told by one alone. Plain arithmetic; no Go text.
-/
namespace Go.Proofs.YteejbcimmmcnlaaGreatDoor
open Go.RowKit
set_option linter.unusedVariables false

theorem wsg_f (x : Int) : sgi false x = x := if_neg (by decide)
theorem wsg_t (x : Int) : sgi true x = -x := if_pos rfl
theorem eq_rnd {P Q : Int × Int} (up : Bool) (hP : Nf P) (hQ : Nf Q) (h : vl P = vl Q) : rnd up P.1 P.2 = rnd up Q.1 Q.2 := by
  have a := rnd_monoA hP hQ (Int.le_of_eq h) up; have b := rnd_monoA hQ hP (Int.le_of_eq h.symm) up; exact Int.le_antisymm a b
theorem mk_vl {z e : Int} (h : z.natAbs < 2 ^ 128) (h1 : -3000000 ≤ e) (h2 : e ≤ 3000000) : vl (mk z e) = z * 2 ^ (e + KK).toNat := by
  obtain ⟨η, hη⟩ : ∃ η : Nat, η = 4000000 := ⟨_, rfl⟩; refine (mk_fit (h := η) (by omega) (by omega) ?_).2
  have := Nat.mul_lt_mul_of_pos_right h (Nat.pow_pos (n := (e + (η : Int)).toNat) (show 0 < 2 by decide))
  rw [← Nat.pow_add] at this; exact Nat.lt_of_lt_of_le this (Nat.pow_le_pow_right (by decide) (by omega))
theorem p2_le {a b : Nat} (h : a ≤ b) : (2 : Int) ^ a ≤ 2 ^ b := by
  have := Nat.pow_le_pow_right (show 0 < 2 by decide) h
  exact_mod_cast this
theorem div_le_self {M p : Int} (h0 : 0 ≤ M) (hp : 0 < p) : 0 ≤ M / p ∧ M / p ≤ M := ⟨Int.ediv_nonneg h0 (Int.le_of_lt hp), Int.ediv_le_self _ h0⟩
theorem fq_vr {s : Bool} {M E x : Int} (q : Fq 1 s M E x) : 9223372036854775808 ≤ M ∧ M < 18446744073709551616 ∧ -1048576 ≤ E ∧ E ≤ 1048576 ∧ -19342822337206103650074625 < x ∧ x < 19342822337206103650074625 ∧ x ≠ 0 ∧ vr x = sgi s (M * 2 ^ (E + KK).toNat) ∧ decide (x < 0) = s := by
  rcases q.cases with ⟨c, _⟩ | ⟨_, h1, h2, h3, h4, h5⟩ | ⟨c, _⟩
  · exact absurd c (by decide)
  · have hv := vp_fin h1 h2 h3
    have hx : x = sgi s (M - 9223372036854775808 + 1 + (E + 1048576) * 9223372036854775808) := by
      rcases h5 with ⟨rfl, h5⟩ | ⟨rfl, h5⟩
      · rw [wsg_f]; omega
      · rw [wsg_t]; omega
    have hw : vr x = sgi s (M * 2 ^ (E + KK).toNat) := by
      rw [hx, vp_vr s (by omega), hv]
    refine ⟨h1, h2, h3, h4, ?_, ?_, ?_, hw, ?_⟩
    · rcases h5 with ⟨_, h5⟩ | ⟨_, h5⟩ <;> omega
    · rcases h5 with ⟨_, h5⟩ | ⟨_, h5⟩ <;> omega
    · rcases h5 with ⟨_, h5⟩ | ⟨_, h5⟩ <;> omega
    · rcases h5 with ⟨rfl, h5⟩ | ⟨rfl, h5⟩
      · exact decide_eq_false (by omega)
      · exact decide_eq_true (by omega)
  · exact absurd c (by decide)
theorem sgi_abs (s : Bool) {S : Int} (h : 0 ≤ S) : (sgi s S).natAbs = S.toNat := by
  cases s
  · rw [wsg_f]; omega
  · rw [wsg_t]; omega
/-- The product of two. -/
theorem pro_wide {s1 s2 : Bool} {M1 M2 E1 E2 x y : Int} (up : Bool) (q1 : Fq 1 s1 M1 E1 x) (q2 : Fq 1 s2 M2 E2 y) :
    0 ≤ M1 * M2 ∧ M1 * M2 < 340282366920938463463374607431768211456 ∧ rnd up (mk (sgi (s1 != s2) (M1 * M2)) (E1 + E2)).1 (mk (sgi (s1 != s2) (M1 * M2)) (E1 + E2)).2 = mulp up x y := by
  obtain ⟨a1, a2, a3, a4, a5, a6, a7, a8, a9⟩ := fq_vr q1; obtain ⟨b1, b2, b3, b4, b5, b6, b7, b8, b9⟩ := fq_vr q2; have hk := KK_eq
  have h0 : 0 ≤ M1 * M2 := Int.mul_nonneg (by omega) (by omega)
  have h1 : M1 * M2 < 340282366920938463463374607431768211456 := by
    have l1 : M1 * M2 ≤ 18446744073709551615 * M2 := Int.mul_le_mul_of_nonneg_right (by omega) (by omega)
    omega
  refine ⟨h0, h1, ?_⟩; rw [mulp_fin up (by omega) (by rw [infp_fin a5 a6, infp_fin b5 b6]; simp)]; obtain ⟨nf, ev⟩ := pro_spec a5 a6 b5 b6; have nfP := mk_nf (sgi (s1 != s2) (M1 * M2)) (E1 + E2); have evP := mk_vl (z := sgi (s1 != s2) (M1 * M2)) (e := E1 + E2) (by rw [sgi_abs _ h0]; omega) (by omega) (by omega); refine eq_rnd up nfP nf ?_; refine Int.eq_of_mul_eq_mul_right (Int.ne_of_gt (p2pos KK)) ?_
  rw [ev, evP, a8, b8, Int.mul_assoc, ← Int.pow_add, show (E1 + E2 + (KK : Int)).toNat + KK = (E1 + (KK : Int)).toNat + (E2 + (KK : Int)).toNat by omega, Int.pow_add]
  generalize (2 : Int) ^ (E1 + (KK : Int)).toNat = U; generalize (2 : Int) ^ (E2 + (KK : Int)).toNat = V
  have e : ∀ a b : Int, a * b * (U * V) = a * U * (b * V) := fun a b => by
    rw [Int.mul_assoc, Int.mul_assoc, ← Int.mul_assoc b, Int.mul_comm b U, Int.mul_assoc U]
  cases s1 <;> cases s2
  · rw [show (false != false) = false from rfl, wsg_f, wsg_f, wsg_f]; exact e _ _
  · rw [show (false != true) = true from rfl, wsg_f, wsg_t, wsg_t, Int.neg_mul, Int.mul_neg]; rw [e]
  · rw [show (true != false) = true from rfl, wsg_f, wsg_t, wsg_t, Int.neg_mul, Int.neg_mul]; rw [e]
  · rw [show (true != true) = false from rfl, wsg_f, wsg_t, wsg_t, Int.neg_mul, Int.mul_neg, Int.neg_neg]; exact e _ _
end Go.Proofs.YteejbcimmmcnlaaGreatDoor

/-
  A number of 128 bits, raised to its highest bit; the place next to it, and what it is rounded to. Plain arithmetic; no Go text.
-/
namespace Go.Proofs.YteejbcimmmcnlaaGreatDoor
open Go.RowKit
set_option linter.unusedVariables false

theorem raise_top {h l : Nat} (h0 : h ≠ 0) (hh : h < 18446744073709551616) :
    blen (h * 18446744073709551616 + l) = 64 + blen h ∨ 18446744073709551616 ≤ l := by
  rcases Nat.lt_or_ge l 18446744073709551616 with hl | hl
  · left
    have := blen_shift (h * 18446744073709551616 + l) 64 (by omega)
    rw [this]
    congr 2
    omega
  · exact .inr hl
/-- Raised: the 64 highest bits, whether there is something behind them, and how far. -/
def Ra (S : Nat) (F T K X : Int) : Prop := 0 ≤ T ∧ T < 18446744073709551616 ∧ 0 ≤ K ∧ K < 18446744073709551616 ∧ T = (tp S : Nat) ∧ (S ≠ 0 → X = xp S F ∧ (K = 0 ↔ tp S * 2 ^ blen S = S * 2 ^ 64))
theorem ra_low {l : Nat} {e : Int} (hl : l < 18446744073709551616) : Ra l (e - 64) ((l * 2 ^ (64 - blen l) : Nat) : Int) 0 (e - 64 - (64 - (blen l : Int))) := by
  have hb := blen_mono_le (n := l) (k := 64) hl; have ht := tp_small hb; have h2 := tp_lt l; rw [ht] at h2
  refine ⟨by omega, by omega, by omega, by omega, by rw [ht], fun h0 => ⟨by unfold xp; omega, fun _ => ?_, fun _ => rfl⟩⟩
  rw [ht, Nat.mul_assoc, ← Nat.pow_add]
  congr 2
  omega
theorem ra_high {h l : Nat} {e : Int} (h0 : h ≠ 0) (hh : h < 18446744073709551616) (hl : l < 18446744073709551616) :
    Ra (h * 18446744073709551616 + l) (e - 64) ((h * 2 ^ (64 - blen h) + l / 2 ^ blen h : Nat) : Int) ((l * 2 ^ (64 - blen h) % 18446744073709551616 : Nat) : Int) (e - (64 - (blen h : Int))) := by
  have hb := blen_mono_le (n := h) (k := 64) hh
  have hbs : blen (h * 18446744073709551616 + l) = 64 + blen h := by
    rcases raise_top (l := l) h0 hh with q | q
    · exact q
    · omega
  have hp : 0 < 2 ^ blen h := Nat.pow_pos (by decide)
  have hn : 2 ^ 64 = 2 ^ (64 - blen h) * 2 ^ blen h := by rw [← Nat.pow_add]; congr 1; omega
  have hn' : (18446744073709551616 : Nat) = 2 ^ blen h * 2 ^ (64 - blen h) := by rw [Nat.mul_comm, ← hn]
  have ht : tp (h * 18446744073709551616 + l) = h * 2 ^ (64 - blen h) + l / 2 ^ blen h := by
    unfold tp
    rw [hbs, Nat.pow_add, Nat.mul_comm (2 ^ 64) (2 ^ blen h), Nat.mul_div_mul_right _ _ (Nat.pow_pos (by decide)), hn', show h * (2 ^ blen h * 2 ^ (64 - blen h)) = 2 ^ blen h * (h * 2 ^ (64 - blen h)) by rw [← Nat.mul_assoc, Nat.mul_comm h, Nat.mul_assoc], Nat.mul_add_div hp]
  have hm : l * 2 ^ (64 - blen h) % 18446744073709551616 = l % 2 ^ blen h * 2 ^ (64 - blen h) := by
    rw [hn', Nat.mul_mod_mul_right]
  have ht2 := tp_lt (h * 18446744073709551616 + l)
  have hml := Nat.mod_lt (l * 2 ^ (64 - blen h)) (show 0 < 18446744073709551616 by decide)
  refine ⟨by omega, by omega, by omega, by omega, by rw [ht], fun _ => ⟨?_, ?_⟩⟩
  · unfold xp
    rw [hbs]
    omega
  · rw [hm, hbs, ht, Nat.pow_add, Nat.mul_comm (2 ^ 64) (2 ^ blen h), ← Nat.mul_assoc]; have hd := Nat.div_add_mod l (2 ^ blen h)
    have hS : h * 18446744073709551616 + l = (h * 2 ^ (64 - blen h) + l / 2 ^ blen h) * 2 ^ blen h + l % 2 ^ blen h := by
      rw [Nat.add_mul, Nat.mul_assoc h, ← hn, Nat.mul_comm (l / 2 ^ blen h), Nat.add_assoc, hd]
    rw [hS]
    have hp2 : 0 < 2 ^ (64 - blen h) := Nat.pow_pos (by decide)
    revert hS
    generalize (h * 2 ^ (64 - blen h) + l / 2 ^ blen h) * 2 ^ blen h = Z; generalize l % 2 ^ blen h = m
    intro _
    constructor
    · intro q
      have q1 : m * 2 ^ (64 - blen h) = 0 := by exact_mod_cast q
      have q2 : m = 0 := by
        rcases Nat.mul_eq_zero.1 q1 with c | c
        · exact c
        · omega
      rw [q2, Nat.add_zero]
    · intro q
      have q1 : Z = Z + m := Nat.eq_of_mul_eq_mul_right (show 0 < 2 ^ 64 by decide) q
      have q2 : m = 0 := by omega
      rw [q2, Nat.zero_mul]
      rfl
/-- Is the place next to it that number itself? -/
def exw (S : Nat) (F : Int) : Bool := S == 0 || (decide (xp S F ≤ 1048576) && (decide (-1048576 ≤ xp S F) && decide (tp S * 2 ^ blen S = S * 2 ^ 64)))
theorem exw_odd {m : Nat} (ho : m % 2 = 1) (t : Nat) (F : Int) : exw (m * 2 ^ t) F = ext m (F + t) := by
  have h0 : m ≠ 0 := by omega
  have h2 : m * 2 ^ t ≠ 0 := Nat.mul_ne_zero h0 (Nat.ne_of_gt (Nat.pow_pos (by decide)))
  have ex : xp (m * 2 ^ t) F = xp m (F + t) := by
    unfold xp
    rw [blen_mul h0]
    omega
  have e1 : (m * 2 ^ t == 0) = false := by simpa using h2
  have e2 : (m == 0) = false := by simpa using h0
  have e3 : (tp (m * 2 ^ t) * 2 ^ blen (m * 2 ^ t) = m * 2 ^ t * 2 ^ 64) ↔ blen m ≤ 64 := by
    rw [tp_mul h0, blen_mul h0, Nat.pow_add, ← Nat.mul_assoc, Nat.mul_right_comm m]
    constructor
    · intro q
      have q1 := Nat.eq_of_mul_eq_mul_right (Nat.pow_pos (n := t) (show 0 < 2 by decide)) q
      rcases Nat.lt_or_ge 64 (blen m) with c | c
      · exfalso
        rw [show 2 ^ blen m = 2 ^ (blen m - 65) * 2 * 2 ^ 64 by rw [← Nat.pow_succ, ← Nat.pow_add]; congr 1; omega, ← Nat.mul_assoc] at q1
        have q2 := Nat.eq_of_mul_eq_mul_right (show 0 < 2 ^ 64 by decide) q1
        rw [← Nat.mul_assoc] at q2
        omega
      · exact c
    · intro c
      rw [tp_small c, Nat.mul_assoc m, ← Nat.pow_add, show 64 - blen m + blen m = 64 by omega]
  unfold exw ext
  rw [ex, e1, e2, decide_eq_decide.2 e3]
theorem wide_rnd {S : Nat} {F N E : Int} {neg : Bool} (hS : S < 340282366920938463463374607431768211456) (h1 : -3000000 ≤ F) (h2 : F ≤ 3000000) (hN : (mk (sgi neg (S : Int)) F).1 = N) (hE : (mk (sgi neg (S : Int)) F).2 = E) :
    (exw S F = true → ∀ up, rnd up N E = sgi neg (lo S F)) ∧ rnd neg N E = sgi neg (lo S F) ∧ (exw S F = false → rnd (!neg) N E = nx (!neg) (sgi neg (lo S F))) := by
  by_cases h0 : S = 0
  · subst h0
    have e0 : sgi neg ((0 : Nat) : Int) = 0 := by cases neg <;> rfl
    rw [e0, mk_zero] at hN hE; subst hN; subst hE
    have e1 : sgi neg (lo 0 F) = 0 := by
      have : lo 0 F = 0 := by
        unfold lo
        rw [if_pos rfl]
      rw [this]
      cases neg <;> rfl
    have e2 : exw 0 F = true := by
      unfold exw
      rfl
    rw [e1, e2]
    exact ⟨fun _ up => rnd_nought up, rnd_nought neg, fun c => absurd c (by decide)⟩
  · have hab : (sgi neg (S : Int)).natAbs = S := by rw [sgi_abs neg (by omega)]; omega
    obtain ⟨s1, s2⟩ := v2_spec S h0
    have hv : v2 S < 128 := by
      have h3 := v2_pow_le h0
      have h4 : 2 ^ v2 S < 2 ^ 128 := by omega
      exact (Nat.pow_lt_pow_iff_right (by decide)).1 h4
    have hz : sgi neg (S : Int) ≠ 0 := by
      intro c
      rw [c] at hab; exact h0 hab.symm
    obtain ⟨m1, m2, m3, m4, m5⟩ := mk_in (z := sgi neg (S : Int)) (e := F) hz (by omega) (by rw [hab]; omega); rw [hab] at m1 m2; rw [hE] at m1; rw [hN] at m2 m3
    have hsn : neg = decide (N < 0) := by
      cases neg
      · rw [wsg_f] at m3; exact (decide_eq_false (by omega)).symm
      · rw [wsg_t] at m3; exact (decide_eq_true (by omega)).symm
    have hx : exw S F = ext N.natAbs E := by
      rw [m2, m1]
      conv => lhs; rw [s1]
      exact exw_odd s2 _ F
    have hl : lo S F = lo N.natAbs E := by
      rw [m2, m1]
      conv => lhs; rw [s1]
      exact lo_mul (by omega) _ F
    rw [hx, hl]
    refine ⟨fun c up => ?_, ?_, fun c => ?_⟩
    · rw [rnd_ext c, ← hsn]
    · exact rnd_same hsn rfl
    · rw [rnd_diff hsn, nx_lo neg c]
end Go.Proofs.YteejbcimmmcnlaaGreatDoor

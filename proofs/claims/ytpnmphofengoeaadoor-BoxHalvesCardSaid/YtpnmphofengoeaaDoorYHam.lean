/-
  Contracts and words that the statement's proof rests on: Dc, Vm.
-/
import Derived.StillTailTactics
import Derived.Test.YtpnmphofengoeaaDoorYHak
import Derived.Test.YtpnmphofengoeaaDoorYHal
namespace Go.Proofs.YtpnmphofengoeaaDoor
open Go.RowKit
set_option linter.unusedVariables false

section
variable {w : World} {g : Nat} {a b c : Value} {T : TypeId}
end
theorem mk_bd (z e : Int) : -4194304 ≤ (mk z e).2 ∧ (mk z e).2 ≤ 4194304 := by
  unfold mk
  split
  · simp
  · rename_i h
    simp only
    omega
end Go.Proofs.YtpnmphofengoeaaDoor

namespace Go.Proofs.YtpnmphofengoeaaDoor
set_option linter.unusedVariables false

theorem p2pos (k : Nat) : (0 : Int) < 2 ^ k := Int.pow_pos (by decide)
theorem natAbs_mul_pow (z : Int) (k : Nat) : (z * 2 ^ k).natAbs = z.natAbs * 2 ^ k := by
  rw [Int.natAbs_mul, Int.natAbs_pow]
  rfl
def Nf (p : Int × Int) : Prop := mk p.1 p.2 = p
theorem mk_odd {z e : Int} (hz : z.natAbs % 2 = 1) (h1 : -4194304 ≤ e) (h2 : e ≤ 4194304) : mk z e = (z, e) := by
  have h0 : z ≠ 0 := by omega
  have hv := v2_odd hz; obtain ⟨e1, e2, e3, e4, e5⟩ := mk_in (z := z) (e := e) h0 h1 (by rw [hv]; simpa using h2); rw [hv] at e1 e5
  apply Prod.ext
  · simpa using e5.symm
  · simpa using e1
theorem mk_cases (z e : Int) : mk z e = (0, 0) ∨ (z ≠ 0 ∧ -4194304 ≤ e ∧ e ≤ 4194304 ∧ e + (v2 z.natAbs : Nat) ≤ 4194304 ∧ (mk z e).1.natAbs % 2 = 1 ∧ (mk z e).2 = e + (v2 z.natAbs : Nat) ∧ z = (mk z e).1 * 2 ^ v2 z.natAbs) := by
  by_cases hc : z = 0 ∨ e < -4194304 ∨ 4194304 < e ∨ 4194304 < e + (v2 z.natAbs : Nat)
  · left
    unfold mk
    rw [if_pos hc]
  · right
    have h0 : z ≠ 0 := by omega
    obtain ⟨e1, e2, e3, e4, e5⟩ := mk_in (z := z) (e := e) h0 (by omega) (by omega); refine ⟨h0, by omega, by omega, by omega, ?_, e1, e5⟩
    rw [e2]; exact (v2_spec z.natAbs (by omega)).2
theorem mk_nf (z e : Int) : Nf (mk z e) := by
  rcases mk_cases z e with h | ⟨h0, h1, h2, h3, h4, h5, h6⟩
  · unfold Nf
    rw [h]; exact mk_zero 0
  · exact mk_odd h4 (by omega) (by omega)
theorem Nf.cases {p : Int × Int} (h : Nf p) : p = (0, 0) ∨ (p.1 ≠ 0 ∧ p.1.natAbs % 2 = 1 ∧ -4194304 ≤ p.2 ∧ p.2 ≤ 4194304) := by
  have hb := mk_bd p.1 p.2
  rcases mk_cases p.1 p.2 with e | ⟨h0, h1, h2, h3, h4, h5, h6⟩
  · left
    rw [← e]; exact h.symm
  · right
    rw [show mk p.1 p.2 = p from h] at h4
    exact ⟨h0, h4, h1, h2⟩
theorem Nf.zero {p : Int × Int} (h : Nf p) (h0 : p.1 = 0) : p = (0, 0) := by
  rcases h.cases with e | ⟨e, _⟩
  · exact e
  · exact absurd h0 e
def KK : Nat := 4194304
theorem KK_eq : KK = 4194304 := rfl
def vl (p : Int × Int) : Int := p.1 * 2 ^ (p.2 + KK).toNat
theorem vl_zero : vl (0, 0) = 0 := by unfold vl; exact Int.zero_mul _
theorem cmpI_scale {a b p : Int} (hp : 0 < p) : cmpI (a * p) (b * p) = cmpI a b := by
  unfold cmpI
  by_cases h1 : a < b
  · rw [if_pos h1, if_pos (Int.mul_lt_mul_of_pos_right h1 hp)]
  · have h1' : ¬ a * p < b * p := Int.not_lt.2 (Int.mul_le_mul_of_nonneg_right (Int.not_lt.1 h1) (Int.le_of_lt hp))
    rw [if_neg h1, if_neg h1']
    by_cases h2 : b < a
    · rw [if_pos h2, if_pos (Int.mul_lt_mul_of_pos_right h2 hp)]
    · have h2' : ¬ b * p < a * p := Int.not_lt.2 (Int.mul_le_mul_of_nonneg_right (Int.not_lt.1 h2) (Int.le_of_lt hp))
      rw [if_neg h2, if_neg h2']
def Fit (h : Nat) (p : Int × Int) : Prop := Nf p ∧ -(h : Int) ≤ p.2 ∧ p.1.natAbs * 2 ^ (p.2 + h).toNat < 2 ^ (2 * h)
theorem Fit.nf {h : Nat} {p : Int × Int} (f : Fit h p) : Nf p := f.1
theorem Fit.lo {h : Nat} {p : Int × Int} (f : Fit h p) : -(h : Int) ≤ p.2 := f.2.1
theorem Fit.zero (h : Nat) : Fit h (0, 0) := ⟨mk_zero 0, by simp, by simp; exact Nat.pow_pos (by decide)⟩
theorem Fit.mono {h k : Nat} {p : Int × Int} (f : Fit h p) (hk : h ≤ k) : Fit k p := by
  have h1 := f.lo; refine ⟨f.1, by omega, ?_⟩
  have e1 : (2 : Nat) ^ (p.2 + k).toNat = 2 ^ (p.2 + h).toNat * 2 ^ (k - h) := by rw [← Nat.pow_add]; congr 1; omega
  have e2 : (2 : Nat) ^ (2 * k) = 2 ^ (2 * h) * 2 ^ (k - h) * 2 ^ (k - h) := by rw [← Nat.pow_add, ← Nat.pow_add]; congr 1; omega
  rw [e1, e2, ← Nat.mul_assoc]; refine Nat.lt_of_lt_of_le (Nat.mul_lt_mul_of_pos_right f.2.2 (Nat.pow_pos (by decide))) (Nat.le_mul_of_pos_right _ (Nat.pow_pos (by decide)))
theorem mk_fit {z e : Int} {h : Nat} (hh : h ≤ 4194304) (h1 : -(h : Int) ≤ e) (h2 : z.natAbs * 2 ^ (e + h).toNat < 2 ^ (2 * h)) : Fit h (mk z e) ∧ vl (mk z e) = z * 2 ^ (e + KK).toNat := by
  by_cases h0 : z = 0
  · subst h0; rw [mk_zero]; exact ⟨Fit.zero h, by rw [vl_zero, Int.zero_mul]⟩
  · have hn : z.natAbs ≠ 0 := by omega
    have h3 := Nat.lt_of_le_of_lt (Nat.mul_le_mul_right (2 ^ (e + h).toNat) (v2_pow_le hn)) h2; rw [← Nat.pow_add] at h3; have h4 := (Nat.pow_lt_pow_iff_right (a := 2) (by decide)).1 h3; obtain ⟨e1, e2, e3, e4, e5⟩ := mk_in (z := z) (e := e) h0 (by omega) (by omega); have hnf := mk_nf z e
    revert e1 e5 hnf
    generalize hv : v2 z.natAbs = v at *; generalize mk z e = p; obtain ⟨N, E⟩ := p
    intro e1 e5 hnf
    simp only at e1 e5; subst e5; subst e1; refine ⟨⟨hnf, by simp only; omega, ?_⟩, ?_⟩
    · simp only
      rw [natAbs_mul_pow, Nat.mul_assoc, ← Nat.pow_add, show v + (e + h).toNat = (e + v + h).toNat by omega] at h2
      exact h2
    · unfold vl
      simp only
      rw [Int.mul_assoc, ← Int.pow_add]
      congr 2
      rw [KK_eq]
      omega
def pl (p q : Int × Int) : Int × Int := if p.1 = 0 then q else if q.1 = 0 then p else mk (p.1 * 2 ^ (p.2 - min p.2 q.2).toNat + q.1 * 2 ^ (q.2 - min p.2 q.2).toNat) (min p.2 q.2)
theorem pl_comm {p q : Int × Int} (hp : Nf p) (hq : Nf q) : pl p q = pl q p := by
  unfold pl
  by_cases h1 : p.1 = 0
  · rw [if_pos h1]
    by_cases h2 : q.1 = 0
    · rw [if_pos h2, hp.zero h1, hq.zero h2]
    · rw [if_neg h2, if_pos h1]
  · rw [if_neg h1]
    by_cases h2 : q.1 = 0
    · rw [if_pos h2, if_pos h2]
    · rw [if_neg h2, if_neg h2, if_neg h1, Int.min_comm q.2 p.2, Int.add_comm]
theorem pl_nf {p q : Int × Int} (hp : Nf p) (hq : Nf q) : Nf (pl p q) := by
  unfold pl
  split
  · exact hq
  · split
    · exact hp
    · exact mk_nf _ _
theorem pl_fit {h : Nat} {p q : Int × Int} (hh : h + 1 ≤ 4194304) (fp : Fit h p) (fq : Fit h q) : Fit (h + 1) (pl p q) ∧ vl (pl p q) = vl p + vl q := by
  unfold pl
  by_cases h1 : p.1 = 0
  · rw [if_pos h1, fp.1.zero h1, vl_zero, Int.zero_add]; exact ⟨fq.mono (by omega), rfl⟩
  · rw [if_neg h1]
    by_cases h2 : q.1 = 0
    · rw [if_pos h2, fq.1.zero h2, vl_zero, Int.add_zero]; exact ⟨fp.mono (by omega), rfl⟩
    · rw [if_neg h2]; have lp := fp.lo; have lq := fq.lo; obtain ⟨l, hl⟩ : ∃ l, min p.2 q.2 = l := ⟨_, rfl⟩; rw [hl]
      have l1 : l ≤ p.2 := by omega
      have l2 : l ≤ q.2 := by omega
      have l3 : -(h : Int) ≤ l := by omega
      obtain ⟨a1, a2⟩ := mk_fit (z := p.1 * 2 ^ (p.2 - l).toNat + q.1 * 2 ^ (q.2 - l).toNat) (e := l) (h := h + 1) hh (by omega) (by
        have t := Int.natAbs_add_le (p.1 * 2 ^ (p.2 - l).toNat) (q.1 * 2 ^ (q.2 - l).toNat); rw [natAbs_mul_pow, natAbs_mul_pow] at t; refine Nat.lt_of_le_of_lt (Nat.mul_le_mul_right _ t) ?_; have x1 := fp.2.2; have x2 := fq.2.2
        rw [Nat.add_mul, Nat.mul_assoc, Nat.mul_assoc, ← Nat.pow_add, ← Nat.pow_add,
          show (p.2 - l).toNat + (l + (h + 1 : Nat)).toNat = (p.2 + h).toNat + 1 by omega, show (q.2 - l).toNat + (l + (h + 1 : Nat)).toNat = (q.2 + h).toNat + 1 by omega,
          show 2 * (h + 1) = 2 * h + 1 + 1 by omega, Nat.pow_succ, Nat.pow_succ, Nat.pow_succ, Nat.pow_succ, ← Nat.mul_assoc, ← Nat.mul_assoc]
        omega)
      refine ⟨a1, ?_⟩; rw [a2, Int.add_mul, Int.mul_assoc, Int.mul_assoc, ← Int.pow_add, ← Int.pow_add]
      unfold vl
      have k1 : (p.2 - l).toNat + (l + KK).toNat = (p.2 + KK).toNat := by rw [KK_eq]; omega
      have k2 : (q.2 - l).toNat + (l + KK).toNat = (q.2 + KK).toNat := by rw [KK_eq]; omega
      rw [k1, k2]
def ml (p q : Int × Int) : Int × Int := mk (p.1 * q.1) (p.2 + q.2)
theorem ml_fit {h k : Nat} {p q : Int × Int} (hh : h + k ≤ 4194304) (fp : Fit h p) (fq : Fit k q) : Fit (h + k) (ml p q) ∧ vl (ml p q) * 2 ^ KK = vl p * vl q := by
  unfold ml
  have lp := fp.lo; have lq := fq.lo
  obtain ⟨a1, a2⟩ := mk_fit (z := p.1 * q.1) (e := p.2 + q.2) (h := h + k) hh (by omega) (by
    rw [Int.natAbs_mul, show (p.2 + q.2 + (h + k : Nat)).toNat = (p.2 + h).toNat + (q.2 + k).toNat by omega, Nat.pow_add,
      Nat.mul_mul_mul_comm, show 2 * (h + k) = 2 * h + 2 * k by omega, Nat.pow_add]
    exact Nat.mul_lt_mul'' fp.2.2 fq.2.2)
  refine ⟨a1, ?_⟩; rw [a2]
  unfold vl
  have k0 : (p.2 + q.2 + KK).toNat + KK = (p.2 + KK).toNat + (q.2 + KK).toNat := by rw [KK_eq]; omega
  rw [Int.mul_assoc, ← Int.pow_add, k0, Int.pow_add, Int.mul_assoc, Int.mul_assoc]
  congr 1
  rw [← Int.mul_assoc, ← Int.mul_assoc, Int.mul_comm q.1]
end Go.Proofs.YtpnmphofengoeaaDoor

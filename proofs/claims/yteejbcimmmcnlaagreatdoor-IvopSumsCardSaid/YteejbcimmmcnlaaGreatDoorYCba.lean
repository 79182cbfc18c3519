/-
  Contracts and words that the statement's proof rests on, several texts in one: Ha, Hb, Ga, Mq.
-/
import Derived.Below
import Derived.BigQuiet
import Derived.Carry
import Derived.Deep.Draws
import Derived.Deep.MidRow
import Derived.Deep.QuietTactic
import Derived.Deep.RegionHeld3
import Derived.Deep.RegionWith
import Derived.IntWalk
import Derived.Laws.CopyOwn
import Derived.Laws.MakeOwn
import Derived.Laws.OwnMore
import Derived.Laws.Rows
import Derived.Lib.BitFns
import Derived.Lib.Hide
import Derived.Test.YteejbcimmmcnlaaGreatDoorRows
import Derived.WalkKit
import Derived.WalkLawsBesides
import Derived.WalkSpells
import Derived.Test.YteejbcimmmcnlaaGreatDoorYCaj
import Derived.Test.YteejbcimmmcnlaaGreatDoorYCal
import Derived.Test.YteejbcimmmcnlaaGreatDoorYCaq
import Derived.Test.YteejbcimmmcnlaaGreatDoorYCaw
import Derived.Test.YteejbcimmmcnlaaGreatDoorYCax
import Derived.Test.YteejbcimmmcnlaaGreatDoorYCay
import Derived.Test.YteejbcimmmcnlaaGreatDoorYCaz
/-
  Sums and products of two numbers within 128 bits: what is rounded of them is what is rounded of the exact ones, though far bits are told by one alone. Plain arithmetic; no Go text.
-/
namespace Go.Proofs.YteejbcimmmcnlaaGreatDoor
open Go.RowKit
set_option linter.unusedVariables false

theorem wsg_f (x : Int) : sgi false x = x := if_neg (by decide)
theorem wsg_t (x : Int) : sgi true x = -x := if_pos rfl
/-- No place lies between: both are rounded alike. -/
theorem Dn.sep {A B a b r : Int} (h : Dn A r) (hA1 : a < A) (hA2 : A < b) (hB1 : a < B) (hB2 : B < b) (hs : ∀ s, ¬ (a < vr s ∧ vr s < b)) : Dn B r := by
  obtain ⟨h1, h2, h3, h4⟩ := h
  refine ⟨h1, h2, fun k => ?_, fun k => ?_⟩
  · have := h3 k
    have := hs r
    omega
  · have := h4 k
    have := hs (r + 1)
    omega
theorem sep_rnd {P Q : Int × Int} (up : Bool) (hP : Nf P) (hQ : Nf Q) {a b : Int} (hA1 : a < vl P) (hA2 : vl P < b) (hB1 : a < vl Q) (hB2 : vl Q < b) (hs : ∀ s, ¬ (a < vr s ∧ vr s < b)) : rnd up P.1 P.2 = rnd up Q.1 Q.2 := by
  obtain ⟨p1, p2⟩ := rnd_spec hP; obtain ⟨q1, q2⟩ := rnd_spec hQ
  cases up
  · exact (p1.sep hA1 hA2 hB1 hB2 hs).uniq q1
  · refine Up.uniq (X := vl Q) ?_ q2
    refine Dn.sep (a := -b) (b := -a) p2 (by omega) (by omega) (by omega) (by omega) (fun s => ?_)
    have := hs (-s)
    rw [vr_neg] at this
    omega
theorem eq_rnd {P Q : Int × Int} (up : Bool) (hP : Nf P) (hQ : Nf Q) (h : vl P = vl Q) : rnd up P.1 P.2 = rnd up Q.1 Q.2 := by
  have a := rnd_monoA hP hQ (Int.le_of_eq h) up; have b := rnd_monoA hQ hP (Int.le_of_eq h.symm) up; exact Int.le_antisymm a b
theorem sep_sgi {P Q : Int × Int} {s : Bool} {A B a b : Int} (up : Bool) (hP : Nf P) (hQ : Nf Q) (eP : vl P = sgi s A) (eQ : vl Q = sgi s B) (hA1 : a < A) (hA2 : A < b) (hB1 : a < B) (hB2 : B < b) (hs : ∀ s, ¬ (a < vr s ∧ vr s < b)) : rnd up P.1 P.2 = rnd up Q.1 Q.2 := by
  cases s
  · rw [wsg_f] at eP eQ; exact sep_rnd up hP hQ (a := a) (b := b) (by omega) (by omega) (by omega) (by omega) hs
  · rw [wsg_t] at eP eQ
    refine sep_rnd up hP hQ (a := -b) (b := -a) (by omega) (by omega) (by omega) (by omega) (fun t => ?_)
    have := hs (-t)
    rw [vr_neg] at this
    omega
theorem mk_vl {z e : Int} (h : z.natAbs < 2 ^ 128) (h1 : -3000000 ≤ e) (h2 : e ≤ 3000000) : vl (mk z e) = z * 2 ^ (e + KK).toNat := by
  obtain ⟨η, hη⟩ : ∃ η : Nat, η = 4000000 := ⟨_, rfl⟩; refine (mk_fit (h := η) (by omega) (by omega) ?_).2
  have := Nat.mul_lt_mul_of_pos_right h (Nat.pow_pos (n := (e + (η : Int)).toNat) (show 0 < 2 by decide))
  rw [← Nat.pow_add] at this; exact Nat.lt_of_lt_of_le this (Nat.pow_le_pow_right (by decide) (by omega))
/-- Far from nought no place lies between two even multiples. -/
theorem no_place {i : Int} {u : Nat} (hi : 21267647932558653966460912964485513216 ≤ i) (s : Int) : ¬ (2 * i * 2 ^ u < vr s ∧ vr s < (2 * i + 2) * 2 ^ u) := by
  rintro ⟨h1, h2⟩; have hu := p2pos u
  have hpos : 0 < vr s := Int.lt_of_le_of_lt (Int.mul_nonneg (by omega) (Int.le_of_lt hu)) h1
  have hs : 0 < s := by
    rcases Int.lt_or_le 0 s with q | q
    · exact q
    · exfalso
      have := vr_le q
      rw [show vr 0 = 0 from rfl] at this
      omega
  have e0 : vr s = ((s - 1) % 9223372036854775808 + 9223372036854775808) * 2 ^ ((s - 1) / 9223372036854775808 - 1048576 + KK).toNat := by
    unfold vr vp
    rw [if_neg (by omega), if_neg (by omega)]
  obtain ⟨M, hM⟩ : ∃ M, (s - 1) % 9223372036854775808 + 9223372036854775808 = M := ⟨_, rfl⟩; obtain ⟨t, ht⟩ : ∃ t, ((s - 1) / 9223372036854775808 - 1048576 + (KK : Int)).toNat = t := ⟨_, rfl⟩; rw [hM, ht] at e0
  have hMl : M < 18446744073709551616 := by omega
  rw [e0] at h1 h2; clear e0 hM ht hs hpos
  rcases Nat.lt_or_ge u t with q | q
  · obtain ⟨d, rfl⟩ : ∃ d, t = u + 1 + d := ⟨t - (u + 1), by omega⟩
    have e1 : M * 2 ^ (u + 1 + d) = M * 2 ^ d * 2 * 2 ^ u := by
      rw [Int.pow_add, Int.pow_succ]; generalize (2 : Int) ^ u = U; generalize (2 : Int) ^ d = D; rw [Int.mul_assoc M D 2, Int.mul_assoc M, Int.mul_comm U 2, Int.mul_comm (2 * U) D, Int.mul_assoc D 2 U]
    rw [e1] at h1 h2; have a1 := Int.lt_of_mul_lt_mul_right h1 (Int.le_of_lt hu); have a2 := Int.lt_of_mul_lt_mul_right h2 (Int.le_of_lt hu)
    omega
  · obtain ⟨d, rfl⟩ : ∃ d, u = t + d := ⟨u - t, by omega⟩
    have ht := p2pos t; have hd := p2pos d; rw [Int.pow_add] at h1
    have l1 : (2 : Int) ^ t * 1 ≤ 2 ^ t * 2 ^ d := Int.mul_le_mul_of_nonneg_left hd (Int.le_of_lt ht)
    rw [Int.mul_one] at l1
    have l2 : 2 * i * (2 : Int) ^ t ≤ 2 * i * (2 ^ t * 2 ^ d) := Int.mul_le_mul_of_nonneg_left l1 (by omega)
    have a1 := Int.lt_of_mul_lt_mul_right (Int.lt_of_le_of_lt l2 h1) (Int.le_of_lt ht)
    omega
/-- A word moved down by n, which is 1 or more, within 128 bits: bits that go beyond are told by the lowest one. -/
def mvd (M : Int) (n : Nat) : Int := if n ≤ 64 then M * 2 ^ (64 - n) else if M % 2 ^ (n - 64) = 0 then M / 2 ^ (n - 64) else M / 2 ^ (n - 64) / 2 * 2 + 1
theorem p2_le {a b : Nat} (h : a ≤ b) : (2 : Int) ^ a ≤ 2 ^ b := by
  have := Nat.pow_le_pow_right (show 0 < 2 by decide) h
  exact_mod_cast this
theorem div_le_self {M p : Int} (h0 : 0 ≤ M) (hp : 0 < p) : 0 ≤ M / p ∧ M / p ≤ M := ⟨Int.ediv_nonneg h0 (Int.le_of_lt hp), Int.ediv_le_self _ h0⟩
theorem mvd_bd {M : Int} {n : Nat} (h0 : 0 ≤ M) (hM : M < 18446744073709551616) (hn : 1 ≤ n) : 0 ≤ mvd M n ∧ mvd M n ≤ M * 9223372036854775808 + 1 ∧ mvd M n < 170141183460469231731687303715884105728 ∧ (2 ≤ n → mvd M n < 85070591730234615865843651857942052864) := by
  unfold mvd
  by_cases h : n ≤ 64
  · rw [if_pos h]
    have l1 := p2_le (show 64 - n ≤ 63 by omega)
    have l0 := p2pos (64 - n); have a1 := Int.mul_le_mul_of_nonneg_left l1 h0
    rw [show (2 : Int) ^ 63 = 9223372036854775808 by decide] at a1
    refine ⟨Int.mul_nonneg h0 (Int.le_of_lt l0), by omega, by omega, fun h2 => ?_⟩
    have l2 := p2_le (show 64 - n ≤ 62 by omega)
    have a2 := Int.mul_le_mul_of_nonneg_left l2 h0
    rw [show (2 : Int) ^ 62 = 4611686018427387904 by decide] at a2
    omega
  · rw [if_neg h]; obtain ⟨b1, b2⟩ := div_le_self h0 (p2pos (n - 64))
    revert b1 b2
    generalize M / 2 ^ (n - 64) = q
    intro b1 b2
    by_cases hr : M % 2 ^ (n - 64) = 0
    · rw [if_pos hr]
      refine ⟨by omega, by omega, by omega, fun _ => by omega⟩
    · rw [if_neg hr]
      refine ⟨by omega, by omega, by omega, fun _ => by omega⟩
theorem fq_vr {s : Bool} {M E x : Int} (q : Fq 1 s M E x) : 9223372036854775808 ≤ M ∧ M < 18446744073709551616 ∧ -1048576 ≤ E ∧ E ≤ 1048576 ∧ -19342822337206103650074625 < x ∧ x < 19342822337206103650074625 ∧ x ≠ 0 ∧ vr x = sgi s (M * 2 ^ (E + KK).toNat) ∧ decide (x < 0) = s := by
  rcases q.cases with ⟨c, _⟩ | ⟨_, h1, h2, h3, h4, h5⟩ | ⟨c, _⟩
  · exact absurd c (by decide)
  · have hv := vp_fin h1 h2 h3
    have hx : x = sgi s (M - 9223372036854775808 + 1 + (E + 1048576) * 9223372036854775808) := by
      rcases h5 with ⟨rfl, h5⟩ | ⟨rfl, h5⟩
      · rw [wsg_f]; omega
      · rw [wsg_t]; omega
    have hw : vr x = sgi s (M * 2 ^ (E + KK).toNat) := by
      rw [hx, vp_vr s (by omega), hv]
    refine ⟨h1, h2, h3, h4, ?_, ?_, ?_, hw, ?_⟩
    · rcases h5 with ⟨_, h5⟩ | ⟨_, h5⟩ <;> omega
    · rcases h5 with ⟨_, h5⟩ | ⟨_, h5⟩ <;> omega
    · rcases h5 with ⟨_, h5⟩ | ⟨_, h5⟩ <;> omega
    · rcases h5 with ⟨rfl, h5⟩ | ⟨rfl, h5⟩
      · exact decide_eq_false (by omega)
      · exact decide_eq_true (by omega)
  · exact absurd c (by decide)
theorem sgi_add (s t : Bool) (x y : Int) : sgi s x + sgi t y = sgi s (x + sgi (s != t) y) := by
  cases s <;> cases t
  · rw [show (false != false) = false from rfl, wsg_f, wsg_f, wsg_f]
  · rw [show (false != true) = true from rfl, wsg_f, wsg_t, wsg_f]
  · rw [show (true != false) = true from rfl, wsg_t, wsg_f, wsg_t, wsg_t]; omega
  · rw [show (true != true) = false from rfl, wsg_t, wsg_t, wsg_f, wsg_t]; omega
theorem sgi_abs (s : Bool) {S : Int} (h : 0 ≤ S) : (sgi s S).natAbs = S.toNat := by
  cases s
  · rw [wsg_f]; omega
  · rw [wsg_t]; omega
/-- The sum of two, of which the first one is not nearer to nought. -/
theorem sum_wide {s1 s2 : Bool} {M1 M2 E1 E2 x y S : Int} {n : Nat} (up : Bool) (q1 : Fq 1 s1 M1 E1 x) (q2 : Fq 1 s2 M2 E2 y) (h : E2 < E1 ∨ E2 = E1 ∧ M2 ≤ M1) (hn : (n : Int) = E1 - E2 + 1) (hS : S = M1 * 9223372036854775808 + sgi (s1 != s2) (mvd M2 n)) :
    0 ≤ S ∧ S < 340282366920938463463374607431768211456 ∧ rnd up (mk (sgi s1 S) (E1 - 63)).1 (mk (sgi s1 S) (E1 - 63)).2 = addp up x y := by
  obtain ⟨a1, a2, a3, a4, a5, a6, a7, a8, a9⟩ := fq_vr q1; obtain ⟨b1, b2, b3, b4, b5, b6, b7, b8, b9⟩ := fq_vr q2; obtain ⟨m0, m1, m2, m3⟩ := mvd_bd (M := M2) (n := n) (by omega) b2 (by omega); have hk := KK_eq
  have hone : n = 1 → mvd M2 n = M2 * 9223372036854775808 := by
    rintro rfl
    unfold mvd
    rw [if_pos (by decide)]
    rfl
  have hS0 : 0 ≤ S ∧ S < 340282366920938463463374607431768211456 := by
    rw [hS]
    cases hs : s1 != s2
    · rw [wsg_f]; omega
    · rw [wsg_t]
      by_cases c : n = 1
      · have := hone c
        omega
      · have := m3 (by omega)
        omega
  refine ⟨hS0.1, hS0.2, ?_⟩; rw [addp_ff up (infp_fin a5 a6) (infp_fin b5 b6)]; obtain ⟨nf, ev⟩ := sum_spec a5 a6 b5 b6; have nfP := mk_nf (sgi s1 S) (E1 - 63); have evP := mk_vl (z := sgi s1 S) (e := E1 - 63) (by rw [sgi_abs s1 hS0.1]; omega) (by omega) (by omega); obtain ⟨u, hu⟩ : ∃ u : Nat, (E1 - 63 + (KK : Int)).toNat = u := ⟨_, rfl⟩; obtain ⟨v, hv⟩ : ∃ v : Nat, (E2 + (KK : Int)).toNat = v := ⟨_, rfl⟩
  have e1 : (E1 + (KK : Int)).toNat = 63 + u := by omega
  rw [hu] at evP
  rw [e1, Int.pow_add, show (2 : Int) ^ 63 = 9223372036854775808 by decide, ← Int.mul_assoc] at a8
  rw [hv] at b8; rw [a8, b8, sgi_add] at ev; rw [sgi_mul, hS, Int.add_mul, sgi_mul] at evP; rw [hS]; rw [hS] at nfP
  by_cases c : n ≤ 64
  · have e2 : mvd M2 n * 2 ^ u = M2 * 2 ^ v := by
      unfold mvd
      rw [if_pos c, Int.mul_assoc, ← Int.pow_add]
      congr 2
      omega
    exact eq_rnd up nfP nf (by rw [evP, ev, e2])
  · have ek : u = v + (n - 64) := by omega
    by_cases hr : M2 % 2 ^ (n - 64) = 0
    · have e2 : mvd M2 n * 2 ^ u = M2 * 2 ^ v := by
        unfold mvd
        rw [if_neg c, if_pos hr, ek, Int.pow_add, Int.mul_comm (2 ^ v), ← Int.mul_assoc]
        congr 1
        exact Int.ediv_mul_cancel (Int.dvd_of_emod_eq_zero hr)
      exact eq_rnd up nfP nf (by rw [evP, ev, e2])
    · have hm : mvd M2 n = M2 / 2 ^ (n - 64) / 2 * 2 + 1 := by
        unfold mvd
        rw [if_neg c, if_neg hr]
      have hd := Int.mul_ediv_add_emod M2 (2 ^ (n - 64)); have hp := p2pos (n - 64); have r0 := Int.emod_nonneg M2 (Int.ne_of_gt hp); have r1 := Int.emod_lt_of_pos M2 hp
      obtain ⟨d1, d2⟩ := div_le_self (show 0 ≤ M2 by omega) hp
      have hpv := p2pos v; have hpu := p2pos u; rw [hm] at evP nfP ⊢; rw [hm] at m0 m1; clear hone hS0 m2 m3 hS hm; generalize M2 % 2 ^ (n - 64) = r at hd r0 r1 hr; generalize M2 / 2 ^ (n - 64) = q at hd d1 d2 evP nfP m0 m1 ⊢
      have hU : (2 : Int) ^ u = 2 ^ (n - 64) * 2 ^ v := by rw [ek, Int.pow_add, Int.mul_comm]
      obtain ⟨j, hj⟩ : ∃ j, q / 2 = j := ⟨_, rfl⟩; rw [hj] at evP nfP m0 m1 ⊢
      -- the exact one lies between 2 j and 2 j + 2
      have y1 : 2 * j * 2 ^ u < M2 * 2 ^ v := by
        rw [hU, ← Int.mul_assoc]; refine Int.mul_lt_mul_of_pos_right ?_ hpv
        have l1 : 2 * j * 2 ^ (n - 64) ≤ q * 2 ^ (n - 64) := Int.mul_le_mul_of_nonneg_right (by omega) (Int.le_of_lt hp)
        rw [Int.mul_comm q] at l1
        omega
      have y2 : M2 * 2 ^ v < (2 * j + 2) * 2 ^ u := by
        rw [hU, ← Int.mul_assoc]; refine Int.mul_lt_mul_of_pos_right ?_ hpv
        have l1 : (q + 1) * 2 ^ (n - 64) ≤ (2 * j + 2) * 2 ^ (n - 64) := Int.mul_le_mul_of_nonneg_right (by omega) (Int.le_of_lt hp)
        rw [Int.add_mul, Int.one_mul, Int.mul_comm q] at l1
        omega
      have z1 : 2 * j * 2 ^ u < (j * 2 + 1) * 2 ^ u := Int.mul_lt_mul_of_pos_right (by omega) hpu
      have z2 : (j * 2 + 1) * 2 ^ u < (2 * j + 2) * 2 ^ u := Int.mul_lt_mul_of_pos_right (by omega) hpu
      revert y1 y2 z1 z2 ev evP
      generalize M2 * 2 ^ v = Y; generalize hZ : (j * 2 + 1) * 2 ^ u = Z
      intro ev evP y1 y2 z1 z2
      cases hs : s1 != s2
      · rw [hs] at ev evP nfP; rw [wsg_f] at ev nfP ⊢; rw [wsg_f, wsg_f] at evP
        have f1 : 2 * (M1 * 4611686018427387904 + j) * 2 ^ u = M1 * 9223372036854775808 * 2 ^ u + 2 * j * 2 ^ u := by rw [← Int.add_mul]; congr 1; omega
        have f2 : (2 * (M1 * 4611686018427387904 + j) + 2) * 2 ^ u = M1 * 9223372036854775808 * 2 ^ u + (2 * j + 2) * 2 ^ u := by rw [← Int.add_mul]; congr 1; omega
        refine sep_sgi up nfP nf evP ev (a := 2 * (M1 * 4611686018427387904 + j) * 2 ^ u) (b := (2 * (M1 * 4611686018427387904 + j) + 2) * 2 ^ u) ?_ ?_ ?_ ?_ (no_place (by omega))
        · rw [f1]; omega
        · rw [f2]; omega
        · rw [f1]; omega
        · rw [f2]; omega
      · rw [hs] at ev evP nfP; rw [wsg_t] at ev nfP ⊢; rw [wsg_t, wsg_t] at evP
        have f1 : 2 * (M1 * 4611686018427387904 - j - 1) * 2 ^ u = M1 * 9223372036854775808 * 2 ^ u - (2 * j + 2) * 2 ^ u := by rw [← Int.sub_mul]; congr 1; omega
        have f2 : (2 * (M1 * 4611686018427387904 - j - 1) + 2) * 2 ^ u = M1 * 9223372036854775808 * 2 ^ u - 2 * j * 2 ^ u := by rw [← Int.sub_mul]; congr 1; omega
        refine sep_sgi up nfP nf evP ev (a := 2 * (M1 * 4611686018427387904 - j - 1) * 2 ^ u) (b := (2 * (M1 * 4611686018427387904 - j - 1) + 2) * 2 ^ u) ?_ ?_ ?_ ?_ (no_place (by omega))
        · rw [f1]; omega
        · rw [f2]; omega
        · rw [f1]; omega
        · rw [f2]; omega
/-- The product of two. -/
theorem pro_wide {s1 s2 : Bool} {M1 M2 E1 E2 x y : Int} (up : Bool) (q1 : Fq 1 s1 M1 E1 x) (q2 : Fq 1 s2 M2 E2 y) :
    0 ≤ M1 * M2 ∧ M1 * M2 < 340282366920938463463374607431768211456 ∧ rnd up (mk (sgi (s1 != s2) (M1 * M2)) (E1 + E2)).1 (mk (sgi (s1 != s2) (M1 * M2)) (E1 + E2)).2 = mulp up x y := by
  obtain ⟨a1, a2, a3, a4, a5, a6, a7, a8, a9⟩ := fq_vr q1; obtain ⟨b1, b2, b3, b4, b5, b6, b7, b8, b9⟩ := fq_vr q2; have hk := KK_eq
  have h0 : 0 ≤ M1 * M2 := Int.mul_nonneg (by omega) (by omega)
  have h1 : M1 * M2 < 340282366920938463463374607431768211456 := by
    have l1 : M1 * M2 ≤ 18446744073709551615 * M2 := Int.mul_le_mul_of_nonneg_right (by omega) (by omega)
    omega
  refine ⟨h0, h1, ?_⟩; rw [mulp_fin up (by omega) (by rw [infp_fin a5 a6, infp_fin b5 b6]; simp)]; obtain ⟨nf, ev⟩ := pro_spec a5 a6 b5 b6; have nfP := mk_nf (sgi (s1 != s2) (M1 * M2)) (E1 + E2); have evP := mk_vl (z := sgi (s1 != s2) (M1 * M2)) (e := E1 + E2) (by rw [sgi_abs _ h0]; omega) (by omega) (by omega); refine eq_rnd up nfP nf ?_; refine Int.eq_of_mul_eq_mul_right (Int.ne_of_gt (p2pos KK)) ?_
  rw [ev, evP, a8, b8, Int.mul_assoc, ← Int.pow_add, show (E1 + E2 + (KK : Int)).toNat + KK = (E1 + (KK : Int)).toNat + (E2 + (KK : Int)).toNat by omega, Int.pow_add]
  generalize (2 : Int) ^ (E1 + (KK : Int)).toNat = U; generalize (2 : Int) ^ (E2 + (KK : Int)).toNat = V
  have e : ∀ a b : Int, a * b * (U * V) = a * U * (b * V) := fun a b => by
    rw [Int.mul_assoc, Int.mul_assoc, ← Int.mul_assoc b, Int.mul_comm b U, Int.mul_assoc U]
  cases s1 <;> cases s2
  · rw [show (false != false) = false from rfl, wsg_f, wsg_f, wsg_f]; exact e _ _
  · rw [show (false != true) = true from rfl, wsg_f, wsg_t, wsg_t, Int.neg_mul, Int.mul_neg]; rw [e]
  · rw [show (true != false) = true from rfl, wsg_f, wsg_t, wsg_t, Int.neg_mul, Int.neg_mul]; rw [e]
  · rw [show (true != true) = false from rfl, wsg_f, wsg_t, wsg_t, Int.neg_mul, Int.mul_neg, Int.neg_neg]; exact e _ _
end Go.Proofs.YteejbcimmmcnlaaGreatDoor

/-
  A number of 128 bits, raised to its highest bit; the place next to it, and what it is rounded to. Plain arithmetic; no Go text.
-/
namespace Go.Proofs.YteejbcimmmcnlaaGreatDoor
open Go.RowKit
set_option linter.unusedVariables false

theorem raise_top {h l : Nat} (h0 : h ≠ 0) (hh : h < 18446744073709551616) :
    blen (h * 18446744073709551616 + l) = 64 + blen h ∨ 18446744073709551616 ≤ l := by
  rcases Nat.lt_or_ge l 18446744073709551616 with hl | hl
  · left
    have := blen_shift (h * 18446744073709551616 + l) 64 (by omega)
    rw [this]
    congr 2
    omega
  · exact .inr hl
/-- Raised: the 64 highest bits, whether there is something behind them, and how far. -/
def Ra (S : Nat) (F T K X : Int) : Prop := 0 ≤ T ∧ T < 18446744073709551616 ∧ 0 ≤ K ∧ K < 18446744073709551616 ∧ T = (tp S : Nat) ∧ (S ≠ 0 → X = xp S F ∧ (K = 0 ↔ tp S * 2 ^ blen S = S * 2 ^ 64))
theorem ra_low {l : Nat} {e : Int} (hl : l < 18446744073709551616) : Ra l (e - 64) ((l * 2 ^ (64 - blen l) : Nat) : Int) 0 (e - 64 - (64 - (blen l : Int))) := by
  have hb := blen_mono_le (n := l) (k := 64) hl; have ht := tp_small hb; have h2 := tp_lt l; rw [ht] at h2
  refine ⟨by omega, by omega, by omega, by omega, by rw [ht], fun h0 => ⟨by unfold xp; omega, fun _ => ?_, fun _ => rfl⟩⟩
  rw [ht, Nat.mul_assoc, ← Nat.pow_add]
  congr 2
  omega
theorem ra_high {h l : Nat} {e : Int} (h0 : h ≠ 0) (hh : h < 18446744073709551616) (hl : l < 18446744073709551616) :
    Ra (h * 18446744073709551616 + l) (e - 64) ((h * 2 ^ (64 - blen h) + l / 2 ^ blen h : Nat) : Int) ((l * 2 ^ (64 - blen h) % 18446744073709551616 : Nat) : Int) (e - (64 - (blen h : Int))) := by
  have hb := blen_mono_le (n := h) (k := 64) hh
  have hbs : blen (h * 18446744073709551616 + l) = 64 + blen h := by
    rcases raise_top (l := l) h0 hh with q | q
    · exact q
    · omega
  have hp : 0 < 2 ^ blen h := Nat.pow_pos (by decide)
  have hn : 2 ^ 64 = 2 ^ (64 - blen h) * 2 ^ blen h := by rw [← Nat.pow_add]; congr 1; omega
  have hn' : (18446744073709551616 : Nat) = 2 ^ blen h * 2 ^ (64 - blen h) := by rw [Nat.mul_comm, ← hn]
  have ht : tp (h * 18446744073709551616 + l) = h * 2 ^ (64 - blen h) + l / 2 ^ blen h := by
    unfold tp
    rw [hbs, Nat.pow_add, Nat.mul_comm (2 ^ 64) (2 ^ blen h), Nat.mul_div_mul_right _ _ (Nat.pow_pos (by decide)), hn', show h * (2 ^ blen h * 2 ^ (64 - blen h)) = 2 ^ blen h * (h * 2 ^ (64 - blen h)) by rw [← Nat.mul_assoc, Nat.mul_comm h, Nat.mul_assoc], Nat.mul_add_div hp]
  have hm : l * 2 ^ (64 - blen h) % 18446744073709551616 = l % 2 ^ blen h * 2 ^ (64 - blen h) := by
    rw [hn', Nat.mul_mod_mul_right]
  have ht2 := tp_lt (h * 18446744073709551616 + l)
  have hml := Nat.mod_lt (l * 2 ^ (64 - blen h)) (show 0 < 18446744073709551616 by decide)
  refine ⟨by omega, by omega, by omega, by omega, by rw [ht], fun _ => ⟨?_, ?_⟩⟩
  · unfold xp
    rw [hbs]
    omega
  · rw [hm, hbs, ht, Nat.pow_add, Nat.mul_comm (2 ^ 64) (2 ^ blen h), ← Nat.mul_assoc]; have hd := Nat.div_add_mod l (2 ^ blen h)
    have hS : h * 18446744073709551616 + l = (h * 2 ^ (64 - blen h) + l / 2 ^ blen h) * 2 ^ blen h + l % 2 ^ blen h := by
      rw [Nat.add_mul, Nat.mul_assoc h, ← hn, Nat.mul_comm (l / 2 ^ blen h), Nat.add_assoc, hd]
    rw [hS]
    have hp2 : 0 < 2 ^ (64 - blen h) := Nat.pow_pos (by decide)
    revert hS
    generalize (h * 2 ^ (64 - blen h) + l / 2 ^ blen h) * 2 ^ blen h = Z; generalize l % 2 ^ blen h = m
    intro _
    constructor
    · intro q
      have q1 : m * 2 ^ (64 - blen h) = 0 := by exact_mod_cast q
      have q2 : m = 0 := by
        rcases Nat.mul_eq_zero.1 q1 with c | c
        · exact c
        · omega
      rw [q2, Nat.add_zero]
    · intro q
      have q1 : Z = Z + m := Nat.eq_of_mul_eq_mul_right (show 0 < 2 ^ 64 by decide) q
      have q2 : m = 0 := by omega
      rw [q2, Nat.zero_mul]
      rfl
/-- Is the place next to it that number itself? -/
def exw (S : Nat) (F : Int) : Bool := S == 0 || (decide (xp S F ≤ 1048576) && (decide (-1048576 ≤ xp S F) && decide (tp S * 2 ^ blen S = S * 2 ^ 64)))
theorem exw_odd {m : Nat} (ho : m % 2 = 1) (t : Nat) (F : Int) : exw (m * 2 ^ t) F = ext m (F + t) := by
  have h0 : m ≠ 0 := by omega
  have h2 : m * 2 ^ t ≠ 0 := Nat.mul_ne_zero h0 (Nat.ne_of_gt (Nat.pow_pos (by decide)))
  have ex : xp (m * 2 ^ t) F = xp m (F + t) := by
    unfold xp
    rw [blen_mul h0]
    omega
  have e1 : (m * 2 ^ t == 0) = false := by simpa using h2
  have e2 : (m == 0) = false := by simpa using h0
  have e3 : (tp (m * 2 ^ t) * 2 ^ blen (m * 2 ^ t) = m * 2 ^ t * 2 ^ 64) ↔ blen m ≤ 64 := by
    rw [tp_mul h0, blen_mul h0, Nat.pow_add, ← Nat.mul_assoc, Nat.mul_right_comm m]
    constructor
    · intro q
      have q1 := Nat.eq_of_mul_eq_mul_right (Nat.pow_pos (n := t) (show 0 < 2 by decide)) q
      rcases Nat.lt_or_ge 64 (blen m) with c | c
      · exfalso
        rw [show 2 ^ blen m = 2 ^ (blen m - 65) * 2 * 2 ^ 64 by rw [← Nat.pow_succ, ← Nat.pow_add]; congr 1; omega, ← Nat.mul_assoc] at q1
        have q2 := Nat.eq_of_mul_eq_mul_right (show 0 < 2 ^ 64 by decide) q1
        rw [← Nat.mul_assoc] at q2
        omega
      · exact c
    · intro c
      rw [tp_small c, Nat.mul_assoc m, ← Nat.pow_add, show 64 - blen m + blen m = 64 by omega]
  unfold exw ext
  rw [ex, e1, e2, decide_eq_decide.2 e3]
theorem wide_rnd {S : Nat} {F N E : Int} {neg : Bool} (hS : S < 340282366920938463463374607431768211456) (h1 : -3000000 ≤ F) (h2 : F ≤ 3000000) (hN : (mk (sgi neg (S : Int)) F).1 = N) (hE : (mk (sgi neg (S : Int)) F).2 = E) :
    (exw S F = true → ∀ up, rnd up N E = sgi neg (lo S F)) ∧ rnd neg N E = sgi neg (lo S F) ∧ (exw S F = false → rnd (!neg) N E = nx (!neg) (sgi neg (lo S F))) := by
  by_cases h0 : S = 0
  · subst h0
    have e0 : sgi neg ((0 : Nat) : Int) = 0 := by cases neg <;> rfl
    rw [e0, mk_zero] at hN hE; subst hN; subst hE
    have e1 : sgi neg (lo 0 F) = 0 := by
      have : lo 0 F = 0 := by
        unfold lo
        rw [if_pos rfl]
      rw [this]
      cases neg <;> rfl
    have e2 : exw 0 F = true := by
      unfold exw
      rfl
    rw [e1, e2]
    exact ⟨fun _ up => rnd_nought up, rnd_nought neg, fun c => absurd c (by decide)⟩
  · have hab : (sgi neg (S : Int)).natAbs = S := by rw [sgi_abs neg (by omega)]; omega
    obtain ⟨s1, s2⟩ := v2_spec S h0
    have hv : v2 S < 128 := by
      have h3 := v2_pow_le h0
      have h4 : 2 ^ v2 S < 2 ^ 128 := by omega
      exact (Nat.pow_lt_pow_iff_right (by decide)).1 h4
    have hz : sgi neg (S : Int) ≠ 0 := by
      intro c
      rw [c] at hab; exact h0 hab.symm
    obtain ⟨m1, m2, m3, m4, m5⟩ := mk_in (z := sgi neg (S : Int)) (e := F) hz (by omega) (by rw [hab]; omega); rw [hab] at m1 m2; rw [hE] at m1; rw [hN] at m2 m3
    have hsn : neg = decide (N < 0) := by
      cases neg
      · rw [wsg_f] at m3; exact (decide_eq_false (by omega)).symm
      · rw [wsg_t] at m3; exact (decide_eq_true (by omega)).symm
    have hx : exw S F = ext N.natAbs E := by
      rw [m2, m1]
      conv => lhs; rw [s1]
      exact exw_odd s2 _ F
    have hl : lo S F = lo N.natAbs E := by
      rw [m2, m1]
      conv => lhs; rw [s1]
      exact lo_mul (by omega) _ F
    rw [hx, hl]
    refine ⟨fun c up => ?_, ?_, fun c => ?_⟩
    · rw [rnd_ext c, ← hsn]
    · exact rnd_same hsn rfl
    · rw [rnd_diff hsn, nx_lo neg c]
end Go.Proofs.YteejbcimmmcnlaaGreatDoor

/-
  What the document's Fair, Add, Mul, Sub, Half, Twice of layer 6 do.
-/
namespace Go.Proofs.YteejbcimmmcnlaaGreatDoor
open Go.RowKit
set_option linter.unusedVariables false
set_option linter.unusedSimpArgs false
set_option maxRecDepth 100000

set_option maxHeartbeats 2000000 in
theorem gFair {w : World} {D M E : Int} {s : Bool} {r : Int} (hM : M < 18446744073709551616) (hr : rk D s M E = r) : Calls Tryz.prog 93 #[.agg #[.int .i64 D, .bool s, .int .u64 M, .int .i64 E]] w (PN w r) := by
  by_cases hm : MayQ D s M E
  · have HQ := rk_fq hM hm; rw [hr] at HQ
    have HC := Lib.hid (show decide (MayQ D s M E) = true from decide_eq_true hm)
    clear hm hr hM
    go_enter Tryz.func93, Tryz.ntmps93
    go_upto_region 1 with (fail)
    generalize hW1 : (w.alloc _).alloc _ = w1 at *; obtain ⟨X1, XR, HB⟩ := Bo.en2 hW1; clear hW1; obtain ⟨xX10, xX11, xX12, xX13⟩ := X1.u4
    go_wp2_with fail
    refine (yMay HC.out).mono ?_; rintro ee w2 ⟨rfl, B⟩; clear xX10 xX11 xX12 xX13; replace X1 := X1.below B; replace XR := XR.below B; replace HB := Lib.hid (bt HB.out B); clear B; obtain ⟨xXR0, xXR1, xXR2, xXR3⟩ := XR.u4; have zXR0 := XR.frozen; obtain ⟨xX10, xX11, xX12, xX13⟩ := X1.u4; go_wp2; clear xXR0 zXR0 xXR1 xXR2 xXR3 xX10 xX11 xX12 xX13; have SX := StN.mk4 XR (.int .i64 D) (.bool s) (.int .u64 M) (.int .i64 E)
    exact bodyPost_ret (by simp [results, Tryz.results93, go_sem, SX.box.cell]) rfl ⟨D, s, M, E, rfl, HQ, (SX.below HB.out (by omega))⟩
  · rw [rk_not hm] at hr; subst hr
    have HC := Lib.hid (show decide (MayQ D s M E) = false from decide_eq_false hm)
    clear hm hM
    go_enter Tryz.func93, Tryz.ntmps93
    go_upto_region 1 with (fail)
    generalize hW1 : (w.alloc _).alloc _ = w1 at *; obtain ⟨X1, XR, HB⟩ := Bo.en2 hW1; clear hW1; obtain ⟨xX10, xX11, xX12, xX13⟩ := X1.u4
    go_wp2_with fail
    refine (yMay HC.out).mono ?_; rintro ee w2 ⟨rfl, B⟩; clear xX10 xX11 xX12 xX13; replace X1 := X1.below B; replace XR := XR.below B; replace HB := Lib.hid (bt HB.out B); clear B; obtain ⟨xXR0, xXR1, xXR2, xXR3⟩ := XR.u4; have zXR0 := XR.frozen; obtain ⟨xX10, xX11, xX12, xX13⟩ := X1.u4; go_wp2; clear xXR0 zXR0 xXR1 xXR2 xXR3 xX10 xX11 xX12 xX13; have SX := StN.mk4 XR (.int .i64 0) (.bool false) (.int .u64 0) (.int .i64 0)
    exact bodyPost_ret (by simp [results, Tryz.results93, go_sem, SX.box.cell]) rfl ⟨_, _, _, _, rfl, Fq.nought, (SX.below HB.out (by omega))⟩
theorem fq_inf {D : Int} {s : Bool} {M E x : Int} (q : Fq D s M E x) : infp x = (D == 2) := by
  have htp := TP_eq
  rcases q.cases with ⟨rfl, rfl, rfl, rfl, h0⟩ | ⟨rfl, h1, h2, h3, h4, ⟨rfl, h5⟩ | ⟨rfl, h5⟩⟩ | ⟨rfl, rfl, rfl, ⟨rfl, h5⟩ | ⟨rfl, h5⟩⟩ <;> unfold infp <;> rw [Bool.eq_iff_iff] <;> simp <;> omega
theorem fq_fin {D : Int} {s : Bool} {M E x : Int} (q : Fq D s M E x) (h : D ≠ 2) : 0 ≤ M ∧ exb D s M E = true ∧ exq D s M E = ep x := by
  have hb : exb D s M E = true := by
    unfold exb
    rw [decide_eq_true q.1, Bool.true_and]
    simpa using h
  exact ⟨by rcases q.cases with ⟨_, _, h, _⟩ | ⟨_, h, _⟩ | ⟨_, h, _⟩ <;> omega, hb, exq_ep q hb⟩
theorem fq_same {s s' : Bool} {M M' E E' x y : Int} (q : Fq 2 s M E x) (q' : Fq 2 s' M' E' y) : x = y ↔ s = s' := by
  have htp := TP_eq
  rcases q.cases with ⟨h, _⟩ | ⟨h, _⟩ | ⟨_, rfl, rfl, ⟨rfl, h5⟩ | ⟨rfl, h5⟩⟩
  · omega
  · omega
  all_goals
    rcases q'.cases with ⟨h, _⟩ | ⟨h, _⟩ | ⟨_, rfl, rfl, ⟨rfl, k5⟩ | ⟨rfl, k5⟩⟩
    · omega
    · omega
    · constructor <;> intro e <;> first | rfl | omega | exact absurd e (by decide)
    · constructor <;> intro e <;> first | rfl | omega | exact absurd e (by decide)
set_option maxHeartbeats 8000000 in
theorem gAdd {w : World} {D D' M M' E E' : Int} {s s' : Bool} {up : Bool} {x y r : Int} (hM : M < 18446744073709551616) (hM' : M' < 18446744073709551616) (hx : rk D s M E = x) (hy : rk D' s' M' E' = y) (hne : infp x = false → infp y = false → Near (ep x) (ep y)) (hr : addp up x y = r) : Calls Tryz.prog 91 #[.agg #[.int .i64 D, .bool s, .int .u64 M, .int .i64 E], .agg #[.int .i64 D', .bool s', .int .u64 M', .int .i64 E'], .bool up] w (PN w r) := by
  have HX := Lib.hid hx; have HY := Lib.hid hy; clear hx hy
  go_enter Tryz.func91, Tryz.ntmps91
  go_upto_region 1 with (fail)
  generalize hW1 : ((w.alloc _).alloc _).alloc _ = w1 at *; obtain ⟨X1, X2, XR, HB⟩ := Bo.en3 hW1; clear hW1; obtain ⟨xX10, xX11, xX12, xX13⟩ := X1.u4
  go_wp2_with fail
  refine (gFair hM HX.out).mono ?_; rintro ee w2 ⟨K1, s1, M1, E1, rfl, q1, B⟩; clear xX10 xX11 xX12 xX13; replace X1 := X1.below B; replace X2 := X2.below B; replace XR := XR.below B; replace HB := Lib.hid (bt HB.out B); clear B
  go_upto_region 2 with (fail)
  have lX7 := Nat.le_refl (World.heap w2).size; have nX7X1 := X1.lt; have nX7X2 := X2.lt; have nX7XR := XR.lt; generalize hWn : w2.alloc _ = w3 at *; obtain ⟨X7, BW⟩ := Bo.nw hWn; clear hWn; replace X1 := X1.below BW; replace X2 := X2.below BW; replace XR := XR.below BW; replace HB := Lib.hid (bt HB.out BW); clear BW; obtain ⟨xX20, xX21, xX22, xX23⟩ := X2.u4
  go_wp2_with fail
  refine (gFair hM' HY.out).mono ?_; rintro ee w4 ⟨K2, s2, M2, E2, rfl, q2, B⟩; clear xX20 xX21 xX22 xX23; replace X1 := X1.below B; replace X2 := X2.below B; replace XR := XR.below B; replace X7 := X7.below B; replace HB := Lib.hid (bt HB.out B); clear B
  go_upto_region 3 with (fail)
  have lX8 := Nat.le_refl (World.heap w4).size; have nX8X1 := X1.lt; have nX8X2 := X2.lt; have nX8XR := XR.lt; have nX8X7 := X7.lt; generalize hWn : w4.alloc _ = w5 at *; obtain ⟨X8, BW⟩ := Bo.nw hWn; clear hWn; replace X1 := X1.below BW; replace X2 := X2.below BW; replace XR := XR.below BW; replace X7 := X7.below BW; replace HB := Lib.hid (bt HB.out BW); clear BW; clear lX7 lX8; have i1 := fq_inf q1
  have i2 := fq_inf q2
  by_cases k1 : K1 = 2
  · subst k1
    have j1 : infp x = true := i1
    by_cases k2 : K2 = 2
    · subst k2
      have j2 : infp y = true := i2
      by_cases ks : s1 = s2
      · rw [addp_same up j1 ((fq_same q1 q2).2 ks)] at hr; subst hr; subst ks; clear i1 i2 j1 j2 q2; obtain ⟨xXR0, xXR1, xXR2, xXR3⟩ := XR.u4; have zXR0 := XR.frozen; obtain ⟨xX70, xX71, xX72, xX73⟩ := X7.u4; obtain ⟨xX80, xX81, xX82, xX83⟩ := X8.u4; go_wp2; clear xXR0 zXR0 xXR1 xXR2 xXR3 xX70 xX71 xX72 xX73 xX80 xX81 xX82 xX83; have SX := StN.mk4 XR (.int .i64 2) (.bool s1) (.int .u64 M1) (.int .i64 E1)
        exact bodyPost_ret (by simp [results, Tryz.results91, go_sem, SX.box.cell]) rfl ⟨_, _, _, _, rfl, q1, (SX.below HB.out (by omega))⟩
      · rw [addp_diff up j1 j2 (fun e => ks ((fq_same q1 q2).1 e))] at hr
        obtain rfl : (!s1) = s2 := by cases s1 <;> cases s2 <;> first | rfl | exact absurd rfl ks
        have e2 : (s1 == !s1) = false := by cases s1 <;> rfl
        have HRR := Lib.hid hr; clear i1 i2 j1 j2 q1 q2 hr ks; obtain ⟨xX70, xX71, xX72, xX73⟩ := X7.u4; obtain ⟨xX80, xX81, xX82, xX83⟩ := X8.u4
        go_wp2_with fail
        refine (yInf (s := !up) HRR.out).mono ?_; rintro ee w6 ⟨K3, s3, M3, E3, rfl, q3, B⟩; clear xX70 xX71 xX72 xX73 xX80 xX81 xX82 xX83; replace XR := XR.below B; replace X7 := X7.below B; replace X8 := X8.below B; replace HB := Lib.hid (bt HB.out B); clear B; obtain ⟨xXR0, xXR1, xXR2, xXR3⟩ := XR.u4; have zXR0 := XR.frozen; go_wp2; clear xXR0 zXR0 xXR1 xXR2 xXR3; have SX := StN.mk4 XR (.int .i64 K3) (.bool s3) (.int .u64 M3) (.int .i64 E3)
        exact bodyPost_ret (by simp [results, Tryz.results91, go_sem, SX.box.cell]) rfl ⟨_, _, _, _, rfl, q3, (SX.below HB.out (by omega))⟩
    · have e2 : (K2 == 2) = false := by simpa using k2
      rw [e2] at i2; rw [addp_tf up j1 i2] at hr; subst hr; clear i1 i2 j1 q2 k2; obtain ⟨xXR0, xXR1, xXR2, xXR3⟩ := XR.u4; have zXR0 := XR.frozen; obtain ⟨xX70, xX71, xX72, xX73⟩ := X7.u4; obtain ⟨xX80, xX81, xX82, xX83⟩ := X8.u4; go_wp2; clear xXR0 zXR0 xXR1 xXR2 xXR3 xX70 xX71 xX72 xX73 xX80 xX81 xX82 xX83; have SX := StN.mk4 XR (.int .i64 2) (.bool s1) (.int .u64 M1) (.int .i64 E1); exact bodyPost_ret (by simp [results, Tryz.results91, go_sem, SX.box.cell]) rfl ⟨_, _, _, _, rfl, q1, (SX.below HB.out (by omega))⟩
  · have e1 : (K1 == 2) = false := by simpa using k1
    rw [e1] at i1
    by_cases k2 : K2 = 2
    · subst k2
      have j2 : infp y = true := i2
      rw [addp_ft up i1 j2] at hr; subst hr; clear i1 i2 j2 q1 k1; obtain ⟨xXR0, xXR1, xXR2, xXR3⟩ := XR.u4; have zXR0 := XR.frozen; obtain ⟨xX70, xX71, xX72, xX73⟩ := X7.u4; obtain ⟨xX80, xX81, xX82, xX83⟩ := X8.u4; go_wp2; clear xXR0 zXR0 xXR1 xXR2 xXR3 xX70 xX71 xX72 xX73 xX80 xX81 xX82 xX83; have SX := StN.mk4 XR (.int .i64 2) (.bool s2) (.int .u64 M2) (.int .i64 E2); exact bodyPost_ret (by simp [results, Tryz.results91, go_sem, SX.box.cell]) rfl ⟨_, _, _, _, rfl, q2, (SX.below HB.out (by omega))⟩
    · have e2 : (K2 == 2) = false := by simpa using k2
      rw [e2] at i2; rw [addp_ff up i1 i2] at hr; have hnear := hne i1 i2; clear hne i1 i2; obtain ⟨m1, b1, x1⟩ := fq_fin q1 k1; obtain ⟨m2, b2, x2⟩ := fq_fin q2 k2; obtain ⟨N1, hN1⟩ : ∃ N, (ep x).1 = N := ⟨_, rfl⟩; obtain ⟨F1, hF1⟩ : ∃ N, (ep x).2 = N := ⟨_, rfl⟩; obtain ⟨N2, hN2⟩ : ∃ N, (ep y).1 = N := ⟨_, rfl⟩; obtain ⟨F2, hF2⟩ : ∃ N, (ep y).2 = N := ⟨_, rfl⟩
      have g1 : mk N1 F1 = ep x := by rw [← hN1, ← hF1]; exact ep_nf x
      have g2 : mk N2 F2 = ep y := by rw [← hN2, ← hF2]; exact ep_nf y
      have HB1 := Lib.hid b1; have HB2 := Lib.hid b2
      have HN1 := Lib.hid (show (exq K1 s1 M1 E1).1 = N1 by rw [x1, hN1])
      have HF1 := Lib.hid (show (exq K1 s1 M1 E1).2 = F1 by rw [x1, hF1])
      have HN2 := Lib.hid (show (exq K2 s2 M2 E2).1 = N2 by rw [x2, hN2])
      have HF2 := Lib.hid (show (exq K2 s2 M2 E2).2 = F2 by rw [x2, hF2])
      obtain ⟨P, hP⟩ : ∃ P, pl (ep x) (ep y) = P := ⟨_, rfl⟩
      have hPn : mk P.1 P.2 = P := by rw [← hP]; exact pl_nf (ep_nf x) (ep_nf y)
      have HP1 := Lib.hid (show (pl (mk N1 F1) (mk N2 F2)).1 = P.1 by rw [g1, g2, hP])
      have HP2 := Lib.hid (show (pl (mk N1 F1) (mk N2 F2)).2 = P.2 by rw [g1, g2, hP])
      rw [hP] at hr
      have HRR := Lib.hid (show rnd up (mk P.1 P.2).1 (mk P.1 P.2).2 = r by rw [hPn]; exact hr)
      have HNE := Lib.hid (show Near (mk N1 F1) (mk N2 F2) by rw [g1, g2]; exact hnear)
      clear hnear; clear b1 b2 x1 x2 hN1 hF1 hN2 hF2 hP hPn hr g1 g2; obtain ⟨xX70, xX71, xX72, xX73⟩ := X7.u4; obtain ⟨xX80, xX81, xX82, xX83⟩ := X8.u4
      go_wp2_with fail
      refine (yExact0 m1 q1.top HB1.out HN1.out HF1.out).mono ?_; rintro ee w6 ⟨sa, Aa, na, ca, rfl, pa, ka, B⟩; clear xX70 xX71 xX72 xX73 xX80 xX81 xX82 xX83; replace XR := XR.below B; replace X7 := X7.below B; replace X8 := X8.below B; replace HB := Lib.hid (bt HB.out B); clear B
      go_upto_region 10 with (fail)
      have lX9 := Nat.le_refl (World.heap w6).size; have nX9XR := XR.lt; have nX9X7 := X7.lt; have nX9X8 := X8.lt; generalize hWn : w6.alloc _ = w7 at *; obtain ⟨X9, BW⟩ := Bo.nw hWn; clear hWn; replace XR := XR.below BW; replace X7 := X7.below BW; replace X8 := X8.below BW; replace pa := pa.below BW; replace HB := Lib.hid (bt HB.out BW); clear BW; obtain ⟨xX80, xX81, xX82, xX83⟩ := X8.u4
      go_wp2_with fail
      refine (yExact0 m2 q2.top HB2.out HN2.out HF2.out).mono ?_; rintro ee w8 ⟨sb, Ab, nb, cb, rfl, pb, kb, B⟩; clear xX80 xX81 xX82 xX83; replace XR := XR.below B; replace X7 := X7.below B; replace X8 := X8.below B; replace X9 := X9.below B; replace pa := pa.below B; replace HB := Lib.hid (bt HB.out B); clear B
      go_upto_region 11 with (fail)
      have lX11 := Nat.le_refl (World.heap w8).size; have nX11XR := XR.lt; have nX11X7 := X7.lt; have nX11X8 := X8.lt; have nX11X9 := X9.lt; generalize hWn : w8.alloc _ = w9 at *; obtain ⟨X11, BW⟩ := Bo.nw hWn; clear hWn; replace XR := XR.below BW; replace X7 := X7.below BW; replace X8 := X8.below BW; replace X9 := X9.below BW; replace pa := pa.below BW; replace pb := pb.below BW; replace HB := Lib.hid (bt HB.out BW)
      clear BW; clear lX9 lX11; obtain ⟨xX90, xX91, xX92⟩ := X9.u3; obtain ⟨xX110, xX111, xX112⟩ := X11.u3
      go_wp2_with fail
      refine (q3Two pa.wr pb.wr (by omega) (by omega) HNE.out HP1.out HP2.out).mono ?_; rintro ee w10 ⟨sc, Ac, nc, cc, rfl, pc, kc, B⟩; clear xX90 xX91 xX92 xX110 xX111 xX112; replace XR := XR.below B; replace X7 := X7.below B; replace X8 := X8.below B; replace X9 := X9.below B; replace X11 := X11.below B; replace pa := pa.below B; replace pb := pb.below B; replace HB := Lib.hid (bt HB.out B); clear B
      go_wp2_with fail
      refine (yRound pc.wr (by omega) rfl rfl HRR.out).mono ?_; rintro ee w11 ⟨K3, s3, M3, E3, rfl, q3, B⟩; replace XR := XR.below B; replace X7 := X7.below B; replace X8 := X8.below B; replace X9 := X9.below B; replace X11 := X11.below B; replace pc := pc.below B; replace HB := Lib.hid (bt HB.out B); clear B; obtain ⟨xXR0, xXR1, xXR2, xXR3⟩ := XR.u4; have zXR0 := XR.frozen; go_wp2; clear xXR0 zXR0 xXR1 xXR2 xXR3
      have SX := StN.mk4 XR (.int .i64 K3) (.bool s3) (.int .u64 M3) (.int .i64 E3); exact bodyPost_ret (by simp [results, Tryz.results91, go_sem, SX.box.cell]) rfl ⟨_, _, _, _, rfl, q3, (SX.below HB.out (by omega))⟩
end Go.Proofs.YteejbcimmmcnlaaGreatDoor

/-
  What the helpers of quotients do: limbs, moved, away, taken, power.
-/
namespace Go.Proofs.YteejbcimmmcnlaaGreatDoor
open Go.RowKit
set_option linter.unusedVariables false
set_option linter.unusedSimpArgs false
set_option maxRecDepth 100000

/-- Two limbs are answered. -/
def PR2 (w : World) (v : Nat) (e : Ending) (w' : World) : Prop := ∃ A, e = .returned (.slice A 2 2) ∧ Rd w' A 2 2 v ∧ Below w.heap.size w w'
theorem qLimbs {w : World} {M : Int} {N : Nat} (hM : (N : Int) = M) (h : N < 18446744073709551616) : Calls Tryz.prog 106 #[.int .u64 M] w (PR2 w N) := by
  subst hM
  go_enter Tryz.func106, Tryz.ntmps106
  go_wp2
  go_ret
  exact ⟨_, rfl, two_rd _ (by simp) (k := N) (by omega) (by omega) h, bel1 _ _⟩
theorem qmoved_up {w : World} {A : Option Addr} {n c α k r : Nat} (h : Rd w A n c α) (hn : n ≤ 8000) (hk : k ≤ 200000) (hr : α * 2 ^ k = r) : Calls Tryz.prog 145 #[.slice A n c, .int .i64 (k : Int)] w (P1B w 15000 r true) := by
  have HR := Lib.hid hr; clear hr
  have hd : decide ((0 : Int) ≤ (k : Int)) = true := decide_eq_true (Int.natCast_nonneg k)
  go_enter Tryz.func145, Tryz.ntmps145
  go_wp2_with fail
  refine (vShlE h (by omega) (by omega) HR.out).mono ?_; rintro ee w2 ⟨A2, n2, c2, rfl, p2, k2, B2⟩; go_wp2; exact bodyPost_ret (v := .tuple #[.slice A2 n2 c2, .bool true]) (by simp [results, Tryz.results145, go_sem]) rfl ⟨A2, n2, c2, rfl, p2, by omega, B2⟩
theorem qmoved_dn {w : World} {A : Option Addr} {n c α k d r : Nat} {z y : Int} {t : Bool} (h : Rd w A n c α) (hn : n ≤ 8000) (hk : k ≤ 200000) (h0 : 0 < k) (hz : -z = (k : Int)) (hr : α / 2 ^ k = r) (hd : r * 2 ^ k = d) (hy : cmpI (d : Int) (α : Int) = y) (ht : (y == 0) = t) : Calls Tryz.prog 145 #[.slice A n c, .int .i64 z] w (P1B w 15000 r t) := by
  have HR : Hid (α / 2 ^ (k : Int).toNat = r) := Lib.hid (by rw [Int.toNat_natCast]; exact hr)
  have HD := Lib.hid hd; have HY := Lib.hid hy
  have hlt : decide (0 ≤ z) = false := decide_eq_false (by omega)
  have hlt2 : ¬ (0 ≤ z) := by omega
  have hw : IntKind.i64.wrap (-z) = (k : Int) := by rw [hz]; exact IntWalk.i64_in _ (by omega)
  clear hr hd hy
  go_enter Tryz.func145, Tryz.ntmps145
  go_wp2_with fail
  refine (vShrE (z := (k : Int)) h (by omega) HR.out).mono ?_; rintro ee w2 ⟨A2, n2, c2, rfl, p2, k2, B2⟩
  go_wp2_with fail
  refine (vShlE p2.rd (by omega) (by omega) HD.out).mono ?_; rintro ee w3 ⟨A3, n3, c3, rfl, p3, k3, B3⟩
  go_wp2_with fail
  refine (vCmpE p3.rd ((h.below B2).below B3) HY.out).mono ?_; rintro ee w4 ⟨rfl, B4⟩; go_wp2; exact bodyPost_ret (v := .tuple #[.slice A2 n2 c2, .bool t]) (by simp [results, Tryz.results145, go_sem]) rfl ⟨A2, n2, c2, rfl, (p2.below B3).below B4, by omega, bt B2 (bt B3 B4)⟩
set_option maxHeartbeats 2000000 in
theorem qAway {w : World} {up : Bool} {r : Int} (hr : sgi (!up) TP = r) : Calls Tryz.prog 104 #[.bool up] w (PN w r) := by
  have HR := Lib.hid hr; clear hr
  go_enter Tryz.func104, Tryz.ntmps104
  go_upto_region 1 with (fail)
  generalize hW1 : w.alloc _ = w1 at *; obtain ⟨XR, HB⟩ := Bo.en1 hW1; clear hW1
  go_wp2_with fail
  refine (nInf (s := !up) HR.out).mono ?_; rintro ee w2 ⟨K1, s1, M1, E1, rfl, q1, B⟩; replace XR := XR.below B; replace HB := Lib.hid (bt HB.out B); clear B; obtain ⟨xXR0, xXR1, xXR2, xXR3⟩ := XR.u4; have zXR0 := XR.frozen; go_wp2; clear xXR0 zXR0 xXR1 xXR2 xXR3; have SX := StN.mk4 XR (.int .i64 K1) (.bool s1) (.int .u64 M1) (.int .i64 E1); exact bodyPost_ret (by simp [results, Tryz.results104, go_sem, SX.box.cell]) rfl ⟨_, _, _, _, rfl, q1, (SX.below HB.out (by omega))⟩
theorem fq_tk7 {D : Int} {s : Bool} {M E : Int} (hM : M < 18446744073709551616) : ∃ K1 s1 M1 E1, Fq K1 s1 M1 E1 (rk D s M E) := by
  by_cases hm : MayQ D s M E
  · exact ⟨_, _, _, _, rk_fq hM hm⟩
  · rw [rk_not hm]; exact ⟨_, _, _, _, Fq.nought⟩
set_option maxHeartbeats 2000000 in
theorem qTaken {w : World} {D M E : Int} {s : Bool} {K1 M1 E1 x : Int} {s1 : Bool} (hM : M < 18446744073709551616) (q : Fq K1 s1 M1 E1 x) (hx : rk D s M E = x) : Calls Tryz.prog 103 #[.agg #[.int .i64 D, .bool s, .int .u64 M, .int .i64 E]] w (fun e w' => e = .returned (.agg #[.int .i64 K1, .bool s1, .int .u64 M1, .int .i64 E1]) ∧ Below w.heap.size w w') := by
  by_cases hm : MayQ D s M E
  · obtain ⟨rfl, rfl, rfl, rfl⟩ := q.uniq (hx ▸ rk_fq hM hm)
    have HC := Lib.hid (show decide (MayQ K1 s1 M1 E1) = true from decide_eq_true hm)
    clear hm hx hM q
    go_enter Tryz.func103, Tryz.ntmps103
    go_upto_region 1 with (fail)
    generalize hW1 : (w.alloc _).alloc _ = w1 at *; obtain ⟨X1, XR, HB⟩ := Bo.en2 hW1; clear hW1; obtain ⟨xX10, xX11, xX12, xX13⟩ := X1.u4
    go_wp2_with fail
    refine (nMay HC.out).mono ?_; rintro ee w2 ⟨rfl, B⟩; clear xX10 xX11 xX12 xX13; replace X1 := X1.below B; replace XR := XR.below B; replace HB := Lib.hid (bt HB.out B); clear B; obtain ⟨xXR0, xXR1, xXR2, xXR3⟩ := XR.u4; have zXR0 := XR.frozen; obtain ⟨xX10, xX11, xX12, xX13⟩ := X1.u4; go_wp2; clear xXR0 zXR0 xXR1 xXR2 xXR3 xX10 xX11 xX12 xX13; have SX := StN.mk4 XR (.int .i64 K1) (.bool s1) (.int .u64 M1) (.int .i64 E1)
    exact bodyPost_ret (v := .agg #[.int .i64 K1, .bool s1, .int .u64 M1, .int .i64 E1]) (by simp [results, Tryz.results103, go_sem, SX.box.cell]) rfl ⟨rfl, (SX.below HB.out (by omega))⟩
  · rw [rk_not hm] at hx; subst hx; obtain ⟨rfl, rfl, rfl, rfl⟩ := q.uniq Fq.nought
    have HC := Lib.hid (show decide (MayQ D s M E) = false from decide_eq_false hm)
    clear hm hM q
    go_enter Tryz.func103, Tryz.ntmps103
    go_upto_region 1 with (fail)
    generalize hW1 : (w.alloc _).alloc _ = w1 at *; obtain ⟨X1, XR, HB⟩ := Bo.en2 hW1; clear hW1; obtain ⟨xX10, xX11, xX12, xX13⟩ := X1.u4
    go_wp2_with fail
    refine (nMay HC.out).mono ?_; rintro ee w2 ⟨rfl, B⟩; clear xX10 xX11 xX12 xX13; replace X1 := X1.below B; replace XR := XR.below B; replace HB := Lib.hid (bt HB.out B); clear B; obtain ⟨xXR0, xXR1, xXR2, xXR3⟩ := XR.u4; have zXR0 := XR.frozen; obtain ⟨xX10, xX11, xX12, xX13⟩ := X1.u4; go_wp2; clear xXR0 zXR0 xXR1 xXR2 xXR3 xX10 xX11 xX12 xX13; have SX := StN.mk4 XR (.int .i64 0) (.bool false) (.int .u64 0) (.int .i64 0)
    exact bodyPost_ret (v := .agg #[.int .i64 0, .bool false, .int .u64 0, .int .i64 0]) (by simp [results, Tryz.results103, go_sem, SX.box.cell]) rfl ⟨rfl, (SX.below HB.out (by omega))⟩
end Go.Proofs.YteejbcimmmcnlaaGreatDoor

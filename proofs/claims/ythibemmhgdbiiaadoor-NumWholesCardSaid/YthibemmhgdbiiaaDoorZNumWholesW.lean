/-
  The walk of NumWholes: for all arguments, where the table lies as it was laid, the call answers true, and nothing that was there has turned.
-/
import Derived.Test.YthibemmhgdbiiaaDoorZay
import Derived.Test.YthibemmhgdbiiaaDoorZba
namespace Go.Proofs.YthibemmhgdbiiaaDoor
open Go.RowKit
set_option linter.unusedVariables false
set_option linter.unusedSimpArgs false
set_option maxRecDepth 100000

theorem fq_kind {D : Int} {s : Bool} {M E r : Int} (q : Fq D s M E r) (h1 : -19342822337206103650074625 < r) (h2 : r < 19342822337206103650074625) : (D == 2) = false := by
  rcases q.cases with ⟨rfl, _⟩ | ⟨rfl, _⟩ | ⟨rfl, rfl, rfl, ⟨rfl, h5⟩ | ⟨rfl, h5⟩⟩
  · rfl
  · rfl
  · omega
  · omega
theorem opl_bd {n : Int} (h1 : -9223372036854775808 ≤ n) (h2 : n ≤ 9223372036854775807) : -19342822337206103650074625 < opl n ∧ opl n < 19342822337206103650074625 := by
  obtain ⟨a, b⟩ := lo_bd n.natAbs 0
  unfold opl
  generalize lo n.natAbs 0 = l at a b
  cases h : decide (n < 0)
  · rw [show sgi false l = l from if_neg (by decide)]; omega
  · rw [show sgi true l = -l from if_pos rfl]; omega
theorem opl_eq {a b : Int} (h1 : -9223372036854775808 ≤ a) (h2 : a ≤ 9223372036854775807) (k1 : -9223372036854775808 ≤ b) (k2 : b ≤ 9223372036854775807) (h : opl a = opl b) : a = b := by
  have := opl_cmp h1 h2 k1 k2
  rw [cmpI_eq h] at this
  exact cmpI_zero.1 this.symm
/-- Two numbers of different places are not the same. -/
theorem fq_ne {D D' : Int} {s s' : Bool} {M M' E E' r r' : Int} (q : Fq D s M E r) (q' : Fq D' s' M' E' r') (h : r ≠ r') : ¬ (D = D' ∧ s = s' ∧ M = M' ∧ E = E') := by
  rintro ⟨rfl, rfl, rfl, rfl⟩
  exact h (q.2.2.symm.trans q'.2.2)
set_option maxHeartbeats 8000000 in
theorem numWholes_lt (n0 : Int) (n1 : Int) (w : World) (hT : Tab w) (h1 : -9223372036854775808 ≤ n0) (h2 : n0 ≤ 9223372036854775807) (k1 : -9223372036854775808 ≤ n1) (k2 : n1 ≤ 9223372036854775807) (hl : n0 < n1) (hm : -9223372036854775807 ≤ n0) :
    Calls Tryd.prog 10 #[.int .i64 n0, .int .i64 n1] w (PB w true) := by
  obtain ⟨σ, hσ⟩ : ∃ σ, cmpI (opl n0) 0 = σ := ⟨_, rfl⟩
  have hz : (σ == 0) = (n0 == 0) := by
    rw [← hσ, Bool.eq_iff_iff]
    simp only [beq_iff_eq]
    constructor
    · intro e
      exact opl_eq h1 h2 (by decide) (by decide) ((cmpI_zero.1 e).trans opl_zero.symm)
    · intro e
      rw [e]
      rfl
  obtain ⟨b1, b2⟩ := opl_bd h1 h2
  have hc : cmpI (opl n0) (opl n1) = (-1) := by rw [opl_cmp h1 h2 k1 k2]; exact cmpI_lt hl
  have hng : opl (-n0) = -opl n0 := opl_neg n0
  have H0 := Lib.hid (show sgi (decide (n0 < 0)) (lo n0.natAbs 0) = opl n0 from rfl)
  have H1 := Lib.hid (show sgi (decide (n1 < 0)) (lo n1.natAbs 0) = opl n1 from rfl)
  have HG := Lib.hid (show sgi (decide (-n0 < 0)) (lo (-n0).natAbs 0) = -opl n0 from hng)
  have hne : opl n0 ≠ opl n1 := fun e => by have := opl_eq h1 h2 k1 k2 e; omega
  have en : (n0 == n1) = false := by
    have : n0 ≠ n1 := by omega
    simpa using this
  have HC := Lib.hid hc
  have HSG := Lib.hid hσ
  have HNE := Lib.hid hne
  clear hσ hc hng hne
  revert H0 H1 HG HC HSG b1 b2 HNE
  generalize opl n0 = x
  generalize opl n1 = y
  intro b1 b2 H0 H1 HG HC HSG HNE
  go_enter Tryd.func10, Tryd.ntmps10
  have HB := Lib.hid (Below.refl w.heap.size w)
  go_wp2_with fail
  refine (awake5 _ hT).mono ?_
  rintro ee w2 ⟨rfl, B⟩
  replace hT := hT.below B
  replace HB := Lib.hid (bt HB.out B)
  clear B
  clear hT
  go_wp2_with fail
  refine (nOf _ h1 h2 H0.out).mono ?_
  rintro ee w3 ⟨K1, s1, M1, E1, rfl, q1, B⟩
  replace HB := Lib.hid (bt HB.out B)
  clear B
  go_upto_region 3 with (fail)
  have lX6 := Nat.le_refl (World.heap w3).size
  replace HB := Lib.hid (bt HB.out (bel1 _ (.cells #[.int .i64 K1, .bool s1, .int .u64 M1, .int .i64 E1] 30)))
  have X6 := Bo.new w3 #[.int .i64 K1, .bool s1, .int .u64 M1, .int .i64 E1] 30
  generalize hWn : World.alloc w3 (.cells #[.int .i64 K1, .bool s1, .int .u64 M1, .int .i64 E1] 30) = w4 at *
  clear hWn
  clear lX6
  go_wp2_with fail
  refine (nOf _ k1 k2 H1.out).mono ?_
  rintro ee w5 ⟨K2, s2, M2, E2, rfl, q2, B⟩
  replace X6 := X6.below B
  replace HB := Lib.hid (bt HB.out B)
  clear B
  go_upto_region 4 with (fail)
  have lX7 := Nat.le_refl (World.heap w5).size
  have nX7X6 := X6.lt
  replace X6 := X6.below (bel1 _ (.cells #[.int .i64 K2, .bool s2, .int .u64 M2, .int .i64 E2] 30))
  replace HB := Lib.hid (bt HB.out (bel1 _ (.cells #[.int .i64 K2, .bool s2, .int .u64 M2, .int .i64 E2] 30)))
  have X7 := Bo.new w5 #[.int .i64 K2, .bool s2, .int .u64 M2, .int .i64 E2] 30
  generalize hWn : World.alloc w5 (.cells #[.int .i64 K2, .bool s2, .int .u64 M2, .int .i64 E2] 30) = w6 at *
  clear hWn
  clear lX7
  have HW : Hid (IntKind.i64.wrap (-n0) = -n0) := Lib.hid (IntWalk.i64_in _ (by omega))
  have xX60 := X6.at (i := 0) (v := .int .i64 K1) rfl
  have xX61 := X6.at (i := 1) (v := .bool s1) rfl
  have xX62 := X6.at (i := 2) (v := .int .u64 M1) rfl
  have xX63 := X6.at (i := 3) (v := .int .i64 E1) rfl
  go_wp2_with fail
  refine (nNeg q1.top (by rw [q1.rk])).mono ?_
  rintro ee w7 ⟨K4, s4, M4, E4, rfl, q4, B⟩
  clear xX60 xX61 xX62 xX63
  replace X6 := X6.below B
  replace X7 := X7.below B
  replace HB := Lib.hid (bt HB.out B)
  clear B
  have hw := HW.out
  go_wp2_with fail
  refine (nOf (n := -n0) _ (by omega) (by omega) HG.out).mono ?_
  rintro ee w8 ⟨K5, s5, M5, E5, rfl, q5, B⟩
  replace X6 := X6.below B
  replace X7 := X7.below B
  replace HB := Lib.hid (bt HB.out B)
  clear B
  clear hw
  obtain ⟨rfl, rfl, rfl, rfl⟩ := q4.uniq q5
  clear q4 q5
  go_upto_region 10 with (fail)
  have ek := fq_kind q1 b1 b2
  have ek' : K1 ≠ 2 := by simpa using ek
  have hnn := fq_ne q1 q2 HNE.out
  have xX60 := X6.at (i := 0) (v := .int .i64 K1) rfl
  have xX61 := X6.at (i := 1) (v := .bool s1) rfl
  have xX62 := X6.at (i := 2) (v := .int .u64 M1) rfl
  have xX63 := X6.at (i := 3) (v := .int .i64 E1) rfl
  have xX70 := X7.at (i := 0) (v := .int .i64 K2) rfl
  have xX71 := X7.at (i := 1) (v := .bool s2) rfl
  have xX72 := X7.at (i := 2) (v := .int .u64 M2) rfl
  have xX73 := X7.at (i := 3) (v := .int .i64 E2) rfl
  go_wp2_with fail
  refine (nCmp (z := (-1)) q1.top q2.top (by rw [q1.rk, q2.rk]; exact HC.out)).mono ?_
  rintro ee w9 ⟨rfl, B⟩
  clear xX60 xX61 xX62 xX63 xX70 xX71 xX72 xX73
  replace X6 := X6.below B
  replace X7 := X7.below B
  replace HB := Lib.hid (bt HB.out B)
  clear B
  have xX60 := X6.at (i := 0) (v := .int .i64 K1) rfl
  have xX61 := X6.at (i := 1) (v := .bool s1) rfl
  have xX62 := X6.at (i := 2) (v := .int .u64 M1) rfl
  have xX63 := X6.at (i := 3) (v := .int .i64 E1) rfl
  go_wp2_with fail
  refine (nMay (decide_eq_true q1.1)).mono ?_
  rintro ee w10 ⟨rfl, B⟩
  clear xX60 xX61 xX62 xX63
  replace X6 := X6.below B
  replace X7 := X7.below B
  replace HB := Lib.hid (bt HB.out B)
  clear B
  have xX60 := X6.at (i := 0) (v := .int .i64 K1) rfl
  have xX61 := X6.at (i := 1) (v := .bool s1) rfl
  have xX62 := X6.at (i := 2) (v := .int .u64 M1) rfl
  have xX63 := X6.at (i := 3) (v := .int .i64 E1) rfl
  go_wp2_with fail
  refine (nSign (σ := σ) q1.top (by rw [q1.rk]; exact HSG.out)).mono ?_
  rintro ee w11 ⟨rfl, B⟩
  clear xX60 xX61 xX62 xX63
  replace X6 := X6.below B
  replace X7 := X7.below B
  replace HB := Lib.hid (bt HB.out B)
  clear B
  clear q1 HC HSG H0 H1 HG b1 b2 q2 HNE
  cases hz0 : (n0 == 0)
  · rw [hz0] at hz
    have xX60 := X6.at (i := 0) (v := .int .i64 K1) rfl
    have xX61 := X6.at (i := 1) (v := .bool s1) rfl
    have xX62 := X6.at (i := 2) (v := .int .u64 M1) rfl
    have xX63 := X6.at (i := 3) (v := .int .i64 E1) rfl
    have xX70 := X7.at (i := 0) (v := .int .i64 K2) rfl
    have xX71 := X7.at (i := 1) (v := .bool s2) rfl
    have xX72 := X7.at (i := 2) (v := .int .u64 M2) rfl
    have xX73 := X7.at (i := 3) (v := .int .i64 E2) rfl
    go_wp2
    all_goals go_ret
    all_goals exact ⟨by first | rfl | (exfalso; exact hnn ⟨by assumption, by assumption, by assumption, by assumption⟩) | (simp [en]; omega), HB.out⟩
  · rw [hz0] at hz
    have xX60 := X6.at (i := 0) (v := .int .i64 K1) rfl
    have xX61 := X6.at (i := 1) (v := .bool s1) rfl
    have xX62 := X6.at (i := 2) (v := .int .u64 M1) rfl
    have xX63 := X6.at (i := 3) (v := .int .i64 E1) rfl
    have xX70 := X7.at (i := 0) (v := .int .i64 K2) rfl
    have xX71 := X7.at (i := 1) (v := .bool s2) rfl
    have xX72 := X7.at (i := 2) (v := .int .u64 M2) rfl
    have xX73 := X7.at (i := 3) (v := .int .i64 E2) rfl
    go_wp2
    all_goals go_ret
    all_goals exact ⟨by first | rfl | (exfalso; exact hnn ⟨by assumption, by assumption, by assumption, by assumption⟩) | (simp [en]; omega), HB.out⟩
set_option maxHeartbeats 8000000 in
theorem numWholes_lt_m (n0 : Int) (n1 : Int) (w : World) (hT : Tab w) (h1 : -9223372036854775808 ≤ n0) (h2 : n0 ≤ 9223372036854775807) (k1 : -9223372036854775808 ≤ n1) (k2 : n1 ≤ 9223372036854775807) (hl : n0 < n1) (hm : n0 < -9223372036854775807) :
    Calls Tryd.prog 10 #[.int .i64 n0, .int .i64 n1] w (PB w true) := by
  have hm2 : decide (-9223372036854775808 < n0) = false := decide_eq_false (by omega)
  obtain ⟨σ, hσ⟩ : ∃ σ, cmpI (opl n0) 0 = σ := ⟨_, rfl⟩
  have hz : (σ == 0) = (n0 == 0) := by
    rw [← hσ, Bool.eq_iff_iff]
    simp only [beq_iff_eq]
    constructor
    · intro e
      exact opl_eq h1 h2 (by decide) (by decide) ((cmpI_zero.1 e).trans opl_zero.symm)
    · intro e
      rw [e]
      rfl
  obtain ⟨b1, b2⟩ := opl_bd h1 h2
  have hc : cmpI (opl n0) (opl n1) = (-1) := by rw [opl_cmp h1 h2 k1 k2]; exact cmpI_lt hl
  have hng : opl (-n0) = -opl n0 := opl_neg n0
  have H0 := Lib.hid (show sgi (decide (n0 < 0)) (lo n0.natAbs 0) = opl n0 from rfl)
  have H1 := Lib.hid (show sgi (decide (n1 < 0)) (lo n1.natAbs 0) = opl n1 from rfl)
  have HG := Lib.hid (show sgi (decide (-n0 < 0)) (lo (-n0).natAbs 0) = -opl n0 from hng)
  have hne : opl n0 ≠ opl n1 := fun e => by have := opl_eq h1 h2 k1 k2 e; omega
  have en : (n0 == n1) = false := by
    have : n0 ≠ n1 := by omega
    simpa using this
  have HC := Lib.hid hc
  have HSG := Lib.hid hσ
  have HNE := Lib.hid hne
  clear hσ hc hng hne
  revert H0 H1 HG HC HSG b1 b2 HNE
  generalize opl n0 = x
  generalize opl n1 = y
  intro b1 b2 H0 H1 HG HC HSG HNE
  go_enter Tryd.func10, Tryd.ntmps10
  have HB := Lib.hid (Below.refl w.heap.size w)
  go_wp2_with fail
  refine (awake5 _ hT).mono ?_
  rintro ee w2 ⟨rfl, B⟩
  replace hT := hT.below B
  replace HB := Lib.hid (bt HB.out B)
  clear B
  clear hT
  go_wp2_with fail
  refine (nOf _ h1 h2 H0.out).mono ?_
  rintro ee w3 ⟨K1, s1, M1, E1, rfl, q1, B⟩
  replace HB := Lib.hid (bt HB.out B)
  clear B
  go_upto_region 3 with (fail)
  have lX6 := Nat.le_refl (World.heap w3).size
  replace HB := Lib.hid (bt HB.out (bel1 _ (.cells #[.int .i64 K1, .bool s1, .int .u64 M1, .int .i64 E1] 30)))
  have X6 := Bo.new w3 #[.int .i64 K1, .bool s1, .int .u64 M1, .int .i64 E1] 30
  generalize hWn : World.alloc w3 (.cells #[.int .i64 K1, .bool s1, .int .u64 M1, .int .i64 E1] 30) = w4 at *
  clear hWn
  clear lX6
  go_wp2_with fail
  refine (nOf _ k1 k2 H1.out).mono ?_
  rintro ee w5 ⟨K2, s2, M2, E2, rfl, q2, B⟩
  replace X6 := X6.below B
  replace HB := Lib.hid (bt HB.out B)
  clear B
  go_upto_region 4 with (fail)
  have lX7 := Nat.le_refl (World.heap w5).size
  have nX7X6 := X6.lt
  replace X6 := X6.below (bel1 _ (.cells #[.int .i64 K2, .bool s2, .int .u64 M2, .int .i64 E2] 30))
  replace HB := Lib.hid (bt HB.out (bel1 _ (.cells #[.int .i64 K2, .bool s2, .int .u64 M2, .int .i64 E2] 30)))
  have X7 := Bo.new w5 #[.int .i64 K2, .bool s2, .int .u64 M2, .int .i64 E2] 30
  generalize hWn : World.alloc w5 (.cells #[.int .i64 K2, .bool s2, .int .u64 M2, .int .i64 E2] 30) = w6 at *
  clear hWn
  clear lX7
  go_upto_region 10 with (fail)
  have ek := fq_kind q1 b1 b2
  have ek' : K1 ≠ 2 := by simpa using ek
  have hnn := fq_ne q1 q2 HNE.out
  have xX60 := X6.at (i := 0) (v := .int .i64 K1) rfl
  have xX61 := X6.at (i := 1) (v := .bool s1) rfl
  have xX62 := X6.at (i := 2) (v := .int .u64 M1) rfl
  have xX63 := X6.at (i := 3) (v := .int .i64 E1) rfl
  have xX70 := X7.at (i := 0) (v := .int .i64 K2) rfl
  have xX71 := X7.at (i := 1) (v := .bool s2) rfl
  have xX72 := X7.at (i := 2) (v := .int .u64 M2) rfl
  have xX73 := X7.at (i := 3) (v := .int .i64 E2) rfl
  go_wp2_with fail
  refine (nCmp (z := (-1)) q1.top q2.top (by rw [q1.rk, q2.rk]; exact HC.out)).mono ?_
  rintro ee w9 ⟨rfl, B⟩
  clear xX60 xX61 xX62 xX63 xX70 xX71 xX72 xX73
  replace X6 := X6.below B
  replace X7 := X7.below B
  replace HB := Lib.hid (bt HB.out B)
  clear B
  have xX60 := X6.at (i := 0) (v := .int .i64 K1) rfl
  have xX61 := X6.at (i := 1) (v := .bool s1) rfl
  have xX62 := X6.at (i := 2) (v := .int .u64 M1) rfl
  have xX63 := X6.at (i := 3) (v := .int .i64 E1) rfl
  go_wp2_with fail
  refine (nMay (decide_eq_true q1.1)).mono ?_
  rintro ee w10 ⟨rfl, B⟩
  clear xX60 xX61 xX62 xX63
  replace X6 := X6.below B
  replace X7 := X7.below B
  replace HB := Lib.hid (bt HB.out B)
  clear B
  have xX60 := X6.at (i := 0) (v := .int .i64 K1) rfl
  have xX61 := X6.at (i := 1) (v := .bool s1) rfl
  have xX62 := X6.at (i := 2) (v := .int .u64 M1) rfl
  have xX63 := X6.at (i := 3) (v := .int .i64 E1) rfl
  go_wp2_with fail
  refine (nSign (σ := σ) q1.top (by rw [q1.rk]; exact HSG.out)).mono ?_
  rintro ee w11 ⟨rfl, B⟩
  clear xX60 xX61 xX62 xX63
  replace X6 := X6.below B
  replace X7 := X7.below B
  replace HB := Lib.hid (bt HB.out B)
  clear B
  clear q1 HC HSG H0 H1 HG b1 b2 q2 HNE
  cases hz0 : (n0 == 0)
  · rw [hz0] at hz
    have xX60 := X6.at (i := 0) (v := .int .i64 K1) rfl
    have xX61 := X6.at (i := 1) (v := .bool s1) rfl
    have xX62 := X6.at (i := 2) (v := .int .u64 M1) rfl
    have xX63 := X6.at (i := 3) (v := .int .i64 E1) rfl
    have xX70 := X7.at (i := 0) (v := .int .i64 K2) rfl
    have xX71 := X7.at (i := 1) (v := .bool s2) rfl
    have xX72 := X7.at (i := 2) (v := .int .u64 M2) rfl
    have xX73 := X7.at (i := 3) (v := .int .i64 E2) rfl
    go_wp2
    all_goals go_ret
    all_goals exact ⟨by first | rfl | (exfalso; exact hnn ⟨by assumption, by assumption, by assumption, by assumption⟩) | (simp [en]; omega), HB.out⟩
  · rw [hz0] at hz
    have xX60 := X6.at (i := 0) (v := .int .i64 K1) rfl
    have xX61 := X6.at (i := 1) (v := .bool s1) rfl
    have xX62 := X6.at (i := 2) (v := .int .u64 M1) rfl
    have xX63 := X6.at (i := 3) (v := .int .i64 E1) rfl
    have xX70 := X7.at (i := 0) (v := .int .i64 K2) rfl
    have xX71 := X7.at (i := 1) (v := .bool s2) rfl
    have xX72 := X7.at (i := 2) (v := .int .u64 M2) rfl
    have xX73 := X7.at (i := 3) (v := .int .i64 E2) rfl
    go_wp2
    all_goals go_ret
    all_goals exact ⟨by first | rfl | (exfalso; exact hnn ⟨by assumption, by assumption, by assumption, by assumption⟩) | (simp [en]; omega), HB.out⟩
set_option maxHeartbeats 8000000 in
theorem numWholes_eq (n0 : Int) (n1 : Int) (w : World) (hT : Tab w) (h1 : -9223372036854775808 ≤ n0) (h2 : n0 ≤ 9223372036854775807) (k1 : -9223372036854775808 ≤ n1) (k2 : n1 ≤ 9223372036854775807) (hl : n0 = n1) (hm : -9223372036854775807 ≤ n0) :
    Calls Tryd.prog 10 #[.int .i64 n0, .int .i64 n1] w (PB w true) := by
  subst hl
  obtain ⟨σ, hσ⟩ : ∃ σ, cmpI (opl n0) 0 = σ := ⟨_, rfl⟩
  have hz : (σ == 0) = (n0 == 0) := by
    rw [← hσ, Bool.eq_iff_iff]
    simp only [beq_iff_eq]
    constructor
    · intro e
      exact opl_eq h1 h2 (by decide) (by decide) ((cmpI_zero.1 e).trans opl_zero.symm)
    · intro e
      rw [e]
      rfl
  obtain ⟨b1, b2⟩ := opl_bd h1 h2
  have hc : cmpI (opl n0) (opl n0) = 0 := by rw [opl_cmp h1 h2 h1 h2]; exact cmpI_eq rfl
  have hng : opl (-n0) = -opl n0 := opl_neg n0
  have H0 := Lib.hid (show sgi (decide (n0 < 0)) (lo n0.natAbs 0) = opl n0 from rfl)
  have H1 := Lib.hid (show sgi (decide (n0 < 0)) (lo n0.natAbs 0) = opl n0 from rfl)
  have HG := Lib.hid (show sgi (decide (-n0 < 0)) (lo (-n0).natAbs 0) = -opl n0 from hng)
  have HC := Lib.hid hc
  have HSG := Lib.hid hσ
  clear hσ hc hng
  revert H0 H1 HG HC HSG b1 b2
  generalize opl n0 = x
  intro b1 b2 H0 H1 HG HC HSG
  go_enter Tryd.func10, Tryd.ntmps10
  have HB := Lib.hid (Below.refl w.heap.size w)
  go_wp2_with fail
  refine (awake5 _ hT).mono ?_
  rintro ee w2 ⟨rfl, B⟩
  replace hT := hT.below B
  replace HB := Lib.hid (bt HB.out B)
  clear B
  clear hT
  go_wp2_with fail
  refine (nOf _ h1 h2 H0.out).mono ?_
  rintro ee w3 ⟨K1, s1, M1, E1, rfl, q1, B⟩
  replace HB := Lib.hid (bt HB.out B)
  clear B
  go_upto_region 3 with (fail)
  have lX6 := Nat.le_refl (World.heap w3).size
  replace HB := Lib.hid (bt HB.out (bel1 _ (.cells #[.int .i64 K1, .bool s1, .int .u64 M1, .int .i64 E1] 30)))
  have X6 := Bo.new w3 #[.int .i64 K1, .bool s1, .int .u64 M1, .int .i64 E1] 30
  generalize hWn : World.alloc w3 (.cells #[.int .i64 K1, .bool s1, .int .u64 M1, .int .i64 E1] 30) = w4 at *
  clear hWn
  clear lX6
  go_wp2_with fail
  refine (nOf _ h1 h2 H1.out).mono ?_
  rintro ee w5 ⟨K2, s2, M2, E2, rfl, q2, B⟩
  replace X6 := X6.below B
  replace HB := Lib.hid (bt HB.out B)
  clear B
  obtain ⟨rfl, rfl, rfl, rfl⟩ := q1.uniq q2
  clear q2
  go_upto_region 4 with (fail)
  have lX7 := Nat.le_refl (World.heap w5).size
  have nX7X6 := X6.lt
  replace X6 := X6.below (bel1 _ (.cells #[.int .i64 K1, .bool s1, .int .u64 M1, .int .i64 E1] 30))
  replace HB := Lib.hid (bt HB.out (bel1 _ (.cells #[.int .i64 K1, .bool s1, .int .u64 M1, .int .i64 E1] 30)))
  have X7 := Bo.new w5 #[.int .i64 K1, .bool s1, .int .u64 M1, .int .i64 E1] 30
  generalize hWn : World.alloc w5 (.cells #[.int .i64 K1, .bool s1, .int .u64 M1, .int .i64 E1] 30) = w6 at *
  clear hWn
  clear lX7
  have HW : Hid (IntKind.i64.wrap (-n0) = -n0) := Lib.hid (IntWalk.i64_in _ (by omega))
  have xX60 := X6.at (i := 0) (v := .int .i64 K1) rfl
  have xX61 := X6.at (i := 1) (v := .bool s1) rfl
  have xX62 := X6.at (i := 2) (v := .int .u64 M1) rfl
  have xX63 := X6.at (i := 3) (v := .int .i64 E1) rfl
  go_wp2_with fail
  refine (nNeg q1.top (by rw [q1.rk])).mono ?_
  rintro ee w7 ⟨K4, s4, M4, E4, rfl, q4, B⟩
  clear xX60 xX61 xX62 xX63
  replace X6 := X6.below B
  replace X7 := X7.below B
  replace HB := Lib.hid (bt HB.out B)
  clear B
  have hw := HW.out
  go_wp2_with fail
  refine (nOf (n := -n0) _ (by omega) (by omega) HG.out).mono ?_
  rintro ee w8 ⟨K5, s5, M5, E5, rfl, q5, B⟩
  replace X6 := X6.below B
  replace X7 := X7.below B
  replace HB := Lib.hid (bt HB.out B)
  clear B
  clear hw
  obtain ⟨rfl, rfl, rfl, rfl⟩ := q4.uniq q5
  clear q4 q5
  go_upto_region 10 with (fail)
  have ek := fq_kind q1 b1 b2
  have ek' : K1 ≠ 2 := by simpa using ek
  have xX60 := X6.at (i := 0) (v := .int .i64 K1) rfl
  have xX61 := X6.at (i := 1) (v := .bool s1) rfl
  have xX62 := X6.at (i := 2) (v := .int .u64 M1) rfl
  have xX63 := X6.at (i := 3) (v := .int .i64 E1) rfl
  have xX70 := X7.at (i := 0) (v := .int .i64 K1) rfl
  have xX71 := X7.at (i := 1) (v := .bool s1) rfl
  have xX72 := X7.at (i := 2) (v := .int .u64 M1) rfl
  have xX73 := X7.at (i := 3) (v := .int .i64 E1) rfl
  go_wp2_with fail
  refine (nCmp (z := 0) q1.top q1.top (by rw [q1.rk]; exact HC.out)).mono ?_
  rintro ee w9 ⟨rfl, B⟩
  clear xX60 xX61 xX62 xX63 xX70 xX71 xX72 xX73
  replace X6 := X6.below B
  replace X7 := X7.below B
  replace HB := Lib.hid (bt HB.out B)
  clear B
  have xX60 := X6.at (i := 0) (v := .int .i64 K1) rfl
  have xX61 := X6.at (i := 1) (v := .bool s1) rfl
  have xX62 := X6.at (i := 2) (v := .int .u64 M1) rfl
  have xX63 := X6.at (i := 3) (v := .int .i64 E1) rfl
  go_wp2_with fail
  refine (nMay (decide_eq_true q1.1)).mono ?_
  rintro ee w10 ⟨rfl, B⟩
  clear xX60 xX61 xX62 xX63
  replace X6 := X6.below B
  replace X7 := X7.below B
  replace HB := Lib.hid (bt HB.out B)
  clear B
  have xX60 := X6.at (i := 0) (v := .int .i64 K1) rfl
  have xX61 := X6.at (i := 1) (v := .bool s1) rfl
  have xX62 := X6.at (i := 2) (v := .int .u64 M1) rfl
  have xX63 := X6.at (i := 3) (v := .int .i64 E1) rfl
  go_wp2_with fail
  refine (nSign (σ := σ) q1.top (by rw [q1.rk]; exact HSG.out)).mono ?_
  rintro ee w11 ⟨rfl, B⟩
  clear xX60 xX61 xX62 xX63
  replace X6 := X6.below B
  replace X7 := X7.below B
  replace HB := Lib.hid (bt HB.out B)
  clear B
  clear q1 HC HSG H0 H1 HG b1 b2
  cases hz0 : (n0 == 0)
  · rw [hz0] at hz
    have xX60 := X6.at (i := 0) (v := .int .i64 K1) rfl
    have xX61 := X6.at (i := 1) (v := .bool s1) rfl
    have xX62 := X6.at (i := 2) (v := .int .u64 M1) rfl
    have xX63 := X6.at (i := 3) (v := .int .i64 E1) rfl
    have xX70 := X7.at (i := 0) (v := .int .i64 K1) rfl
    have xX71 := X7.at (i := 1) (v := .bool s1) rfl
    have xX72 := X7.at (i := 2) (v := .int .u64 M1) rfl
    have xX73 := X7.at (i := 3) (v := .int .i64 E1) rfl
    go_wp2
    go_ret
    exact ⟨by first | rfl | (simp; omega), HB.out⟩
  · rw [hz0] at hz
    have xX60 := X6.at (i := 0) (v := .int .i64 K1) rfl
    have xX61 := X6.at (i := 1) (v := .bool s1) rfl
    have xX62 := X6.at (i := 2) (v := .int .u64 M1) rfl
    have xX63 := X6.at (i := 3) (v := .int .i64 E1) rfl
    have xX70 := X7.at (i := 0) (v := .int .i64 K1) rfl
    have xX71 := X7.at (i := 1) (v := .bool s1) rfl
    have xX72 := X7.at (i := 2) (v := .int .u64 M1) rfl
    have xX73 := X7.at (i := 3) (v := .int .i64 E1) rfl
    go_wp2
    go_ret
    exact ⟨by first | rfl | (simp; omega), HB.out⟩
set_option maxHeartbeats 8000000 in
theorem numWholes_eq_m (n0 : Int) (n1 : Int) (w : World) (hT : Tab w) (h1 : -9223372036854775808 ≤ n0) (h2 : n0 ≤ 9223372036854775807) (k1 : -9223372036854775808 ≤ n1) (k2 : n1 ≤ 9223372036854775807) (hl : n0 = n1) (hm : n0 < -9223372036854775807) :
    Calls Tryd.prog 10 #[.int .i64 n0, .int .i64 n1] w (PB w true) := by
  subst hl
  have hm2 : decide (-9223372036854775808 < n0) = false := decide_eq_false (by omega)
  obtain ⟨σ, hσ⟩ : ∃ σ, cmpI (opl n0) 0 = σ := ⟨_, rfl⟩
  have hz : (σ == 0) = (n0 == 0) := by
    rw [← hσ, Bool.eq_iff_iff]
    simp only [beq_iff_eq]
    constructor
    · intro e
      exact opl_eq h1 h2 (by decide) (by decide) ((cmpI_zero.1 e).trans opl_zero.symm)
    · intro e
      rw [e]
      rfl
  obtain ⟨b1, b2⟩ := opl_bd h1 h2
  have hc : cmpI (opl n0) (opl n0) = 0 := by rw [opl_cmp h1 h2 h1 h2]; exact cmpI_eq rfl
  have hng : opl (-n0) = -opl n0 := opl_neg n0
  have H0 := Lib.hid (show sgi (decide (n0 < 0)) (lo n0.natAbs 0) = opl n0 from rfl)
  have H1 := Lib.hid (show sgi (decide (n0 < 0)) (lo n0.natAbs 0) = opl n0 from rfl)
  have HG := Lib.hid (show sgi (decide (-n0 < 0)) (lo (-n0).natAbs 0) = -opl n0 from hng)
  have HC := Lib.hid hc
  have HSG := Lib.hid hσ
  clear hσ hc hng
  revert H0 H1 HG HC HSG b1 b2
  generalize opl n0 = x
  intro b1 b2 H0 H1 HG HC HSG
  go_enter Tryd.func10, Tryd.ntmps10
  have HB := Lib.hid (Below.refl w.heap.size w)
  go_wp2_with fail
  refine (awake5 _ hT).mono ?_
  rintro ee w2 ⟨rfl, B⟩
  replace hT := hT.below B
  replace HB := Lib.hid (bt HB.out B)
  clear B
  clear hT
  go_wp2_with fail
  refine (nOf _ h1 h2 H0.out).mono ?_
  rintro ee w3 ⟨K1, s1, M1, E1, rfl, q1, B⟩
  replace HB := Lib.hid (bt HB.out B)
  clear B
  go_upto_region 3 with (fail)
  have lX6 := Nat.le_refl (World.heap w3).size
  replace HB := Lib.hid (bt HB.out (bel1 _ (.cells #[.int .i64 K1, .bool s1, .int .u64 M1, .int .i64 E1] 30)))
  have X6 := Bo.new w3 #[.int .i64 K1, .bool s1, .int .u64 M1, .int .i64 E1] 30
  generalize hWn : World.alloc w3 (.cells #[.int .i64 K1, .bool s1, .int .u64 M1, .int .i64 E1] 30) = w4 at *
  clear hWn
  clear lX6
  go_wp2_with fail
  refine (nOf _ h1 h2 H1.out).mono ?_
  rintro ee w5 ⟨K2, s2, M2, E2, rfl, q2, B⟩
  replace X6 := X6.below B
  replace HB := Lib.hid (bt HB.out B)
  clear B
  obtain ⟨rfl, rfl, rfl, rfl⟩ := q1.uniq q2
  clear q2
  go_upto_region 4 with (fail)
  have lX7 := Nat.le_refl (World.heap w5).size
  have nX7X6 := X6.lt
  replace X6 := X6.below (bel1 _ (.cells #[.int .i64 K1, .bool s1, .int .u64 M1, .int .i64 E1] 30))
  replace HB := Lib.hid (bt HB.out (bel1 _ (.cells #[.int .i64 K1, .bool s1, .int .u64 M1, .int .i64 E1] 30)))
  have X7 := Bo.new w5 #[.int .i64 K1, .bool s1, .int .u64 M1, .int .i64 E1] 30
  generalize hWn : World.alloc w5 (.cells #[.int .i64 K1, .bool s1, .int .u64 M1, .int .i64 E1] 30) = w6 at *
  clear hWn
  clear lX7
  go_upto_region 10 with (fail)
  have ek := fq_kind q1 b1 b2
  have ek' : K1 ≠ 2 := by simpa using ek
  have xX60 := X6.at (i := 0) (v := .int .i64 K1) rfl
  have xX61 := X6.at (i := 1) (v := .bool s1) rfl
  have xX62 := X6.at (i := 2) (v := .int .u64 M1) rfl
  have xX63 := X6.at (i := 3) (v := .int .i64 E1) rfl
  have xX70 := X7.at (i := 0) (v := .int .i64 K1) rfl
  have xX71 := X7.at (i := 1) (v := .bool s1) rfl
  have xX72 := X7.at (i := 2) (v := .int .u64 M1) rfl
  have xX73 := X7.at (i := 3) (v := .int .i64 E1) rfl
  go_wp2_with fail
  refine (nCmp (z := 0) q1.top q1.top (by rw [q1.rk]; exact HC.out)).mono ?_
  rintro ee w9 ⟨rfl, B⟩
  clear xX60 xX61 xX62 xX63 xX70 xX71 xX72 xX73
  replace X6 := X6.below B
  replace X7 := X7.below B
  replace HB := Lib.hid (bt HB.out B)
  clear B
  have xX60 := X6.at (i := 0) (v := .int .i64 K1) rfl
  have xX61 := X6.at (i := 1) (v := .bool s1) rfl
  have xX62 := X6.at (i := 2) (v := .int .u64 M1) rfl
  have xX63 := X6.at (i := 3) (v := .int .i64 E1) rfl
  go_wp2_with fail
  refine (nMay (decide_eq_true q1.1)).mono ?_
  rintro ee w10 ⟨rfl, B⟩
  clear xX60 xX61 xX62 xX63
  replace X6 := X6.below B
  replace X7 := X7.below B
  replace HB := Lib.hid (bt HB.out B)
  clear B
  have xX60 := X6.at (i := 0) (v := .int .i64 K1) rfl
  have xX61 := X6.at (i := 1) (v := .bool s1) rfl
  have xX62 := X6.at (i := 2) (v := .int .u64 M1) rfl
  have xX63 := X6.at (i := 3) (v := .int .i64 E1) rfl
  go_wp2_with fail
  refine (nSign (σ := σ) q1.top (by rw [q1.rk]; exact HSG.out)).mono ?_
  rintro ee w11 ⟨rfl, B⟩
  clear xX60 xX61 xX62 xX63
  replace X6 := X6.below B
  replace X7 := X7.below B
  replace HB := Lib.hid (bt HB.out B)
  clear B
  clear q1 HC HSG H0 H1 HG b1 b2
  cases hz0 : (n0 == 0)
  · rw [hz0] at hz
    have xX60 := X6.at (i := 0) (v := .int .i64 K1) rfl
    have xX61 := X6.at (i := 1) (v := .bool s1) rfl
    have xX62 := X6.at (i := 2) (v := .int .u64 M1) rfl
    have xX63 := X6.at (i := 3) (v := .int .i64 E1) rfl
    have xX70 := X7.at (i := 0) (v := .int .i64 K1) rfl
    have xX71 := X7.at (i := 1) (v := .bool s1) rfl
    have xX72 := X7.at (i := 2) (v := .int .u64 M1) rfl
    have xX73 := X7.at (i := 3) (v := .int .i64 E1) rfl
    go_wp2
    go_ret
    exact ⟨by first | rfl | (simp; omega), HB.out⟩
  · rw [hz0] at hz
    have xX60 := X6.at (i := 0) (v := .int .i64 K1) rfl
    have xX61 := X6.at (i := 1) (v := .bool s1) rfl
    have xX62 := X6.at (i := 2) (v := .int .u64 M1) rfl
    have xX63 := X6.at (i := 3) (v := .int .i64 E1) rfl
    have xX70 := X7.at (i := 0) (v := .int .i64 K1) rfl
    have xX71 := X7.at (i := 1) (v := .bool s1) rfl
    have xX72 := X7.at (i := 2) (v := .int .u64 M1) rfl
    have xX73 := X7.at (i := 3) (v := .int .i64 E1) rfl
    go_wp2
    go_ret
    exact ⟨by first | rfl | (simp; omega), HB.out⟩
set_option maxHeartbeats 8000000 in
theorem numWholes_gt (n0 : Int) (n1 : Int) (w : World) (hT : Tab w) (h1 : -9223372036854775808 ≤ n0) (h2 : n0 ≤ 9223372036854775807) (k1 : -9223372036854775808 ≤ n1) (k2 : n1 ≤ 9223372036854775807) (hl : n1 < n0) (hm : -9223372036854775807 ≤ n0) :
    Calls Tryd.prog 10 #[.int .i64 n0, .int .i64 n1] w (PB w true) := by
  obtain ⟨σ, hσ⟩ : ∃ σ, cmpI (opl n0) 0 = σ := ⟨_, rfl⟩
  have hz : (σ == 0) = (n0 == 0) := by
    rw [← hσ, Bool.eq_iff_iff]
    simp only [beq_iff_eq]
    constructor
    · intro e
      exact opl_eq h1 h2 (by decide) (by decide) ((cmpI_zero.1 e).trans opl_zero.symm)
    · intro e
      rw [e]
      rfl
  obtain ⟨b1, b2⟩ := opl_bd h1 h2
  have hc : cmpI (opl n0) (opl n1) = 1 := by rw [opl_cmp h1 h2 k1 k2]; exact cmpI_gt hl
  have hng : opl (-n0) = -opl n0 := opl_neg n0
  have H0 := Lib.hid (show sgi (decide (n0 < 0)) (lo n0.natAbs 0) = opl n0 from rfl)
  have H1 := Lib.hid (show sgi (decide (n1 < 0)) (lo n1.natAbs 0) = opl n1 from rfl)
  have HG := Lib.hid (show sgi (decide (-n0 < 0)) (lo (-n0).natAbs 0) = -opl n0 from hng)
  have hne : opl n0 ≠ opl n1 := fun e => by have := opl_eq h1 h2 k1 k2 e; omega
  have en : (n0 == n1) = false := by
    have : n0 ≠ n1 := by omega
    simpa using this
  have HC := Lib.hid hc
  have HSG := Lib.hid hσ
  have HNE := Lib.hid hne
  clear hσ hc hng hne
  revert H0 H1 HG HC HSG b1 b2 HNE
  generalize opl n0 = x
  generalize opl n1 = y
  intro b1 b2 H0 H1 HG HC HSG HNE
  go_enter Tryd.func10, Tryd.ntmps10
  have HB := Lib.hid (Below.refl w.heap.size w)
  go_wp2_with fail
  refine (awake5 _ hT).mono ?_
  rintro ee w2 ⟨rfl, B⟩
  replace hT := hT.below B
  replace HB := Lib.hid (bt HB.out B)
  clear B
  clear hT
  go_wp2_with fail
  refine (nOf _ h1 h2 H0.out).mono ?_
  rintro ee w3 ⟨K1, s1, M1, E1, rfl, q1, B⟩
  replace HB := Lib.hid (bt HB.out B)
  clear B
  go_upto_region 3 with (fail)
  have lX6 := Nat.le_refl (World.heap w3).size
  replace HB := Lib.hid (bt HB.out (bel1 _ (.cells #[.int .i64 K1, .bool s1, .int .u64 M1, .int .i64 E1] 30)))
  have X6 := Bo.new w3 #[.int .i64 K1, .bool s1, .int .u64 M1, .int .i64 E1] 30
  generalize hWn : World.alloc w3 (.cells #[.int .i64 K1, .bool s1, .int .u64 M1, .int .i64 E1] 30) = w4 at *
  clear hWn
  clear lX6
  go_wp2_with fail
  refine (nOf _ k1 k2 H1.out).mono ?_
  rintro ee w5 ⟨K2, s2, M2, E2, rfl, q2, B⟩
  replace X6 := X6.below B
  replace HB := Lib.hid (bt HB.out B)
  clear B
  go_upto_region 4 with (fail)
  have lX7 := Nat.le_refl (World.heap w5).size
  have nX7X6 := X6.lt
  replace X6 := X6.below (bel1 _ (.cells #[.int .i64 K2, .bool s2, .int .u64 M2, .int .i64 E2] 30))
  replace HB := Lib.hid (bt HB.out (bel1 _ (.cells #[.int .i64 K2, .bool s2, .int .u64 M2, .int .i64 E2] 30)))
  have X7 := Bo.new w5 #[.int .i64 K2, .bool s2, .int .u64 M2, .int .i64 E2] 30
  generalize hWn : World.alloc w5 (.cells #[.int .i64 K2, .bool s2, .int .u64 M2, .int .i64 E2] 30) = w6 at *
  clear hWn
  clear lX7
  have HW : Hid (IntKind.i64.wrap (-n0) = -n0) := Lib.hid (IntWalk.i64_in _ (by omega))
  have xX60 := X6.at (i := 0) (v := .int .i64 K1) rfl
  have xX61 := X6.at (i := 1) (v := .bool s1) rfl
  have xX62 := X6.at (i := 2) (v := .int .u64 M1) rfl
  have xX63 := X6.at (i := 3) (v := .int .i64 E1) rfl
  go_wp2_with fail
  refine (nNeg q1.top (by rw [q1.rk])).mono ?_
  rintro ee w7 ⟨K4, s4, M4, E4, rfl, q4, B⟩
  clear xX60 xX61 xX62 xX63
  replace X6 := X6.below B
  replace X7 := X7.below B
  replace HB := Lib.hid (bt HB.out B)
  clear B
  have hw := HW.out
  go_wp2_with fail
  refine (nOf (n := -n0) _ (by omega) (by omega) HG.out).mono ?_
  rintro ee w8 ⟨K5, s5, M5, E5, rfl, q5, B⟩
  replace X6 := X6.below B
  replace X7 := X7.below B
  replace HB := Lib.hid (bt HB.out B)
  clear B
  clear hw
  obtain ⟨rfl, rfl, rfl, rfl⟩ := q4.uniq q5
  clear q4 q5
  go_upto_region 10 with (fail)
  have ek := fq_kind q1 b1 b2
  have ek' : K1 ≠ 2 := by simpa using ek
  have hnn := fq_ne q1 q2 HNE.out
  have xX60 := X6.at (i := 0) (v := .int .i64 K1) rfl
  have xX61 := X6.at (i := 1) (v := .bool s1) rfl
  have xX62 := X6.at (i := 2) (v := .int .u64 M1) rfl
  have xX63 := X6.at (i := 3) (v := .int .i64 E1) rfl
  have xX70 := X7.at (i := 0) (v := .int .i64 K2) rfl
  have xX71 := X7.at (i := 1) (v := .bool s2) rfl
  have xX72 := X7.at (i := 2) (v := .int .u64 M2) rfl
  have xX73 := X7.at (i := 3) (v := .int .i64 E2) rfl
  go_wp2_with fail
  refine (nCmp (z := 1) q1.top q2.top (by rw [q1.rk, q2.rk]; exact HC.out)).mono ?_
  rintro ee w9 ⟨rfl, B⟩
  clear xX60 xX61 xX62 xX63 xX70 xX71 xX72 xX73
  replace X6 := X6.below B
  replace X7 := X7.below B
  replace HB := Lib.hid (bt HB.out B)
  clear B
  have xX60 := X6.at (i := 0) (v := .int .i64 K1) rfl
  have xX61 := X6.at (i := 1) (v := .bool s1) rfl
  have xX62 := X6.at (i := 2) (v := .int .u64 M1) rfl
  have xX63 := X6.at (i := 3) (v := .int .i64 E1) rfl
  go_wp2_with fail
  refine (nMay (decide_eq_true q1.1)).mono ?_
  rintro ee w10 ⟨rfl, B⟩
  clear xX60 xX61 xX62 xX63
  replace X6 := X6.below B
  replace X7 := X7.below B
  replace HB := Lib.hid (bt HB.out B)
  clear B
  have xX60 := X6.at (i := 0) (v := .int .i64 K1) rfl
  have xX61 := X6.at (i := 1) (v := .bool s1) rfl
  have xX62 := X6.at (i := 2) (v := .int .u64 M1) rfl
  have xX63 := X6.at (i := 3) (v := .int .i64 E1) rfl
  go_wp2_with fail
  refine (nSign (σ := σ) q1.top (by rw [q1.rk]; exact HSG.out)).mono ?_
  rintro ee w11 ⟨rfl, B⟩
  clear xX60 xX61 xX62 xX63
  replace X6 := X6.below B
  replace X7 := X7.below B
  replace HB := Lib.hid (bt HB.out B)
  clear B
  clear q1 HC HSG H0 H1 HG b1 b2 q2 HNE
  cases hz0 : (n0 == 0)
  · rw [hz0] at hz
    have xX60 := X6.at (i := 0) (v := .int .i64 K1) rfl
    have xX61 := X6.at (i := 1) (v := .bool s1) rfl
    have xX62 := X6.at (i := 2) (v := .int .u64 M1) rfl
    have xX63 := X6.at (i := 3) (v := .int .i64 E1) rfl
    have xX70 := X7.at (i := 0) (v := .int .i64 K2) rfl
    have xX71 := X7.at (i := 1) (v := .bool s2) rfl
    have xX72 := X7.at (i := 2) (v := .int .u64 M2) rfl
    have xX73 := X7.at (i := 3) (v := .int .i64 E2) rfl
    go_wp2
    all_goals go_ret
    all_goals exact ⟨by first | rfl | (exfalso; exact hnn ⟨by assumption, by assumption, by assumption, by assumption⟩) | (simp [en]; omega), HB.out⟩
  · rw [hz0] at hz
    have xX60 := X6.at (i := 0) (v := .int .i64 K1) rfl
    have xX61 := X6.at (i := 1) (v := .bool s1) rfl
    have xX62 := X6.at (i := 2) (v := .int .u64 M1) rfl
    have xX63 := X6.at (i := 3) (v := .int .i64 E1) rfl
    have xX70 := X7.at (i := 0) (v := .int .i64 K2) rfl
    have xX71 := X7.at (i := 1) (v := .bool s2) rfl
    have xX72 := X7.at (i := 2) (v := .int .u64 M2) rfl
    have xX73 := X7.at (i := 3) (v := .int .i64 E2) rfl
    go_wp2
    all_goals go_ret
    all_goals exact ⟨by first | rfl | (exfalso; exact hnn ⟨by assumption, by assumption, by assumption, by assumption⟩) | (simp [en]; omega), HB.out⟩

theorem numWholes_walk (n0 : Int) (n1 : Int) (w : World) (hT : Tab w) (w0 : (Lit.int .i64 n0).wf = true) (w1 : (Lit.int .i64 n1).wf = true) :
    Calls Tryd.prog 10 #[.int .i64 n0, .int .i64 n1] w fun e w' => e = .returned (.bool true) ∧ Below w.heap.size w w' := by
  obtain ⟨h1, h2⟩ := wf_i64' w0
  obtain ⟨k1, k2⟩ := wf_i64' w1
  by_cases hm : -9223372036854775807 ≤ n0
  · rcases Int.lt_trichotomy n0 n1 with h | h | h
    · exact numWholes_lt n0 n1 w hT h1 h2 k1 k2 h hm
    · exact numWholes_eq n0 n1 w hT h1 h2 k1 k2 h hm
    · exact numWholes_gt n0 n1 w hT h1 h2 k1 k2 h hm
  · rcases Int.lt_trichotomy n0 n1 with h | h | h
    · exact numWholes_lt_m n0 n1 w hT h1 h2 k1 k2 h (by omega)
    · exact numWholes_eq_m n0 n1 w hT h1 h2 k1 k2 h (by omega)
    · omega
end Go.Proofs.YthibemmhgdbiiaaDoor

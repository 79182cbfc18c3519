/-
  The walk of WholeOrder: for all arguments, the call answers true, and nothing that was there has turned.
-/
import Derived.Test.YtbendmhcimadpaaLw
import Derived.Test.YtbendmhcimadpaaRow
import Derived.IntWalk
import Derived.Deep.RegionHeld3
namespace Go.Proofs.Ytbendmhcimadpaa
open Go.RowKit
set_option linter.unusedVariables false

/-- The three boxes that a function of three whole numbers begins with. -/
theorem boxes3 (w : World) (s t u : Bool) (A B C : Option Addr) (n c m d k e : Nat) {W : World} (hW : W = ((w.alloc (.cells #[.bool s, .slice A n c] 24)).alloc (.cells #[.bool t, .slice B m d] 24)).alloc (.cells #[.bool u, .slice C k e] 24)) :
    Bx W w.heap.size s A n c ∧ Bx W (w.heap.size + 1) t B m d ∧ Bx W (w.heap.size + 1 + 1) u C k e ∧ Below w.heap.size w W := by
  subst hW
  exact ⟨((Bx.new w s A n c).below (bel1 _ _)).below (bel1 _ _), (Bx.newAt _ (by simp) t B m d).below (bel1 _ _), Bx.newAt _ (by simp) u C k e, bel3 _ _ _ _⟩

theorem cmpI_add (x y z : Int) : cmpI (x + z) (y + z) = cmpI x y := by unfold cmpI; split <;> (try split) <;> (try split) <;> (try split) <;> omega
theorem cmpI_sub' (x y : Int) : cmpI (x - y) 0 = cmpI x y := by unfold cmpI; split <;> (try split) <;> (try split) <;> (try split) <;> omega
theorem cmpI_neg (x y : Int) : cmpI y x = -cmpI x y := by unfold cmpI; split <;> (try split) <;> (try split) <;> (try split) <;> omega
theorem cmpI_mul (x y z : Int) : cmpI (x * z) (y * z) = cmpI x y * cmpI z 0 := by
  rcases Int.lt_trichotomy z 0 with hz | hz | hz
  · rw [cmpI_lt hz]
    rcases Int.lt_trichotomy x y with h | h | h
    · rw [cmpI_lt h, cmpI_gt (Int.mul_lt_mul_of_neg_right h hz)]; rfl
    · subst h; rw [cmpI_eq rfl, cmpI_eq rfl]; rfl
    · rw [cmpI_gt h, cmpI_lt (Int.mul_lt_mul_of_neg_right h hz)]; rfl
  · subst hz; rw [Int.mul_zero, Int.mul_zero, cmpI_eq rfl, Int.mul_zero]
  · rw [cmpI_gt hz]
    rcases Int.lt_trichotomy x y with h | h | h
    · rw [cmpI_lt h, cmpI_lt (Int.mul_lt_mul_of_pos_right h hz)]; rfl
    · subst h; rw [cmpI_eq rfl, cmpI_eq rfl]; rfl
    · rw [cmpI_gt h, cmpI_gt (Int.mul_lt_mul_of_pos_right h hz)]; rfl

set_option maxRecDepth 100000 in
set_option maxHeartbeats 8000000 in
theorem wholeOrder_main (s0 : Bool) (a0 : Option Addr) (len0 cap0 : Nat) (s1 : Bool) (a1 : Option Addr) (len1 cap1 : Nat) (s2 : Bool) (a2 : Option Addr) (len2 cap2 : Nat) (w : World) (x y z : Int) (h0 : Wr w s0 a0 len0 cap0 x) (h1 : Wr w s1 a1 len1 cap1 y) (h2 : Wr w s2 a2 len2 cap2 z) (k0 : len0 ≤ 15) (k1 : len1 ≤ 15) (k2 : len2 ≤ 15) :
    Calls Try.prog 8 #[.agg #[.bool s0, .slice a0 len0 cap0], .agg #[.bool s1, .slice a1 len1 cap1], .agg #[.bool s2, .slice a2 len2 cap2]] w (PB w true) := by
  have t0 : decide ((15 : Int) < len0) = false := by simp; omega
  have t1 : decide ((15 : Int) < len1) = false := by simp; omega
  have t2 : decide ((15 : Int) < len2) = false := by simp; omega
  have bκ := cmpI_bd x y
  have bσ := cmpI_bd z 0
  have HS : Hid (cmpI (x - y) 0 = cmpI x y) := Lib.hid (cmpI_sub' x y)
  have HA : Hid (cmpI (x + z) (y + z) = cmpI x y) := Lib.hid (cmpI_add x y z)
  have HM : Hid (cmpI (1 * x * z) (1 * y * z) = cmpI x y * cmpI z 0) := Lib.hid (by rw [Int.one_mul, Int.one_mul]; exact cmpI_mul x y z)
  have HN : Hid (cmpI y x = -cmpI x y) := Lib.hid (cmpI_neg x y)
  have HK : Hid (cmpI x y = cmpI x y) := Lib.hid rfl
  have HZ : Hid (cmpI z 0 = cmpI z 0) := Lib.hid rfl
  have HP : Hid (prd [x, z] = 1 * x * z) := Lib.hid rfl
  have HQ : Hid (prd [y, z] = 1 * y * z) := Lib.hid rfl
  revert bκ bσ HS HA HM HN HK HZ
  generalize hκ : cmpI x y = κ
  generalize hσ : cmpI z 0 = σ
  intro bκ bσ HS HA HM HN HK HZ
  clear HK HZ
  have HK := Lib.hid hκ
  have HZ := Lib.hid hσ
  clear hκ hσ
  have hb : -1 ≤ κ * σ ∧ κ * σ ≤ 1 := by
    rcases (by omega : κ = -1 ∨ κ = 0 ∨ κ = 1) with rfl | rfl | rfl <;> omega
  obtain ⟨μ, hμ⟩ : ∃ m, κ * σ = m := ⟨_, rfl⟩
  obtain ⟨ν, hν⟩ : ∃ m, -κ = m := ⟨_, rfl⟩
  rw [hμ] at hb HM
  rw [hν] at HN
  have hw : IntKind.i64.wrap (κ * σ) = μ := by rw [hμ]; exact IntWalk.i64_in _ (by omega)
  have hv : IntKind.i64.wrap (-κ) = ν := by rw [hν]; exact IntWalk.i64_in _ (by omega)
  have Hv := Lib.hid hν
  clear hμ hν
  have e1 : (κ == κ) = true := by simp
  have e2 : (μ == μ) = true := by simp
  have e3 : (ν == ν) = true := by simp
  obtain ⟨bκ1, bκ2⟩ := bκ
  obtain ⟨bσ1, bσ2⟩ := bσ
  go_enter Try.func8, Try.ntmps8
  go_wp2_with fail
  obtain ⟨X1, X2, X3, B0⟩ := boxes3 w s0 s1 s2 a0 a1 a2 len0 cap0 len1 cap1 len2 cap2 rfl
  have HB := Lib.hid B0
  replace h0 := h0.below B0
  replace h1 := h1.below B0
  replace h2 := h2.below B0
  clear B0
  refine (awake_any _).mono ?_
  rintro e w1 ⟨rfl, B⟩
  replace X1 := X1.below B
  replace X2 := X2.below B
  replace X3 := X3.below B
  replace h0 := h0.below B
  replace h1 := h1.below B
  replace h2 := h2.below B
  replace HB := Lib.hid (bt HB.out B)
  clear B
  have xX10 := X1.cell0
  have xX11 := X1.cell1
  have xX20 := X2.cell0
  have xX21 := X2.cell1
  have xX30 := X3.cell0
  have xX31 := X3.cell1
  go_wp2_with fail
  refine (wCmp h0 h1 HK.out).mono ?_
  rintro e w2 ⟨rfl, B⟩
  clear xX10 xX11 xX20 xX21 xX30 xX31
  replace X1 := X1.below B
  replace X2 := X2.below B
  replace X3 := X3.below B
  replace h0 := h0.below B
  replace h1 := h1.below B
  replace h2 := h2.below B
  replace HB := Lib.hid (bt HB.out B)
  clear B
  have xX10 := X1.cell0
  have xX11 := X1.cell1
  have xX20 := X2.cell0
  have xX21 := X2.cell1
  have xX30 := X3.cell0
  have xX31 := X3.cell1
  go_wp2_with fail
  refine (wSign h2 HZ.out).mono ?_
  rintro e w3 ⟨rfl, B⟩
  clear xX10 xX11 xX20 xX21 xX30 xX31
  replace X1 := X1.below B
  replace X2 := X2.below B
  replace X3 := X3.below B
  replace h0 := h0.below B
  replace h1 := h1.below B
  replace h2 := h2.below B
  replace HB := Lib.hid (bt HB.out B)
  clear B
  have xX10 := X1.cell0
  have xX11 := X1.cell1
  have xX20 := X2.cell0
  have xX21 := X2.cell1
  have xX30 := X3.cell0
  have xX31 := X3.cell1
  clear xX10 xX11 xX20 xX21 xX30 xX31
  go_wp2
  go_region_held3 (fun w' => w'.cell? ⟨w.heap.size, 0, none⟩ = some (.bool s0) ∧ w'.cell? ⟨w.heap.size, 1, none⟩ = some (.slice a0 len0 cap0) ∧ w'.cell? ⟨w.heap.size + 1, 0, none⟩ = some (.bool s1) ∧ w'.cell? ⟨w.heap.size + 1, 1, none⟩ = some (.slice a1 len1 cap1) ∧ w'.cell? ⟨w.heap.size + 1 + 1, 0, none⟩ = some (.bool s2) ∧ w'.cell? ⟨w.heap.size + 1 + 1, 1, none⟩ = some (.slice a2 len2 cap2)) (first | with_reducible exact ⟨(X1).cell0, (X1).cell1, (X2).cell0, (X2).cell1, (X3).cell0, (X3).cell1⟩ | with_reducible exact ⟨(X1).drew.cell0, (X1).drew.cell1, (X2).drew.cell0, (X2).drew.cell1, (X3).drew.cell0, (X3).drew.cell1⟩ | with_reducible exact ⟨(X1.below (bel1 _ _)).cell0, (X1.below (bel1 _ _)).cell1, (X2.below (bel1 _ _)).cell0, (X2.below (bel1 _ _)).cell1, (X3.below (bel1 _ _)).cell0, (X3.below (bel1 _ _)).cell1⟩ | with_reducible exact ⟨(X1.below (bel1 _ _)).drew.cell0, (X1.below (bel1 _ _)).drew.cell1, (X2.below (bel1 _ _)).drew.cell0, (X2.below (bel1 _ _)).drew.cell1, (X3.below (bel1 _ _)).drew.cell0, (X3.below (bel1 _ _)).drew.cell1⟩ | with_reducible exact ⟨(X1.below (bel2 _ _ _)).cell0, (X1.below (bel2 _ _ _)).cell1, (X2.below (bel2 _ _ _)).cell0, (X2.below (bel2 _ _ _)).cell1, (X3.below (bel2 _ _ _)).cell0, (X3.below (bel2 _ _ _)).cell1⟩ | with_reducible exact ⟨(X1.below (bel2 _ _ _)).drew.cell0, (X1.below (bel2 _ _ _)).drew.cell1, (X2.below (bel2 _ _ _)).drew.cell0, (X2.below (bel2 _ _ _)).drew.cell1, (X3.below (bel2 _ _ _)).drew.cell0, (X3.below (bel2 _ _ _)).drew.cell1⟩)
    (first
      | (go_at_call 14; ((with_reducible refine (wSub h0.drew h1.drew (by omega) (by omega) rfl).mono ?_); rintro e w4 ⟨s4, A4, n4, c4, rfl, p4, j4, B⟩; replace B := bt ((Below.refl _ _).drew) B; replace X1 := X1.below B; replace X2 := X2.below B; replace X3 := X3.below B; replace h0 := h0.below B; replace h1 := h1.below B; replace h2 := h2.below B; replace HB := Lib.hid (bt HB.out B); clear B))
      | (go_at_call 21; ((with_reducible refine (wSign p4.wr HS.out).mono ?_); rintro e w5 ⟨rfl, B⟩; replace X1 := X1.below B; replace X2 := X2.below B; replace X3 := X3.below B; replace h0 := h0.below B; replace h1 := h1.below B; replace h2 := h2.below B; replace HB := Lib.hid (bt HB.out B); clear B))
      | (go_at_call 12; ((with_reducible refine (wAdd h0 h2 (by omega) (by omega) rfl).mono ?_); rintro e w6 ⟨s6, A6, n6, c6, rfl, p6, j6, B⟩; replace X1 := X1.below B; replace X2 := X2.below B; replace X3 := X3.below B; replace h0 := h0.below B; replace h1 := h1.below B; replace h2 := h2.below B; replace HB := Lib.hid (bt HB.out B); clear B))
      | (go_at_call 12; ((with_reducible refine (wAdd h1 h2 (by omega) (by omega) rfl).mono ?_); rintro e w7 ⟨s7, A7, n7, c7, rfl, p7, j7, B⟩; replace X1 := X1.below B; replace X2 := X2.below B; replace X3 := X3.below B; replace h0 := h0.below B; replace h1 := h1.below B; replace h2 := h2.below B; replace p6 := p6.below B; replace HB := Lib.hid (bt HB.out B); clear B))
      | (go_at_call 19; ((with_reducible refine (wCmp p6.wr p7.wr HA.out).mono ?_); rintro e w9 ⟨rfl, B⟩; replace X1 := X1.below B; replace X2 := X2.below B; replace X3 := X3.below B; replace h0 := h0.below B; replace h1 := h1.below B; replace h2 := h2.below B; replace HB := Lib.hid (bt HB.out B); clear B))
      | (go_at_call 25; ((with_reducible refine (wMul (K := 15) (Wl.lit2 rfl h0 h2 k0 k2) (by omega) HP.out).mono ?_); rintro e w10 ⟨s10, A10, n10, c10, rfl, p10, j10, B⟩; replace B := bt (bel1 _ _) B; replace X1 := X1.below B; replace X2 := X2.below B; replace X3 := X3.below B; replace h0 := h0.below B; replace h1 := h1.below B; replace h2 := h2.below B; replace HB := Lib.hid (bt HB.out B); clear B))
      | (go_at_call 25; ((with_reducible refine (wMul (K := 15) ((Wl.lit2 rfl h0 h2 k0 k2).below (bel1 _ _)) (by omega) HP.out).mono ?_); rintro e w10 ⟨s10, A10, n10, c10, rfl, p10, j10, B⟩; have hl := (Wl.lit2 (K := 15) (W := w9.alloc (.cells #[.bool s0, .slice a0 len0 cap0, .bool s2, .slice a2 len2 cap2] 24)) (g := w9.heap.size + 1) (by simp) (h1.below (bel1 _ _)) (h2.below (bel1 _ _)) k1 k2).below B; replace B := bt (bel2 _ _ _) B; replace X1 := X1.below B; replace X2 := X2.below B; replace X3 := X3.below B; replace h0 := h0.below B; replace h1 := h1.below B; replace h2 := h2.below B; replace HB := Lib.hid (bt HB.out B); clear B))
      | (go_at_call 25; ((with_reducible refine (wMul (K := 15) (Wl.lit2 (by simp) (h0.below (bel1 _ _)) (h2.below (bel1 _ _)) k0 k2) (by omega) HP.out).mono ?_); rintro e w10 ⟨s10, A10, n10, c10, rfl, p10, j10, B⟩; have hl := ((Wl.lit2 (K := 15) (W := w9) rfl h1 h2 k1 k2).below (bel1 _ (.cells #[.bool s0, .slice a0 len0 cap0, .bool s2, .slice a2 len2 cap2] 24))).below B; replace B := bt (bel2 _ _ _) B; replace X1 := X1.below B; replace X2 := X2.below B; replace X3 := X3.below B; replace h0 := h0.below B; replace h1 := h1.below B; replace h2 := h2.below B; replace HB := Lib.hid (bt HB.out B); clear B))
      | (go_at_call 25; ((with_reducible refine (wMul hl (by omega) HQ.out).mono ?_); rintro e w11 ⟨s11, A11, n11, c11, rfl, p11, j11, B⟩; replace X1 := X1.below B; replace X2 := X2.below B; replace X3 := X3.below B; replace h0 := h0.below B; replace h1 := h1.below B; replace h2 := h2.below B; replace p10 := p10.below B; replace HB := Lib.hid (bt HB.out B); clear B))
      | (go_at_call 25; ((with_reducible refine (wMul (K := 15) (Wl.lit2 rfl h1 h2 k1 k2) (by omega) HQ.out).mono ?_); rintro e w11 ⟨s11, A11, n11, c11, rfl, p11, j11, B⟩; replace B := bt (bel1 _ _) B; replace X1 := X1.below B; replace X2 := X2.below B; replace X3 := X3.below B; replace h0 := h0.below B; replace h1 := h1.below B; replace h2 := h2.below B; replace p10 := p10.below B; replace HB := Lib.hid (bt HB.out B); clear B))
      | (go_at_call 19; ((with_reducible refine (wCmp p10.wr p11.wr HM.out).mono ?_); rintro e w12 ⟨rfl, B⟩; replace X1 := X1.below B; replace X2 := X2.below B; replace X3 := X3.below B; replace h0 := h0.below B; replace h1 := h1.below B; replace h2 := h2.below B; replace HB := Lib.hid (bt HB.out B); clear B))
      | (go_at_call 19; ((with_reducible refine (wCmp h1 h0 HN.out).mono ?_); rintro e w13 ⟨rfl, B⟩; replace X1 := X1.below B; replace X2 := X2.below B; replace X3 := X3.below B; replace h0 := h0.below B; replace h1 := h1.below B; replace h2 := h2.below B; replace HB := Lib.hid (bt HB.out B); clear B)))
  all_goals
    go_wp2
    go_ret
    exact ⟨rfl, HB.out⟩

set_option maxHeartbeats 2000000 in
theorem wholeOrder_far (s0 : Bool) (a0 : Option Addr) (len0 cap0 : Nat) (s1 : Bool) (a1 : Option Addr) (len1 cap1 : Nat) (s2 : Bool) (a2 : Option Addr) (len2 cap2 : Nat) (w : World) (q0 : len0 ≤ 9223372036854775807) (q1 : len1 ≤ 9223372036854775807) (q2 : len2 ≤ 9223372036854775807) (hf : ¬ (len0 ≤ 15 ∧ len1 ≤ 15 ∧ len2 ≤ 15)) :
    Calls Try.prog 8 #[.agg #[.bool s0, .slice a0 len0 cap0], .agg #[.bool s1, .slice a1 len1 cap1], .agg #[.bool s2, .slice a2 len2 cap2]] w (PB w true) := by
  by_cases k0 : len0 ≤ 15
  · have t0 : decide ((15 : Int) < len0) = false := by simp; omega
    by_cases k1 : len1 ≤ 15
    · have t1 : decide ((15 : Int) < len1) = false := by simp; omega
      have t2 : decide ((15 : Int) < len2) = true := by simp; omega
      clear hf
      go_enter Try.func8, Try.ntmps8
      go_wp2_with fail
      obtain ⟨X1, X2, X3, B0⟩ := boxes3 w s0 s1 s2 a0 a1 a2 len0 cap0 len1 cap1 len2 cap2 rfl
      have HB := Lib.hid B0
      clear B0
      refine (awake_any _).mono ?_
      rintro e w1 ⟨rfl, B⟩
      replace X1 := X1.below B
      replace X2 := X2.below B
      replace X3 := X3.below B
      replace HB := Lib.hid (bt HB.out B)
      clear B
      have xX10 := X1.cell0
      have xX11 := X1.cell1
      have xX20 := X2.cell0
      have xX21 := X2.cell1
      have xX30 := X3.cell0
      have xX31 := X3.cell1
      go_wp2
      go_ret
      exact ⟨rfl, HB.out⟩
    · have t1 : decide ((15 : Int) < len1) = true := by simp; omega
      clear hf
      go_enter Try.func8, Try.ntmps8
      go_wp2_with fail
      obtain ⟨X1, X2, X3, B0⟩ := boxes3 w s0 s1 s2 a0 a1 a2 len0 cap0 len1 cap1 len2 cap2 rfl
      have HB := Lib.hid B0
      clear B0
      refine (awake_any _).mono ?_
      rintro e w1 ⟨rfl, B⟩
      replace X1 := X1.below B
      replace X2 := X2.below B
      replace X3 := X3.below B
      replace HB := Lib.hid (bt HB.out B)
      clear B
      have xX10 := X1.cell0
      have xX11 := X1.cell1
      have xX20 := X2.cell0
      have xX21 := X2.cell1
      have xX30 := X3.cell0
      have xX31 := X3.cell1
      go_wp2
      go_ret
      exact ⟨rfl, HB.out⟩
  · have t0 : decide ((15 : Int) < len0) = true := by simp; omega
    clear hf
    go_enter Try.func8, Try.ntmps8
    go_wp2_with fail
    obtain ⟨X1, X2, X3, B0⟩ := boxes3 w s0 s1 s2 a0 a1 a2 len0 cap0 len1 cap1 len2 cap2 rfl
    have HB := Lib.hid B0
    clear B0
    refine (awake_any _).mono ?_
    rintro e w1 ⟨rfl, B⟩
    replace X1 := X1.below B
    replace X2 := X2.below B
    replace X3 := X3.below B
    replace HB := Lib.hid (bt HB.out B)
    clear B
    have xX10 := X1.cell0
    have xX11 := X1.cell1
    have xX20 := X2.cell0
    have xX21 := X2.cell1
    have xX30 := X3.cell0
    have xX31 := X3.cell1
    go_wp2
    go_ret
    exact ⟨rfl, HB.out⟩

theorem wholeOrder_walk (s0 : Bool) (a0 : Option Addr) (len0 cap0 : Nat) (z0 : List Int) (s1 : Bool) (a1 : Option Addr) (len1 cap1 : Nat) (z1 : List Int) (s2 : Bool) (a2 : Option Addr) (len2 cap2 : Nat) (z2 : List Int) (w : World) (w0 : RowIn w a0 len0 cap0 z0) (w1 : RowIn w a1 len1 cap1 z1) (w2 : RowIn w a2 len2 cap2 z2) :
    Calls Try.prog 8 #[.agg #[.bool s0, .slice a0 len0 cap0], .agg #[.bool s1, .slice a1 len1 cap1], .agg #[.bool s2, .slice a2 len2 cap2]] w fun e w' => e = .returned (.bool true) ∧ Below w.heap.size w w' := by
  by_cases hf : len0 ≤ 15 ∧ len1 ≤ 15 ∧ len2 ≤ 15
  · obtain ⟨u, r0⟩ := w0.rd (by omega)
    obtain ⟨v, r1⟩ := w1.rd (by omega)
    obtain ⟨t, r2⟩ := w2.rd (by omega)
    exact wholeOrder_main s0 a0 len0 cap0 s1 a1 len1 cap1 s2 a2 len2 cap2 w _ _ _ (r0.wr s0) (r1.wr s1) (r2.wr s2) hf.1 hf.2.1 hf.2.2
  · exact wholeOrder_far s0 a0 len0 cap0 s1 a1 len1 cap1 s2 a2 len2 cap2 w w0.len w1.len w2.len hf
end Go.Proofs.Ytbendmhcimadpaa

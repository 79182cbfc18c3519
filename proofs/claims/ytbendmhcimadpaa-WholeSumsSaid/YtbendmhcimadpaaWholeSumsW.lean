/-
  The walk of WholeSums: for all arguments, the call answers true, and nothing that was there has turned.
-/
import Derived.Test.YtbendmhcimadpaaLw
import Derived.Test.YtbendmhcimadpaaRow
import Derived.Test.YtbendmhcimadpaaQb
import Derived.Deep.RegionHeld3
namespace Go.Proofs.Ytbendmhcimadpaa
open Go.RowKit
set_option linter.unusedVariables false

set_option maxRecDepth 100000 in
set_option maxHeartbeats 8000000 in
theorem wholeSums_main (s0 : Bool) (a0 : Option Addr) (len0 cap0 : Nat) (s1 : Bool) (a1 : Option Addr) (len1 cap1 : Nat) (w : World) (x y : Int) (h0 : Wr w s0 a0 len0 cap0 x) (h1 : Wr w s1 a1 len1 cap1 y) (k0 : len0 ≤ 40) (k1 : len1 ≤ 40) :
    Calls Try.prog 3 #[.agg #[.bool s0, .slice a0 len0 cap0], .agg #[.bool s1, .slice a1 len1 cap1]] w (PB w true) := by
  obtain ⟨σ, hσ⟩ : ∃ z, cmpI x 0 = z := ⟨_, rfl⟩
  obtain ⟨κ, hκ⟩ : ∃ z, cmpI x y = z := ⟨_, rfl⟩
  have HS := Lib.hid hσ
  have HK := Lib.hid hκ
  have HM : Hid (decide (x = y) = (κ == 0)) := Lib.hid (by rw [← hκ, Bool.eq_iff_iff]; have := cmpI_zero (x := x) (y := y); simp [this])
  clear hσ hκ
  go_enter Try.func3, Try.ntmps3
  go_wp2_with fail
  obtain ⟨X1, X2, B0⟩ := box2 w s0 s1 a0 a1 len0 cap0 len1 cap1 rfl
  have HB := Lib.hid B0
  replace h0 := h0.below B0
  replace h1 := h1.below B0
  clear B0
  refine (awake_any _).mono ?_
  rintro e w1 ⟨rfl, B⟩
  replace X1 := X1.below B
  replace X2 := X2.below B
  replace h0 := h0.below B
  replace h1 := h1.below B
  replace HB := Lib.hid (bt HB.out B)
  clear B
  have xX10 := X1.cell0
  have xX11 := X1.cell1
  have xX20 := X2.cell0
  have xX21 := X2.cell1
  go_wp2_with fail
  refine (few_yes _ _ _ _ _ k0).mono ?_
  rintro e w2 ⟨rfl, B⟩
  clear xX10 xX11 xX20 xX21
  replace X1 := X1.below B
  replace X2 := X2.below B
  replace h0 := h0.below B
  replace h1 := h1.below B
  replace HB := Lib.hid (bt HB.out B)
  clear B
  have xX10 := X1.cell0
  have xX11 := X1.cell1
  have xX20 := X2.cell0
  have xX21 := X2.cell1
  go_wp2_with fail
  refine (few_yes _ _ _ _ _ k1).mono ?_
  rintro e w3 ⟨rfl, B⟩
  clear xX10 xX11 xX20 xX21
  replace X1 := X1.below B
  replace X2 := X2.below B
  replace h0 := h0.below B
  replace h1 := h1.below B
  replace HB := Lib.hid (bt HB.out B)
  clear B
  have xX10 := X1.cell0
  have xX11 := X1.cell1
  have xX20 := X2.cell0
  have xX21 := X2.cell1
  clear xX10 xX11 xX20 xX21
  have xX10 := X1.cell0
  have xX11 := X1.cell1
  have xX20 := X2.cell0
  have xX21 := X2.cell1
  clear xX10 xX11 xX20 xX21
  go_wp2
  go_region_held3 (fun w' => w'.cell? ⟨w.heap.size, 0, none⟩ = some (.bool s0) ∧ w'.cell? ⟨w.heap.size, 1, none⟩ = some (.slice a0 len0 cap0) ∧ w'.cell? ⟨w.heap.size + 1, 0, none⟩ = some (.bool s1) ∧ w'.cell? ⟨w.heap.size + 1, 1, none⟩ = some (.slice a1 len1 cap1)) (first | with_reducible exact ⟨X1.cell0, X1.cell1, X2.cell0, X2.cell1⟩ | with_reducible exact ⟨X1.drew.cell0, X1.drew.cell1, X2.drew.cell0, X2.drew.cell1⟩)
    (first
      | (go_at_call 12; ((with_reducible refine (wAdd h0.drew h1.drew (by omega) (by omega) rfl).mono ?_); rintro e wp ⟨sp, Ap, np, cp, rfl, hp, kp, B⟩; replace X1 := X1.drew.below B; replace X2 := X2.drew.below B; replace h0 := h0.drew.below B; replace h1 := h1.drew.below B; replace HB := Lib.hid (bt HB.out.drew B); clear B))
      | (go_at_call 13; ((with_reducible refine (qAdd h0 h1 (by omega) (by omega) rfl).mono ?_); rintro e wq ⟨sq, Aq, nq, cq, rfl, hq, kq, B⟩; replace X1 := X1.below B; replace X2 := X2.below B; replace h0 := h0.below B; replace h1 := h1.below B; replace hp := hp.below B; replace HB := Lib.hid (bt HB.out B); clear B))
      | (go_at_call 11; ((with_reducible refine (qAlike hp hq).mono ?_); rintro e w4 ⟨rfl, B⟩; replace X1 := X1.below B; replace X2 := X2.below B; replace h0 := h0.below B; replace h1 := h1.below B; replace HB := Lib.hid (bt HB.out B); clear B)))
  clear hp hq kp kq
  have xX10 := X1.cell0
  have xX11 := X1.cell1
  have xX20 := X2.cell0
  have xX21 := X2.cell1
  clear xX10 xX11 xX20 xX21
  go_wp2
  go_region_held3 (fun w' => w'.cell? ⟨w.heap.size, 0, none⟩ = some (.bool s0) ∧ w'.cell? ⟨w.heap.size, 1, none⟩ = some (.slice a0 len0 cap0) ∧ w'.cell? ⟨w.heap.size + 1, 0, none⟩ = some (.bool s1) ∧ w'.cell? ⟨w.heap.size + 1, 1, none⟩ = some (.slice a1 len1 cap1)) (first | with_reducible exact ⟨X1.cell0, X1.cell1, X2.cell0, X2.cell1⟩ | with_reducible exact ⟨X1.drew.cell0, X1.drew.cell1, X2.drew.cell0, X2.drew.cell1⟩)
    (first
      | (go_at_call 14; ((with_reducible refine (wSub h0.drew h1.drew (by omega) (by omega) rfl).mono ?_); rintro e wp ⟨sp, Ap, np, cp, rfl, hp, kp, B⟩; replace X1 := X1.drew.below B; replace X2 := X2.drew.below B; replace h0 := h0.drew.below B; replace h1 := h1.drew.below B; replace HB := Lib.hid (bt HB.out.drew B); clear B))
      | (go_at_call 15; ((with_reducible refine (qSub h0 h1 (by omega) (by omega) rfl).mono ?_); rintro e wq ⟨sq, Aq, nq, cq, rfl, hq, kq, B⟩; replace X1 := X1.below B; replace X2 := X2.below B; replace h0 := h0.below B; replace h1 := h1.below B; replace hp := hp.below B; replace HB := Lib.hid (bt HB.out B); clear B))
      | (go_at_call 11; ((with_reducible refine (qAlike hp hq).mono ?_); rintro e w5 ⟨rfl, B⟩; replace X1 := X1.below B; replace X2 := X2.below B; replace h0 := h0.below B; replace h1 := h1.below B; replace HB := Lib.hid (bt HB.out B); clear B)))
  clear hp hq kp kq
  have xX10 := X1.cell0
  have xX11 := X1.cell1
  have xX20 := X2.cell0
  have xX21 := X2.cell1
  clear xX10 xX11 xX20 xX21
  go_wp2
  go_region_held3 (fun w' => w'.cell? ⟨w.heap.size, 0, none⟩ = some (.bool s0) ∧ w'.cell? ⟨w.heap.size, 1, none⟩ = some (.slice a0 len0 cap0) ∧ w'.cell? ⟨w.heap.size + 1, 0, none⟩ = some (.bool s1) ∧ w'.cell? ⟨w.heap.size + 1, 1, none⟩ = some (.slice a1 len1 cap1)) (first | with_reducible exact ⟨X1.cell0, X1.cell1, X2.cell0, X2.cell1⟩ | with_reducible exact ⟨X1.drew.cell0, X1.drew.cell1, X2.drew.cell0, X2.drew.cell1⟩)
    (first
      | (go_at_call 16; ((with_reducible refine (wNeg h0.drew rfl).mono ?_); rintro e wp ⟨sp, Ap, np, cp, rfl, hp, kp, B⟩; replace X1 := X1.drew.below B; replace X2 := X2.drew.below B; replace h0 := h0.drew.below B; replace h1 := h1.drew.below B; replace HB := Lib.hid (bt HB.out.drew B); clear B))
      | (go_at_call 17; ((with_reducible refine (qNeg h0 rfl).mono ?_); rintro e wq ⟨sq, Aq, nq, cq, rfl, hq, kq, B⟩; replace X1 := X1.below B; replace X2 := X2.below B; replace h0 := h0.below B; replace h1 := h1.below B; replace hp := hp.below B; replace HB := Lib.hid (bt HB.out B); clear B))
      | (go_at_call 11; ((with_reducible refine (qAlike hp hq).mono ?_); rintro e w6 ⟨rfl, B⟩; replace X1 := X1.below B; replace X2 := X2.below B; replace h0 := h0.below B; replace h1 := h1.below B; replace HB := Lib.hid (bt HB.out B); clear B)))
  clear hp hq kp kq
  have xX10 := X1.cell0
  have xX11 := X1.cell1
  have xX20 := X2.cell0
  have xX21 := X2.cell1
  go_wp2_with fail
  refine (qCmp h0 h1 (by omega) (by omega) HK.out).mono ?_
  rintro e w7 ⟨rfl, B⟩
  clear xX10 xX11 xX20 xX21
  replace X1 := X1.below B
  replace X2 := X2.below B
  replace h0 := h0.below B
  replace h1 := h1.below B
  replace HB := Lib.hid (bt HB.out B)
  clear B
  have xX10 := X1.cell0
  have xX11 := X1.cell1
  have xX20 := X2.cell0
  have xX21 := X2.cell1
  clear xX10 xX11 xX20 xX21
  have bk : (κ == κ) = true := by simp
  have bs : (σ == σ) = true := by simp
  have bb : ((κ == 0) == (κ == 0)) = true := by simp
  go_wp2
  go_region_held3 (fun w' => w'.cell? ⟨w.heap.size, 0, none⟩ = some (.bool s0) ∧ w'.cell? ⟨w.heap.size, 1, none⟩ = some (.slice a0 len0 cap0) ∧ w'.cell? ⟨w.heap.size + 1, 0, none⟩ = some (.bool s1) ∧ w'.cell? ⟨w.heap.size + 1, 1, none⟩ = some (.slice a1 len1 cap1)) (first | with_reducible exact ⟨X1.cell0, X1.cell1, X2.cell0, X2.cell1⟩ | with_reducible exact ⟨X1.drew.cell0, X1.drew.cell1, X2.drew.cell0, X2.drew.cell1⟩)
    (first
      | (go_at_call 19; ((with_reducible refine (wCmp h0.drew h1.drew HK.out).mono ?_); rintro e w8 ⟨rfl, B⟩; replace X1 := X1.drew.below B; replace X2 := X2.drew.below B; replace h0 := h0.drew.below B; replace h1 := h1.drew.below B; replace HB := Lib.hid (bt HB.out.drew B); clear B))
      | (go_at_call 20; ((with_reducible refine (wSame h0 h1 HM.out).mono ?_); rintro e w9 ⟨rfl, B⟩; replace X1 := X1.below B; replace X2 := X2.below B; replace h0 := h0.below B; replace h1 := h1.below B; replace HB := Lib.hid (bt HB.out B); clear B))
      | (go_at_call 21; ((with_reducible refine (wSign h0 HS.out).mono ?_); rintro e w10 ⟨rfl, B⟩; replace X1 := X1.below B; replace X2 := X2.below B; replace h0 := h0.below B; replace h1 := h1.below B; replace HB := Lib.hid (bt HB.out B); clear B))
      | (go_at_call 22; ((with_reducible refine (qSign h0 HS.out).mono ?_); rintro e w11 ⟨rfl, B⟩; replace X1 := X1.below B; replace X2 := X2.below B; replace h0 := h0.below B; replace h1 := h1.below B; replace HB := Lib.hid (bt HB.out B); clear B)))
  go_wp2
  go_ret
  exact ⟨rfl, HB.out⟩

set_option maxHeartbeats 2000000 in
theorem wholeSums_far (s0 : Bool) (a0 : Option Addr) (len0 cap0 : Nat) (s1 : Bool) (a1 : Option Addr) (len1 cap1 : Nat) (w : World) (hf : ¬ (len0 ≤ 40 ∧ len1 ≤ 40)) :
    Calls Try.prog 3 #[.agg #[.bool s0, .slice a0 len0 cap0], .agg #[.bool s1, .slice a1 len1 cap1]] w (PB w true) := by
  by_cases k0 : len0 ≤ 40
  · have k1 : ¬ len1 ≤ 40 := fun h => hf ⟨k0, h⟩
    clear hf
    go_enter Try.func3, Try.ntmps3
    go_wp2_with fail
    obtain ⟨X1, X2, B0⟩ := box2 w s0 s1 a0 a1 len0 cap0 len1 cap1 rfl
    have HB := Lib.hid B0
    clear B0
    refine (awake_any _).mono ?_
    rintro e w1 ⟨rfl, B⟩
    replace X1 := X1.below B
    replace X2 := X2.below B
    replace HB := Lib.hid (bt HB.out B)
    clear B
    have xX10 := X1.cell0
    have xX11 := X1.cell1
    have xX20 := X2.cell0
    have xX21 := X2.cell1
    go_wp2_with fail
    refine (few_yes _ _ _ _ _ k0).mono ?_
    rintro e w2 ⟨rfl, B⟩
    clear xX10 xX11 xX20 xX21
    replace X1 := X1.below B
    replace X2 := X2.below B
    replace HB := Lib.hid (bt HB.out B)
    clear B
    have xX10 := X1.cell0
    have xX11 := X1.cell1
    have xX20 := X2.cell0
    have xX21 := X2.cell1
    go_wp2_with fail
    refine (few_no _ _ _ _ _ k1).mono ?_
    rintro e w3 ⟨rfl, B⟩
    clear xX10 xX11 xX20 xX21
    replace X1 := X1.below B
    replace X2 := X2.below B
    replace HB := Lib.hid (bt HB.out B)
    clear B
    have xX10 := X1.cell0
    have xX11 := X1.cell1
    have xX20 := X2.cell0
    have xX21 := X2.cell1
    go_wp2
    go_ret
    exact ⟨rfl, HB.out⟩
  · clear hf
    go_enter Try.func3, Try.ntmps3
    go_wp2_with fail
    obtain ⟨X1, X2, B0⟩ := box2 w s0 s1 a0 a1 len0 cap0 len1 cap1 rfl
    have HB := Lib.hid B0
    clear B0
    refine (awake_any _).mono ?_
    rintro e w1 ⟨rfl, B⟩
    replace X1 := X1.below B
    replace X2 := X2.below B
    replace HB := Lib.hid (bt HB.out B)
    clear B
    have xX10 := X1.cell0
    have xX11 := X1.cell1
    have xX20 := X2.cell0
    have xX21 := X2.cell1
    go_wp2_with fail
    refine (few_no _ _ _ _ _ k0).mono ?_
    rintro e w2 ⟨rfl, B⟩
    clear xX10 xX11 xX20 xX21
    replace X1 := X1.below B
    replace X2 := X2.below B
    replace HB := Lib.hid (bt HB.out B)
    clear B
    have xX10 := X1.cell0
    have xX11 := X1.cell1
    have xX20 := X2.cell0
    have xX21 := X2.cell1
    by_cases k1 : len1 ≤ 40
    · go_wp2_with fail
      refine (few_yes _ _ _ _ _ k1).mono ?_
      rintro e w3 ⟨rfl, B⟩
      clear xX10 xX11 xX20 xX21
      replace X1 := X1.below B
      replace X2 := X2.below B
      replace HB := Lib.hid (bt HB.out B)
      clear B
      have xX10 := X1.cell0
      have xX11 := X1.cell1
      have xX20 := X2.cell0
      have xX21 := X2.cell1
      go_wp2
      go_ret
      exact ⟨rfl, HB.out⟩
    · go_wp2_with fail
      refine (few_no _ _ _ _ _ k1).mono ?_
      rintro e w3 ⟨rfl, B⟩
      clear xX10 xX11 xX20 xX21
      replace X1 := X1.below B
      replace X2 := X2.below B
      replace HB := Lib.hid (bt HB.out B)
      clear B
      have xX10 := X1.cell0
      have xX11 := X1.cell1
      have xX20 := X2.cell0
      have xX21 := X2.cell1
      go_wp2
      go_ret
      exact ⟨rfl, HB.out⟩

theorem wholeSums_walk (s0 : Bool) (a0 : Option Addr) (len0 cap0 : Nat) (z0 : List Int) (s1 : Bool) (a1 : Option Addr) (len1 cap1 : Nat) (z1 : List Int) (w : World) (w0 : RowIn w a0 len0 cap0 z0) (w1 : RowIn w a1 len1 cap1 z1) :
    Calls Try.prog 3 #[.agg #[.bool s0, .slice a0 len0 cap0], .agg #[.bool s1, .slice a1 len1 cap1]] w fun e w' => e = .returned (.bool true) ∧ Below w.heap.size w w' := by
  by_cases hf : len0 ≤ 40 ∧ len1 ≤ 40
  · obtain ⟨u, r0⟩ := w0.rd (by omega)
    obtain ⟨v, r1⟩ := w1.rd (by omega)
    exact wholeSums_main s0 a0 len0 cap0 s1 a1 len1 cap1 w _ _ (r0.wr s0) (r1.wr s1) hf.1 hf.2
  · exact wholeSums_far s0 a0 len0 cap0 s1 a1 len1 cap1 w hf
end Go.Proofs.Ytbendmhcimadpaa

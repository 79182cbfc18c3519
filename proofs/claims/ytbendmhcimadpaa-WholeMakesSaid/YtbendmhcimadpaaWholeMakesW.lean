/-
  The walk of WholeMakes: for all arguments, the call answers true, and nothing that was there has turned.
-/
import Derived.Test.YtbendmhcimadpaaLw
import Derived.Test.YtbendmhcimadpaaRow
import Derived.Test.YtbendmhcimadpaaQe
import Derived.Deep.RegionHeld3
namespace Go.Proofs.Ytbendmhcimadpaa
open Go.RowKit
set_option linter.unusedVariables false

set_option maxRecDepth 100000 in
set_option maxHeartbeats 8000000 in
theorem wholeMakes_main (a0 : Bool) (a1 : Option Addr) (len1 cap1 : Nat) (a2 : Int) (w : World) (u : Nat) (h1 : Rd w a1 len1 cap1 u) (k1 : len1 ≤ 40) (b1 : -9223372036854775808 ≤ a2) (b2 : a2 ≤ 9223372036854775807) :
    Calls Try.prog 5 #[.bool a0, .slice a1 len1 cap1, .int .i64 a2] w (PB w true) := by
  have hlen : decide ((40 : Int) < len1) = false := by simp; omega
  obtain ⟨τ, hτ⟩ : ∃ t, fits (sg a0 u) = t := ⟨_, rfl⟩
  obtain ⟨ρ, hρ⟩ : ∃ r : Int, (if τ = true then sg a0 u else 0) = r := ⟨_, rfl⟩
  obtain ⟨μ, hμ⟩ : ∃ t, mayB a0 len1 u = t := ⟨_, rfl⟩
  have HF : Hid (fits a2 = true) := Lib.hid (by unfold fits; exact decide_eq_true ⟨b1, b2⟩)
  have HT := Lib.hid hτ
  have HR := Lib.hid hρ
  have HM := Lib.hid hμ
  have e1 : (ρ == ρ) = true := by simp
  have e2 : (τ == τ) = true := by simp
  have e3 : (a2 == a2) = true := by simp
  have e4 : (μ == μ) = true := by simp
  clear hτ hρ hμ
  go_enter Try.func5, Try.ntmps5
  go_wp2_with fail
  refine (awake_any _).mono ?_
  rintro e w1 ⟨rfl, B⟩
  replace h1 := h1.below B
  have HB := Lib.hid B
  clear B
  go_wp2_with fail
  refine (wMake a0 h1).mono ?_
  rintro e w2 ⟨s2, A2, n2, c2, rfl, h2, k2, B⟩
  have X1 := (Bx.new w2 s2 A2 n2 c2).below (bel1 _ (.cells #[.bool a0, .slice a1 len1 cap1] 24))
  have X2 : Bx ((w2.alloc (.cells #[.bool s2, .slice A2 n2 c2] 24)).alloc (.cells #[.bool a0, .slice a1 len1 cap1] 24)) (w2.heap.size + 1) a0 a1 len1 cap1 := Bx.newAt _ (by simp) a0 a1 len1 cap1
  replace B := bt B (bel2 _ (.cells #[.bool s2, .slice A2 n2 c2] 24) (.cells #[.bool a0, .slice a1 len1 cap1] 24))
  replace h1 := h1.below B
  replace h2 := h2.below (bel2 _ (.cells #[.bool s2, .slice A2 n2 c2] 24) (.cells #[.bool a0, .slice a1 len1 cap1] 24))
  replace HB := Lib.hid (bt HB.out B)
  clear B
  have xX10 := X1.cell0
  have xX11 := X1.cell1
  have xX20 := X2.cell0
  have xX21 := X2.cell1
  go_wp2_with fail
  refine (wInt (h1.wr a0) HT.out HR.out).mono ?_
  rintro e w3 ⟨rfl, B⟩
  clear xX10 xX11 xX20 xX21
  replace X1 := X1.below B
  replace X2 := X2.below B
  replace h1 := h1.below B
  replace h2 := h2.below B
  replace HB := Lib.hid (bt HB.out B)
  clear B
  have xX10 := X1.cell0
  have xX11 := X1.cell1
  have xX20 := X2.cell0
  have xX21 := X2.cell1
  go_wp2_with fail
  refine (qInt (h1.wr a0) HT.out HR.out).mono ?_
  rintro e w4 ⟨rfl, B⟩
  clear xX10 xX11 xX20 xX21
  replace X1 := X1.below B
  replace X2 := X2.below B
  replace h1 := h1.below B
  replace h2 := h2.below B
  replace HB := Lib.hid (bt HB.out B)
  clear B
  have xX10 := X1.cell0
  have xX11 := X1.cell1
  have xX20 := X2.cell0
  have xX21 := X2.cell1
  clear xX10 xX11 xX20 xX21
  go_wp2_with fail
  refine (wFrom a2 _ b1 b2).mono ?_
  rintro e w5 ⟨s5, A5, n5, c5, rfl, h5, k5, B⟩
  replace X1 := X1.below B
  replace X2 := X2.below B
  replace h1 := h1.below B
  replace h2 := h2.below B
  replace HB := Lib.hid (bt HB.out B)
  clear B
  have xX10 := X1.cell0
  have xX11 := X1.cell1
  have xX20 := X2.cell0
  have xX21 := X2.cell1
  clear xX10 xX11 xX20 xX21
  go_wp2_with fail
  refine (wInt (r := a2) h5.wr HF.out rfl).mono ?_
  rintro e w6 ⟨rfl, B⟩
  replace X1 := X1.below B
  replace X2 := X2.below B
  replace h1 := h1.below B
  replace h2 := h2.below B
  replace HB := Lib.hid (bt HB.out B)
  clear B h5
  have xX10 := X1.cell0
  have xX11 := X1.cell1
  have xX20 := X2.cell0
  have xX21 := X2.cell1
  clear xX10 xX11 xX20 xX21
  go_wp2
  go_region_held3 (fun w' => w'.cell? ⟨w2.heap.size, 0, none⟩ = some (.bool s2) ∧ w'.cell? ⟨w2.heap.size, 1, none⟩ = some (.slice A2 n2 c2) ∧ w'.cell? ⟨w2.heap.size + 1, 0, none⟩ = some (.bool a0) ∧ w'.cell? ⟨w2.heap.size + 1, 1, none⟩ = some (.slice a1 len1 cap1)) (first | with_reducible exact ⟨(X1).cell0, (X1).cell1, (X2).cell0, (X2).cell1⟩ | with_reducible exact ⟨(X1.drew).cell0, (X1.drew).cell1, (X2.drew).cell0, (X2.drew).cell1⟩)
    (first
      | (go_at_call 31; ((with_reducible refine (qMake a0 h1.drew).mono ?_); rintro e w7 ⟨s7, A7, n7, c7, rfl, h7, k7, B⟩; replace X1 := X1.drew.below B; replace X2 := X2.drew.below B; replace h1 := h1.drew.below B; replace h2 := h2.drew.below B; replace HB := Lib.hid (bt HB.out.drew B); clear B))
      | (go_at_call 11; ((with_reducible refine (qAlike h2 h7).mono ?_); rintro e w8 ⟨rfl, B⟩; replace X1 := X1.below B; replace X2 := X2.below B; replace h1 := h1.below B; replace h2 := h2.below B; replace HB := Lib.hid (bt HB.out B); clear B)))
  clear h7 k7
  have xX10 := X1.cell0
  have xX11 := X1.cell1
  have xX20 := X2.cell0
  have xX21 := X2.cell1
  go_wp2_with fail
  refine (wFrom a2 _ b1 b2).mono ?_
  rintro e w9 ⟨s9, A9, n9, c9, rfl, h9, k9, B⟩
  clear xX10 xX11 xX20 xX21
  replace X1 := X1.below B
  replace X2 := X2.below B
  replace h1 := h1.below B
  replace h2 := h2.below B
  replace HB := Lib.hid (bt HB.out B)
  clear B
  have xX10 := X1.cell0
  have xX11 := X1.cell1
  have xX20 := X2.cell0
  have xX21 := X2.cell1
  go_wp2_with fail
  refine (qFrom a2 _ b1 b2).mono ?_
  rintro e w10 ⟨s10, A10, n10, c10, rfl, h10, k10, B⟩
  clear xX10 xX11 xX20 xX21
  replace X1 := X1.below B
  replace X2 := X2.below B
  replace h1 := h1.below B
  replace h2 := h2.below B
  replace h9 := h9.below B
  replace HB := Lib.hid (bt HB.out B)
  clear B
  have xX10 := X1.cell0
  have xX11 := X1.cell1
  have xX20 := X2.cell0
  have xX21 := X2.cell1
  go_wp2_with fail
  refine (qAlike h9 h10).mono ?_
  rintro e w11 ⟨rfl, B⟩
  clear xX10 xX11 xX20 xX21
  replace X1 := X1.below B
  replace X2 := X2.below B
  replace h1 := h1.below B
  replace h2 := h2.below B
  replace HB := Lib.hid (bt HB.out B)
  clear B h9 h10
  have xX10 := X1.cell0
  have xX11 := X1.cell1
  have xX20 := X2.cell0
  have xX21 := X2.cell1
  clear xX10 xX11 xX20 xX21
  have h2r := h2.1.rd
  have HQ : Hid (mayB s2 n2 (sg a0 u).natAbs = true) := Lib.hid (mayB_wn h2)
  go_wp2
  go_region_held3 (fun w' => w'.cell? ⟨w2.heap.size, 0, none⟩ = some (.bool s2) ∧ w'.cell? ⟨w2.heap.size, 1, none⟩ = some (.slice A2 n2 c2) ∧ w'.cell? ⟨w2.heap.size + 1, 0, none⟩ = some (.bool a0) ∧ w'.cell? ⟨w2.heap.size + 1, 1, none⟩ = some (.slice a1 len1 cap1)) (first | with_reducible exact ⟨(X1).cell0, (X1).cell1, (X2).cell0, (X2).cell1⟩ | with_reducible exact ⟨(X1.drew).cell0, (X1.drew).cell1, (X2.drew).cell0, (X2.drew).cell1⟩)
    (first
      | (go_at_call 33; ((with_reducible refine (wMay h2r.drew HQ.out).mono ?_); rintro e w12 ⟨rfl, B⟩; replace X1 := X1.drew.below B; replace X2 := X2.drew.below B; replace h1 := h1.drew.below B; replace h2 := h2.drew.below B; replace HB := Lib.hid (bt HB.out.drew B); clear B))
      | (go_at_call 33; ((with_reducible refine (wMay h1 HM.out).mono ?_); rintro e w13 ⟨rfl, B⟩; replace X1 := X1.below B; replace X2 := X2.below B; replace h1 := h1.below B; replace h2 := h2.below B; replace HB := Lib.hid (bt HB.out B); clear B))
      | (go_at_call 34; ((with_reducible refine (qMay h1 HM.out).mono ?_); rintro e w14 ⟨rfl, B⟩; replace X1 := X1.below B; replace X2 := X2.below B; replace h1 := h1.below B; replace h2 := h2.below B; replace HB := Lib.hid (bt HB.out B); clear B)))
  go_wp2
  go_ret
  exact ⟨rfl, HB.out⟩

set_option maxHeartbeats 2000000 in
theorem wholeMakes_walk (a0 : Bool) (a1 : Option Addr) (len1 cap1 : Nat) (z1 : List Int) (a2 : Int) (w : World) (w1 : RowIn w a1 len1 cap1 z1) (w2 : (Lit.int .i64 a2).wf = true) :
    Calls Try.prog 5 #[.bool a0, .slice a1 len1 cap1, .int .i64 a2] w fun e w' => e = .returned (.bool true) ∧ Below w.heap.size w w' := by
  by_cases hf : len1 ≤ 40
  · obtain ⟨u, r1⟩ := w1.rd (by omega)
    have hw : -9223372036854775808 ≤ a2 ∧ a2 ≤ 9223372036854775807 := by
      simp [Lit.wf, IntKind.min, IntKind.max, IntKind.signed, IntKind.bits] at w2
      omega
    exact wholeMakes_main a0 a1 len1 cap1 a2 w u r1 hf hw.1 hw.2
  · have hl := w1.len
    have hlen : decide ((40 : Int) < len1) = true := by simp; omega
    clear w1 w2
    go_enter Try.func5, Try.ntmps5
    go_wp2_with fail
    refine (awake_any _).mono ?_
    rintro e w1 ⟨rfl, B⟩
    go_wp2
    go_ret
    exact ⟨rfl, B⟩
end Go.Proofs.Ytbendmhcimadpaa

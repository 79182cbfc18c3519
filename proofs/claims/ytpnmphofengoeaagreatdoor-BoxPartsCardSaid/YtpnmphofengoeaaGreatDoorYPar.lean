/-
  Contracts and words that the statement's proof rests on: Gb, Ju.
-/
import Derived.Test.YtpnmphofengoeaaGreatDoorYPaq
namespace Go.Proofs.YtpnmphofengoeaaGreatDoor
set_option maxHeartbeats 4000000
open Go.RowKit
set_option linter.unusedVariables false
set_option linter.unusedSimpArgs false
set_option maxRecDepth 100000

theorem gSub {w : World} {D D' M M' E E' : Int} {s s' : Bool} {up : Bool} {x y r : Int} (hM : M < 18446744073709551616) (hM' : M' < 18446744073709551616) (hx : rk D s M E = x) (hy : -rk D' s' M' E' = y) (hne : infp x = false → infp y = false → Near (ep x) (ep y)) (hr : addp up x y = r) : Calls Tryz.prog 48 #[.agg #[.int .i64 D, .bool s, .int .u64 M, .int .i64 E], .agg #[.int .i64 D', .bool s', .int .u64 M', .int .i64 E'], .bool up] w (PN w r) := by
  have HX := Lib.hid hx; have HY := Lib.hid hy; have HR := Lib.hid hr; have HNE := Lib.hid hne; clear hx hy hr hne
  go_enter Tryz.func48, Tryz.ntmps48
  go_upto_region 1 with (fail)
  generalize hW1 : ((w.alloc _).alloc _).alloc _ = w1 at *; obtain ⟨X1, X2, XR, HB⟩ := Bo.en3 hW1; clear hW1; refine Jo.rk [0, 1, 2, 3, 4] [some 7, some 8, some 9, some 10, some 11, none] [[], [], [1], [], [0, 2, 3], []] 6 1 [Jo.q4 D s M E, Jo.q4 D' s' M' E', Jo.Fact.num y, Jo.qb up, Jo.Fact.num r, Jo.Fact.any] (by kernel_rfl) (by kernel_rfl) (by decide) rfl ?_ ?_
  · iterate 2 (refine Jo.jm rfl ?_ ?_; rotate_left)
    refine Jo.jm rfl ?_ ?_
    · rintro wj hJ _ rfl K hK; simp only [Jo.z] at hK ⊢; go_simp; refine (yNeg hM' HY.out).mono ?_; rintro ee wk ⟨K4, s4, M4, E4, rfl, q4, B⟩; exact hK.out _ _ ⟨K4, s4, M4, E4, rfl, q4⟩ B
    refine Jo.jm rfl ?_ ?_; rotate_left
    refine Jo.jm rfl ?_ ?_
    · rintro wj hJ _ rfl _ ⟨K4, s4, M4, E4, rfl, q4⟩ _ rfl K hK; simp only [Jo.z] at hK ⊢; go_simp; refine (gAdd hM q4.top HX.out q4.rk HNE.out HR.out).mono ?_; rintro ee wk ⟨K5, s5, M5, E5, rfl, q5, B⟩; exact hK.out _ _ ⟨K5, s5, M5, E5, rfl, q5⟩ B
    exact Jo.Steps.nil
    all_goals (rintro wj hJ; (repeat rintro _ rfl); intro K hK; simp only [Jo.z] at hK ⊢; have xX1 := (X1.below hJ).cell; have xX2 := (X2.below hJ).cell; go_simp; exact hK.out _ _ rfl (br _ _))
  rintro w2 hJ _ rfl _ rfl _ ⟨K4, s4, M4, E4, rfl, q4⟩ _ rfl _ ⟨K5, s5, M5, E5, rfl, q5⟩ -; simp only [Jo.z]; replace X1 := X1.below hJ; replace X2 := X2.below hJ; replace XR := XR.below hJ; replace HB := Hqb HB hJ; have xXR := XR.cell; have zXR0 := XR.frozen
  refine Jo.jnext (i := 5) (o := ⟨none, _, _, _, _, _⟩) (by kernel_rfl) rfl (fun K hK => ?_)
  go_simp; refine hK.out _ _ ?_; clear hK K xXR zXR0; have SX := StN.mk4 XR (.int .i64 K5) (.bool s5) (.int .u64 M5) (.int .i64 E5); refine Jo.jdone (by kernel_rfl) ?_; go_wp2; exact bodyPost_ret (by simp [results, Tryz.results48, go_sem, SX.box.cell]) rfl ⟨_, _, _, _, rfl, q5, (SX.below HB.out (by omega))⟩
theorem fq_half : Fq 1 false 9223372036854775808 (-64) 9670816261106674691997697 := Fq.fin (by decide) (by decide) (by decide) (by decide) (by decide)
theorem gHalf {w : World} {D M E : Int} {s : Bool} {up : Bool} {x r : Int} (hM : M < 18446744073709551616) (hx : rk D s M E = x) (hr : mulp up x 9670816261106674691997697 = r) : Calls Tryz.prog 62 #[.agg #[.int .i64 D, .bool s, .int .u64 M, .int .i64 E], .bool up] w (PN w r) := by
  have HX := Lib.hid hx; have HR := Lib.hid hr; clear hx hr
  go_enter Tryz.func62, Tryz.ntmps62
  go_upto_region 1 with (fail)
  generalize hW1 : (w.alloc _).alloc _ = w1 at *; obtain ⟨X1, XR, HB⟩ := Bo.en2 hW1; clear hW1; have xX1 := X1.cell
  go_wp2_with fail
  refine (gMul hM fq_half.top HX.out fq_half.rk HR.out).mono ?_; rintro ee w2 ⟨K2, s2, M2, E2, rfl, q2, B⟩; clear xX1; replace X1 := X1.below B; replace XR := XR.below B; replace HB := Hqb HB B; clear B; have xXR := XR.cell; have zXR0 := XR.frozen; go_wp2; clear xXR zXR0; have SX := StN.mk4 XR (.int .i64 K2) (.bool s2) (.int .u64 M2) (.int .i64 E2)
  exact bodyPost_ret (by simp [results, Tryz.results62, go_sem, SX.box.cell]) rfl ⟨_, _, _, _, rfl, q2, (SX.below HB.out (by omega))⟩
end Go.Proofs.YtpnmphofengoeaaGreatDoor

namespace Go.Proofs.YtpnmphofengoeaaGreatDoor.Jo
open Go Go.RowKit
set_option linter.unusedVariables false

section
variable {P : Program} {md : Region.Mode} {ops : Array Oper} {Q : Exit → Act → World → Prop} {a0 : Act} {T : List Nat} {dst : Nat → Option Tmp} {D : Nat → List Nat} {k : Nat} {I : List Nat → (Nat → Value) → World → Prop}

end
section
variable {P : Program} {ops : Array Oper} {Q : Exit → Act → World → Prop} {a0 : Act} {T : List Nat} {ds : List (Option Tmp)} {ls : List (List Nat)} {k : Nat} {I : List Nat → (Nat → Value) → World → Prop}
end

def Two2 (w1 : World) (p0 n0 p2 n2 : Value) (old new : Array Value) (R : TypeId) (l : List Nat) (vs : Nat → Value) (w : World) : Prop :=
  Below w1.heap.size w1 w ∧ (6 ∈ l → 4 ∈ l ∧ 5 ∈ l) ∧ (0 ∈ l → vs 0 = p0) ∧ (1 ∈ l → vs 1 = n0) ∧ (2 ∈ l → vs 2 = p2) ∧ (3 ∈ l → vs 3 = n2) ∧
    (4 ∈ l → ∃ g, vs 4 = .pointer (some ⟨g, 0, none⟩) ∧ w1.heap.size ≤ g ∧ (6 ∈ l → Bo w g new R) ∧ (6 ∉ l → Bo w g old R)) ∧
    (5 ∈ l → ∃ g, vs 5 = .pointer (some ⟨g, 0, none⟩) ∧ w1.heap.size ≤ g ∧ Bo w g old R) ∧ (4 ∈ l → 5 ∈ l → vs 4 ≠ vs 5)
section
variable {w1 w w' : World} {p0 n0 p2 n2 v : Value} {old new : Array Value} {R : TypeId} {l : List Nat} {vs : Nat → Value} {i : Nat}
theorem Two2.all (h : Two2 w1 p0 n0 p2 n2 old new R l vs w) (hl : ∀ j, j ∈ l ↔ j ∈ [0, 1, 2, 3, 4, 5, 6]) : Below w1.heap.size w1 w ∧ vs 0 = p0 ∧ vs 1 = n0 ∧ vs 2 = p2 ∧ vs 3 = n2 ∧ ∃ g g', vs 4 = .pointer (some ⟨g, 0, none⟩) ∧ vs 5 = .pointer (some ⟨g', 0, none⟩) ∧ w1.heap.size ≤ g ∧ w1.heap.size ≤ g' ∧ g ≠ g' ∧ Bo w g new R ∧ Bo w g' old R := by
  obtain ⟨h1, h2, h3, h4, h5, h6, h7, h8, h9⟩ := h; have m4 := (hl 4).2 (by decide); have m5 := (hl 5).2 (by decide); have m6 := (hl 6).2 (by decide); obtain ⟨g, e, hb, X0, _⟩ := h7 m4; obtain ⟨g', e', hb', X'⟩ := h8 m5; have X := X0 m6
  exact ⟨h1, h3 ((hl 0).2 (by decide)), h4 ((hl 1).2 (by decide)), h5 ((hl 2).2 (by decide)), h6 ((hl 3).2 (by decide)), g, g', e, e', hb, hb', fun c => h9 m4 m5 (by rw [e, e', c]), X, X'⟩
end
end Go.Proofs.YtpnmphofengoeaaGreatDoor.Jo

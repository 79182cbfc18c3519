/-
 Contracts that the proof rests on.
-/
import Derived.Test.YtnbliijpjcmbjaaGreatDoorYAap
namespace Go.Proofs.YtnbliijpjcmbjaaGreatDoor
set_option maxHeartbeats 4000000
open Go.RowKit
set_option linter.unusedVariables false
set_option linter.unusedSimpArgs false
set_option maxRecDepth 100000
def PN (w : World) (r : Int) (e : Ending) (w' : World) : Prop := ∃ D s M E, e = .returned (.agg #[.int .i64 D, .bool s, .int .u64 M, .int .i64 E]) ∧ Fq D s M E r ∧ Below w.heap.size w w'
theorem Fq.three {D : Int} {s : Bool} {M E r : Int} (h : Fq D s M E r) : (D = 0 ∧ r = 0) ∨ (D ≠ 0 ∧ s = false ∧ 0 < r) ∨ (D ≠ 0 ∧ s = true ∧ r < 0) := by
 rcases h.cases with ⟨rfl, rfl, rfl, rfl, h0⟩ | ⟨rfl, h1, h2, h3, h4, ⟨rfl, h5⟩ | ⟨rfl, h5⟩⟩ | ⟨rfl, rfl, rfl, ⟨rfl, h5⟩ | ⟨rfl, h5⟩⟩
 · exact Or.inl ⟨rfl, h0⟩
 · exact Or.inr (Or.inl ⟨by decide, rfl, by omega⟩)
 · exact Or.inr (Or.inr ⟨by decide, rfl, by omega⟩)
 · exact Or.inr (Or.inl ⟨by decide, rfl, by omega⟩)
 · exact Or.inr (Or.inr ⟨by decide, rfl, by omega⟩)
theorem nTaken {w : World} {D M E : Int} {s : Bool} {r : Int} (hM : LQ M) (hr : rk D s M E = r) : Calls Tryz.prog 94 #[VQ D s M E] w (PN w r) := by
 delta VQ
 by_cases hm : MayQ D s M E
 · have HQ := rk_fq hM hm; rw [hr] at HQ
   have HC := Lib.hid (show decide (MayQ D s M E) = true from decide_eq_true hm)
   clear hm hr hM
   go_enter Tryz.func94, Tryz.ntmps94
   go_upto_region 1 with (fail)
   generalize hW1 : (w.alloc _).alloc _ = w1 at *; obtain ⟨X1, XR, HB⟩ := Bo.en2 hW1; clear hW1; have xX1 := X1.cell
   go_wp2_with fail
   refine (nMay HC.out).mono ?_; rintro ee w2 ⟨rfl, B⟩; clear xX1; replace X1 := X1.below B; replace XR := XR.below B; replace HB := Hqb HB B; clear B; have xXR := XR.cell; have zXR0 := XR.frozen; have xX1 := X1.cell; go_wp2; clear xXR zXR0 xX1; have SX := StN.mk4 XR (.int .i64 D) (.bool s) (.int .u64 M) (.int .i64 E)
   exact bodyPost_ret (by simp [results, Tryz.results94, go_sem, SX.box.cell]) rfl ⟨D, s, M, E, rfl, HQ, (SX.below HB.out (by omega))⟩
 · rw [rk_not hm] at hr; subst hr
   have HC := Lib.hid (show decide (MayQ D s M E) = false from decide_eq_false hm)
   clear hm hM
   go_enter Tryz.func94, Tryz.ntmps94
   go_upto_region 1 with (fail)
   generalize hW1 : (w.alloc _).alloc _ = w1 at *; obtain ⟨X1, XR, HB⟩ := Bo.en2 hW1; clear hW1; have xX1 := X1.cell
   go_wp2_with fail
   refine (nMay HC.out).mono ?_; rintro ee w2 ⟨rfl, B⟩; clear xX1; replace X1 := X1.below B; replace XR := XR.below B; replace HB := Hqb HB B; clear B; have xXR := XR.cell; have zXR0 := XR.frozen; have xX1 := X1.cell; go_wp2; clear xXR zXR0 xX1; have SX := StN.mk4 XR (.int .i64 0) (.bool false) (.int .u64 0) (.int .i64 0)
   exact bodyPost_ret (by simp [results, Tryz.results94, go_sem, SX.box.cell]) rfl ⟨_, _, _, _, rfl, Fq.nought, (SX.below HB.out (by omega))⟩
theorem nInf {w : World} {s : Bool} {r : Int} (hr : sgi s TP = r) : Calls Tryz.prog 55 #[.bool s] w (PN w r) := by
 go_enter Tryz.func55, Tryz.ntmps55
 go_upto_region 1 with (fail)
 generalize hW1 : w.alloc _ = w1 at *; obtain ⟨XR, HB⟩ := Bo.en1 hW1; clear hW1; have xXR := XR.cell; have zXR0 := XR.frozen; go_wp2; clear xXR zXR0; have SX := StN.mk4 XR (.int .i64 2) (.bool s) (.int .u64 0) (.int .i64 0); exact bodyPost_ret (v := .agg #[.int .i64 2, .bool s, .int .u64 0, .int .i64 0]) (by simp [results, Tryz.results55, go_sem, SX.box.cell]) rfl ⟨_, _, _, _, rfl, hr ▸ Fq.inf s, (SX.below HB.out (by omega))⟩
theorem nT {w : World} {s : Bool} : Calls Tryz.prog 153 #[.bool s] w (fun e w' => e = .returned (.agg #[.int .i64 1, .bool s, .int .u64 9223372036854775808, .int .i64 (-1048576)]) ∧ Below w.heap.size w w') := by
 go_enter Tryz.func153, Tryz.ntmps153
 go_upto_region 1 with (fail)
 generalize hW1 : w.alloc _ = w1 at *; obtain ⟨XR, HB⟩ := Bo.en1 hW1; clear hW1; have xXR := XR.cell; have zXR0 := XR.frozen; go_wp2; clear xXR zXR0; have SX := StN.mk4 XR (.int .i64 1) (.bool s) (.int .u64 9223372036854775808) (.int .i64 (-1048576)); exact bodyPost_ret (v := .agg #[.int .i64 1, .bool s, .int .u64 9223372036854775808, .int .i64 (-1048576)]) (by simp [results, Tryz.results153, go_sem, SX.box.cell]) rfl ⟨rfl, (SX.below HB.out (by omega))⟩
theorem nH {w : World} {s : Bool} : Calls Tryz.prog 175 #[.bool s] w (fun e w' => e = .returned (.agg #[.int .i64 1, .bool s, .int .u64 18446744073709551615, .int .i64 1048576]) ∧ Below w.heap.size w w') := by
 go_enter Tryz.func175, Tryz.ntmps175
 go_upto_region 1 with (fail)
 generalize hW1 : w.alloc _ = w1 at *; obtain ⟨XR, HB⟩ := Bo.en1 hW1; clear hW1; have xXR := XR.cell; have zXR0 := XR.frozen; go_wp2; clear xXR zXR0; have SX := StN.mk4 XR (.int .i64 1) (.bool s) (.int .u64 18446744073709551615) (.int .i64 1048576); exact bodyPost_ret (v := .agg #[.int .i64 1, .bool s, .int .u64 18446744073709551615, .int .i64 1048576]) (by simp [results, Tryz.results175, go_sem, SX.box.cell]) rfl ⟨rfl, (SX.below HB.out (by omega))⟩
theorem nSign {w : World} {D M E : Int} {s : Bool} {σ : Int} (hM : LQ M) (hs : cmpI (rk D s M E) 0 = σ) : Calls Tryz.prog 85 #[VQ D s M E] w (PI w σ) := by
 delta VQ
 obtain ⟨r, hr⟩ : ∃ r, rk D s M E = r := ⟨_, rfl⟩; rw [hr] at hs; have HR := Lib.hid hr; have HS := Lib.hid hs; clear hr hs
 go_enter Tryz.func85, Tryz.ntmps85
 go_upto_region 1 with (fail)
 generalize hW1 : w.alloc _ = w1 at *; obtain ⟨X1, HB⟩ := Bo.en1 hW1; clear hW1; have xX1 := X1.cell
 go_wp2_with fail
 refine (nTaken hM HR.out).mono ?_; rintro ee w2 ⟨K1, s1, M1, E1, rfl, q1, B⟩; clear xX1; replace X1 := X1.below B; replace HB := Hqb HB B; clear B; have xX1 := X1.cell; have zX10 := X1.frozen
 go_upto_region 2 with (fail)
 clear xX1 zX10; generalize hS : (((w2.setCell _ _).setCell _ _).setCell _ _).setCell _ _ = w3 at *; have SX := StN.of4 X1 hS; replace HB := Hqs HB SX (by omega); replace X1 := SX.box; clear SX hS
 rcases q1.three with ⟨h0, hr⟩ | ⟨h0, h1, hr⟩ | ⟨h0, h1, hr⟩
 · subst h0; have hs := HS.out; rw [cmpI_eq hr] at hs; subst hs; clear q1; have xX1 := X1.cell; go_wp2
   go_ret
   exact ⟨by first | rfl | simp_all, HB.out⟩
 · have e0 : (K1 == 0) = false := by simpa using h0
   have hs := HS.out; rw [cmpI_gt hr] at hs; subst hs; subst h1; clear q1; have xX1 := X1.cell; go_wp2
   go_ret
   exact ⟨by first | rfl | simp_all, HB.out⟩
 · have e0 : (K1 == 0) = false := by simpa using h0
   have hs := HS.out; rw [cmpI_lt hr] at hs; subst hs; subst h1; clear q1; have xX1 := X1.cell; go_wp2
   go_ret
   exact ⟨by first | rfl | simp_all, HB.out⟩
theorem nNeg {w : World} {D M E : Int} {s : Bool} {r : Int} (hM : LQ M) (hr : -rk D s M E = r) : Calls Tryz.prog 79 #[VQ D s M E] w (PN w r) := by
 delta VQ
 obtain ⟨x, hx⟩ : ∃ x, rk D s M E = x := ⟨_, rfl⟩; rw [hx] at hr; have HX := Lib.hid hx; subst hr; clear hx
 go_enter Tryz.func79, Tryz.ntmps79
 go_upto_region 1 with (fail)
 generalize hW1 : (w.alloc _).alloc _ = w1 at *; obtain ⟨X1, XR, HB⟩ := Bo.en2 hW1; clear hW1; have xX1 := X1.cell
 go_wp2_with fail
 refine (nTaken hM HX.out).mono ?_; rintro ee w2 ⟨K1, s1, M1, E1, rfl, q1, B⟩; clear xX1; replace X1 := X1.below B; replace XR := XR.below B; replace HB := Hqb HB B; clear B; have xX1 := X1.cell; have zX10 := X1.frozen
 go_upto_region 2 with (fail)
 clear xX1 zX10; generalize hS : (((w2.setCell _ _).setCell _ _).setCell _ _).setCell _ _ = w3 at *; have SX := StN.of4 X1 hS; replace XR := XR.stn SX (by omega); replace HB := Hqs HB SX (by omega); replace X1 := SX.box; clear SX hS
 by_cases h0 : K1 = 0
 · subst h0; have hz := q1.zero_iff.1 rfl; subst hz; have xXR := XR.cell; have zXR0 := XR.frozen; have xX1 := X1.cell; go_wp2; clear xXR zXR0 xX1; have SX := StN.mk4 XR (.int .i64 0) (.bool s1) (.int .u64 M1) (.int .i64 E1); exact bodyPost_ret (by simp [results, Tryz.results79, go_sem, SX.box.cell]) rfl ⟨_, _, _, _, rfl, q1, (SX.below HB.out (by omega))⟩
 · have e0 : (K1 == 0) = false := by simpa using h0
   have q2 := rk_neg q1 h0; have xX1 := X1.cell; have zX10 := X1.frozen
   go_upto_region 4 with (fail)
   clear xX1 zX10
   have SX : StN w3 (World.setCell w3 ⟨w.heap.size, 1, none⟩ (.bool (!s1))) _ _ #[.int .i64 K1, .bool (!s1), .int .u64 M1, .int .i64 E1] _ := StN.at4 X1 1 (.bool (!s1))
   replace XR := XR.stn SX (by omega); replace HB := Hqs HB SX (by omega); replace X1 := SX.box; clear SX; generalize World.setCell w3 ⟨w.heap.size, 1, none⟩ (.bool (!s1)) = w4 at *; have xXR := XR.cell; have zXR0 := XR.frozen; have xX1 := X1.cell; go_wp2; clear xXR zXR0 xX1; have SX := StN.mk4 XR (.int .i64 K1) (.bool (!s1)) (.int .u64 M1) (.int .i64 E1)
   exact bodyPost_ret (by simp [results, Tryz.results79, go_sem, SX.box.cell]) rfl ⟨_, _, _, _, rfl, q2, (SX.below HB.out (by omega))⟩
theorem compare64_any (x y : Int) (w : World) : Calls Tryz.prog 121 #[.int .u64 x, .int .u64 y] w fun e w' => e = .returned (.int .i64 (cmpI x y)) ∧ w = w' := by
 go_enter Tryz.func121, Tryz.ntmps121
 go_wp2
 all_goals go_ret
 · exact ⟨ret_int (cmpI_lt (by assumption)).symm, rfl⟩
 · exact ⟨ret_int (cmpI_gt (by assumption)).symm, rfl⟩
 · exact ⟨ret_int (cmpI_eq (by omega)).symm, rfl⟩
theorem vCmpI {x y z : Int} (w : World) (h : cmpI x y = z) : Calls Tryz.prog 86 #[.int .i64 x, .int .i64 y] w (PI w z) := by
 subst h; refine (compareInt_any x y w).mono ?_; rintro e w' ⟨rfl, rfl⟩; exact ⟨rfl, Below.refl _ _⟩
theorem vCmpU {x y z : Int} (w : World) (h : cmpI x y = z) : Calls Tryz.prog 121 #[.int .u64 x, .int .u64 y] w (PI w z) := by
 subst h; refine (compare64_any x y w).mono ?_; rintro e w' ⟨rfl, rfl⟩; exact ⟨rfl, Below.refl _ _⟩
theorem nFar {w : World} {D D' M M' E E' : Int} {s s' : Bool} {r : Int} (hr : fa D M E D' M' E' = r) : Calls Tryz.prog 87 #[VQ D s M E, VQ D' s' M' E'] w (PI w r) := by
 delta VQ
 unfold fa at hr
 by_cases hk : D ≠ D'
 · rw [if_pos hk] at hr
   have e0 : (D == D') = false := by simpa using hk
   have HR := Lib.hid hr; clear hr hk
   go_enter Tryz.func87, Tryz.ntmps87
   go_upto_region 1 with (fail)
   generalize hW1 : (w.alloc _).alloc _ = w1 at *; obtain ⟨X1, X2, HB⟩ := Bo.en2 hW1; clear hW1; have xX1 := X1.cell; have xX2 := X2.cell
   go_wp2_with fail
   refine (vCmpI _ HR.out).mono ?_; rintro ee w2 ⟨rfl, B⟩; clear xX1 xX2; replace X1 := X1.below B; replace X2 := X2.below B; replace HB := Hqb HB B; clear B; go_wp2
   go_ret
   exact ⟨rfl, HB.out⟩
 · rw [if_neg hk] at hr
   obtain rfl : D = D' := Decidable.not_not.1 hk
   clear hk
   by_cases he : E ≠ E'
   · rw [if_pos he] at hr
     have e0 : (E == E') = false := by simpa using he
     have HR := Lib.hid hr; clear hr he
     go_enter Tryz.func87, Tryz.ntmps87
     go_upto_region 1 with (fail)
     generalize hW1 : (w.alloc _).alloc _ = w1 at *; obtain ⟨X1, X2, HB⟩ := Bo.en2 hW1; clear hW1; have xX1 := X1.cell; have xX2 := X2.cell
     go_wp2_with fail
     refine (vCmpI _ HR.out).mono ?_; rintro ee w2 ⟨rfl, B⟩; clear xX1 xX2; replace X1 := X1.below B; replace X2 := X2.below B; replace HB := Hqb HB B; clear B; go_wp2
     go_ret
     exact ⟨rfl, HB.out⟩
   · rw [if_neg he] at hr
     obtain rfl : E = E' := Decidable.not_not.1 he
     have HR := Lib.hid hr; clear hr he
     go_enter Tryz.func87, Tryz.ntmps87
     go_upto_region 1 with (fail)
     generalize hW1 : (w.alloc _).alloc _ = w1 at *; obtain ⟨X1, X2, HB⟩ := Bo.en2 hW1; clear hW1; have xX1 := X1.cell; have xX2 := X2.cell
     go_wp2_with fail
     refine (vCmpU _ HR.out).mono ?_; rintro ee w2 ⟨rfl, B⟩; clear xX1 xX2; replace X1 := X1.below B; replace X2 := X2.below B; replace HB := Hqb HB B; clear B; go_wp2
     go_ret
     exact ⟨rfl, HB.out⟩
theorem nCmp {w : World} {D D' M M' E E' : Int} {s s' : Bool} {z : Int} (hM : LQ M) (hM' : LQ M') (hz : cmpI (rk D s M E) (rk D' s' M' E') = z) : Calls Tryz.prog 59 #[VQ D s M E, VQ D' s' M' E'] w (PI w z) := by
 delta VQ
 have hs := cmp_sign (x := rk D s M E) (y := rk D' s' M' E'); have hf := cmp_far (K := D) (s := s) (E := E) (K' := D') (s' := s') (E' := E') hM hM'; have b1 := fa_bd D M E D' M' E'; have b2 := cmpI_bd (rk D s M E) 0
 revert hs hf b1 b2
 generalize hσ : cmpI (rk D s M E) 0 = σ; generalize hτ : cmpI (rk D' s' M' E') 0 = τ; generalize hφ : fa D M E D' M' E' = φ; rw [hz]
 intro hs hf b1 b2
 have HS := Lib.hid hσ; have HT := Lib.hid hτ; have HF := Lib.hid hφ; clear hσ hτ hφ hz
 by_cases he : σ ≠ τ
 · have e0 : (σ == τ) = false := by simpa using he
   have HZ := Lib.hid (hs he); clear hs hf he b1 b2
   go_enter Tryz.func59, Tryz.ntmps59
   go_upto_region 1 with (fail)
   generalize hW1 : (w.alloc _).alloc _ = w1 at *; obtain ⟨X1, X2, HB⟩ := Bo.en2 hW1; clear hW1; refine Jo.rk [0, 1, 2, 3, 4, 5] [some 7, some 8, some 9, some 10, some 5, some 6] [[], [0], [], [2], [1], [3]] 6 0 [Jo.q4 D s M E, Jo.qi σ, Jo.q4 D' s' M' E', Jo.qi τ, Jo.qi σ, Jo.qi τ] (by kernel_rfl) (by kernel_rfl) (by decide) rfl ?_ ?_
   · refine Jo.jm rfl ?_ ?_; rotate_left
     refine Jo.jm rfl ?_ ?_
     · rintro wj hJ _ rfl K hK; simp only [Jo.z] at hK ⊢; go_simp; refine (nSign hM HS.out).mono ?_; rintro ee wk ⟨rfl, B⟩; exact hK.out _ _ rfl B
     refine Jo.jm rfl ?_ ?_; rotate_left
     refine Jo.jm rfl ?_ ?_
     · rintro wj hJ _ rfl K hK; simp only [Jo.z] at hK ⊢; go_simp; refine (nSign hM' HT.out).mono ?_; rintro ee wk ⟨rfl, B⟩; exact hK.out _ _ rfl B
     iterate 2 (refine Jo.jm rfl ?_ ?_; rotate_left)
     exact Jo.Steps.nil
     all_goals (rintro wj hJ; (repeat rintro _ rfl); intro K hK; simp only [Jo.z] at hK ⊢; have xX1 := (X1.below hJ).cell; have xX2 := (X2.below hJ).cell; go_simp; exact hK.out _ _ rfl (br _ _))
   rintro w2 hJ _ rfl _ rfl _ rfl _ rfl _ rfl _ rfl -; simp only [Jo.z]; replace X1 := X1.below hJ; replace X2 := X2.below hJ; replace HB := Hqb HB hJ; refine Jo.jdone (by kernel_rfl) ?_
   go_wp2_with fail
   refine (vCmpI _ HZ.out).mono ?_; rintro ee w3 ⟨rfl, B⟩; replace X1 := X1.below B; replace X2 := X2.below B; replace HB := Hqb HB B; clear B; go_wp2
   go_ret
   exact ⟨rfl, HB.out⟩
 · obtain rfl : σ = τ := Decidable.not_not.1 he
   have HZ := Lib.hid (hf rfl)
   have HW : Hid (IntKind.i64.wrap (σ * φ) = z) := Lib.hid (by
     rw [hf rfl]; refine IntWalk.i64_in _ ?_; rw [← hf rfl]
     rcases (show σ = -1 ∨ σ = 0 ∨ σ = 1 by omega) with h | h | h <;> rw [h] <;> omega)
   clear hs hf he b1 b2
   go_enter Tryz.func59, Tryz.ntmps59
   go_upto_region 1 with (fail)
   generalize hW1 : (w.alloc _).alloc _ = w1 at *; obtain ⟨X1, X2, HB⟩ := Bo.en2 hW1; clear hW1; refine Jo.rk [0, 1, 2, 3, 4, 5] [some 7, some 8, some 9, some 10, some 5, some 6] [[], [0], [], [2], [1], [3]] 6 0 [Jo.q4 D s M E, Jo.qi σ, Jo.q4 D' s' M' E', Jo.qi σ, Jo.qi σ, Jo.qi σ] (by kernel_rfl) (by kernel_rfl) (by decide) rfl ?_ ?_
   · refine Jo.jm rfl ?_ ?_; rotate_left
     refine Jo.jm rfl ?_ ?_
     · rintro wj hJ _ rfl K hK; simp only [Jo.z] at hK ⊢; go_simp; refine (nSign hM HS.out).mono ?_; rintro ee wk ⟨rfl, B⟩; exact hK.out _ _ rfl B
     refine Jo.jm rfl ?_ ?_; rotate_left
     refine Jo.jm rfl ?_ ?_
     · rintro wj hJ _ rfl K hK; simp only [Jo.z] at hK ⊢; go_simp; refine (nSign hM' HT.out).mono ?_; rintro ee wk ⟨rfl, B⟩; exact hK.out _ _ rfl B
     iterate 2 (refine Jo.jm rfl ?_ ?_; rotate_left)
     exact Jo.Steps.nil
     all_goals (rintro wj hJ; (repeat rintro _ rfl); intro K hK; simp only [Jo.z] at hK ⊢; have xX1 := (X1.below hJ).cell; have xX2 := (X2.below hJ).cell; go_simp; exact hK.out _ _ rfl (br _ _))
   rintro w2 hJ _ rfl _ rfl _ rfl _ rfl _ rfl _ rfl -; simp only [Jo.z]; replace X1 := X1.below hJ; replace X2 := X2.below hJ; replace HB := Hqb HB hJ; refine Jo.jdone (by kernel_rfl) ?_; have xX1 := X1.cell; have xX2 := X2.cell
   go_wp2_with fail
   refine (nFar HF.out).mono ?_; rintro ee w3 ⟨rfl, B⟩; clear xX1 xX2; replace X1 := X1.below B; replace X2 := X2.below B; replace HB := Hqb HB B; clear B; have hw := HW.out; go_wp2
   go_ret
   exact ⟨rfl, HB.out⟩
theorem nx_out {D : Int} {s : Bool} {M E r : Int} (q : Fq D s M E r) (h0 : D ≠ 0) : nx (!s) r = sgi s (min TP (plc D M E + 1)) := by
 rw [← q.2.2]
 have := TP_eq
 have h1 := plc_pos q h0
 unfold nx
 cases s
 · rfl
 · show max (-TP) (-plc D M E - 1) = -min TP (plc D M E + 1)
   omega
theorem nx_in {D : Int} {s : Bool} {M E r : Int} (q : Fq D s M E r) (h0 : D ≠ 0) : nx s r = sgi s (plc D M E - 1) := by
 have hb := q.bd
 have := TP_eq
 have h1 := plc_pos q h0; rw [← q.2.2] at hb ⊢
 unfold nx
 cases s
 · show max (-TP) (plc D M E - 1) = plc D M E - 1
   omega
 · show min TP (-plc D M E + 1) = -(plc D M E - 1)
   omega
theorem nOut_inf {w : World} {s : Bool} {r : Int} (hr : sgi s TP = r) : Calls Tryz.prog 155 #[VQ 2 s 0 0] w (PN w r) := by
 delta VQ
 go_enter Tryz.func155, Tryz.ntmps155
 go_upto_region 1 with (fail)
 generalize hW1 : (w.alloc _).alloc _ = w1 at *; obtain ⟨X1, XR, HB⟩ := Bo.en2 hW1; clear hW1; refine Jo.rk [0, 1, 2, 3, 4, 5, 6, 7, 8, 9] [some 3, some 4, some 5, some 6, some 7, some 8, some 9, some 10, some 11, some 12] [[], [0], [1], [2], [3], [3], [3, 5], [3, 6], [3, 4, 7], [3, 8]] 10 0 [Jo.qp w.heap.size 0, Jo.qi 2, Jo.qb true, Jo.qb true, Jo.qu, Jo.qu, Jo.qu, Jo.qu, Jo.qu, Jo.qb true] (by kernel_rfl) (by kernel_rfl) (by decide) rfl ?_ ?_
 · refine Jo.jm rfl ?_ ?_; rotate_left
   refine Jo.jm rfl ?_ ?_
   · rintro wj hJ _ rfl K hK; simp only [Jo.z] at hK ⊢; have xX10 := (X1.below hJ).a 0 (.int .i64 2) rfl; go_simp; exact hK.out _ _ rfl (br _ _)
   iterate 8 (refine Jo.jm rfl ?_ ?_; rotate_left)
   exact Jo.Steps.nil
   all_goals (rintro wj hJ; (repeat rintro _ rfl); intro K hK; simp only [Jo.z] at hK ⊢; go_simp; exact hK.out _ _ rfl (br _ _))
 rintro w2 hJ _ _ _ rfl _ rfl _ rfl _ rfl _ rfl _ rfl _ rfl _ rfl _ rfl -; simp only [Jo.z]; replace X1 := X1.below hJ; replace XR := XR.below hJ; replace HB := Hqb HB hJ; refine Jo.jdone (by kernel_rfl) ?_; have xX1 := X1.cell
 go_wp2_with fail
 refine (nInf hr).mono ?_; rintro ee w3 ⟨D2, s2, M2, E2, rfl, q2, B⟩; clear xX1; replace X1 := X1.below B; replace XR := XR.below B; replace HB := Hqb HB B; clear B; have xXR := XR.cell; have zXR0 := XR.frozen; have xX1 := X1.cell; go_wp2; clear xXR zXR0 xX1; have SX := StN.mk4 XR (.int .i64 D2) (.bool s2) (.int .u64 M2) (.int .i64 E2)
 exact bodyPost_ret (by simp [results, Tryz.results155, go_sem, SX.box.cell]) rfl ⟨_, _, _, _, rfl, q2, (SX.below HB.out (by omega))⟩
theorem nOut_huge {w : World} {s : Bool} {r : Int} (hr : sgi s TP = r) : Calls Tryz.prog 155 #[VQ 1 s 18446744073709551615 1048576] w (PN w r) := by
 delta VQ
 go_enter Tryz.func155, Tryz.ntmps155
 go_upto_region 1 with (fail)
 generalize hW1 : (w.alloc _).alloc _ = w1 at *; obtain ⟨X1, XR, HB⟩ := Bo.en2 hW1; clear hW1; refine Jo.rk [0, 1, 2, 3, 4, 5, 6, 7, 8, 9] [some 3, some 4, some 5, some 6, some 7, some 8, some 9, some 10, some 11, some 12] [[], [0], [1], [2], [3], [3], [3, 5], [3, 6], [3, 4, 7], [3, 8]] 10 0 [Jo.qp w.heap.size 0, Jo.qi 1, Jo.qb false, Jo.qb false, Jo.q4 1 s 18446744073709551615 1048576, Jo.qp w.heap.size 1, Jo.qb s, Jo.q4 1 s 18446744073709551615 1048576, Jo.qb true, Jo.qb true] (by kernel_rfl) (by kernel_rfl) (by decide) rfl ?_ ?_
 · refine Jo.jm rfl ?_ ?_; rotate_left
   refine Jo.jm rfl ?_ ?_
   · rintro wj hJ _ rfl K hK; simp only [Jo.z] at hK ⊢; have xX10 := (X1.below hJ).a 0 (.int .i64 1) rfl; go_simp; exact hK.out _ _ rfl (br _ _)
   iterate 4 (refine Jo.jm rfl ?_ ?_; rotate_left)
   refine Jo.jm rfl ?_ ?_
   · rintro wj hJ _ rfl _ rfl K hK; simp only [Jo.z] at hK ⊢; have xX11 := (X1.below hJ).a 1 (.bool s) rfl; go_simp; exact hK.out _ _ rfl (br _ _)
   refine Jo.jm rfl ?_ ?_
   · rintro wj hJ _ rfl _ rfl K hK; simp only [Jo.z] at hK ⊢; go_simp; refine (nH).mono ?_; rintro ee wk ⟨rfl, B⟩; exact hK.out _ _ rfl B
   refine Jo.jm rfl ?_ ?_
   · rintro wj hJ _ rfl _ rfl _ rfl K hK; simp only [Jo.z] at hK ⊢; go_simp
     exact hK.out _ _ (by first | rfl | (show Value.bool _ = Value.bool _; simp)) (br _ _)
   refine Jo.jm rfl ?_ ?_; rotate_left
   exact Jo.Steps.nil
   all_goals (rintro wj hJ; (repeat rintro _ rfl); intro K hK; simp only [Jo.z] at hK ⊢; have xX1 := (X1.below hJ).cell; go_simp; exact hK.out _ _ rfl (br _ _))
 rintro w2 hJ _ _ _ rfl _ rfl _ rfl _ rfl _ _ _ rfl _ rfl _ rfl _ rfl -; simp only [Jo.z]; replace X1 := X1.below hJ; replace XR := XR.below hJ; replace HB := Hqb HB hJ; refine Jo.jdone (by kernel_rfl) ?_; have xX1 := X1.cell
 go_wp2_with fail
 refine (nInf hr).mono ?_; rintro ee w3 ⟨D2, s2, M2, E2, rfl, q2, B⟩; clear xX1; replace X1 := X1.below B; replace XR := XR.below B; replace HB := Hqb HB B; clear B; have xXR := XR.cell; have zXR0 := XR.frozen; have xX1 := X1.cell; go_wp2; clear xXR zXR0 xX1; have SX := StN.mk4 XR (.int .i64 D2) (.bool s2) (.int .u64 M2) (.int .i64 E2)
 exact bodyPost_ret (by simp [results, Tryz.results155, go_sem, SX.box.cell]) rfl ⟨_, _, _, _, rfl, q2, (SX.below HB.out (by omega))⟩
theorem nOut_carry {w : World} {s : Bool} {E r : Int} (hF : Fq 1 s 9223372036854775808 (E + 1) r) (h1 : -1048576 ≤ E) (h2 : E < 1048576) : Calls Tryz.prog 155 #[VQ 1 s 18446744073709551615 E] w (PN w r) := by
 delta VQ
 have hq : E ≠ 1048576 := by omega
 have HW : Hid (IntKind.i64.wrap (E + 1) = E + 1) := Lib.hid (IntWalk.i64_in _ (by omega))
 go_enter Tryz.func155, Tryz.ntmps155
 go_upto_region 1 with (fail)
 generalize hW1 : (w.alloc _).alloc _ = w1 at *; obtain ⟨X1, XR, HB⟩ := Bo.en2 hW1; clear hW1; refine Jo.rk [0, 1, 2, 3, 4, 5, 6, 7, 8, 9] [some 3, some 4, some 5, some 6, some 7, some 8, some 9, some 10, some 11, some 12] [[], [0], [1], [2], [3], [3], [3, 5], [3, 6], [3, 4, 7], [3, 8]] 10 0 [Jo.qp w.heap.size 0, Jo.qi 1, Jo.qb false, Jo.qb false, Jo.q4 1 s 18446744073709551615 E, Jo.qp w.heap.size 1, Jo.qb s, Jo.q4 1 s 18446744073709551615 1048576, Jo.qb false, Jo.qb false] (by kernel_rfl) (by kernel_rfl) (by decide) rfl ?_ ?_
 · refine Jo.jm rfl ?_ ?_; rotate_left
   refine Jo.jm rfl ?_ ?_
   · rintro wj hJ _ rfl K hK; simp only [Jo.z] at hK ⊢; have xX10 := (X1.below hJ).a 0 (.int .i64 1) rfl; go_simp; exact hK.out _ _ rfl (br _ _)
   iterate 4 (refine Jo.jm rfl ?_ ?_; rotate_left)
   refine Jo.jm rfl ?_ ?_
   · rintro wj hJ _ rfl _ rfl K hK; simp only [Jo.z] at hK ⊢; have xX11 := (X1.below hJ).a 1 (.bool s) rfl; go_simp; exact hK.out _ _ rfl (br _ _)
   refine Jo.jm rfl ?_ ?_
   · rintro wj hJ _ rfl _ rfl K hK; simp only [Jo.z] at hK ⊢; go_simp; refine (nH).mono ?_; rintro ee wk ⟨rfl, B⟩; exact hK.out _ _ rfl B
   refine Jo.jm rfl ?_ ?_
   · rintro wj hJ _ rfl _ rfl _ rfl K hK; simp only [Jo.z] at hK ⊢; go_simp
     exact hK.out _ _ (by first | rfl | (show Value.bool _ = Value.bool _; simp [hq])) (br _ _)
   refine Jo.jm rfl ?_ ?_; rotate_left
   exact Jo.Steps.nil
   all_goals (rintro wj hJ; (repeat rintro _ rfl); intro K hK; simp only [Jo.z] at hK ⊢; have xX1 := (X1.below hJ).cell; go_simp; exact hK.out _ _ rfl (br _ _))
 rintro w2 hJ _ _ _ rfl _ rfl _ rfl _ rfl _ _ _ rfl _ rfl _ rfl _ rfl -; simp only [Jo.z]; replace X1 := X1.below hJ; replace XR := XR.below hJ; replace HB := Hqb HB hJ; refine Jo.jdone (by kernel_rfl) ?_; have xX1 := X1.cell; have zX10 := X1.frozen
 go_upto_region 5 with (fail)
 clear xX1 zX10
 have SX : StN w2 (World.setCell w2 ⟨w.heap.size, 2, none⟩ (.int .u64 9223372036854775808)) _ _ #[.int .i64 1, .bool s, .int .u64 9223372036854775808, .int .i64 E] _ := StN.at4 X1 2 (.int .u64 9223372036854775808)
 replace XR := XR.stn SX (by omega); replace HB := Hqs HB SX (by omega); replace X1 := SX.box; clear SX; generalize World.setCell w2 ⟨w.heap.size, 2, none⟩ (.int .u64 9223372036854775808) = w3 at *; have xX1 := X1.cell; have zX10 := X1.frozen; have hw := HW.out
 go_upto_region 6 with (fail)
 clear hw; clear xX1 zX10
 have SX : StN w3 (World.setCell w3 ⟨w.heap.size, 3, none⟩ (.int .i64 (E + 1))) _ _ #[.int .i64 1, .bool s, .int .u64 9223372036854775808, .int .i64 (E + 1)] _ := StN.at4 X1 3 (.int .i64 (E + 1))
 replace XR := XR.stn SX (by omega); replace HB := Hqs HB SX (by omega); replace X1 := SX.box; clear SX; generalize World.setCell w3 ⟨w.heap.size, 3, none⟩ (.int .i64 (E + 1)) = w4 at *; have xXR := XR.cell; have zXR0 := XR.frozen; have xX1 := X1.cell; go_wp2; clear xXR zXR0 xX1; have SX := StN.mk4 XR (.int .i64 1) (.bool s) (.int .u64 9223372036854775808) (.int .i64 (E + 1))
 exact bodyPost_ret (by simp [results, Tryz.results155, go_sem, SX.box.cell]) rfl ⟨_, _, _, _, rfl, hF, (SX.below HB.out (by omega))⟩
theorem nOut_plus {w : World} {s : Bool} {M E r : Int} (hF : Fq 1 s (M + 1) E r) (h1 : 0 ≤ M) (h2 : M < 18446744073709551615) : Calls Tryz.prog 155 #[VQ 1 s M E] w (PN w r) := by
 delta VQ
 have hq : M ≠ 18446744073709551615 := by omega
 have e1 : (M == 18446744073709551615) = false := by simpa using hq
 have HW : Hid (IntKind.u64.wrap (M + 1) = M + 1) := Lib.hid (IntWalk.u64_in _ (by omega))
 go_enter Tryz.func155, Tryz.ntmps155
 go_upto_region 1 with (fail)
 generalize hW1 : (w.alloc _).alloc _ = w1 at *; obtain ⟨X1, XR, HB⟩ := Bo.en2 hW1; clear hW1; refine Jo.rk [0, 1, 2, 3, 4, 5, 6, 7, 8, 9] [some 3, some 4, some 5, some 6, some 7, some 8, some 9, some 10, some 11, some 12] [[], [0], [1], [2], [3], [3], [3, 5], [3, 6], [3, 4, 7], [3, 8]] 10 0 [Jo.qp w.heap.size 0, Jo.qi 1, Jo.qb false, Jo.qb false, Jo.q4 1 s M E, Jo.qp w.heap.size 1, Jo.qb s, Jo.q4 1 s 18446744073709551615 1048576, Jo.qb false, Jo.qb false] (by kernel_rfl) (by kernel_rfl) (by decide) rfl ?_ ?_
 · refine Jo.jm rfl ?_ ?_; rotate_left
   refine Jo.jm rfl ?_ ?_
   · rintro wj hJ _ rfl K hK; simp only [Jo.z] at hK ⊢; have xX10 := (X1.below hJ).a 0 (.int .i64 1) rfl; go_simp; exact hK.out _ _ rfl (br _ _)
   iterate 4 (refine Jo.jm rfl ?_ ?_; rotate_left)
   refine Jo.jm rfl ?_ ?_
   · rintro wj hJ _ rfl _ rfl K hK; simp only [Jo.z] at hK ⊢; have xX11 := (X1.below hJ).a 1 (.bool s) rfl; go_simp; exact hK.out _ _ rfl (br _ _)
   refine Jo.jm rfl ?_ ?_
   · rintro wj hJ _ rfl _ rfl K hK; simp only [Jo.z] at hK ⊢; go_simp; refine (nH).mono ?_; rintro ee wk ⟨rfl, B⟩; exact hK.out _ _ rfl B
   refine Jo.jm rfl ?_ ?_
   · rintro wj hJ _ rfl _ rfl _ rfl K hK; simp only [Jo.z] at hK ⊢; go_simp
     exact hK.out _ _ (by first | rfl | (show Value.bool _ = Value.bool _; simp [hq])) (br _ _)
   refine Jo.jm rfl ?_ ?_; rotate_left
   exact Jo.Steps.nil
   all_goals (rintro wj hJ; (repeat rintro _ rfl); intro K hK; simp only [Jo.z] at hK ⊢; have xX1 := (X1.below hJ).cell; go_simp; exact hK.out _ _ rfl (br _ _))
 rintro w2 hJ _ _ _ rfl _ rfl _ rfl _ rfl _ _ _ rfl _ rfl _ rfl _ rfl -; simp only [Jo.z]; replace X1 := X1.below hJ; replace XR := XR.below hJ; replace HB := Hqb HB hJ; refine Jo.jdone (by kernel_rfl) ?_; have xX1 := X1.cell; have zX10 := X1.frozen; have hw := HW.out
 go_upto_region 8 with (fail)
 clear hw; clear xX1 zX10
 have SX : StN w2 (World.setCell w2 ⟨w.heap.size, 2, none⟩ (.int .u64 (M + 1))) _ _ #[.int .i64 1, .bool s, .int .u64 (M + 1), .int .i64 E] _ := StN.at4 X1 2 (.int .u64 (M + 1))
 replace XR := XR.stn SX (by omega); replace HB := Hqs HB SX (by omega); replace X1 := SX.box; clear SX; generalize World.setCell w2 ⟨w.heap.size, 2, none⟩ (.int .u64 (M + 1)) = w3 at *; have xXR := XR.cell; have zXR0 := XR.frozen; have xX1 := X1.cell; go_wp2; clear xXR zXR0 xX1; have SX := StN.mk4 XR (.int .i64 1) (.bool s) (.int .u64 (M + 1)) (.int .i64 E)
 exact bodyPost_ret (by simp [results, Tryz.results155, go_sem, SX.box.cell]) rfl ⟨_, _, _, _, rfl, hF, (SX.below HB.out (by omega))⟩
theorem nOut {w : World} {D : Int} {s : Bool} {M E x r : Int} (q : Fq D s M E x) (h0 : D ≠ 0) (hr : nx (!s) x = r) : Calls Tryz.prog 155 #[VQ D s M E] w (PN w r) := by
 delta VQ
 rw [nx_out q h0] at hr
 have := TP_eq
 rcases q.plc h0 with ⟨rfl, h1, h2, h3, h4, h5⟩ | ⟨rfl, rfl, rfl, h5⟩ <;> rw [h5] at hr
 · by_cases hm : M = 18446744073709551615
   · subst hm
     by_cases he : E = 1048576
     · subst he; exact nOut_huge hr
     · refine nOut_carry (Fq.fin (by decide) (by decide) (by omega) (by omega) ?_) h3 (by omega); rw [← hr]
       congr 1
       omega
   · refine nOut_plus (Fq.fin (by omega) (by omega) h3 h4 ?_) (by omega) (by omega); rw [← hr]
     congr 1
     omega
 · exact nOut_inf hr
theorem nIn_inf {w : World} {s : Bool} {r : Int} (hF : Fq 1 s 18446744073709551615 1048576 r) : Calls Tryz.prog 154 #[VQ 2 s 0 0] w (PN w r) := by
 delta VQ
 go_enter Tryz.func154, Tryz.ntmps154
 go_upto_region 1 with (fail)
 generalize hW1 : (w.alloc _).alloc _ = w1 at *; obtain ⟨X1, XR, HB⟩ := Bo.en2 hW1; clear hW1; have xX1 := X1.cell
 go_wp2_with fail
 refine (nH (s := s)).mono ?_; rintro ee w3 ⟨rfl, B⟩; clear xX1; replace X1 := X1.below B; replace XR := XR.below B; replace HB := Hqb HB B; clear B; have xXR := XR.cell; have zXR0 := XR.frozen; have xX1 := X1.cell; go_wp2; clear xXR zXR0 xX1; have SX := StN.mk4 XR (.int .i64 1) (.bool s) (.int .u64 18446744073709551615) (.int .i64 1048576)
 exact bodyPost_ret (by simp [results, Tryz.results154, go_sem, SX.box.cell]) rfl ⟨_, _, _, _, rfl, hF, (SX.below HB.out (by omega))⟩
theorem nIn_tiny {w : World} {s : Bool} {r : Int} (hr : 0 = r) : Calls Tryz.prog 154 #[.agg #[.int .i64 1, .bool s, .int .u64 9223372036854775808, .int .i64 (-1048576)]] w (PN w r) := by
 subst hr
 go_enter Tryz.func154, Tryz.ntmps154
 go_upto_region 1 with (fail)
 generalize hW1 : (w.alloc _).alloc _ = w1 at *; obtain ⟨X1, XR, HB⟩ := Bo.en2 hW1; clear hW1; have xX1 := X1.cell
 go_upto_region 3 with (fail)
 clear xX1; refine Jo.rk [0, 1, 2, 3, 4] [some 9, some 10, some 11, some 12, some 13] [[], [], [1], [2], [0, 3]] 5 0 [Jo.Fact.eq (.agg #[.int .i64 1, .bool s, .int .u64 9223372036854775808, .int .i64 (-1048576)]), Jo.qp w.heap.size 1, Jo.qb s, Jo.Fact.eq (.agg #[.int .i64 1, .bool s, .int .u64 9223372036854775808, .int .i64 (-1048576)]), Jo.qb true] (by kernel_rfl) (by kernel_rfl) (by decide) rfl ?_ ?_
 · iterate 2 (refine Jo.jm rfl ?_ ?_; rotate_left)
   refine Jo.jm rfl ?_ ?_
   · rintro wj hJ _ rfl K hK; simp only [Jo.z] at hK ⊢; have xX11 := (X1.below hJ).a 1 (.bool s) rfl; go_simp; exact hK.out _ _ rfl (br _ _)
   refine Jo.jm rfl ?_ ?_
   · rintro wj hJ _ rfl K hK; simp only [Jo.z] at hK ⊢; go_simp; refine (nT).mono ?_; rintro ee wk ⟨rfl, B⟩; exact hK.out _ _ rfl B
   refine Jo.jm rfl ?_ ?_
   · rintro wj hJ _ rfl _ rfl K hK; simp only [Jo.z] at hK ⊢; go_simp
     exact hK.out _ _ (by first | rfl | (show Value.bool _ = Value.bool _; simp)) (br _ _)
   exact Jo.Steps.nil
   all_goals (rintro wj hJ; (repeat rintro _ rfl); intro K hK; simp only [Jo.z] at hK ⊢; have xX1 := (X1.below hJ).cell; go_simp; exact hK.out _ _ rfl (br _ _))
 rintro w2 hJ _ rfl _ _ _ rfl _ rfl _ rfl -; simp only [Jo.z]; replace X1 := X1.below hJ; replace XR := XR.below hJ; replace HB := Hqb HB hJ; refine Jo.jdone (by kernel_rfl) ?_; have xXR := XR.cell; have zXR0 := XR.frozen; have xX1 := X1.cell; go_wp2; clear xXR zXR0 xX1; have SX := StN.mk4 XR (.int .i64 0) (.bool false) (.int .u64 0) (.int .i64 0)
 exact bodyPost_ret (by simp [results, Tryz.results154, go_sem, SX.box.cell]) rfl ⟨_, _, _, _, rfl, Fq.nought, (SX.below HB.out (by omega))⟩
theorem nIn_carry {w : World} {s : Bool} {E r : Int} (hF : Fq 1 s 18446744073709551615 (E - 1) r) (h1 : -1048576 < E) (h2 : E ≤ 1048576) : Calls Tryz.prog 154 #[VQ 1 s 9223372036854775808 E] w (PN w r) := by
 delta VQ
 have hq : E ≠ -1048576 := by omega
 have HW : Hid (IntKind.i64.wrap (E - 1) = E - 1) := Lib.hid (IntWalk.i64_in _ (by omega))
 go_enter Tryz.func154, Tryz.ntmps154
 go_upto_region 1 with (fail)
 generalize hW1 : (w.alloc _).alloc _ = w1 at *; obtain ⟨X1, XR, HB⟩ := Bo.en2 hW1; clear hW1; have xX1 := X1.cell
 go_upto_region 3 with (fail)
 clear xX1; refine Jo.rk [0, 1, 2, 3, 4] [some 9, some 10, some 11, some 12, some 13] [[], [], [1], [2], [0, 3]] 5 0 [Jo.q4 1 s 9223372036854775808 E, Jo.qp w.heap.size 1, Jo.qb s, Jo.Fact.eq (.agg #[.int .i64 1, .bool s, .int .u64 9223372036854775808, .int .i64 (-1048576)]), Jo.qb false] (by kernel_rfl) (by kernel_rfl) (by decide) rfl ?_ ?_
 · iterate 2 (refine Jo.jm rfl ?_ ?_; rotate_left)
   refine Jo.jm rfl ?_ ?_
   · rintro wj hJ _ rfl K hK; simp only [Jo.z] at hK ⊢; have xX11 := (X1.below hJ).a 1 (.bool s) rfl; go_simp; exact hK.out _ _ rfl (br _ _)
   refine Jo.jm rfl ?_ ?_
   · rintro wj hJ _ rfl K hK; simp only [Jo.z] at hK ⊢; go_simp; refine (nT).mono ?_; rintro ee wk ⟨rfl, B⟩; exact hK.out _ _ rfl B
   refine Jo.jm rfl ?_ ?_
   · rintro wj hJ _ rfl _ rfl K hK; simp only [Jo.z] at hK ⊢; go_simp
     exact hK.out _ _ (by first | rfl | (show Value.bool _ = Value.bool _; simp [hq])) (br _ _)
   exact Jo.Steps.nil
   all_goals (rintro wj hJ; (repeat rintro _ rfl); intro K hK; simp only [Jo.z] at hK ⊢; have xX1 := (X1.below hJ).cell; go_simp; exact hK.out _ _ rfl (br _ _))
 rintro w2 hJ _ rfl _ _ _ rfl _ rfl _ rfl -; simp only [Jo.z]; replace X1 := X1.below hJ; replace XR := XR.below hJ; replace HB := Hqb HB hJ; refine Jo.jdone (by kernel_rfl) ?_; have xX1 := X1.cell; have zX10 := X1.frozen
 go_upto_region 7 with (fail)
 clear xX1 zX10
 have SX : StN w2 (World.setCell w2 ⟨w.heap.size, 2, none⟩ (.int .u64 18446744073709551615)) _ _ #[.int .i64 1, .bool s, .int .u64 18446744073709551615, .int .i64 E] _ := StN.at4 X1 2 (.int .u64 18446744073709551615)
 replace XR := XR.stn SX (by omega); replace HB := Hqs HB SX (by omega); replace X1 := SX.box; clear SX; generalize World.setCell w2 ⟨w.heap.size, 2, none⟩ (.int .u64 18446744073709551615) = w3 at *; have xX1 := X1.cell; have zX10 := X1.frozen; have hw := HW.out
 go_upto_region 8 with (fail)
 clear hw; clear xX1 zX10
 have SX : StN w3 (World.setCell w3 ⟨w.heap.size, 3, none⟩ (.int .i64 (E - 1))) _ _ #[.int .i64 1, .bool s, .int .u64 18446744073709551615, .int .i64 (E - 1)] _ := StN.at4 X1 3 (.int .i64 (E - 1))
 replace XR := XR.stn SX (by omega); replace HB := Hqs HB SX (by omega); replace X1 := SX.box; clear SX; generalize World.setCell w3 ⟨w.heap.size, 3, none⟩ (.int .i64 (E - 1)) = w4 at *; have xXR := XR.cell; have zXR0 := XR.frozen; have xX1 := X1.cell; go_wp2; clear xXR zXR0 xX1; have SX := StN.mk4 XR (.int .i64 1) (.bool s) (.int .u64 18446744073709551615) (.int .i64 (E - 1))
 exact bodyPost_ret (by simp [results, Tryz.results154, go_sem, SX.box.cell]) rfl ⟨_, _, _, _, rfl, hF, (SX.below HB.out (by omega))⟩
theorem nIn_less {w : World} {s : Bool} {M E r : Int} (hF : Fq 1 s (M - 1) E r) (h1 : 9223372036854775808 < M) (h2 : M ≤ 18446744073709551615) : Calls Tryz.prog 154 #[VQ 1 s M E] w (PN w r) := by
 delta VQ
 have hq : M ≠ 9223372036854775808 := by omega
 have e1 : (M == 9223372036854775808) = false := by simpa using hq
 have HW : Hid (IntKind.u64.wrap (M - 1) = M - 1) := Lib.hid (IntWalk.u64_in _ (by omega))
 go_enter Tryz.func154, Tryz.ntmps154
 go_upto_region 1 with (fail)
 generalize hW1 : (w.alloc _).alloc _ = w1 at *; obtain ⟨X1, XR, HB⟩ := Bo.en2 hW1; clear hW1; have xX1 := X1.cell
 go_upto_region 3 with (fail)
 clear xX1; refine Jo.rk [0, 1, 2, 3, 4] [some 9, some 10, some 11, some 12, some 13] [[], [], [1], [2], [0, 3]] 5 0 [Jo.q4 1 s M E, Jo.qp w.heap.size 1, Jo.qb s, Jo.Fact.eq (.agg #[.int .i64 1, .bool s, .int .u64 9223372036854775808, .int .i64 (-1048576)]), Jo.qb false] (by kernel_rfl) (by kernel_rfl) (by decide) rfl ?_ ?_
 · iterate 2 (refine Jo.jm rfl ?_ ?_; rotate_left)
   refine Jo.jm rfl ?_ ?_
   · rintro wj hJ _ rfl K hK; simp only [Jo.z] at hK ⊢; have xX11 := (X1.below hJ).a 1 (.bool s) rfl; go_simp; exact hK.out _ _ rfl (br _ _)
   refine Jo.jm rfl ?_ ?_
   · rintro wj hJ _ rfl K hK; simp only [Jo.z] at hK ⊢; go_simp; refine (nT).mono ?_; rintro ee wk ⟨rfl, B⟩; exact hK.out _ _ rfl B
   refine Jo.jm rfl ?_ ?_
   · rintro wj hJ _ rfl _ rfl K hK; simp only [Jo.z] at hK ⊢; go_simp
     exact hK.out _ _ (by first | rfl | (show Value.bool _ = Value.bool _; simp [hq])) (br _ _)
   exact Jo.Steps.nil
   all_goals (rintro wj hJ; (repeat rintro _ rfl); intro K hK; simp only [Jo.z] at hK ⊢; have xX1 := (X1.below hJ).cell; go_simp; exact hK.out _ _ rfl (br _ _))
 rintro w2 hJ _ rfl _ _ _ rfl _ rfl _ rfl -; simp only [Jo.z]; replace X1 := X1.below hJ; replace XR := XR.below hJ; replace HB := Hqb HB hJ; refine Jo.jdone (by kernel_rfl) ?_; have xX1 := X1.cell; have zX10 := X1.frozen; have hw := HW.out
 go_upto_region 10 with (fail)
 clear hw; clear xX1 zX10
 have SX : StN w2 (World.setCell w2 ⟨w.heap.size, 2, none⟩ (.int .u64 (M - 1))) _ _ #[.int .i64 1, .bool s, .int .u64 (M - 1), .int .i64 E] _ := StN.at4 X1 2 (.int .u64 (M - 1))
 replace XR := XR.stn SX (by omega); replace HB := Hqs HB SX (by omega); replace X1 := SX.box; clear SX; generalize World.setCell w2 ⟨w.heap.size, 2, none⟩ (.int .u64 (M - 1)) = w3 at *; have xXR := XR.cell; have zXR0 := XR.frozen; have xX1 := X1.cell; go_wp2; clear xXR zXR0 xX1; have SX := StN.mk4 XR (.int .i64 1) (.bool s) (.int .u64 (M - 1)) (.int .i64 E)
 exact bodyPost_ret (by simp [results, Tryz.results154, go_sem, SX.box.cell]) rfl ⟨_, _, _, _, rfl, hF, (SX.below HB.out (by omega))⟩
theorem nIn {w : World} {D : Int} {s : Bool} {M E x r : Int} (q : Fq D s M E x) (h0 : D ≠ 0) (hr : nx s x = r) : Calls Tryz.prog 154 #[VQ D s M E] w (PN w r) := by
 delta VQ
 rw [nx_in q h0] at hr
 have := TP_eq
 rcases q.plc h0 with ⟨rfl, h1, h2, h3, h4, h5⟩ | ⟨rfl, rfl, rfl, h5⟩ <;> rw [h5] at hr
 · by_cases hm : M = 9223372036854775808
   · subst hm
     by_cases he : E = -1048576
     · subst he; refine nIn_tiny (hr ▸ ?_)
       cases s <;> rfl
     · refine nIn_carry (Fq.fin (by decide) (by decide) (by omega) (by omega) ?_) (by omega) h4; rw [← hr]
       congr 1
       omega
   · refine nIn_less (Fq.fin (by omega) (by omega) h3 h4 ?_) (by omega) (by omega); rw [← hr]
     congr 1
     omega
 · refine nIn_inf (Fq.fin (by decide) (by decide) (by decide) (by decide) ?_); rw [← hr]
   rfl
theorem nNext {w : World} {D M E : Int} {s : Bool} {up : Bool} {r : Int} (hM : LQ M) (hr : nx up (rk D s M E) = r) : Calls Tryz.prog 125 #[VQ D s M E, .bool up] w (PN w r) := by
 delta VQ
 obtain ⟨x, hx⟩ : ∃ x, rk D s M E = x := ⟨_, rfl⟩; rw [hx] at hr; have HX := Lib.hid hx; have HR := Lib.hid hr; clear hx hr
 go_enter Tryz.func125, Tryz.ntmps125
 go_upto_region 1 with (fail)
 generalize hW1 : (w.alloc _).alloc _ = w1 at *; obtain ⟨X1, XR, HB⟩ := Bo.en2 hW1; clear hW1; have xX1 := X1.cell
 go_wp2_with fail
 refine (nTaken hM HX.out).mono ?_; rintro ee w2 ⟨K1, s1, M1, E1, rfl, q1, B⟩; clear xX1; replace X1 := X1.below B; replace XR := XR.below B; replace HB := Hqb HB B; clear B; have xX1 := X1.cell; have zX10 := X1.frozen
 go_upto_region 2 with (fail)
 clear xX1 zX10; generalize hS : (((w2.setCell _ _).setCell _ _).setCell _ _).setCell _ _ = w3 at *; have SX := StN.of4 X1 hS; replace XR := XR.stn SX (by omega); replace HB := Hqs HB SX (by omega); replace X1 := SX.box; clear SX hS
 by_cases h0 : K1 = 0
 · subst h0; have hz := q1.zero_iff.1 rfl; subst hz
   have hF : Fq 1 (!up) 9223372036854775808 (-1048576) r := Fq.fin (by decide) (by decide) (by decide) (by decide) (by rw [← HR.out]; cases up <;> rfl)
   clear q1; have xX1 := X1.cell
   go_wp2_with fail
   refine (nT).mono ?_; rintro ee w4 ⟨rfl, B⟩; clear xX1; replace X1 := X1.below B; replace XR := XR.below B; replace HB := Hqb HB B; clear B; have xXR := XR.cell; have zXR0 := XR.frozen; have xX1 := X1.cell; go_wp2; clear xXR zXR0 xX1; have SX := StN.mk4 XR (.int .i64 1) (.bool (!up)) (.int .u64 9223372036854775808) (.int .i64 (-1048576))
   exact bodyPost_ret (by simp [results, Tryz.results125, go_sem, SX.box.cell]) rfl ⟨_, _, _, _, rfl, hF, (SX.below HB.out (by omega))⟩
 · have e0 : (K1 == 0) = false := by simpa using h0
   by_cases hs : s1 = up
   · subst hs; have xX1 := X1.cell
     go_wp2_with fail
     refine (nIn q1 h0 HR.out).mono ?_; rintro ee w4 ⟨K2, s2, M2, E2, rfl, q2, B⟩; clear xX1; replace X1 := X1.below B; replace XR := XR.below B; replace HB := Hqb HB B; clear B; have xXR := XR.cell; have zXR0 := XR.frozen; have xX1 := X1.cell; go_wp2; clear xXR zXR0 xX1; have SX := StN.mk4 XR (.int .i64 K2) (.bool s2) (.int .u64 M2) (.int .i64 E2)
     exact bodyPost_ret (by simp [results, Tryz.results125, go_sem, SX.box.cell]) rfl ⟨_, _, _, _, rfl, q2, (SX.below HB.out (by omega))⟩
   · obtain rfl : (!s1) = up := by cases s1 <;> cases up <;> first | rfl | exact absurd rfl hs
     clear hs
     have e2 : (s1 == !s1) = false := by cases s1 <;> rfl
     have xX1 := X1.cell
     go_wp2_with fail
     refine (nOut q1 h0 HR.out).mono ?_; rintro ee w4 ⟨K2, s2, M2, E2, rfl, q2, B⟩; clear xX1; replace X1 := X1.below B; replace XR := XR.below B; replace HB := Hqb HB B; clear B; have xXR := XR.cell; have zXR0 := XR.frozen; have xX1 := X1.cell; go_wp2; clear xXR zXR0 xX1; have SX := StN.mk4 XR (.int .i64 K2) (.bool s2) (.int .u64 M2) (.int .i64 E2)
     exact bodyPost_ret (by simp [results, Tryz.results125, go_sem, SX.box.cell]) rfl ⟨_, _, _, _, rfl, q2, (SX.below HB.out (by omega))⟩
def fin (s : Bool) (M E : Int) (aw : Bool) : Int := sgi s (if 1048576 < E then (if aw = true then TP else TP - 1) else if E < -1048576 then (if aw = true then 1 else 0) else M - 9223372036854775808 + 1 + (E + 1048576) * 9223372036854775808)
end Go.Proofs.YtnbliijpjcmbjaaGreatDoor

/-
 Contracts that the proof rests on.
-/
import Derived.Test.YtnbliijpjcmbjaaGreatDoorYPaq
namespace Go.Proofs.YtnbliijpjcmbjaaGreatDoor
set_option maxHeartbeats 4000000
open Go.RowKit
set_option linter.unusedVariables false
set_option linter.unusedSimpArgs false
set_option maxRecDepth 100000
def PN (w : World) (r : Int) (e : Ending) (w' : World) : Prop := ∃ D s M E, e = .returned (.agg #[.int .i64 D, .bool s, .int .u64 M, .int .i64 E]) ∧ Fq D s M E r ∧ Below w.heap.size w w'
theorem Fq.three {D : Int} {s : Bool} {M E r : Int} (h : Fq D s M E r) : (D = 0 ∧ r = 0) ∨ (D ≠ 0 ∧ s = false ∧ 0 < r) ∨ (D ≠ 0 ∧ s = true ∧ r < 0) := by
 rcases h.cases with ⟨rfl, rfl, rfl, rfl, h0⟩ | ⟨rfl, h1, h2, h3, h4, ⟨rfl, h5⟩ | ⟨rfl, h5⟩⟩ | ⟨rfl, rfl, rfl, ⟨rfl, h5⟩ | ⟨rfl, h5⟩⟩
 · exact Or.inl ⟨rfl, h0⟩
 · exact Or.inr (Or.inl ⟨by decide, rfl, by omega⟩)
 · exact Or.inr (Or.inr ⟨by decide, rfl, by omega⟩)
 · exact Or.inr (Or.inl ⟨by decide, rfl, by omega⟩)
 · exact Or.inr (Or.inr ⟨by decide, rfl, by omega⟩)
theorem nTaken {w : World} {D M E : Int} {s : Bool} {r : Int} (hM : LQ M) (hr : rk D s M E = r) : Calls Tryz.prog 94 #[VQ D s M E] w (PN w r) := by
 delta VQ
 by_cases hm : MayQ D s M E
 · have HQ := rk_fq hM hm; rw [hr] at HQ
   have HC := Lib.hid (show decide (MayQ D s M E) = true from decide_eq_true hm)
   clear hm hr hM
   go_enter Tryz.func94, Tryz.ntmps94
   go_upto_region 1 with (fail)
   generalize hW1 : (w.alloc _).alloc _ = w1 at *; obtain ⟨X1, XR, HB⟩ := Bo.en2 hW1; clear hW1; have xX1 := X1.cell
   go_wp2_with fail
   refine (nMay HC.out).mono ?_; rintro ee w2 ⟨rfl, B⟩; clear xX1; replace X1 := X1.below B; replace XR := XR.below B; replace HB := Hqb HB B; clear B; have xXR := XR.cell; have zXR0 := XR.frozen; have xX1 := X1.cell; go_wp2; clear xXR zXR0 xX1; have SX := StN.mk4 XR (.int .i64 D) (.bool s) (.int .u64 M) (.int .i64 E)
   exact bodyPost_ret (by simp [results, Tryz.results94, go_sem, SX.box.cell]) rfl ⟨D, s, M, E, rfl, HQ, (SX.below HB.out (by omega))⟩
 · rw [rk_not hm] at hr; subst hr
   have HC := Lib.hid (show decide (MayQ D s M E) = false from decide_eq_false hm)
   clear hm hM
   go_enter Tryz.func94, Tryz.ntmps94
   go_upto_region 1 with (fail)
   generalize hW1 : (w.alloc _).alloc _ = w1 at *; obtain ⟨X1, XR, HB⟩ := Bo.en2 hW1; clear hW1; have xX1 := X1.cell
   go_wp2_with fail
   refine (nMay HC.out).mono ?_; rintro ee w2 ⟨rfl, B⟩; clear xX1; replace X1 := X1.below B; replace XR := XR.below B; replace HB := Hqb HB B; clear B; have xXR := XR.cell; have zXR0 := XR.frozen; have xX1 := X1.cell; go_wp2; clear xXR zXR0 xX1; have SX := StN.mk4 XR (.int .i64 0) (.bool false) (.int .u64 0) (.int .i64 0)
   exact bodyPost_ret (by simp [results, Tryz.results94, go_sem, SX.box.cell]) rfl ⟨_, _, _, _, rfl, Fq.nought, (SX.below HB.out (by omega))⟩
theorem nInf {w : World} {s : Bool} {r : Int} (hr : sgi s TP = r) : Calls Tryz.prog 55 #[.bool s] w (PN w r) := by
 go_enter Tryz.func55, Tryz.ntmps55
 go_upto_region 1 with (fail)
 generalize hW1 : w.alloc _ = w1 at *; obtain ⟨XR, HB⟩ := Bo.en1 hW1; clear hW1; have xXR := XR.cell; have zXR0 := XR.frozen; go_wp2; clear xXR zXR0; have SX := StN.mk4 XR (.int .i64 2) (.bool s) (.int .u64 0) (.int .i64 0); exact bodyPost_ret (v := .agg #[.int .i64 2, .bool s, .int .u64 0, .int .i64 0]) (by simp [results, Tryz.results55, go_sem, SX.box.cell]) rfl ⟨_, _, _, _, rfl, hr ▸ Fq.inf s, (SX.below HB.out (by omega))⟩
theorem nT {w : World} {s : Bool} : Calls Tryz.prog 153 #[.bool s] w (fun e w' => e = .returned (.agg #[.int .i64 1, .bool s, .int .u64 9223372036854775808, .int .i64 (-1048576)]) ∧ Below w.heap.size w w') := by
 go_enter Tryz.func153, Tryz.ntmps153
 go_upto_region 1 with (fail)
 generalize hW1 : w.alloc _ = w1 at *; obtain ⟨XR, HB⟩ := Bo.en1 hW1; clear hW1; have xXR := XR.cell; have zXR0 := XR.frozen; go_wp2; clear xXR zXR0; have SX := StN.mk4 XR (.int .i64 1) (.bool s) (.int .u64 9223372036854775808) (.int .i64 (-1048576)); exact bodyPost_ret (v := .agg #[.int .i64 1, .bool s, .int .u64 9223372036854775808, .int .i64 (-1048576)]) (by simp [results, Tryz.results153, go_sem, SX.box.cell]) rfl ⟨rfl, (SX.below HB.out (by omega))⟩
theorem nH {w : World} {s : Bool} : Calls Tryz.prog 175 #[.bool s] w (fun e w' => e = .returned (.agg #[.int .i64 1, .bool s, .int .u64 18446744073709551615, .int .i64 1048576]) ∧ Below w.heap.size w w') := by
 go_enter Tryz.func175, Tryz.ntmps175
 go_upto_region 1 with (fail)
 generalize hW1 : w.alloc _ = w1 at *; obtain ⟨XR, HB⟩ := Bo.en1 hW1; clear hW1; have xXR := XR.cell; have zXR0 := XR.frozen; go_wp2; clear xXR zXR0; have SX := StN.mk4 XR (.int .i64 1) (.bool s) (.int .u64 18446744073709551615) (.int .i64 1048576); exact bodyPost_ret (v := .agg #[.int .i64 1, .bool s, .int .u64 18446744073709551615, .int .i64 1048576]) (by simp [results, Tryz.results175, go_sem, SX.box.cell]) rfl ⟨rfl, (SX.below HB.out (by omega))⟩
theorem nSign {w : World} {D M E : Int} {s : Bool} {σ : Int} (hM : LQ M) (hs : cmpI (rk D s M E) 0 = σ) : Calls Tryz.prog 85 #[VQ D s M E] w (PI w σ) := by
 delta VQ
 obtain ⟨r, hr⟩ : ∃ r, rk D s M E = r := ⟨_, rfl⟩; rw [hr] at hs; have HR := Lib.hid hr; have HS := Lib.hid hs; clear hr hs
 go_enter Tryz.func85, Tryz.ntmps85
 go_upto_region 1 with (fail)
 generalize hW1 : w.alloc _ = w1 at *; obtain ⟨X1, HB⟩ := Bo.en1 hW1; clear hW1; have xX1 := X1.cell
 go_wp2_with fail
 refine (nTaken hM HR.out).mono ?_; rintro ee w2 ⟨K1, s1, M1, E1, rfl, q1, B⟩; clear xX1; replace X1 := X1.below B; replace HB := Hqb HB B; clear B; have xX1 := X1.cell; have zX10 := X1.frozen
 go_upto_region 2 with (fail)
 clear xX1 zX10; generalize hS : (((w2.setCell _ _).setCell _ _).setCell _ _).setCell _ _ = w3 at *; have SX := StN.of4 X1 hS; replace HB := Hqs HB SX (by omega); replace X1 := SX.box; clear SX hS
 rcases q1.three with ⟨h0, hr⟩ | ⟨h0, h1, hr⟩ | ⟨h0, h1, hr⟩
 · subst h0; have hs := HS.out; rw [cmpI_eq hr] at hs; subst hs; clear q1; have xX1 := X1.cell; go_wp2
   go_ret
   exact ⟨by first | rfl | simp_all, HB.out⟩
 · have e0 : (K1 == 0) = false := by simpa using h0
   have hs := HS.out; rw [cmpI_gt hr] at hs; subst hs; subst h1; clear q1; have xX1 := X1.cell; go_wp2
   go_ret
   exact ⟨by first | rfl | simp_all, HB.out⟩
 · have e0 : (K1 == 0) = false := by simpa using h0
   have hs := HS.out; rw [cmpI_lt hr] at hs; subst hs; subst h1; clear q1; have xX1 := X1.cell; go_wp2
   go_ret
   exact ⟨by first | rfl | simp_all, HB.out⟩
theorem nNeg {w : World} {D M E : Int} {s : Bool} {r : Int} (hM : LQ M) (hr : -rk D s M E = r) : Calls Tryz.prog 79 #[VQ D s M E] w (PN w r) := by
 delta VQ
 obtain ⟨x, hx⟩ : ∃ x, rk D s M E = x := ⟨_, rfl⟩; rw [hx] at hr; have HX := Lib.hid hx; subst hr; clear hx
 go_enter Tryz.func79, Tryz.ntmps79
 go_upto_region 1 with (fail)
 generalize hW1 : (w.alloc _).alloc _ = w1 at *; obtain ⟨X1, XR, HB⟩ := Bo.en2 hW1; clear hW1; have xX1 := X1.cell
 go_wp2_with fail
 refine (nTaken hM HX.out).mono ?_; rintro ee w2 ⟨K1, s1, M1, E1, rfl, q1, B⟩; clear xX1; replace X1 := X1.below B; replace XR := XR.below B; replace HB := Hqb HB B; clear B; have xX1 := X1.cell; have zX10 := X1.frozen
 go_upto_region 2 with (fail)
 clear xX1 zX10; generalize hS : (((w2.setCell _ _).setCell _ _).setCell _ _).setCell _ _ = w3 at *; have SX := StN.of4 X1 hS; replace XR := XR.stn SX (by omega); replace HB := Hqs HB SX (by omega); replace X1 := SX.box; clear SX hS
 by_cases h0 : K1 = 0
 · subst h0; have hz := q1.zero_iff.1 rfl; subst hz; have xXR := XR.cell; have zXR0 := XR.frozen; have xX1 := X1.cell; go_wp2; clear xXR zXR0 xX1; have SX := StN.mk4 XR (.int .i64 0) (.bool s1) (.int .u64 M1) (.int .i64 E1); exact bodyPost_ret (by simp [results, Tryz.results79, go_sem, SX.box.cell]) rfl ⟨_, _, _, _, rfl, q1, (SX.below HB.out (by omega))⟩
 · have e0 : (K1 == 0) = false := by simpa using h0
   have q2 := rk_neg q1 h0; have xX1 := X1.cell; have zX10 := X1.frozen
   go_upto_region 4 with (fail)
   clear xX1 zX10
   have SX : StN w3 (World.setCell w3 ⟨w.heap.size, 1, none⟩ (.bool (!s1))) _ _ #[.int .i64 K1, .bool (!s1), .int .u64 M1, .int .i64 E1] _ := StN.at4 X1 1 (.bool (!s1))
   replace XR := XR.stn SX (by omega); replace HB := Hqs HB SX (by omega); replace X1 := SX.box; clear SX; generalize World.setCell w3 ⟨w.heap.size, 1, none⟩ (.bool (!s1)) = w4 at *; have xXR := XR.cell; have zXR0 := XR.frozen; have xX1 := X1.cell; go_wp2; clear xXR zXR0 xX1; have SX := StN.mk4 XR (.int .i64 K1) (.bool (!s1)) (.int .u64 M1) (.int .i64 E1)
   exact bodyPost_ret (by simp [results, Tryz.results79, go_sem, SX.box.cell]) rfl ⟨_, _, _, _, rfl, q2, (SX.below HB.out (by omega))⟩
theorem yTaken {w : World} {D M E : Int} {s : Bool} {r : Int} (hM : LQ M) (hr : rk D s M E = r) : Calls Tryz.prog 97 #[VQ D s M E] w (PN w r) := by
 delta VQ
 by_cases hm : MayQ D s M E
 · have HQ := rk_fq hM hm; rw [hr] at HQ
   have HC := Lib.hid (show decide (MayQ D s M E) = true from decide_eq_true hm)
   clear hm hr hM
   go_enter Tryz.func97, Tryz.ntmps97
   go_upto_region 1 with (fail)
   generalize hW1 : (w.alloc _).alloc _ = w1 at *; obtain ⟨X1, XR, HB⟩ := Bo.en2 hW1; clear hW1; have xX1 := X1.cell
   go_wp2_with fail
   refine (yMay HC.out).mono ?_; rintro ee w2 ⟨rfl, B⟩; clear xX1; replace X1 := X1.below B; replace XR := XR.below B; replace HB := Hqb HB B; clear B; have xXR := XR.cell; have zXR0 := XR.frozen; have xX1 := X1.cell; go_wp2; clear xXR zXR0 xX1; have SX := StN.mk4 XR (.int .i64 D) (.bool s) (.int .u64 M) (.int .i64 E)
   exact bodyPost_ret (by simp [results, Tryz.results97, go_sem, SX.box.cell]) rfl ⟨D, s, M, E, rfl, HQ, (SX.below HB.out (by omega))⟩
 · rw [rk_not hm] at hr; subst hr
   have HC := Lib.hid (show decide (MayQ D s M E) = false from decide_eq_false hm)
   clear hm hM
   go_enter Tryz.func97, Tryz.ntmps97
   go_upto_region 1 with (fail)
   generalize hW1 : (w.alloc _).alloc _ = w1 at *; obtain ⟨X1, XR, HB⟩ := Bo.en2 hW1; clear hW1; have xX1 := X1.cell
   go_wp2_with fail
   refine (yMay HC.out).mono ?_; rintro ee w2 ⟨rfl, B⟩; clear xX1; replace X1 := X1.below B; replace XR := XR.below B; replace HB := Hqb HB B; clear B; have xXR := XR.cell; have zXR0 := XR.frozen; have xX1 := X1.cell; go_wp2; clear xXR zXR0 xX1; have SX := StN.mk4 XR (.int .i64 0) (.bool false) (.int .u64 0) (.int .i64 0)
   exact bodyPost_ret (by simp [results, Tryz.results97, go_sem, SX.box.cell]) rfl ⟨_, _, _, _, rfl, Fq.nought, (SX.below HB.out (by omega))⟩
theorem yInf {w : World} {s : Bool} {r : Int} (hr : sgi s TP = r) : Calls Tryz.prog 56 #[.bool s] w (PN w r) := by
 go_enter Tryz.func56, Tryz.ntmps56
 go_upto_region 1 with (fail)
 generalize hW1 : w.alloc _ = w1 at *; obtain ⟨XR, HB⟩ := Bo.en1 hW1; clear hW1; have xXR := XR.cell; have zXR0 := XR.frozen; go_wp2; clear xXR zXR0; have SX := StN.mk4 XR (.int .i64 2) (.bool s) (.int .u64 0) (.int .i64 0); exact bodyPost_ret (v := .agg #[.int .i64 2, .bool s, .int .u64 0, .int .i64 0]) (by simp [results, Tryz.results56, go_sem, SX.box.cell]) rfl ⟨_, _, _, _, rfl, hr ▸ Fq.inf s, (SX.below HB.out (by omega))⟩
theorem ySign {w : World} {D M E : Int} {s : Bool} {σ : Int} (hM : LQ M) (hs : cmpI (rk D s M E) 0 = σ) : Calls Tryz.prog 106 #[VQ D s M E] w (PI w σ) := by
 delta VQ
 obtain ⟨r, hr⟩ : ∃ r, rk D s M E = r := ⟨_, rfl⟩; rw [hr] at hs; have HR := Lib.hid hr; have HS := Lib.hid hs; clear hr hs
 go_enter Tryz.func106, Tryz.ntmps106
 go_upto_region 1 with (fail)
 generalize hW1 : w.alloc _ = w1 at *; obtain ⟨X1, HB⟩ := Bo.en1 hW1; clear hW1; have xX1 := X1.cell
 go_wp2_with fail
 refine (yTaken hM HR.out).mono ?_; rintro ee w2 ⟨K1, s1, M1, E1, rfl, q1, B⟩; clear xX1; replace X1 := X1.below B; replace HB := Hqb HB B; clear B
 go_upto_region 2 with (fail)
 have lX3 := Nat.le_refl (World.heap w2).size; have nX3X1 := X1.lt; generalize hWn : w2.alloc _ = w3 at *; obtain ⟨X3, BW⟩ := Bo.nw hWn; clear hWn; replace X1 := X1.below BW; replace HB := Hqb HB BW; clear BW
 rcases q1.three with ⟨h0, hr⟩ | ⟨h0, h1, hr⟩ | ⟨h0, h1, hr⟩
 · subst h0; have hs := HS.out; rw [cmpI_eq hr] at hs; subst hs; clear q1; have xX3 := X3.cell; go_wp2
   go_ret
   exact ⟨by first | rfl | simp_all, HB.out⟩
 · have e0 : (K1 == 0) = false := by simpa using h0
   have hs := HS.out; rw [cmpI_gt hr] at hs; subst hs; subst h1; clear q1; have xX3 := X3.cell; go_wp2
   go_ret
   exact ⟨by first | rfl | simp_all, HB.out⟩
 · have e0 : (K1 == 0) = false := by simpa using h0
   have hs := HS.out; rw [cmpI_lt hr] at hs; subst hs; subst h1; clear q1; have xX3 := X3.cell; go_wp2
   go_ret
   exact ⟨by first | rfl | simp_all, HB.out⟩
theorem compare64_any (x y : Int) (w : World) : Calls Tryz.prog 121 #[.int .u64 x, .int .u64 y] w fun e w' => e = .returned (.int .i64 (cmpI x y)) ∧ w = w' := by
 go_enter Tryz.func121, Tryz.ntmps121
 go_wp2
 all_goals go_ret
 · exact ⟨ret_int (cmpI_lt (by assumption)).symm, rfl⟩
 · exact ⟨ret_int (cmpI_gt (by assumption)).symm, rfl⟩
 · exact ⟨ret_int (cmpI_eq (by omega)).symm, rfl⟩
theorem vCmpI {x y z : Int} (w : World) (h : cmpI x y = z) : Calls Tryz.prog 86 #[.int .i64 x, .int .i64 y] w (PI w z) := by
 subst h; refine (compareInt_any x y w).mono ?_; rintro e w' ⟨rfl, rfl⟩; exact ⟨rfl, Below.refl _ _⟩
theorem vCmpU {x y z : Int} (w : World) (h : cmpI x y = z) : Calls Tryz.prog 121 #[.int .u64 x, .int .u64 y] w (PI w z) := by
 subst h; refine (compare64_any x y w).mono ?_; rintro e w' ⟨rfl, rfl⟩; exact ⟨rfl, Below.refl _ _⟩
theorem nFar {w : World} {D D' M M' E E' : Int} {s s' : Bool} {r : Int} (hr : fa D M E D' M' E' = r) : Calls Tryz.prog 87 #[VQ D s M E, VQ D' s' M' E'] w (PI w r) := by
 delta VQ
 unfold fa at hr
 by_cases hk : D ≠ D'
 · rw [if_pos hk] at hr
   have e0 : (D == D') = false := by simpa using hk
   have HR := Lib.hid hr; clear hr hk
   go_enter Tryz.func87, Tryz.ntmps87
   go_upto_region 1 with (fail)
   generalize hW1 : (w.alloc _).alloc _ = w1 at *; obtain ⟨X1, X2, HB⟩ := Bo.en2 hW1; clear hW1; have xX1 := X1.cell; have xX2 := X2.cell
   go_wp2_with fail
   refine (vCmpI _ HR.out).mono ?_; rintro ee w2 ⟨rfl, B⟩; clear xX1 xX2; replace X1 := X1.below B; replace X2 := X2.below B; replace HB := Hqb HB B; clear B; go_wp2
   go_ret
   exact ⟨rfl, HB.out⟩
 · rw [if_neg hk] at hr
   obtain rfl : D = D' := Decidable.not_not.1 hk
   clear hk
   by_cases he : E ≠ E'
   · rw [if_pos he] at hr
     have e0 : (E == E') = false := by simpa using he
     have HR := Lib.hid hr; clear hr he
     go_enter Tryz.func87, Tryz.ntmps87
     go_upto_region 1 with (fail)
     generalize hW1 : (w.alloc _).alloc _ = w1 at *; obtain ⟨X1, X2, HB⟩ := Bo.en2 hW1; clear hW1; have xX1 := X1.cell; have xX2 := X2.cell
     go_wp2_with fail
     refine (vCmpI _ HR.out).mono ?_; rintro ee w2 ⟨rfl, B⟩; clear xX1 xX2; replace X1 := X1.below B; replace X2 := X2.below B; replace HB := Hqb HB B; clear B; go_wp2
     go_ret
     exact ⟨rfl, HB.out⟩
   · rw [if_neg he] at hr
     obtain rfl : E = E' := Decidable.not_not.1 he
     have HR := Lib.hid hr; clear hr he
     go_enter Tryz.func87, Tryz.ntmps87
     go_upto_region 1 with (fail)
     generalize hW1 : (w.alloc _).alloc _ = w1 at *; obtain ⟨X1, X2, HB⟩ := Bo.en2 hW1; clear hW1; have xX1 := X1.cell; have xX2 := X2.cell
     go_wp2_with fail
     refine (vCmpU _ HR.out).mono ?_; rintro ee w2 ⟨rfl, B⟩; clear xX1 xX2; replace X1 := X1.below B; replace X2 := X2.below B; replace HB := Hqb HB B; clear B; go_wp2
     go_ret
     exact ⟨rfl, HB.out⟩
theorem nCmp {w : World} {D D' M M' E E' : Int} {s s' : Bool} {z : Int} (hM : LQ M) (hM' : LQ M') (hz : cmpI (rk D s M E) (rk D' s' M' E') = z) : Calls Tryz.prog 59 #[VQ D s M E, VQ D' s' M' E'] w (PI w z) := by
 delta VQ
 have hs := cmp_sign (x := rk D s M E) (y := rk D' s' M' E'); have hf := cmp_far (K := D) (s := s) (E := E) (K' := D') (s' := s') (E' := E') hM hM'; have b1 := fa_bd D M E D' M' E'; have b2 := cmpI_bd (rk D s M E) 0
 revert hs hf b1 b2
 generalize hσ : cmpI (rk D s M E) 0 = σ; generalize hτ : cmpI (rk D' s' M' E') 0 = τ; generalize hφ : fa D M E D' M' E' = φ; rw [hz]
 intro hs hf b1 b2
 have HS := Lib.hid hσ; have HT := Lib.hid hτ; have HF := Lib.hid hφ; clear hσ hτ hφ hz
 by_cases he : σ ≠ τ
 · have e0 : (σ == τ) = false := by simpa using he
   have HZ := Lib.hid (hs he); clear hs hf he b1 b2
   go_enter Tryz.func59, Tryz.ntmps59
   go_upto_region 1 with (fail)
   generalize hW1 : (w.alloc _).alloc _ = w1 at *; obtain ⟨X1, X2, HB⟩ := Bo.en2 hW1; clear hW1; refine Jo.rk [0, 1, 2, 3, 4, 5] [some 7, some 8, some 9, some 10, some 5, some 6] [[], [0], [], [2], [1], [3]] 6 0 [Jo.q4 D s M E, Jo.qi σ, Jo.q4 D' s' M' E', Jo.qi τ, Jo.qi σ, Jo.qi τ] (by kernel_rfl) (by kernel_rfl) (by decide) rfl ?_ ?_
   · refine Jo.jm rfl ?_ ?_; rotate_left
     refine Jo.jm rfl ?_ ?_
     · rintro wj hJ _ rfl K hK; simp only [Jo.z] at hK ⊢; go_simp; refine (nSign hM HS.out).mono ?_; rintro ee wk ⟨rfl, B⟩; exact hK.out _ _ rfl B
     refine Jo.jm rfl ?_ ?_; rotate_left
     refine Jo.jm rfl ?_ ?_
     · rintro wj hJ _ rfl K hK; simp only [Jo.z] at hK ⊢; go_simp; refine (nSign hM' HT.out).mono ?_; rintro ee wk ⟨rfl, B⟩; exact hK.out _ _ rfl B
     iterate 2 (refine Jo.jm rfl ?_ ?_; rotate_left)
     exact Jo.Steps.nil
     all_goals (rintro wj hJ; (repeat rintro _ rfl); intro K hK; simp only [Jo.z] at hK ⊢; have xX1 := (X1.below hJ).cell; have xX2 := (X2.below hJ).cell; go_simp; exact hK.out _ _ rfl (br _ _))
   rintro w2 hJ _ rfl _ rfl _ rfl _ rfl _ rfl _ rfl -; simp only [Jo.z]; replace X1 := X1.below hJ; replace X2 := X2.below hJ; replace HB := Hqb HB hJ; refine Jo.jdone (by kernel_rfl) ?_
   go_wp2_with fail
   refine (vCmpI _ HZ.out).mono ?_; rintro ee w3 ⟨rfl, B⟩; replace X1 := X1.below B; replace X2 := X2.below B; replace HB := Hqb HB B; clear B; go_wp2
   go_ret
   exact ⟨rfl, HB.out⟩
 · obtain rfl : σ = τ := Decidable.not_not.1 he
   have HZ := Lib.hid (hf rfl)
   have HW : Hid (IntKind.i64.wrap (σ * φ) = z) := Lib.hid (by
     rw [hf rfl]; refine IntWalk.i64_in _ ?_; rw [← hf rfl]
     rcases (show σ = -1 ∨ σ = 0 ∨ σ = 1 by omega) with h | h | h <;> rw [h] <;> omega)
   clear hs hf he b1 b2
   go_enter Tryz.func59, Tryz.ntmps59
   go_upto_region 1 with (fail)
   generalize hW1 : (w.alloc _).alloc _ = w1 at *; obtain ⟨X1, X2, HB⟩ := Bo.en2 hW1; clear hW1; refine Jo.rk [0, 1, 2, 3, 4, 5] [some 7, some 8, some 9, some 10, some 5, some 6] [[], [0], [], [2], [1], [3]] 6 0 [Jo.q4 D s M E, Jo.qi σ, Jo.q4 D' s' M' E', Jo.qi σ, Jo.qi σ, Jo.qi σ] (by kernel_rfl) (by kernel_rfl) (by decide) rfl ?_ ?_
   · refine Jo.jm rfl ?_ ?_; rotate_left
     refine Jo.jm rfl ?_ ?_
     · rintro wj hJ _ rfl K hK; simp only [Jo.z] at hK ⊢; go_simp; refine (nSign hM HS.out).mono ?_; rintro ee wk ⟨rfl, B⟩; exact hK.out _ _ rfl B
     refine Jo.jm rfl ?_ ?_; rotate_left
     refine Jo.jm rfl ?_ ?_
     · rintro wj hJ _ rfl K hK; simp only [Jo.z] at hK ⊢; go_simp; refine (nSign hM' HT.out).mono ?_; rintro ee wk ⟨rfl, B⟩; exact hK.out _ _ rfl B
     iterate 2 (refine Jo.jm rfl ?_ ?_; rotate_left)
     exact Jo.Steps.nil
     all_goals (rintro wj hJ; (repeat rintro _ rfl); intro K hK; simp only [Jo.z] at hK ⊢; have xX1 := (X1.below hJ).cell; have xX2 := (X2.below hJ).cell; go_simp; exact hK.out _ _ rfl (br _ _))
   rintro w2 hJ _ rfl _ rfl _ rfl _ rfl _ rfl _ rfl -; simp only [Jo.z]; replace X1 := X1.below hJ; replace X2 := X2.below hJ; replace HB := Hqb HB hJ; refine Jo.jdone (by kernel_rfl) ?_; have xX1 := X1.cell; have xX2 := X2.cell
   go_wp2_with fail
   refine (nFar HF.out).mono ?_; rintro ee w3 ⟨rfl, B⟩; clear xX1 xX2; replace X1 := X1.below B; replace X2 := X2.below B; replace HB := Hqb HB B; clear B; have hw := HW.out; go_wp2
   go_ret
   exact ⟨rfl, HB.out⟩
theorem yCmp {w : World} {D D' M M' E E' : Int} {s s' : Bool} {z : Int} (hM : LQ M) (hM' : LQ M') (hz : cmpI (rk D s M E) (rk D' s' M' E') = z) : Calls Tryz.prog 96 #[VQ D s M E, VQ D' s' M' E'] w (PI w z) := by
 delta VQ
 obtain ⟨r, hr⟩ : ∃ r, rk D s M E = r := ⟨_, rfl⟩; obtain ⟨r', hr'⟩ : ∃ r, rk D' s' M' E' = r := ⟨_, rfl⟩; rw [hr, hr'] at hz; have hs := cmp_sign (x := r) (y := r'); obtain ⟨σ, hσ⟩ : ∃ x, cmpI r 0 = x := ⟨_, rfl⟩; obtain ⟨τ, hτ⟩ : ∃ x, cmpI r' 0 = x := ⟨_, rfl⟩; rw [hσ, hτ, hz] at hs; have HS := Lib.hid hσ; have HT := Lib.hid hτ; have HR := Lib.hid hr
 have HR' := Lib.hid hr'
 have HZ := Lib.hid hz; have HQ := Lib.hid hs; clear hr hr' hσ hτ hz hs
 go_enter Tryz.func96, Tryz.ntmps96
 go_upto_region 1 with (fail)
 generalize hW1 : (w.alloc _).alloc _ = w1 at *; obtain ⟨X1, X2, HB⟩ := Bo.en2 hW1; clear hW1; have xX1 := X1.cell
 go_wp2_with fail
 refine (yTaken hM HR.out).mono ?_; rintro ee w2 ⟨K1, s1, M1, E1, rfl, q1, B⟩; clear xX1; replace X1 := X1.below B; replace X2 := X2.below B; replace HB := Hqb HB B; clear B
 go_upto_region 2 with (fail)
 have lX5 := Nat.le_refl (World.heap w2).size; have nX5X1 := X1.lt; have nX5X2 := X2.lt; generalize hWn : w2.alloc _ = w3 at *; obtain ⟨X5, BW⟩ := Bo.nw hWn; clear hWn; replace X1 := X1.below BW; replace X2 := X2.below BW; replace HB := Hqb HB BW; clear BW; have xX2 := X2.cell
 go_wp2_with fail
 refine (yTaken hM' HR'.out).mono ?_; rintro ee w4 ⟨K2, s2, M2, E2, rfl, q2, B⟩; clear xX2; replace X1 := X1.below B; replace X2 := X2.below B; replace X5 := X5.below B; replace HB := Hqb HB B; clear B
 go_upto_region 3 with (fail)
 have lX6 := Nat.le_refl (World.heap w4).size; have nX6X1 := X1.lt; have nX6X2 := X2.lt; have nX6X5 := X5.lt; generalize hWn : w4.alloc _ = w5 at *; obtain ⟨X6, BW⟩ := Bo.nw hWn; clear hWn; replace X1 := X1.below BW; replace X2 := X2.below BW; replace X5 := X5.below BW; replace HB := Hqb HB BW; clear BW; clear lX5 lX6; have hs1 := HS.out; rw [← q1.rk] at hs1; have hs2 := HT.out; rw [← q2.rk] at hs2
 have HS1 := Lib.hid hs1; have HS2 := Lib.hid hs2; clear hs1 hs2; have xX5 := X5.cell
 go_wp2_with fail
 refine (ySign q1.top HS1.out).mono ?_; rintro ee w6 ⟨rfl, B⟩; clear xX5; replace X5 := X5.below B; replace X6 := X6.below B; replace HB := Hqb HB B; clear B; have xX6 := X6.cell
 go_wp2_with fail
 refine (ySign q2.top HS2.out).mono ?_; rintro ee w7 ⟨rfl, B⟩; clear xX6; replace X5 := X5.below B; replace X6 := X6.below B; replace HB := Hqb HB B; clear B; clear HS1 HS2
 by_cases he : σ ≠ τ
 · have e0 : (σ == τ) = false := by simpa using he
   have h1 := HQ.out he
   rcases cmpI_tri σ τ with ⟨a1, a2⟩ | ⟨a1, a2⟩ | ⟨a1, a2⟩
   · obtain rfl : -1 = z := a2.symm.trans h1
     go_wp2
     go_ret
     exact ⟨rfl, HB.out⟩
   · exact absurd a1 he
   · obtain rfl : 1 = z := a2.symm.trans h1
     go_wp2
     go_ret
     exact ⟨rfl, HB.out⟩
 · obtain rfl : σ = τ := Decidable.not_not.1 he
   by_cases h0 : σ = 0
   · subst h0
     obtain rfl : 0 = z := by
       have h1 := cmpI_zero.1 HS.out; have h2 := cmpI_zero.1 HT.out; rw [← HZ.out, h1, h2]; rfl
     go_wp2
     go_ret
     exact ⟨rfl, HB.out⟩
   · have e0 : (σ == 0) = false := by simpa using h0
     have k1 : K1 ≠ 0 := fun e => h0 (by rw [← HS.out, q1.zero_iff.1 e]; rfl)
     have k2 : K2 ≠ 0 := fun e => h0 (by rw [← HT.out, q2.zero_iff.1 e]; rfl)
     have hst : s1 = s2 := by
       have e1 := q1.sign k1; have e2 := q2.sign k2; rw [HS.out] at e1; rw [HT.out, e1] at e2
       cases s1 <;> cases s2 <;> first | rfl | exact absurd e2 (by decide)
     subst hst; have hf := fa_fq q1 q2 k1 k2; rw [HS.out, HZ.out] at hf
     have hσ : σ = -1 ∨ σ = 1 := by
       have := cmpI_bd r 0
       rw [HS.out] at this
       omega
     by_cases hrr : r = r'
     · subst hrr; obtain ⟨rfl, -, rfl, rfl⟩ := q1.uniq q2
       obtain rfl : 0 = z := by rw [← HZ.out, cmpI_eq rfl]
       have xX5 := X5.cell; have xX6 := X6.cell; go_wp2
       go_ret
       exact ⟨rfl, HB.out⟩
     · have HW : Hid (IntKind.i64.wrap (-σ) = -σ) := Lib.hid (IntWalk.i64_in _ (by omega))
       clear hσ
       unfold fa at hf
       clear HS HT HQ HZ
       rcases q1.plc k1 with ⟨rfl, h1, h2, h3, h4, h5⟩ | ⟨rfl, rfl, rfl, h5⟩ <;> rcases q2.plc k2 with ⟨rfl, g1, g2, g3, g4, g5⟩ | ⟨rfl, rfl, rfl, g5⟩
       · rw [if_neg (by decide)] at hf; clear h1 h2 h3 h4 h5 g1 g2 g3 g4 g5
         rcases cmpI_tri E1 E2 with ⟨a1, a2⟩ | ⟨a1, a2⟩ | ⟨a1, a2⟩
         · rw [if_pos (by omega), a2] at hf
           have e2 : decide (E2 < E1) = false := decide_eq_false (by omega)
           have e3 : (E1 == E2) = false := by
             have : E1 ≠ E2 := by omega
             simpa using this
           obtain rfl : -σ = z := by omega
           have hw := HW.out; clear hf; have xX5 := X5.cell; have xX6 := X6.cell; go_wp2
           go_ret
           exact ⟨rfl, HB.out⟩
         · obtain rfl : E1 = E2 := a1
           rw [if_neg (by simp)] at hf
           rcases cmpI_tri M1 M2 with ⟨b1, b2⟩ | ⟨b1, b2⟩ | ⟨b1, b2⟩
           · rw [b2] at hf
             have e2 : decide (M2 < M1) = false := decide_eq_false (by omega)
             obtain rfl : -σ = z := by omega
             have hw := HW.out; clear hf; have xX5 := X5.cell; have xX6 := X6.cell; go_wp2
             go_ret
             exact ⟨rfl, HB.out⟩
           · exact absurd (q1.2.2.symm.trans (b1 ▸ q2.2.2)) hrr
           · rw [b2] at hf
             have e2 : decide (M2 < M1) = true := decide_eq_true b1
             rw [Int.mul_one] at hf; subst hf; have xX5 := X5.cell; have xX6 := X6.cell; go_wp2
             go_ret
             exact ⟨rfl, HB.out⟩
         · rw [if_pos (by omega), a2] at hf
           have e2 : decide (E2 < E1) = true := decide_eq_true a1
           rw [Int.mul_one] at hf; subst hf; have xX5 := X5.cell; have xX6 := X6.cell; go_wp2
           go_ret
           exact ⟨rfl, HB.out⟩
       · rw [if_pos (by decide), cmpI_lt (by decide)] at hf; clear h1 h2 h3 h4 h5 g5
         obtain rfl : -σ = z := by omega
         have hw := HW.out; clear hf; have xX5 := X5.cell; have xX6 := X6.cell; go_wp2
         go_ret
         exact ⟨rfl, HB.out⟩
       · rw [if_pos (by decide), cmpI_gt (by decide)] at hf; clear g1 g2 g3 g4 g5 h5; rw [Int.mul_one] at hf; subst hf; have xX5 := X5.cell; have xX6 := X6.cell; go_wp2
         go_ret
         exact ⟨rfl, HB.out⟩
       · exact absurd (q1.2.2.symm.trans q2.2.2) hrr
end Go.Proofs.YtnbliijpjcmbjaaGreatDoor

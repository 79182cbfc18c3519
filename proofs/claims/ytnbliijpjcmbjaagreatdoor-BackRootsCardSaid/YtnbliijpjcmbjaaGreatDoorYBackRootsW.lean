/-
  The walk of BackRoots: for all arguments the call answers true, and nothing that was there has turned.
-/
import Derived.Test.YtnbliijpjcmbjaaGreatDoorYCbj
import Derived.Test.YtnbliijpjcmbjaaGreatDoorYCbk
namespace Go.Proofs.YtnbliijpjcmbjaaGreatDoor
open Go.RowKit
set_option linter.unusedVariables false
set_option linter.unusedSimpArgs false
set_option maxRecDepth 100000
set_option maxHeartbeats 8000000 in
theorem backRoots_main (e0 : Bool) (D0 : Int) (s0 : Bool) (M0 E0 G0 : Int) (g0 : Bool) (P0 Q0 : Int) (e1 : Bool) (D1 : Int) (s1 : Bool) (M1 E1 G1 : Int) (g1 : Bool) (P1 Q1 : Int) (w : World) (z x a b c : Sp) {q : Bool → Int → Int → Int} (hq : QF q) {r : Bool → Int → Int} (hr : RF r) (hT : Tab w) (hT2 : Tb w) (u0 : LQ M0) (v0 : LQ P0) (u1 : LQ M1) (v1 : LQ P1) (hz : rkI e0 D0 s0 M0 E0 G0 g0 P0 Q0 = z) (hx : rkI e1 D1 s1 M1 E1 G1 g1 P1 Q1 = x) (h1 : sqrB r z x = a) (h2 : rootB z x = b) (h3 : meetI x (negI z) = c) :
   Calls Tryz.prog 5 #[VI e0 D0 s0 M0 E0 G0 g0 P0 Q0, VI e1 D1 s1 M1 E1 G1 g1 P1 Q1] w (PB w true) := by
 delta VI
 have HZ := Lib.hid hz; have HX := Lib.hid hx; have H1 := Lib.hid h1; have H2 := Lib.hid h2; have H3 := Lib.hid h3; have HQ := Lib.hid hq; have HRR := Lib.hid hr; clear hz hx h1 h2 h3 hq hr
 go_enter Tryz.func5, Tryz.ntmps5
 go_upto_region 1 with (fail)
 generalize hW1 : (w.alloc _).alloc _ = w1 at *; obtain ⟨X0, X1, HB⟩ := Bo.en2 hW1; replace hT := hT.below HB.out; replace hT2 := hT2.below HB.out; clear hW1
 go_wp2_with fail
 refine (awake10 hT hT2 HRR.out).mono ?_; rintro ee w2 ⟨rfl, B⟩; replace X0 := X0.below B; replace X1 := X1.below B; replace hT := hT.below B; replace hT2 := hT2.below B; replace HB := Hqb HB B; clear B
 go_upto_region 2 with (fail)
 refine Jo.rk [0, 1, 2, 3, 4, 5, 6, 7, 8, 9, 10, 11, 12, 13, 14, 15, 16, 17, 18, 19, 20, 21, 22, 23, 24, 25, 26, 27, 28] [some 7, some 8, some 9, some 10, some 11, some 12, some 13, some 14, some 15, some 16, some 17, some 18, some 19, some 20, some 21, some 22, some 23, some 24, some 25, some 26, some 27, some 28, some 29, some 30, some 31, some 32, some 33, some 34, some 4] [[], [0], [1], [1], [1, 2, 3], [1], [1], [1, 5, 6], [1, 4, 7], [1, 8], [9], [10], [10], [10, 11, 12], [10], [10], [10, 14, 15], [10, 13, 16], [10, 17], [18], [19], [19], [19, 20, 21], [19], [19], [19, 23, 24], [19, 22, 25], [19, 26], [27]] 29 0 [Jo.qb true, Jo.qb true, Jo.q9 e0 D0 s0 M0 E0 G0 g0 P0 Q0, Jo.q9 e1 D1 s1 M1 E1 G1 g1 P1 Q1, Jo.Fact.iv a, Jo.q9 e0 D0 s0 M0 E0 G0 g0 P0 Q0, Jo.q9 e1 D1 s1 M1 E1 G1 g1 P1 Q1, Jo.Fact.iv a, Jo.qb true, Jo.qb true, Jo.qb true, Jo.q9 e0 D0 s0 M0 E0 G0 g0 P0 Q0, Jo.q9 e1 D1 s1 M1 E1 G1 g1 P1 Q1, Jo.Fact.iv b, Jo.q9 e0 D0 s0 M0 E0 G0 g0 P0 Q0, Jo.q9 e1 D1 s1 M1 E1 G1 g1 P1 Q1, Jo.Fact.iv b, Jo.qb true, Jo.qb true, Jo.qb true, Jo.q9 e0 D0 s0 M0 E0 G0 g0 P0 Q0, Jo.q9 e1 D1 s1 M1 E1 G1 g1 P1 Q1, Jo.Fact.iv c, Jo.q9 e0 D0 s0 M0 E0 G0 g0 P0 Q0, Jo.q9 e1 D1 s1 M1 E1 G1 g1 P1 Q1, Jo.Fact.iv c, Jo.qb true, Jo.qb true, Jo.qb true] (by kernel_rfl) (by kernel_rfl) (by decide) rfl ?_ ?_
 · iterate 4 (refine Jo.jm rfl ?_ ?_; rotate_left)
   refine Jo.jm rfl ?_ ?_
   · rintro wj hJ _ rfl _ rfl _ rfl K hK; simp only [Jo.z] at hK ⊢; go_simp; refine (bkSqr (hT.below hJ) HRR.out u0 v0 u1 v1 HZ.out HX.out H1.out).mono ?_; rintro ee wk ⟨e20, K20, s20, M20, E20, K20b, s20b, M20b, E20b, rfl, v20, B⟩; exact hK.out _ _ ⟨e20, K20, s20, M20, E20, K20b, s20b, M20b, E20b, rfl, v20⟩ B
   iterate 2 (refine Jo.jm rfl ?_ ?_; rotate_left)
   refine Jo.jm rfl ?_ ?_
   · rintro wj hJ _ rfl _ rfl _ rfl K hK; simp only [Jo.z] at hK ⊢; go_simp; refine (bwSqr HRR.out u0 v0 u1 v1 HZ.out HX.out H1.out).mono ?_; rintro ee wk ⟨e21, K21, s21, M21, E21, K21b, s21b, M21b, E21b, rfl, v21, B⟩; exact hK.out _ _ ⟨e21, K21, s21, M21, E21, K21b, s21b, M21b, E21b, rfl, v21⟩ B
   refine Jo.jm rfl ?_ ?_
   · rintro wj hJ _ rfl _ ⟨e20, K20, s20, M20, E20, K20b, s20b, M20b, E20b, rfl, v20⟩ _ ⟨e21, K21, s21, M21, E21, K21b, s21b, M21b, E21b, rfl, v21⟩ K hK; simp only [Jo.z] at hK ⊢; obtain ⟨rfl, rfl, rfl, rfl, rfl, rfl, rfl, rfl, rfl⟩ := v20.uniq v21; go_simp
     exact hK.out _ _ (by first | rfl | (show Value.bool _ = Value.bool _; simp)) (br _ _)
   iterate 4 (refine Jo.jm rfl ?_ ?_; rotate_left)
   refine Jo.jm rfl ?_ ?_
   · rintro wj hJ _ rfl _ rfl _ rfl K hK; simp only [Jo.z] at hK ⊢; go_simp; refine (bkRoot u0 v0 u1 v1 HZ.out HX.out H2.out).mono ?_; rintro ee wk ⟨e22, K22, s22, M22, E22, K22b, s22b, M22b, E22b, rfl, v22, B⟩; exact hK.out _ _ ⟨e22, K22, s22, M22, E22, K22b, s22b, M22b, E22b, rfl, v22⟩ B
   iterate 2 (refine Jo.jm rfl ?_ ?_; rotate_left)
   refine Jo.jm rfl ?_ ?_
   · rintro wj hJ _ rfl _ rfl _ rfl K hK; simp only [Jo.z] at hK ⊢; go_simp; refine (bwRoot u0 v0 u1 v1 HZ.out HX.out H2.out).mono ?_; rintro ee wk ⟨e23, K23, s23, M23, E23, K23b, s23b, M23b, E23b, rfl, v23, B⟩; exact hK.out _ _ ⟨e23, K23, s23, M23, E23, K23b, s23b, M23b, E23b, rfl, v23⟩ B
   refine Jo.jm rfl ?_ ?_
   · rintro wj hJ _ rfl _ ⟨e22, K22, s22, M22, E22, K22b, s22b, M22b, E22b, rfl, v22⟩ _ ⟨e23, K23, s23, M23, E23, K23b, s23b, M23b, E23b, rfl, v23⟩ K hK; simp only [Jo.z] at hK ⊢; obtain ⟨rfl, rfl, rfl, rfl, rfl, rfl, rfl, rfl, rfl⟩ := v22.uniq v23; go_simp
     exact hK.out _ _ (by first | rfl | (show Value.bool _ = Value.bool _; simp)) (br _ _)
   iterate 4 (refine Jo.jm rfl ?_ ?_; rotate_left)
   refine Jo.jm rfl ?_ ?_
   · rintro wj hJ _ rfl _ rfl _ rfl K hK; simp only [Jo.z] at hK ⊢; go_simp; refine (bkNeg u0 v0 u1 v1 HZ.out HX.out H3.out).mono ?_; rintro ee wk ⟨e24, K24, s24, M24, E24, K24b, s24b, M24b, E24b, rfl, v24, B⟩; exact hK.out _ _ ⟨e24, K24, s24, M24, E24, K24b, s24b, M24b, E24b, rfl, v24⟩ B
   iterate 2 (refine Jo.jm rfl ?_ ?_; rotate_left)
   refine Jo.jm rfl ?_ ?_
   · rintro wj hJ _ rfl _ rfl _ rfl K hK; simp only [Jo.z] at hK ⊢; go_simp; refine (bwNeg u0 v0 u1 v1 HZ.out HX.out H3.out).mono ?_; rintro ee wk ⟨e25, K25, s25, M25, E25, K25b, s25b, M25b, E25b, rfl, v25, B⟩; exact hK.out _ _ ⟨e25, K25, s25, M25, E25, K25b, s25b, M25b, E25b, rfl, v25⟩ B
   refine Jo.jm rfl ?_ ?_
   · rintro wj hJ _ rfl _ ⟨e24, K24, s24, M24, E24, K24b, s24b, M24b, E24b, rfl, v24⟩ _ ⟨e25, K25, s25, M25, E25, K25b, s25b, M25b, E25b, rfl, v25⟩ K hK; simp only [Jo.z] at hK ⊢; obtain ⟨rfl, rfl, rfl, rfl, rfl, rfl, rfl, rfl, rfl⟩ := v24.uniq v25; go_simp
     exact hK.out _ _ (by first | rfl | (show Value.bool _ = Value.bool _; simp)) (br _ _)
   iterate 2 (refine Jo.jm rfl ?_ ?_; rotate_left)
   exact Jo.Steps.nil
   all_goals (rintro wj hJ; (repeat rintro _ rfl); intro K hK; simp only [Jo.z] at hK ⊢; have xX0 := (X0.below hJ).cell; have xX1 := (X1.below hJ).cell; go_simp; exact hK.out _ _ rfl (br _ _))
 rintro w3 hJ _ rfl _ rfl _ rfl _ rfl _ ⟨e20, K20, s20, M20, E20, K20b, s20b, M20b, E20b, rfl, v20⟩ _ rfl _ rfl _ ⟨e21, K21, s21, M21, E21, K21b, s21b, M21b, E21b, rfl, v21⟩ _ rfl _ rfl _ rfl _ rfl _ rfl _ ⟨e22, K22, s22, M22, E22, K22b, s22b, M22b, E22b, rfl, v22⟩ _ rfl _ rfl _ ⟨e23, K23, s23, M23, E23, K23b, s23b, M23b, E23b, rfl, v23⟩ _ rfl _ rfl _ rfl _ rfl _ rfl _ ⟨e24, K24, s24, M24, E24, K24b, s24b, M24b, E24b, rfl, v24⟩ _ rfl _ rfl _ ⟨e25, K25, s25, M25, E25, K25b, s25b, M25b, E25b, rfl, v25⟩ _ rfl _ rfl _ rfl -
 simp only [Jo.z]; replace X0 := X0.below hJ; replace X1 := X1.below hJ; replace hT := hT.below hJ; replace hT2 := hT2.below hJ; replace HB := Hqb HB hJ; refine Jo.jdone (by kernel_rfl) ?_; go_wp2
 go_ret
 exact ⟨rfl, HB.out⟩
theorem backRoots_walk (e0 : Bool) (D0 : Int) (s0 : Bool) (M0 E0 G0 : Int) (g0 : Bool) (P0 Q0 : Int) (e1 : Bool) (D1 : Int) (s1 : Bool) (M1 E1 G1 : Int) (g1 : Bool) (P1 Q1 : Int) (w : World) (hT : Tab w) (hT2 : Tb w) (u0 : LQ M0) (v0 : LQ P0) (u1 : LQ M1) (v1 : LQ P1) :
   Calls Tryz.prog 5 #[VI e0 D0 s0 M0 E0 G0 g0 P0 Q0, VI e1 D1 s1 M1 E1 G1 g1 P1 Q1] w fun e w' => e = .returned (.bool true) ∧ Below w.heap.size w w' := by
 delta VI
 obtain ⟨q, hq⟩ := qf_ex; obtain ⟨r, hr⟩ := rf_ex; exact backRoots_main e0 D0 s0 M0 E0 G0 g0 P0 Q0 e1 D1 s1 M1 E1 G1 g1 P1 Q1 w _ _ _ _ _ hq hr hT hT2 u0 v0 u1 v1 rfl rfl rfl rfl rfl
end Go.Proofs.YtnbliijpjcmbjaaGreatDoor

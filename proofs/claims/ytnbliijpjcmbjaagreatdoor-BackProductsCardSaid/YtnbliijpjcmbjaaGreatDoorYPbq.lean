/-
 Contracts that the proof rests on.
-/
import Derived.Test.YtnbliijpjcmbjaaGreatDoorYPbo
import Derived.Test.YtnbliijpjcmbjaaGreatDoorYPbp
namespace Go.Proofs.YtnbliijpjcmbjaaGreatDoor
set_option maxHeartbeats 8000000
open Go.RowKit
set_option linter.unusedVariables false
set_option linter.unusedSimpArgs false
set_option maxRecDepth 100000
theorem fin_one10 {K M E r : Int} {s : Bool} (q : Fq K s M E r) (h0 : r ≠ 0) (h1 : -19342822337206103650074625 < r) (h2 : r < 19342822337206103650074625) : K = 1 := by
 rcases q.cases with ⟨rfl, rfl, rfl, rfl, h⟩ | ⟨rfl, _⟩ | ⟨rfl, rfl, rfl, ⟨rfl, h⟩ | ⟨rfl, h⟩⟩
 · omega
 · rfl
 · omega
 · omega
theorem Zi.all10 {a b : Int} (h1 : -9223372036854775807 ≤ a) (h : a ≤ b) (h2 : b ≤ 9223372036854775807) : mkI (opl a) (opl b) = Zi a b := (Zi.mk h1 h h2).1
theorem awake10 {w : World} {r : Bool → Int → Int} (hT : Tab w) (hT2 : Tb w) (hr : RF r) : Calls Tryz.prog 10 #[] w (PB w true) := by
 obtain ⟨hp1, hp2⟩ := aw10_plus; have hs := aw10_sqr hr
 have n3 : opl (-3) ≠ 0 ∧ -19342822337206103650074625 < opl (-3) ∧ opl (-3) < 19342822337206103650074625 := ⟨opl_nz (by decide) (by decide) (by decide), opl_fin (by decide) (by decide)⟩
 have hw : Zi (-3) (-2) = some (opl (-3), opl (-2)) := rfl
 have mx1 := Zi.all10 (a := 3) (b := 3) (by decide) (by decide) (by decide); have mx2 := Zi.all10 (a := 0) (b := 5) (by decide) (by decide) (by decide); have mx3 := Zi.all10 (a := 1) (b := 1) (by decide) (by decide) (by decide); have mx4 := Zi.all10 (a := 2) (b := 2) (by decide) (by decide) (by decide); have mx5 := Zi.all10 (a := 4) (b := 9) (by decide) (by decide) (by decide); have mx6 := Zi.all10 (a := (-5)) (b := 0) (by decide) (by decide) (by decide)
 have mx7 := Zi.all10 (a := (-3)) (b := (-2)) (by decide) (by decide) (by decide)
 have ei0 : sgi (decide ((0 : Int) < 0)) (lo (0 : Int).natAbs 0) = opl 0 := rfl
 have ei1 : sgi (decide ((1 : Int) < 0)) (lo (1 : Int).natAbs 0) = opl 1 := rfl
 have ei2 : sgi (decide ((2 : Int) < 0)) (lo (2 : Int).natAbs 0) = opl 2 := rfl
 have ei3 : sgi (decide ((3 : Int) < 0)) (lo (3 : Int).natAbs 0) = opl 3 := rfl
 have ei4 : sgi (decide ((4 : Int) < 0)) (lo (4 : Int).natAbs 0) = opl 4 := rfl
 have ei5 : sgi (decide ((5 : Int) < 0)) (lo (5 : Int).natAbs 0) = opl 5 := rfl
 have ei9 : sgi (decide ((9 : Int) < 0)) (lo (9 : Int).natAbs 0) = opl 9 := rfl
 have eim5 : sgi (decide (((-5) : Int) < 0)) (lo ((-5) : Int).natAbs 0) = opl (-5) := rfl
 have eim3 : sgi (decide (((-3) : Int) < 0)) (lo ((-3) : Int).natAbs 0) = opl (-3) := rfl
 have eim2 : sgi (decide (((-2) : Int) < 0)) (lo ((-2) : Int).natAbs 0) = opl (-2) := rfl
 generalize opl 0 = i0 at *; generalize opl 1 = i1 at *; generalize opl 2 = i2 at *; generalize opl 3 = i3 at *; generalize opl 4 = i4 at *; generalize opl 5 = i5 at *; generalize opl 9 = i9 at *; generalize opl (-5) = im5 at *; generalize opl (-3) = im3 at *; generalize opl (-2) = im2 at *; generalize Zi 3 3 = x1 at *; generalize Zi 0 5 = x2 at *; generalize Zi 1 1 = x3 at *; generalize Zi 2 2 = x4 at *
 generalize Zi 4 9 = x5 at *; generalize Zi (-5) 0 = x6 at *; generalize Zi (-3) (-2) = x7 at *; subst hw; have Hi0 := Lib.hid ei0; clear ei0; have Hi1 := Lib.hid ei1; clear ei1; have Hi2 := Lib.hid ei2; clear ei2; have Hi3 := Lib.hid ei3; clear ei3; have Hi4 := Lib.hid ei4; clear ei4; have Hi5 := Lib.hid ei5; clear ei5; have Hi9 := Lib.hid ei9; clear ei9; have Him5 := Lib.hid eim5; clear eim5; have Him3 := Lib.hid eim3
 clear eim3; have Him2 := Lib.hid eim2; clear eim2; have Mx1 := Lib.hid mx1; clear mx1; have Mx2 := Lib.hid mx2; clear mx2; have Mx3 := Lib.hid mx3; clear mx3; have Mx4 := Lib.hid mx4; clear mx4; have Mx5 := Lib.hid mx5; clear mx5; have Mx6 := Lib.hid mx6; clear mx6; have Mx7 := Lib.hid mx7; clear mx7; have HP1 := Lib.hid hp1; have HP2 := Lib.hid hp2; have HS := Lib.hid hs; have HN := Lib.hid n3; have HRR := Lib.hid hr
 clear hp1 hp2 hs n3 hr
 go_enter Tryz.func10, Tryz.ntmps10
 have HB := Lib.hid (Below.refl w.heap.size w)
 go_wp2_with fail
 refine (kvOf (by decide) (by decide) (by decide) (by decide) Hi3.out Hi3.out Mx1.out).mono ?_; rintro ee w1 ⟨e1, K1, s1, M1, E1, K1b, s1b, M1b, E1b, rfl, v1, B⟩; replace hT := hT.below B; replace hT2 := hT2.below B; replace HB := Hqb HB B; clear B
 go_wp2_with fail
 refine (kvOf (by decide) (by decide) (by decide) (by decide) Hi0.out Hi5.out Mx2.out).mono ?_; rintro ee w2 ⟨e2, K2, s2, M2, E2, K2b, s2b, M2b, E2b, rfl, v2, B⟩; replace hT := hT.below B; replace hT2 := hT2.below B; replace HB := Hqb HB B; clear B
 go_wp2_with fail
 refine (kvOf (by decide) (by decide) (by decide) (by decide) Hi1.out Hi1.out Mx3.out).mono ?_; rintro ee w3 ⟨e3, K3, s3, M3, E3, K3b, s3b, M3b, E3b, rfl, v3, B⟩; replace hT := hT.below B; replace hT2 := hT2.below B; replace HB := Hqb HB B; clear B
 go_wp2_with fail
 refine (bkPlus hT2 v1.top.1 v1.top.2 v2.top.1 v2.top.2 v3.top.1 v3.top.2 v1.rk v2.rk v3.rk HP1.out HP2.out).mono ?_; rintro ee w4 ⟨e21, K21, s21, M21, E21, K21b, s21b, M21b, E21b, e22, K22, s22, M22, E22, K22b, s22b, M22b, E22b, rfl, v21, v22, B⟩; replace hT := hT.below B; replace hT2 := hT2.below B; replace HB := Hqb HB B; clear B
 go_upto_region 2 with (fail)
 have e4X2 : (World.alloc w4 (.cells #[.bool e21, .int .i64 K21, .bool s21, .int .u64 M21, .int .i64 E21, .int .i64 K21b, .bool s21b, .int .u64 M21b, .int .i64 E21b] 26)).heap.size = w4.heap.size + 1 := by simp
 have lX1 := Nat.le_refl (World.heap w4).size; replace hT := hT.below (bel1 _ (.cells #[.bool e21, .int .i64 K21, .bool s21, .int .u64 M21, .int .i64 E21, .int .i64 K21b, .bool s21b, .int .u64 M21b, .int .i64 E21b] 26)); replace hT2 := hT2.below (bel1 _ (.cells #[.bool e21, .int .i64 K21, .bool s21, .int .u64 M21, .int .i64 E21, .int .i64 K21b, .bool s21b, .int .u64 M21b, .int .i64 E21b] 26)); replace HB := Lib.hid (bt HB.out (bel1 _ (.cells #[.bool e21, .int .i64 K21, .bool s21, .int .u64 M21, .int .i64 E21, .int .i64 K21b, .bool s21b, .int .u64 M21b, .int .i64 E21b] 26)))
 have X1 := Bo.new w4 #[.bool e21, .int .i64 K21, .bool s21, .int .u64 M21, .int .i64 E21, .int .i64 K21b, .bool s21b, .int .u64 M21b, .int .i64 E21b] 26; generalize hWn : World.alloc w4 (.cells #[.bool e21, .int .i64 K21, .bool s21, .int .u64 M21, .int .i64 E21, .int .i64 K21b, .bool s21b, .int .u64 M21b, .int .i64 E21b] 26) = w5 at *; clear hWn; have lX2 := Nat.le_refl (World.heap w5).size; have nX2X1 := X1.lt
 generalize hWn : w5.alloc _ = w6 at *; obtain ⟨X2, BW⟩ := Bo.nw hWn; clear hWn; replace X1 := X1.below BW; replace hT := hT.below BW; replace hT2 := hT2.below BW; replace HB := Hqb HB BW; clear BW; rw [e4X2] at X2; clear lX1 lX2 e4X2; clear v1 v2 v3
 go_wp2_with fail
 refine (kvOf (by decide) (by decide) (by decide) (by decide) Hi4.out Hi9.out Mx5.out).mono ?_; rintro ee w7 ⟨e4, K4, s4, M4, E4, K4b, s4b, M4b, E4b, rfl, v4, B⟩; replace X1 := X1.below B; replace X2 := X2.below B; replace hT := hT.below B; replace hT2 := hT2.below B; replace HB := Hqb HB B; clear B
 go_wp2_with fail
 refine (kvOf (by decide) (by decide) (by decide) (by decide) Him5.out Hi0.out Mx6.out).mono ?_; rintro ee w8 ⟨e5, K5, s5, M5, E5, K5b, s5b, M5b, E5b, rfl, v5, B⟩; replace X1 := X1.below B; replace X2 := X2.below B; replace hT := hT.below B; replace hT2 := hT2.below B; replace HB := Hqb HB B; clear B
 go_wp2_with fail
 refine (bkSqr hT HRR.out v4.top.1 v4.top.2 v5.top.1 v5.top.2 v4.rk v5.rk HS.out).mono ?_; rintro ee w9 ⟨e6, K6, s6, M6, E6, K6b, s6b, M6b, E6b, rfl, v6, B⟩; replace X1 := X1.below B; replace X2 := X2.below B; replace hT := hT.below B; replace hT2 := hT2.below B; replace HB := Hqb HB B; clear B; clear v4 v5; obtain ⟨rfl, a6, b6, o6a, o6l, o6h⟩ := v6
 obtain rfl : K6 = 1 := fin_one10 a6 HN.out.1 HN.out.2.1 HN.out.2.2
 go_upto_region 3 with (fail)
 have lX3 := Nat.le_refl (World.heap w9).size; have nX3X1 := X1.lt; have nX3X2 := X2.lt; generalize hWn : w9.alloc _ = wA at *; obtain ⟨X3, BW⟩ := Bo.nw hWn; clear hWn; replace X1 := X1.below BW; replace X2 := X2.below BW; replace hT := hT.below BW; replace hT2 := hT2.below BW; replace HB := Hqb HB BW; clear BW; clear lX3
 have v6 : Ci false 1 s6 M6 E6 K6b s6b M6b E6b (some (im3, im2)) := ⟨rfl, a6, b6, o6a, o6l, o6h⟩
 refine Jo.rk [0, 1, 2, 3, 4, 5, 6, 7, 8, 9, 10, 11, 12, 13, 14, 15, 16, 17, 18, 19, 20, 21, 22, 23, 24, 25, 26, 27, 28, 29, 30] [some 14, some 15, some 16, some 17, some 18, some 19, some 20, some 21, some 22, some 23, some 24, some 25, some 26, some 27, some 28, some 29, some 30, some 31, some 32, some 33, some 34, some 35, some 36, some 37, some 38, some 39, some 40, some 41, some 42, some 43, some 0] [[], [], [0, 1], [2], [3], [3], [3, 4, 5], [3, 6], [7], [8], [8], [8, 9, 10], [8, 11], [12], [13], [13, 14], [13, 15], [13, 16], [17], [18], [18, 19], [18], [18, 20, 21], [18, 22], [23], [24], [24, 25], [24, 26], [24, 27], [24, 28], [29]] 31 0 [Jo.q9 e21 K21 s21 M21 E21 K21b s21b M21b E21b, Jo.Fact.iv x4, Jo.qb true, Jo.qb true, Jo.q9 e22 K22 s22 M22 E22 K22b s22b M22b E22b, Jo.Fact.iv x3, Jo.qb true, Jo.qb true, Jo.qb true, Jo.q9 false 1 s6 M6 E6 K6b s6b M6b E6b, Jo.Fact.iv (some (im3, im2)), Jo.qb true, Jo.qb true, Jo.qb true, Jo.qp w9.heap.size 0, Jo.qb false, Jo.qb true, Jo.qb true, Jo.qb true, Jo.qp w9.heap.size 1, Jo.q4 1 s6 M6 E6, Jo.Fact.num im3, Jo.qb true, Jo.qb true, Jo.qb true, Jo.qp w9.heap.size 1, Jo.qp w9.heap.size 1, Jo.qi 1, Jo.qb true, Jo.qb true, Jo.qb true] (by kernel_rfl) (by kernel_rfl) (by decide) rfl ?_ ?_
 · refine Jo.jm rfl ?_ ?_; rotate_left
   refine Jo.jm rfl ?_ ?_
   · rintro wj hJ K hK; simp only [Jo.z] at hK ⊢; go_simp; refine (kvOf (by decide) (by decide) (by decide) (by decide) Hi2.out Hi2.out Mx4.out).mono ?_; rintro ee wk ⟨e7, K7, s7, M7, E7, K7b, s7b, M7b, E7b, rfl, v7, B⟩; exact hK.out _ _ ⟨e7, K7, s7, M7, E7, K7b, s7b, M7b, E7b, rfl, v7⟩ B
   refine Jo.jm rfl ?_ ?_
   · rintro wj hJ _ rfl _ ⟨e7, K7, s7, M7, E7, K7b, s7b, M7b, E7b, rfl, v7⟩ K hK; simp only [Jo.z] at hK ⊢; obtain ⟨rfl, rfl, rfl, rfl, rfl, rfl, rfl, rfl, rfl⟩ := v21.uniq v7; go_simp
     exact hK.out _ _ (by first | rfl | (show Value.bool _ = Value.bool _; simp)) (br _ _)
   iterate 2 (refine Jo.jm rfl ?_ ?_; rotate_left)
   refine Jo.jm rfl ?_ ?_
   · rintro wj hJ _ rfl K hK; simp only [Jo.z] at hK ⊢; go_simp; refine (kvOf (by decide) (by decide) (by decide) (by decide) Hi1.out Hi1.out Mx3.out).mono ?_; rintro ee wk ⟨e8, K8, s8, M8, E8, K8b, s8b, M8b, E8b, rfl, v8, B⟩; exact hK.out _ _ ⟨e8, K8, s8, M8, E8, K8b, s8b, M8b, E8b, rfl, v8⟩ B
   refine Jo.jm rfl ?_ ?_
   · rintro wj hJ _ rfl _ rfl _ ⟨e8, K8, s8, M8, E8, K8b, s8b, M8b, E8b, rfl, v8⟩ K hK; simp only [Jo.z] at hK ⊢; obtain ⟨rfl, rfl, rfl, rfl, rfl, rfl, rfl, rfl, rfl⟩ := v22.uniq v8; go_simp
     exact hK.out _ _ (by first | rfl | (show Value.bool _ = Value.bool _; simp)) (br _ _)
   iterate 3 (refine Jo.jm rfl ?_ ?_; rotate_left)
   refine Jo.jm rfl ?_ ?_
   · rintro wj hJ _ rfl K hK; simp only [Jo.z] at hK ⊢; go_simp; refine (kvOf (by decide) (by decide) (by decide) (by decide) Him3.out Him2.out Mx7.out).mono ?_; rintro ee wk ⟨e9, K9, s9, M9, E9, K9b, s9b, M9b, E9b, rfl, v9, B⟩; exact hK.out _ _ ⟨e9, K9, s9, M9, E9, K9b, s9b, M9b, E9b, rfl, v9⟩ B
   refine Jo.jm rfl ?_ ?_
   · rintro wj hJ _ rfl _ rfl _ ⟨e9, K9, s9, M9, E9, K9b, s9b, M9b, E9b, rfl, v9⟩ K hK; simp only [Jo.z] at hK ⊢; obtain ⟨rfl, rfl, rfl, rfl, rfl, rfl, rfl, rfl, rfl⟩ := v6.uniq v9; go_simp
     exact hK.out _ _ (by first | rfl | (show Value.bool _ = Value.bool _; simp)) (br _ _)
   iterate 3 (refine Jo.jm rfl ?_ ?_; rotate_left)
   refine Jo.jm rfl ?_ ?_
   · rintro wj hJ _ rfl _ rfl K hK; simp only [Jo.z] at hK ⊢; have xX30 := (X3.below hJ).a 0 (.bool false) rfl; go_simp; exact hK.out _ _ rfl (br _ _)
   iterate 5 (refine Jo.jm rfl ?_ ?_; rotate_left)
   refine Jo.jm rfl ?_ ?_
   · rintro wj hJ _ rfl K hK; simp only [Jo.z] at hK ⊢; go_simp; refine (nOf _ (by decide) (by decide) Him3.out).mono ?_; rintro ee wk ⟨K10, s10, M10, E10, rfl, q10, B⟩; exact hK.out _ _ ⟨K10, s10, M10, E10, rfl, q10⟩ B
   refine Jo.jm rfl ?_ ?_
   · rintro wj hJ _ rfl _ rfl _ ⟨K10, s10, M10, E10, rfl, q10⟩ K hK; simp only [Jo.z] at hK ⊢; obtain ⟨rfl, rfl, rfl, rfl⟩ := a6.uniq q10; go_simp
     exact hK.out _ _ (by first | rfl | (show Value.bool _ = Value.bool _; simp)) (br _ _)
   iterate 4 (refine Jo.jm rfl ?_ ?_; rotate_left)
   refine Jo.jm rfl ?_ ?_
   · rintro wj hJ _ rfl _ rfl K hK; simp only [Jo.z] at hK ⊢; have xX31 := (X3.below hJ).a 1 (.int .i64 1) rfl; go_simp; exact hK.out _ _ rfl (br _ _)
   refine Jo.jm rfl ?_ ?_
   · rintro wj hJ _ rfl _ rfl K hK; simp only [Jo.z] at hK ⊢; go_simp
     exact hK.out _ _ (by first | rfl | (show Value.bool _ = Value.bool _; simp)) (br _ _)
   iterate 2 (refine Jo.jm rfl ?_ ?_; rotate_left)
   exact Jo.Steps.nil
   all_goals (rintro wj hJ; (repeat rintro _ rfl); intro K hK; simp only [Jo.z] at hK ⊢; have xX1 := (X1.below hJ).cell; have xX2 := (X2.below hJ).cell; have xX3 := (X3.below hJ).cell; go_simp; exact hK.out _ _ rfl (br _ _))
 rintro wB hJ _ rfl _ ⟨e7, K7, s7, M7, E7, K7b, s7b, M7b, E7b, rfl, v7⟩ _ rfl _ rfl _ rfl _ ⟨e8, K8, s8, M8, E8, K8b, s8b, M8b, E8b, rfl, v8⟩ _ rfl _ rfl _ rfl _ rfl _ ⟨e9, K9, s9, M9, E9, K9b, s9b, M9b, E9b, rfl, v9⟩ _ rfl _ rfl _ rfl _ _ _ rfl _ rfl _ rfl _ rfl _ _ _ rfl _ ⟨K10, s10, M10, E10, rfl, _⟩ _ rfl _ rfl _ rfl _ _ _ _ _ rfl _ rfl _ rfl _ rfl -; simp only [Jo.z]; replace X1 := X1.below hJ
 replace X2 := X2.below hJ; replace X3 := X3.below hJ; replace hT := hT.below hJ; replace hT2 := hT2.below hJ; replace HB := Hqb HB hJ; refine Jo.jdone (by kernel_rfl) ?_; go_wp2
 go_ret
 exact ⟨rfl, HB.out⟩
theorem bwPart {w : World} {e : Bool} {D M E D' M' E' : Int} {s s' : Bool} {e2 : Bool} {G P Q G' P' Q' : Int} {g g' : Bool} {e3 : Bool} {J U V J' U' V' : Int} {j j' : Bool} {z x y a : Sp} {q : Bool → Int → Int → Int} (hq : QF q) (hM : LQ M) (hM' : LQ M') (hP : LQ P) (hP' : LQ P') (hU : LQ U) (hU' : LQ U') (hx : rkI e D s M E D' s' M' E' = x) (hz : rkI e2 G g P Q G' g' P' Q' = z) (hy : rkI e3 J j U V J' j' U' V' = y) (ha : partB q x z y = a) : Calls Tryz.prog 44 #[VI e D s M E D' s' M' E', VI e2 G g P Q G' g' P' Q', VI e3 J j U V J' j' U' V'] w (PV w a) := by
 delta VI
 unfold partB at ha
 obtain ⟨b1, h1⟩ : ∃ b, hasI z 0 = b := ⟨_, rfl⟩; obtain ⟨b2, h2⟩ : ∃ b, hasI y 0 = b := ⟨_, rfl⟩; rw [h1, h2] at ha; have HX := Lib.hid hx; have HZ := Lib.hid hz; have HY := Lib.hid hy; have H1 := Lib.hid h1; have H2 := Lib.hid h2; have HQ := Lib.hid hq; clear hx hz hy h1 h2 hq
 go_enter Tryz.func44, Tryz.ntmps44
 go_upto_region 1 with (fail)
 generalize hW1 : (((w.alloc _).alloc _).alloc _).alloc _ = w1 at *; obtain ⟨X3, X4, X5, XR, HB⟩ := Bo.en4 hW1; clear hW1; have xX4 := X4.cell
 go_wp2_with fail
 refine (jvHas hP hP' (by decide) HZ.out Fq.nought.rk H1.out).mono ?_; rintro ee w2 ⟨rfl, B⟩; clear xX4; replace X3 := X3.below B; replace X4 := X4.below B; replace X5 := X5.below B; replace XR := XR.below B; replace HB := Hqb HB B; clear B; have xX5 := X5.cell
 go_wp2_with fail
 refine (jvHas hU hU' (by decide) HY.out Fq.nought.rk H2.out).mono ?_; rintro ee w3 ⟨rfl, B⟩; clear xX5; replace X3 := X3.below B; replace X4 := X4.below B; replace X5 := X5.below B; replace XR := XR.below B; replace HB := Hqb HB B; clear B
 cases b1
 · obtain ⟨d, hd0⟩ : ∃ d, divI q z y = d := ⟨_, rfl⟩
   have ha2 : meetI x d = a := by rw [← hd0]; exact ha
   have HD := Lib.hid hd0; have HA := Lib.hid ha2; clear ha hd0 ha2
   go_upto_region 5 with (fail)
   refine Jo.rk [0, 1, 2, 3, 4] [some 21, some 22, some 23, some 24, some 25, none] [[], [], [], [1, 2], [0, 3], []] 6 1 [Jo.q9 e D s M E D' s' M' E', Jo.q9 e2 G g P Q G' g' P' Q', Jo.q9 e3 J j U V J' j' U' V', Jo.Fact.iv d, Jo.Fact.iv a, Jo.Fact.any] (by kernel_rfl) (by kernel_rfl) (by decide) rfl ?_ ?_
   · iterate 3 (refine Jo.jm rfl ?_ ?_; rotate_left)
     refine Jo.jm rfl ?_ ?_
     · rintro wj hJ _ rfl _ rfl K hK; simp only [Jo.z] at hK ⊢; go_simp; refine (fwDiv HQ.out hP hP' hU hU' HZ.out HY.out HD.out).mono ?_; rintro ee wk ⟨e21, K21, s21, M21, E21, K21b, s21b, M21b, E21b, rfl, v21, B⟩; exact hK.out _ _ ⟨e21, K21, s21, M21, E21, K21b, s21b, M21b, E21b, rfl, v21⟩ B
     refine Jo.jm rfl ?_ ?_
     · rintro wj hJ _ rfl _ ⟨e21, K21, s21, M21, E21, K21b, s21b, M21b, E21b, rfl, v21⟩ K hK; simp only [Jo.z] at hK ⊢; go_simp; refine (jvTwo hM hM' v21.top.1 v21.top.2 HX.out v21.rk HA.out).mono ?_; rintro ee wk ⟨e22, K22, s22, M22, E22, K22b, s22b, M22b, E22b, rfl, v22, B⟩; exact hK.out _ _ ⟨e22, K22, s22, M22, E22, K22b, s22b, M22b, E22b, rfl, v22⟩ B
     exact Jo.Steps.nil
     all_goals (rintro wj hJ; (repeat rintro _ rfl); intro K hK; simp only [Jo.z] at hK ⊢; have xX3 := (X3.below hJ).cell; have xX4 := (X4.below hJ).cell; have xX5 := (X5.below hJ).cell; go_simp; exact hK.out _ _ rfl (br _ _))
   rintro w4 hJ _ rfl _ rfl _ rfl _ ⟨e21, K21, s21, M21, E21, K21b, s21b, M21b, E21b, rfl, v21⟩ _ ⟨e22, K22, s22, M22, E22, K22b, s22b, M22b, E22b, rfl, v22⟩ -; simp only [Jo.z]; replace X3 := X3.below hJ; replace X4 := X4.below hJ; replace X5 := X5.below hJ; replace XR := XR.below hJ; replace HB := Hqb HB hJ; have xXR := XR.cell; have zXR0 := XR.frozen
   refine Jo.jnext (i := 5) (o := ⟨none, _, _, _, _, _⟩) (by kernel_rfl) rfl (fun K hK => ?_)
   go_simp; refine hK.out _ _ ?_; clear hK K xXR zXR0; have SX := StN.mk9 XR (.bool e22) (.int .i64 K22) (.bool s22) (.int .u64 M22) (.int .i64 E22) (.int .i64 K22b) (.bool s22b) (.int .u64 M22b) (.int .i64 E22b); refine Jo.jdone (by kernel_rfl) ?_; go_wp2; exact bodyPost_ret (by simp [results, Tryz.results44, go_sem, SX.box.cell]) rfl ⟨_, _, _, _, _, _, _, _, _, rfl, v22, (SX.below HB.out (by omega))⟩
 · cases b2
   · obtain ⟨d, hd0⟩ : ∃ d, divI q z y = d := ⟨_, rfl⟩
     have ha2 : meetI x d = a := by rw [← hd0]; exact ha
     have HD := Lib.hid hd0; have HA := Lib.hid ha2; clear ha hd0 ha2
     go_upto_region 5 with (fail)
     refine Jo.rk [0, 1, 2, 3, 4] [some 21, some 22, some 23, some 24, some 25, none] [[], [], [], [1, 2], [0, 3], []] 6 1 [Jo.q9 e D s M E D' s' M' E', Jo.q9 e2 G g P Q G' g' P' Q', Jo.q9 e3 J j U V J' j' U' V', Jo.Fact.iv d, Jo.Fact.iv a, Jo.Fact.any] (by kernel_rfl) (by kernel_rfl) (by decide) rfl ?_ ?_
     · iterate 3 (refine Jo.jm rfl ?_ ?_; rotate_left)
       refine Jo.jm rfl ?_ ?_
       · rintro wj hJ _ rfl _ rfl K hK; simp only [Jo.z] at hK ⊢; go_simp; refine (fwDiv HQ.out hP hP' hU hU' HZ.out HY.out HD.out).mono ?_; rintro ee wk ⟨e21, K21, s21, M21, E21, K21b, s21b, M21b, E21b, rfl, v21, B⟩; exact hK.out _ _ ⟨e21, K21, s21, M21, E21, K21b, s21b, M21b, E21b, rfl, v21⟩ B
       refine Jo.jm rfl ?_ ?_
       · rintro wj hJ _ rfl _ ⟨e21, K21, s21, M21, E21, K21b, s21b, M21b, E21b, rfl, v21⟩ K hK; simp only [Jo.z] at hK ⊢; go_simp; refine (jvTwo hM hM' v21.top.1 v21.top.2 HX.out v21.rk HA.out).mono ?_; rintro ee wk ⟨e22, K22, s22, M22, E22, K22b, s22b, M22b, E22b, rfl, v22, B⟩; exact hK.out _ _ ⟨e22, K22, s22, M22, E22, K22b, s22b, M22b, E22b, rfl, v22⟩ B
       exact Jo.Steps.nil
       all_goals (rintro wj hJ; (repeat rintro _ rfl); intro K hK; simp only [Jo.z] at hK ⊢; have xX3 := (X3.below hJ).cell; have xX4 := (X4.below hJ).cell; have xX5 := (X5.below hJ).cell; go_simp; exact hK.out _ _ rfl (br _ _))
     rintro w4 hJ _ rfl _ rfl _ rfl _ ⟨e21, K21, s21, M21, E21, K21b, s21b, M21b, E21b, rfl, v21⟩ _ ⟨e22, K22, s22, M22, E22, K22b, s22b, M22b, E22b, rfl, v22⟩ -; simp only [Jo.z]; replace X3 := X3.below hJ; replace X4 := X4.below hJ; replace X5 := X5.below hJ; replace XR := XR.below hJ; replace HB := Hqb HB hJ; have xXR := XR.cell; have zXR0 := XR.frozen
     refine Jo.jnext (i := 5) (o := ⟨none, _, _, _, _, _⟩) (by kernel_rfl) rfl (fun K hK => ?_)
     go_simp; refine hK.out _ _ ?_; clear hK K xXR zXR0; have SX := StN.mk9 XR (.bool e22) (.int .i64 K22) (.bool s22) (.int .u64 M22) (.int .i64 E22) (.int .i64 K22b) (.bool s22b) (.int .u64 M22b) (.int .i64 E22b); refine Jo.jdone (by kernel_rfl) ?_; go_wp2; exact bodyPost_ret (by simp [results, Tryz.results44, go_sem, SX.box.cell]) rfl ⟨_, _, _, _, _, _, _, _, _, rfl, v22, (SX.below HB.out (by omega))⟩
   · obtain rfl : x = a := ha
     have xX3 := X3.cell
     go_wp2_with fail
     refine (jvFair hM hM' HX.out).mono ?_; rintro ee w4 ⟨e20, K20, s20, M20, E20, K20b, s20b, M20b, E20b, rfl, v20, B⟩; clear xX3; replace X3 := X3.below B; replace X4 := X4.below B; replace X5 := X5.below B; replace XR := XR.below B; replace HB := Hqb HB B; clear B; have xXR := XR.cell; have zXR0 := XR.frozen
     go_wp2; clear xXR zXR0; have SX := StN.mk9 XR (.bool e20) (.int .i64 K20) (.bool s20) (.int .u64 M20) (.int .i64 E20) (.int .i64 K20b) (.bool s20b) (.int .u64 M20b) (.int .i64 E20b); exact bodyPost_ret (by simp [results, Tryz.results44, go_sem, SX.box.cell]) rfl ⟨_, _, _, _, _, _, _, _, _, rfl, v20, (SX.below HB.out (by omega))⟩
theorem bwTimes {w : World} {e : Bool} {D M E D' M' E' : Int} {s s' : Bool} {e2 : Bool} {G P Q G' P' Q' : Int} {g g' : Bool} {e3 : Bool} {J U V J' U' V' : Int} {j j' : Bool} {z x y a b : Sp} {q : Bool → Int → Int → Int} (hq : QF q) (hM : LQ M) (hM' : LQ M') (hP : LQ P) (hP' : LQ P') (hU : LQ U) (hU' : LQ U') (hz : rkI e D s M E D' s' M' E' = z) (hx : rkI e2 G g P Q G' g' P' Q' = x) (hy : rkI e3 J j U V J' j' U' V' = y) (hr : timesB q z x y = (a, b)) : Calls Tryz.prog 17 #[VI e D s M E D' s' M' E', VI e2 G g P Q G' g' P' Q', VI e3 J j U V J' j' U' V'] w (PV2 w a b) := by
 delta VI
 have HZ := Lib.hid hz; have HX := Lib.hid hx; have HY := Lib.hid hy; have HQ := Lib.hid hq; clear hz hx hy hq
 go_enter Tryz.func17, Tryz.ntmps17
 go_upto_region 1 with (fail)
 generalize hW1 : ((((w.alloc _).alloc _).alloc _).alloc _).alloc _ = w1 at *; obtain ⟨X3, X4, X5, XR, XS, HB⟩ := Bo.en5 hW1; clear hW1; have xX3 := X3.cell
 go_wp2_with fail
 refine (jvFair hM hM' HZ.out).mono ?_; rintro ee w2 ⟨e1, K1, s1, M1, E1, K1b, s1b, M1b, E1b, rfl, v1, B⟩; clear xX3; replace X3 := X3.below B; replace X4 := X4.below B; replace X5 := X5.below B; replace XR := XR.below B; replace XS := XS.below B; replace HB := Hqb HB B; clear B
 go_upto_region 2 with (fail)
 have lX8 := Nat.le_refl (World.heap w2).size; have nX8X3 := X3.lt; have nX8X4 := X4.lt; have nX8X5 := X5.lt; have nX8XR := XR.lt; have nX8XS := XS.lt; generalize hWn : w2.alloc _ = w3 at *; obtain ⟨X8, BW⟩ := Bo.nw hWn; clear hWn; replace X3 := X3.below BW; replace X4 := X4.below BW; replace X5 := X5.below BW; replace XR := XR.below BW; replace XS := XS.below BW; replace HB := Hqb HB BW
 clear BW; clear lX8; clear HZ hM hM'
 rcases z with _ | ⟨za, zb⟩
 · obtain ⟨rfl, y1, y1b⟩ := v1
   obtain ⟨rfl, rfl⟩ : none = a ∧ none = b := by injection hr with p q; exact ⟨p, q⟩
   have xX8 := X8.cell
   go_upto_region 3 with (fail)
   clear xX8; have ltX4 := X4.lt; have ltX5 := X5.lt; have ltXR := XR.lt; have ltXS := XS.lt; have ltX8 := X8.lt; refine Jo.rl (w.heap.size + 1 + 1 + 1) #[.bool true, .int .i64 K1, .bool s1, .int .u64 M1, .int .i64 E1, .int .i64 K1b, .bool s1b, .int .u64 M1b, .int .i64 E1b] 26 [0, 1, 2] [some 14, some 15, none, none] [[], [], [0], []] 4 1 [Jo.k9 true K1 s1 M1 E1 K1b s1b M1b E1b, Jo.k9 true K1 s1 M1 E1 K1b s1b M1b E1b, Jo.LFact.done, Jo.LFact.any] (by kernel_rfl) (by kernel_rfl) (by decide) rfl ?_ ?_
   · refine Jo.lm rfl ?_ ?_
     · rintro wj hJ K hK; simp only [Jo.z] at hK ⊢; replace X8 := X8.off (by omega) hJ; have xX8 := X8.cell; go_simp; exact hK.out _ _ rfl (Jo.Off.refl _ _ _ _)
     refine Jo.lm rfl ?_ ?_
     · rintro wj hJ K hK; simp only [Jo.z] at hK ⊢; replace X8 := X8.off (by omega) hJ; have xX8 := X8.cell; go_simp; exact hK.out _ _ rfl (Jo.Off.refl _ _ _ _)
     refine Jo.lm rfl ?_ ?_
     · rintro wj hJ _ rfl K hK; simp only [Jo.z] at hK ⊢
       obtain ⟨v0, v1, v2, v3, v4, v5, v6, v7, v8, XO⟩ : ∃ v0 v1 v2 v3 v4 v5 v6 v7 v8, Bo wj (w.heap.size + 1 + 1 + 1) #[v0, v1, v2, v3, v4, v5, v6, v7, v8] 26 := by
         rcases hJ.own with e | e
         · exact ⟨_, _, _, _, _, _, _, _, _, XR.keep e⟩
         · exact ⟨_, _, _, _, _, _, _, _, _, e⟩
       have xXO := XO.cell; have zXO0 := XO.frozen; go_simp; have SX := StN.mk9 XO (.bool true) (.int .i64 K1) (.bool s1) (.int .u64 M1) (.int .i64 E1) (.int .i64 K1b) (.bool s1b) (.int .u64 M1b) (.int .i64 E1b); exact hK.out undef _ SX.box (Jo.Off.of_stn SX)
     exact Jo.Steps.nil
   rintro w4 hJ _ rfl _ rfl u2 d2 -; simp only [Jo.z]; replace HB := Lib.hid (hJ.below HB.out (by omega) XR.lt); replace X4 := X4.off (by omega) hJ; replace X5 := X5.off (by omega) hJ; replace XS := XS.off (by omega) hJ; replace X8 := X8.off (by omega) hJ
   replace XR : Bo w4 (w.heap.size + 1 + 1 + 1) #[.bool true, .int .i64 K1, .bool s1, .int .u64 M1, .int .i64 E1, .int .i64 K1b, .bool s1b, .int .u64 M1b, .int .i64 E1b] 26 := d2
   have xXS := XS.cell; have zXS0 := XS.frozen
   refine Jo.jnext (i := 3) (o := ⟨none, _, _, _, _, _⟩) (by kernel_rfl) rfl (fun K hK => ?_)
   go_simp; refine hK.out _ _ ?_; clear hK K xXS zXS0; generalize hS : ((((((((w4.setCell _ _).setCell _ _).setCell _ _).setCell _ _).setCell _ _).setCell _ _).setCell _ _).setCell _ _).setCell _ _ = w5 at *; have SX := StN.of9 XS hS; replace X4 := X4.stn SX (by omega); replace X5 := X5.stn SX (by omega); replace XR := XR.stn SX (by omega); replace X8 := X8.stn SX (by omega)
   replace HB := Hqs HB SX (by omega); replace XS := SX.box; clear SX hS; refine Jo.jdone (by kernel_rfl) ?_; go_wp2; exact bodyPost_ret (v := .tuple #[.agg #[.bool true, .int .i64 K1, .bool s1, .int .u64 M1, .int .i64 E1, .int .i64 K1b, .bool s1b, .int .u64 M1b, .int .i64 E1b], .agg #[.bool true, .int .i64 K1, .bool s1, .int .u64 M1, .int .i64 E1, .int .i64 K1b, .bool s1b, .int .u64 M1b, .int .i64 E1b]]) (by simp [results, Tryz.results17, go_sem, XR.cell, XS.cell]) rfl ⟨_, _, _, _, _, _, _, _, _, _, _, _, _, _, _, _, _, _, rfl, ⟨rfl, y1, y1b⟩, ⟨rfl, y1, y1b⟩, HB.out⟩
 · obtain ⟨rfl, a1, b1, o1, o1l, o1h⟩ := v1
   have v1 : Ci false K1 s1 M1 E1 K1b s1b M1b E1b (some (za, zb)) := ⟨rfl, a1, b1, o1, o1l, o1h⟩
   clear a1 b1 o1 o1l o1h
   obtain ⟨hp1, hp2⟩ : partB q x (some (za, zb)) y = a ∧ partB q y (some (za, zb)) (partB q x (some (za, zb)) y) = b := by injection hr with p q; exact ⟨p, q⟩
   rw [hp1] at hp2; have HA := Lib.hid hp1; have HBB := Lib.hid hp2; clear hr hp1 hp2; have xX4 := X4.cell; have xX8 := X8.cell; have xX5 := X5.cell
   go_wp2_with fail
   refine (bwPart HQ.out hP hP' v1.top.1 v1.top.2 hU hU' HX.out v1.rk HY.out HA.out).mono ?_; rintro ee w4 ⟨e20, K20, s20, M20, E20, K20b, s20b, M20b, E20b, rfl, v20, B⟩; clear xX4 xX8 xX5; replace X4 := X4.below B; replace X5 := X5.below B; replace XR := XR.below B; replace XS := XS.below B
   replace X8 := X8.below B; replace HB := Hqb HB B; clear B
   go_upto_region 5 with (fail)
   have lX9 := Nat.le_refl (World.heap w4).size; have nX9X4 := X4.lt; have nX9X5 := X5.lt; have nX9XR := XR.lt; have nX9XS := XS.lt; have nX9X8 := X8.lt; generalize hWn : w4.alloc _ = w5 at *; obtain ⟨X9, BW⟩ := Bo.nw hWn; clear hWn; replace X4 := X4.below BW; replace X5 := X5.below BW; replace XR := XR.below BW; replace XS := XS.below BW; replace X8 := X8.below BW; replace HB := Hqb HB BW
   clear BW; clear lX9; refine Jo.rk [0, 1, 2, 3, 4] [some 20, some 21, some 22, some 23, some 24, none, none] [[], [], [], [], [1, 2, 3], [], []] 7 2 [Jo.q9 e20 K20 s20 M20 E20 K20b s20b M20b E20b, Jo.q9 e3 J j U V J' j' U' V', Jo.q9 false K1 s1 M1 E1 K1b s1b M1b E1b, Jo.q9 e20 K20 s20 M20 E20 K20b s20b M20b E20b, Jo.Fact.iv b, Jo.Fact.any, Jo.Fact.any] (by kernel_rfl) (by kernel_rfl) (by decide) rfl ?_ ?_
   · iterate 4 (refine Jo.jm rfl ?_ ?_; rotate_left)
     refine Jo.jm rfl ?_ ?_
     · rintro wj hJ _ rfl _ rfl _ rfl K hK; simp only [Jo.z] at hK ⊢; go_simp; refine (bwPart HQ.out hU hU' v1.top.1 v1.top.2 v20.top.1 v20.top.2 HY.out v1.rk v20.rk HBB.out).mono ?_; rintro ee wk ⟨e21, K21, s21, M21, E21, K21b, s21b, M21b, E21b, rfl, v21, B⟩; exact hK.out _ _ ⟨e21, K21, s21, M21, E21, K21b, s21b, M21b, E21b, rfl, v21⟩ B
     exact Jo.Steps.nil
     all_goals (rintro wj hJ; (repeat rintro _ rfl); intro K hK; simp only [Jo.z] at hK ⊢; have xX9 := (X9.below hJ).cell; have xX5 := (X5.below hJ).cell; have xX8 := (X8.below hJ).cell; go_simp; exact hK.out _ _ rfl (br _ _))
   rintro w6 hJ _ rfl _ rfl _ rfl _ rfl _ ⟨e21, K21, s21, M21, E21, K21b, s21b, M21b, E21b, rfl, v21⟩ -; simp only [Jo.z]; replace X4 := X4.below hJ; replace X5 := X5.below hJ; replace XR := XR.below hJ; replace XS := XS.below hJ; replace X8 := X8.below hJ; replace X9 := X9.below hJ; replace HB := Hqb HB hJ; have xXR := XR.cell; have zXR0 := XR.frozen
   refine Jo.jnext (i := 5) (o := ⟨none, _, _, _, _, _⟩) (by kernel_rfl) rfl (fun K hK => ?_)
   go_simp; refine hK.out _ _ ?_; clear hK K xXR zXR0; generalize hS : ((((((((w6.setCell _ _).setCell _ _).setCell _ _).setCell _ _).setCell _ _).setCell _ _).setCell _ _).setCell _ _).setCell _ _ = w7 at *; have SX := StN.of9 XR hS; replace X4 := X4.stn SX (by omega); replace X5 := X5.stn SX (by omega); replace XS := XS.stn SX (by omega); replace X8 := X8.stn SX (by omega)
   replace X9 := X9.stn SX (by omega); replace HB := Hqs HB SX (by omega); replace XR := SX.box; clear SX hS; have xXS := XS.cell; have zXS0 := XS.frozen
   refine Jo.jnext (i := 6) (o := ⟨none, _, _, _, _, _⟩) (by kernel_rfl) rfl (fun K hK => ?_)
   go_simp; refine hK.out _ _ ?_; clear hK K xXS zXS0; generalize hS : ((((((((w7.setCell _ _).setCell _ _).setCell _ _).setCell _ _).setCell _ _).setCell _ _).setCell _ _).setCell _ _).setCell _ _ = w8 at *; have SX := StN.of9 XS hS; replace X4 := X4.stn SX (by omega); replace X5 := X5.stn SX (by omega); replace XR := XR.stn SX (by omega); replace X8 := X8.stn SX (by omega)
   replace X9 := X9.stn SX (by omega); replace HB := Hqs HB SX (by omega); replace XS := SX.box; clear SX hS; refine Jo.jdone (by kernel_rfl) ?_; go_wp2; exact bodyPost_ret (v := .tuple #[.agg #[.bool e20, .int .i64 K20, .bool s20, .int .u64 M20, .int .i64 E20, .int .i64 K20b, .bool s20b, .int .u64 M20b, .int .i64 E20b], .agg #[.bool e21, .int .i64 K21, .bool s21, .int .u64 M21, .int .i64 E21, .int .i64 K21b, .bool s21b, .int .u64 M21b, .int .i64 E21b]]) (by simp [results, Tryz.results17, go_sem, XR.cell, XS.cell]) rfl ⟨_, _, _, _, _, _, _, _, _, _, _, _, _, _, _, _, _, _, rfl, v20, v21, HB.out⟩
theorem bwOver {w : World} {e : Bool} {D M E D' M' E' : Int} {s s' : Bool} {e2 : Bool} {G P Q G' P' Q' : Int} {g g' : Bool} {e3 : Bool} {J U V J' U' V' : Int} {j j' : Bool} {z x y a b : Sp} {q : Bool → Int → Int → Int} (hq : QF q) (hM : LQ M) (hM' : LQ M') (hP : LQ P) (hP' : LQ P') (hU : LQ U) (hU' : LQ U') (hz : rkI e D s M E D' s' M' E' = z) (hx : rkI e2 G g P Q G' g' P' Q' = x) (hy : rkI e3 J j U V J' j' U' V' = y) (hr : overB q z x y = (a, b)) : Calls Tryz.prog 19 #[VI e D s M E D' s' M' E', VI e2 G g P Q G' g' P' Q', VI e3 J j U V J' j' U' V'] w (PV2 w a b) := by
 delta VI
 have HZ := Lib.hid hz; have HX := Lib.hid hx; have HY := Lib.hid hy; have HQ := Lib.hid hq; clear hz hx hy hq
 go_enter Tryz.func19, Tryz.ntmps19
 go_upto_region 1 with (fail)
 generalize hW1 : ((((w.alloc _).alloc _).alloc _).alloc _).alloc _ = w1 at *; obtain ⟨X3, X4, X5, XR, XS, HB⟩ := Bo.en5 hW1; clear hW1; have xX3 := X3.cell
 go_wp2_with fail
 refine (jvFair hM hM' HZ.out).mono ?_; rintro ee w2 ⟨e1, K1, s1, M1, E1, K1b, s1b, M1b, E1b, rfl, v1, B⟩; clear xX3; replace X3 := X3.below B; replace X4 := X4.below B; replace X5 := X5.below B; replace XR := XR.below B; replace XS := XS.below B; replace HB := Hqb HB B; clear B
 go_upto_region 2 with (fail)
 have lX8 := Nat.le_refl (World.heap w2).size; have nX8X3 := X3.lt; have nX8X4 := X4.lt; have nX8X5 := X5.lt; have nX8XR := XR.lt; have nX8XS := XS.lt; generalize hWn : w2.alloc _ = w3 at *; obtain ⟨X8, BW⟩ := Bo.nw hWn; clear hWn; replace X3 := X3.below BW; replace X4 := X4.below BW; replace X5 := X5.below BW; replace XR := XR.below BW; replace XS := XS.below BW; replace HB := Hqb HB BW
 clear BW; clear lX8; clear HZ hM hM'
 rcases z with _ | ⟨za, zb⟩
 · obtain ⟨rfl, y1, y1b⟩ := v1
   obtain ⟨rfl, rfl⟩ : none = a ∧ none = b := by injection hr with p q; exact ⟨p, q⟩
   have xX8 := X8.cell
   go_upto_region 3 with (fail)
   clear xX8; have ltX4 := X4.lt; have ltX5 := X5.lt; have ltXR := XR.lt; have ltXS := XS.lt; have ltX8 := X8.lt; refine Jo.rl (w.heap.size + 1 + 1 + 1) #[.bool true, .int .i64 K1, .bool s1, .int .u64 M1, .int .i64 E1, .int .i64 K1b, .bool s1b, .int .u64 M1b, .int .i64 E1b] 26 [0, 1, 2] [some 15, some 16, none, none] [[], [], [0], []] 4 1 [Jo.k9 true K1 s1 M1 E1 K1b s1b M1b E1b, Jo.k9 true K1 s1 M1 E1 K1b s1b M1b E1b, Jo.LFact.done, Jo.LFact.any] (by kernel_rfl) (by kernel_rfl) (by decide) rfl ?_ ?_
   · refine Jo.lm rfl ?_ ?_
     · rintro wj hJ K hK; simp only [Jo.z] at hK ⊢; replace X8 := X8.off (by omega) hJ; have xX8 := X8.cell; go_simp; exact hK.out _ _ rfl (Jo.Off.refl _ _ _ _)
     refine Jo.lm rfl ?_ ?_
     · rintro wj hJ K hK; simp only [Jo.z] at hK ⊢; replace X8 := X8.off (by omega) hJ; have xX8 := X8.cell; go_simp; exact hK.out _ _ rfl (Jo.Off.refl _ _ _ _)
     refine Jo.lm rfl ?_ ?_
     · rintro wj hJ _ rfl K hK; simp only [Jo.z] at hK ⊢
       obtain ⟨v0, v1, v2, v3, v4, v5, v6, v7, v8, XO⟩ : ∃ v0 v1 v2 v3 v4 v5 v6 v7 v8, Bo wj (w.heap.size + 1 + 1 + 1) #[v0, v1, v2, v3, v4, v5, v6, v7, v8] 26 := by
         rcases hJ.own with e | e
         · exact ⟨_, _, _, _, _, _, _, _, _, XR.keep e⟩
         · exact ⟨_, _, _, _, _, _, _, _, _, e⟩
       have xXO := XO.cell; have zXO0 := XO.frozen; go_simp; have SX := StN.mk9 XO (.bool true) (.int .i64 K1) (.bool s1) (.int .u64 M1) (.int .i64 E1) (.int .i64 K1b) (.bool s1b) (.int .u64 M1b) (.int .i64 E1b); exact hK.out undef _ SX.box (Jo.Off.of_stn SX)
     exact Jo.Steps.nil
   rintro w4 hJ _ rfl _ rfl u2 d2 -; simp only [Jo.z]; replace HB := Lib.hid (hJ.below HB.out (by omega) XR.lt); replace X4 := X4.off (by omega) hJ; replace X5 := X5.off (by omega) hJ; replace XS := XS.off (by omega) hJ; replace X8 := X8.off (by omega) hJ
   replace XR : Bo w4 (w.heap.size + 1 + 1 + 1) #[.bool true, .int .i64 K1, .bool s1, .int .u64 M1, .int .i64 E1, .int .i64 K1b, .bool s1b, .int .u64 M1b, .int .i64 E1b] 26 := d2
   have xXS := XS.cell; have zXS0 := XS.frozen
   refine Jo.jnext (i := 3) (o := ⟨none, _, _, _, _, _⟩) (by kernel_rfl) rfl (fun K hK => ?_)
   go_simp; refine hK.out _ _ ?_; clear hK K xXS zXS0; generalize hS : ((((((((w4.setCell _ _).setCell _ _).setCell _ _).setCell _ _).setCell _ _).setCell _ _).setCell _ _).setCell _ _).setCell _ _ = w5 at *; have SX := StN.of9 XS hS; replace X4 := X4.stn SX (by omega); replace X5 := X5.stn SX (by omega); replace XR := XR.stn SX (by omega); replace X8 := X8.stn SX (by omega)
   replace HB := Hqs HB SX (by omega); replace XS := SX.box; clear SX hS; refine Jo.jdone (by kernel_rfl) ?_; go_wp2; exact bodyPost_ret (v := .tuple #[.agg #[.bool true, .int .i64 K1, .bool s1, .int .u64 M1, .int .i64 E1, .int .i64 K1b, .bool s1b, .int .u64 M1b, .int .i64 E1b], .agg #[.bool true, .int .i64 K1, .bool s1, .int .u64 M1, .int .i64 E1, .int .i64 K1b, .bool s1b, .int .u64 M1b, .int .i64 E1b]]) (by simp [results, Tryz.results19, go_sem, XR.cell, XS.cell]) rfl ⟨_, _, _, _, _, _, _, _, _, _, _, _, _, _, _, _, _, _, rfl, ⟨rfl, y1, y1b⟩, ⟨rfl, y1, y1b⟩, HB.out⟩
 · obtain ⟨rfl, a1, b1, o1, o1l, o1h⟩ := v1
   have v1 : Ci false K1 s1 M1 E1 K1b s1b M1b E1b (some (za, zb)) := ⟨rfl, a1, b1, o1, o1l, o1h⟩
   clear a1 b1 o1 o1l o1h; obtain ⟨d, hd0⟩ : ∃ d, zout y = d := ⟨_, rfl⟩
   obtain ⟨hp1, hp2⟩ : meetI x (mulI (some (za, zb)) (zout y)) = a ∧ partB q (zout y) (meetI x (mulI (some (za, zb)) (zout y))) (some (za, zb)) = b := by injection hr with p q; exact ⟨p, q⟩
   rw [hp1, hd0] at hp2; rw [hd0] at hp1; obtain ⟨m, hm⟩ : ∃ m, mulI (some (za, zb)) d = m := ⟨_, rfl⟩; rw [hm] at hp1; have HA := Lib.hid hp1; have HBB := Lib.hid hp2; have HMM := Lib.hid hm; clear hr hp1 hp2 hm; have xX8 := X8.cell; have xX5 := X5.cell
   go_wp2_with fail
   refine (jvFair hU hU' HY.out).mono ?_; rintro ee w4 ⟨e20, K20, s20, M20, E20, K20b, s20b, M20b, E20b, rfl, v20, B⟩; clear xX8 xX5; replace X4 := X4.below B; replace X5 := X5.below B; replace XR := XR.below B; replace XS := XS.below B; replace X8 := X8.below B; replace HB := Hqb HB B; clear B
   go_upto_region 5 with (fail)
   have lX9 := Nat.le_refl (World.heap w4).size; have nX9X4 := X4.lt; have nX9X5 := X5.lt; have nX9XR := XR.lt; have nX9XS := XS.lt; have nX9X8 := X8.lt; generalize hWn : w4.alloc _ = w5 at *; obtain ⟨X9, BW⟩ := Bo.nw hWn; clear hWn; replace X4 := X4.below BW; replace X5 := X5.below BW; replace XR := XR.below BW; replace XS := XS.below BW; replace X8 := X8.below BW; replace HB := Hqb HB BW
   clear BW; clear lX9 HY hU hU'; obtain ⟨cz, hcz⟩ : ∃ c, decide (y = some (0, 0)) = c := ⟨_, rfl⟩
   have HC : Hid ((e20 = false ∧ K20 = 0 ∧ s20 = false ∧ M20 = 0 ∧ E20 = 0 ∧ K20b = 0 ∧ s20b = false ∧ M20b = 0 ∧ E20b = 0) ↔ cz = true) := Lib.hid (by
     rw [← hcz, decide_eq_true_iff]
     constructor
     · rintro ⟨rfl, rfl, rfl, rfl, rfl, rfl, rfl, rfl, rfl⟩; exact v20.fn ci_zero
     · rintro rfl; exact v20.uniq ci_zero)
   have HD : Hid ((cz = true → none = d) ∧ (cz = false → y = d)) := Lib.hid ⟨fun h => by rw [← hd0]; unfold zout; rw [if_pos (of_decide_eq_true (hcz.trans h))], fun h => by rw [← hd0]; unfold zout; rw [if_neg (of_decide_eq_false (hcz.trans h))]⟩
   clear hcz hd0; refine Jo.rk [0, 1, 2, 3] [some 19, some 20, some 21, some 22] [[], [], [1], [0, 2]] 4 0 [Jo.q9 e20 K20 s20 M20 E20 K20b s20b M20b E20b, Jo.q4 0 false 0 0, Jo.q9 false 0 false 0 0 0 false 0 0, Jo.qb cz] (by kernel_rfl) (by kernel_rfl) (by decide) rfl ?_ ?_
   · iterate 2 (refine Jo.jm rfl ?_ ?_; rotate_left)
     refine Jo.jm rfl ?_ ?_
     · rintro wj hJ _ rfl K hK; simp only [Jo.z] at hK ⊢; go_simp; refine (jvPoint0).mono ?_; rintro ee wk ⟨rfl, B⟩; exact hK.out _ _ rfl B
     refine Jo.jm rfl ?_ ?_
     · rintro wj hJ _ rfl _ rfl K hK; simp only [Jo.z] at hK ⊢; have hc := HC.out; go_simp
       cases cz
       · have hne : ¬ (e20 = false ∧ K20 = 0 ∧ s20 = false ∧ M20 = 0 ∧ E20 = 0 ∧ K20b = 0 ∧ s20b = false ∧ M20b = 0 ∧ E20b = 0) := fun c => ff (hc.1 c)
         repeat' split
         all_goals exact hK.out _ _ (congrArg Value.bool (by first | rfl | (exfalso; simp_all))) (br _ _)
       · obtain ⟨rfl, rfl, rfl, rfl, rfl, rfl, rfl, rfl, rfl⟩ := hc.2 rfl
         repeat' split
         all_goals exact hK.out _ _ (congrArg Value.bool (by first | rfl | (exfalso; simp_all) | simp_all)) (br _ _)
     exact Jo.Steps.nil
     all_goals (rintro wj hJ; (repeat rintro _ rfl); intro K hK; simp only [Jo.z] at hK ⊢; have xX9 := (X9.below hJ).cell; go_simp; exact hK.out _ _ rfl (br _ _))
   rintro w6 hJ _ rfl _ rfl _ rfl _ rfl -; simp only [Jo.z]; replace X4 := X4.below hJ; replace XR := XR.below hJ; replace XS := XS.below hJ; replace X8 := X8.below hJ; replace X9 := X9.below hJ; replace HB := Hqb HB hJ; refine Jo.jdone (by kernel_rfl) ?_; clear HC
   go_upto_if 22 with (fail)
   go_cut [] (fun wx => ∃ (e27 : Bool) (K27 : Int) (s27 : Bool) (M27 E27 K27b : Int) (s27b : Bool) (M27b E27b : Int), Ci e27 K27 s27 M27 E27 K27b s27b M27b E27b d ∧ Bo wx (w4.heap.size) #[.bool e27, .int .i64 K27, .bool s27, .int .u64 M27, .int .i64 E27, .int .i64 K27b, .bool s27b, .int .u64 M27b, .int .i64 E27b] 26 ∧ Bo wx (w.heap.size + 1) #[.bool e2, .int .i64 G, .bool g, .int .u64 P, .int .i64 Q, .int .i64 G', .bool g', .int .u64 P', .int .i64 Q'] 26 ∧ Bo wx (w.heap.size + 1 + 1 + 1) #[.bool false, .int .i64 0, .bool false, .int .u64 0, .int .i64 0, .int .i64 0, .bool false, .int .u64 0, .int .i64 0] 26 ∧ Bo wx (w.heap.size + 1 + 1 + 1 + 1) #[.bool false, .int .i64 0, .bool false, .int .u64 0, .int .i64 0, .int .i64 0, .bool false, .int .u64 0, .int .i64 0] 26 ∧ Bo wx (w2.heap.size) #[.bool false, .int .i64 K1, .bool s1, .int .u64 M1, .int .i64 E1, .int .i64 K1b, .bool s1b, .int .u64 M1b, .int .i64 E1b] 26 ∧ Below w.heap.size w wx)
   case first =>
     cases cz
     · obtain rfl : y = d := HD.out.2 rfl
       go_wp2_with fail
       go_meet
       exact ⟨_, _, _, _, _, _, _, _, _, v20, X9, X4, XR, XS, X8, HB.out⟩
     · obtain rfl : none = d := HD.out.1 rfl
       go_wp2_with fail
       refine (jvNoneE).mono ?_; rintro ee w7 ⟨rfl, B⟩; replace X4 := X4.below B; replace XR := XR.below B; replace XS := XS.below B; replace X8 := X8.below B; replace X9 := X9.below B; replace HB := Hqb HB B; clear B; have xX9 := X9.cell; have zX90 := X9.frozen
       go_wp2_with fail
       clear xX9 zX90; generalize hS : ((((((((w7.setCell _ _).setCell _ _).setCell _ _).setCell _ _).setCell _ _).setCell _ _).setCell _ _).setCell _ _).setCell _ _ = w7b at *; have SX := StN.of9 X9 hS; replace X4 := X4.stn SX (by omega); replace XR := XR.stn SX (by omega); replace XS := XS.stn SX (by omega); replace X8 := X8.stn SX (by omega); replace HB := Hqs HB SX (by omega)
       replace X9 := SX.box; clear SX hS
       go_meet
       exact ⟨_, _, _, _, _, _, _, _, _, Ci.none, X9, X4, XR, XS, X8, HB.out⟩
   case rest =>
     clear X4 XR XS X8 X9 HB HD v20; obtain ⟨e27, K27, s27, M27, E27, K27b, s27b, M27b, E27b, v27, X9, X4, XR, XS, X8, hB⟩ := hcut; have HB := Lib.hid hB; clear hB
     go_upto_region 7 with (fail)
     have ltX4 := X4.lt; have ltXR := XR.lt; have ltXS := XS.lt; have ltX8 := X8.lt; have ltX9 := X9.lt; refine Jo.rk [0, 1, 2, 3, 4, 5] [some 24, some 25, some 26, some 27, some 28, some 10, none] [[], [], [], [1, 2], [0, 3], [], []] 7 1 [Jo.q9 e2 G g P Q G' g' P' Q', Jo.q9 false K1 s1 M1 E1 K1b s1b M1b E1b, Jo.q9 e27 K27 s27 M27 E27 K27b s27b M27b E27b, Jo.Fact.iv m, Jo.Fact.iv a, Jo.Fact.bo wc.heap.size #[.bool false, .int .i64 0, .bool false, .int .u64 0, .int .i64 0, .int .i64 0, .bool false, .int .u64 0, .int .i64 0] 26, Jo.Fact.any] (by kernel_rfl) (by kernel_rfl) (by decide) rfl ?_ ?_
     · iterate 3 (refine Jo.jm rfl ?_ ?_; rotate_left)
       refine Jo.jm rfl ?_ ?_
       · rintro wj hJ _ rfl _ rfl K hK; simp only [Jo.z] at hK ⊢; go_simp; refine (fwMul v1.top.1 v1.top.2 v27.top.1 v27.top.2 v1.rk v27.rk HMM.out).mono ?_; rintro ee wk ⟨e22, K22, s22, M22, E22, K22b, s22b, M22b, E22b, rfl, v22, B⟩; exact hK.out _ _ ⟨e22, K22, s22, M22, E22, K22b, s22b, M22b, E22b, rfl, v22⟩ B
       refine Jo.jm rfl ?_ ?_
       · rintro wj hJ _ rfl _ ⟨e22, K22, s22, M22, E22, K22b, s22b, M22b, E22b, rfl, v22⟩ K hK; simp only [Jo.z] at hK ⊢; go_simp; refine (jvTwo hP hP' v22.top.1 v22.top.2 HX.out v22.rk HA.out).mono ?_; rintro ee wk ⟨e23, K23, s23, M23, E23, K23b, s23b, M23b, E23b, rfl, v23, B⟩; exact hK.out _ _ ⟨e23, K23, s23, M23, E23, K23b, s23b, M23b, E23b, rfl, v23⟩ B
       refine Jo.jm rfl ?_ ?_
       · rintro wj hJ K hK; simp only [Jo.z] at hK ⊢; go_simp; exact hK.out _ _ ⟨_, rfl, hJ.size, Bo.new _ _ _⟩ (bel1 _ _)
       exact Jo.Steps.nil
       all_goals (rintro wj hJ; (repeat rintro _ rfl); intro K hK; simp only [Jo.z] at hK ⊢; have xX4 := (X4.below hJ).cell; have xX8 := (X8.below hJ).cell; have xX9 := (X9.below hJ).cell; go_simp; exact hK.out _ _ rfl (br _ _))
     rintro w8 hJ _ rfl _ rfl _ rfl _ ⟨e22, K22, s22, M22, E22, K22b, s22b, M22b, E22b, rfl, v22⟩ _ ⟨e23, K23, s23, M23, E23, K23b, s23b, M23b, E23b, rfl, v23⟩ _ ⟨g10, rfl, hg10, X10⟩ -; simp only [Jo.z]; replace X4 := X4.below hJ; replace XR := XR.below hJ; replace XS := XS.below hJ; replace X8 := X8.below hJ; replace X9 := X9.below hJ; replace HB := Hqb HB hJ; have xX10 := X10.cell
     have zX100 := X10.frozen
     refine Jo.jnext (i := 6) (o := ⟨none, _, _, _, _, _⟩) (by kernel_rfl) rfl (fun K hK => ?_)
     go_simp; refine hK.out _ _ ?_; clear hK K xX10 zX100; generalize hS : ((((((((w8.setCell _ _).setCell _ _).setCell _ _).setCell _ _).setCell _ _).setCell _ _).setCell _ _).setCell _ _).setCell _ _ = w9 at *; have SX := StN.of9 X10 hS; replace X4 := X4.stn SX (by omega); replace XR := XR.stn SX (by omega); replace XS := XS.stn SX (by omega); replace X8 := X8.stn SX (by omega)
     replace X9 := X9.stn SX (by omega); replace HB := Hqs HB SX (by omega); replace X10 := SX.box; clear SX hS; refine Jo.jdone (by kernel_rfl) ?_
     go_upto_region 8 with (fail)
     refine Jo.rk [0, 1, 2, 3, 4] [some 29, some 30, some 31, some 32, some 33, none, none] [[], [], [], [], [1, 2, 3], [], []] 7 2 [Jo.q9 e23 K23 s23 M23 E23 K23b s23b M23b E23b, Jo.q9 e27 K27 s27 M27 E27 K27b s27b M27b E27b, Jo.q9 e23 K23 s23 M23 E23 K23b s23b M23b E23b, Jo.q9 false K1 s1 M1 E1 K1b s1b M1b E1b, Jo.Fact.iv b, Jo.Fact.any, Jo.Fact.any] (by kernel_rfl) (by kernel_rfl) (by decide) rfl ?_ ?_
     · iterate 4 (refine Jo.jm rfl ?_ ?_; rotate_left)
       refine Jo.jm rfl ?_ ?_
       · rintro wj hJ _ rfl _ rfl _ rfl K hK; simp only [Jo.z] at hK ⊢; go_simp; refine (bwPart HQ.out v27.top.1 v27.top.2 v23.top.1 v23.top.2 v1.top.1 v1.top.2 v27.rk v23.rk v1.rk HBB.out).mono ?_; rintro ee wk ⟨e24, K24, s24, M24, E24, K24b, s24b, M24b, E24b, rfl, v24, B⟩; exact hK.out _ _ ⟨e24, K24, s24, M24, E24, K24b, s24b, M24b, E24b, rfl, v24⟩ B
       exact Jo.Steps.nil
       all_goals (rintro wj hJ; (repeat rintro _ rfl); intro K hK; simp only [Jo.z] at hK ⊢; have xX10 := (X10.below hJ).cell; have xX9 := (X9.below hJ).cell; have xX8 := (X8.below hJ).cell; go_simp; exact hK.out _ _ rfl (br _ _))
     rintro wA hJ _ rfl _ rfl _ rfl _ rfl _ ⟨e24, K24, s24, M24, E24, K24b, s24b, M24b, E24b, rfl, v24⟩ -; simp only [Jo.z]; replace X4 := X4.below hJ; replace XR := XR.below hJ; replace XS := XS.below hJ; replace X8 := X8.below hJ; replace X9 := X9.below hJ; replace X10 := X10.below hJ; replace HB := Hqb HB hJ; have xXR := XR.cell; have zXR0 := XR.frozen
     refine Jo.jnext (i := 5) (o := ⟨none, _, _, _, _, _⟩) (by kernel_rfl) rfl (fun K hK => ?_)
     go_simp; refine hK.out _ _ ?_; clear hK K xXR zXR0; generalize hS : ((((((((wA.setCell _ _).setCell _ _).setCell _ _).setCell _ _).setCell _ _).setCell _ _).setCell _ _).setCell _ _).setCell _ _ = wB at *; have SX := StN.of9 XR hS; replace X4 := X4.stn SX (by omega); replace XS := XS.stn SX (by omega); replace X8 := X8.stn SX (by omega); replace X9 := X9.stn SX (by omega)
     replace X10 := X10.stn SX (by omega); replace HB := Hqs HB SX (by omega); replace XR := SX.box; clear SX hS; have xXS := XS.cell; have zXS0 := XS.frozen
     refine Jo.jnext (i := 6) (o := ⟨none, _, _, _, _, _⟩) (by kernel_rfl) rfl (fun K hK => ?_)
     go_simp; refine hK.out _ _ ?_; clear hK K xXS zXS0; generalize hS : ((((((((wB.setCell _ _).setCell _ _).setCell _ _).setCell _ _).setCell _ _).setCell _ _).setCell _ _).setCell _ _).setCell _ _ = wC at *; have SX := StN.of9 XS hS; replace X4 := X4.stn SX (by omega); replace XR := XR.stn SX (by omega); replace X8 := X8.stn SX (by omega); replace X9 := X9.stn SX (by omega)
     replace X10 := X10.stn SX (by omega); replace HB := Hqs HB SX (by omega); replace XS := SX.box; clear SX hS; refine Jo.jdone (by kernel_rfl) ?_; go_wp2; exact bodyPost_ret (v := .tuple #[.agg #[.bool e23, .int .i64 K23, .bool s23, .int .u64 M23, .int .i64 E23, .int .i64 K23b, .bool s23b, .int .u64 M23b, .int .i64 E23b], .agg #[.bool e24, .int .i64 K24, .bool s24, .int .u64 M24, .int .i64 E24, .int .i64 K24b, .bool s24b, .int .u64 M24b, .int .i64 E24b]]) (by simp [results, Tryz.results19, go_sem, XR.cell, XS.cell]) rfl ⟨_, _, _, _, _, _, _, _, _, _, _, _, _, _, _, _, _, _, rfl, v23, v24, HB.out⟩
end Go.Proofs.YtnbliijpjcmbjaaGreatDoor

/-
 Contracts that the proof rests on.
-/
import Derived.Test.YtnbliijpjcmbjaaGreatDoorYAbi
import Derived.Test.YtnbliijpjcmbjaaGreatDoorYAbj
namespace Go.Proofs.YtnbliijpjcmbjaaGreatDoor
open Go.RowKit
set_option linter.unusedVariables false
set_option linter.unusedSimpArgs false
set_option maxRecDepth 100000
theorem fin_one10 {K M E r : Int} {s : Bool} (q : Fq K s M E r) (h0 : r ≠ 0) (h1 : -19342822337206103650074625 < r) (h2 : r < 19342822337206103650074625) : K = 1 := by
 rcases q.cases with ⟨rfl, rfl, rfl, rfl, h⟩ | ⟨rfl, _⟩ | ⟨rfl, rfl, rfl, ⟨rfl, h⟩ | ⟨rfl, h⟩⟩
 · omega
 · rfl
 · omega
 · omega
theorem Zi.all10 {a b : Int} (h1 : -9223372036854775807 ≤ a) (h : a ≤ b) (h2 : b ≤ 9223372036854775807) : mkI (opl a) (opl b) = Zi a b := (Zi.mk h1 h h2).1
set_option maxHeartbeats 8000000 in
theorem awake10 {w : World} {r : Bool → Int → Int} (hT : Tab w) (hT2 : Tb w) (hr : RF r) : Calls Tryz.prog 10 #[] w (PB w true) := by
 obtain ⟨hp1, hp2⟩ := aw10_plus; have hs := aw10_sqr hr
 have n3 : opl (-3) ≠ 0 ∧ -19342822337206103650074625 < opl (-3) ∧ opl (-3) < 19342822337206103650074625 := ⟨opl_nz (by decide) (by decide) (by decide), opl_fin (by decide) (by decide)⟩
 have hw : Zi (-3) (-2) = some (opl (-3), opl (-2)) := rfl
 have mx1 := Zi.all10 (a := 3) (b := 3) (by decide) (by decide) (by decide); have mx2 := Zi.all10 (a := 0) (b := 5) (by decide) (by decide) (by decide); have mx3 := Zi.all10 (a := 1) (b := 1) (by decide) (by decide) (by decide); have mx4 := Zi.all10 (a := 2) (b := 2) (by decide) (by decide) (by decide); have mx5 := Zi.all10 (a := 4) (b := 9) (by decide) (by decide) (by decide); have mx6 := Zi.all10 (a := (-5)) (b := 0) (by decide) (by decide) (by decide)
 have mx7 := Zi.all10 (a := (-3)) (b := (-2)) (by decide) (by decide) (by decide)
 have ei0 : sgi (decide ((0 : Int) < 0)) (lo (0 : Int).natAbs 0) = opl 0 := rfl
 have ei1 : sgi (decide ((1 : Int) < 0)) (lo (1 : Int).natAbs 0) = opl 1 := rfl
 have ei2 : sgi (decide ((2 : Int) < 0)) (lo (2 : Int).natAbs 0) = opl 2 := rfl
 have ei3 : sgi (decide ((3 : Int) < 0)) (lo (3 : Int).natAbs 0) = opl 3 := rfl
 have ei4 : sgi (decide ((4 : Int) < 0)) (lo (4 : Int).natAbs 0) = opl 4 := rfl
 have ei5 : sgi (decide ((5 : Int) < 0)) (lo (5 : Int).natAbs 0) = opl 5 := rfl
 have ei9 : sgi (decide ((9 : Int) < 0)) (lo (9 : Int).natAbs 0) = opl 9 := rfl
 have eim5 : sgi (decide (((-5) : Int) < 0)) (lo ((-5) : Int).natAbs 0) = opl (-5) := rfl
 have eim3 : sgi (decide (((-3) : Int) < 0)) (lo ((-3) : Int).natAbs 0) = opl (-3) := rfl
 have eim2 : sgi (decide (((-2) : Int) < 0)) (lo ((-2) : Int).natAbs 0) = opl (-2) := rfl
 generalize opl 0 = i0 at *; generalize opl 1 = i1 at *; generalize opl 2 = i2 at *; generalize opl 3 = i3 at *; generalize opl 4 = i4 at *; generalize opl 5 = i5 at *; generalize opl 9 = i9 at *; generalize opl (-5) = im5 at *; generalize opl (-3) = im3 at *; generalize opl (-2) = im2 at *; generalize Zi 3 3 = x1 at *; generalize Zi 0 5 = x2 at *; generalize Zi 1 1 = x3 at *; generalize Zi 2 2 = x4 at *
 generalize Zi 4 9 = x5 at *; generalize Zi (-5) 0 = x6 at *; generalize Zi (-3) (-2) = x7 at *; subst hw; have Hi0 := Lib.hid ei0; clear ei0; have Hi1 := Lib.hid ei1; clear ei1; have Hi2 := Lib.hid ei2; clear ei2; have Hi3 := Lib.hid ei3; clear ei3; have Hi4 := Lib.hid ei4; clear ei4; have Hi5 := Lib.hid ei5; clear ei5; have Hi9 := Lib.hid ei9; clear ei9; have Him5 := Lib.hid eim5; clear eim5; have Him3 := Lib.hid eim3
 clear eim3; have Him2 := Lib.hid eim2; clear eim2; have Mx1 := Lib.hid mx1; clear mx1; have Mx2 := Lib.hid mx2; clear mx2; have Mx3 := Lib.hid mx3; clear mx3; have Mx4 := Lib.hid mx4; clear mx4; have Mx5 := Lib.hid mx5; clear mx5; have Mx6 := Lib.hid mx6; clear mx6; have Mx7 := Lib.hid mx7; clear mx7; have HP1 := Lib.hid hp1; have HP2 := Lib.hid hp2; have HS := Lib.hid hs; have HN := Lib.hid n3; have HRR := Lib.hid hr
 clear hp1 hp2 hs n3 hr
 go_enter Tryz.func10, Tryz.ntmps10
 have HB := Lib.hid (Below.refl w.heap.size w)
 go_wp2_with fail
 refine (kvOf (by decide) (by decide) (by decide) (by decide) Hi3.out Hi3.out Mx1.out).mono ?_; rintro ee w1 ⟨e1, K1, s1, M1, E1, K1b, s1b, M1b, E1b, rfl, v1, B⟩; replace hT := hT.below B; replace hT2 := hT2.below B; replace HB := Hqb HB B; clear B
 go_wp2_with fail
 refine (kvOf (by decide) (by decide) (by decide) (by decide) Hi0.out Hi5.out Mx2.out).mono ?_; rintro ee w2 ⟨e2, K2, s2, M2, E2, K2b, s2b, M2b, E2b, rfl, v2, B⟩; replace hT := hT.below B; replace hT2 := hT2.below B; replace HB := Hqb HB B; clear B
 go_wp2_with fail
 refine (kvOf (by decide) (by decide) (by decide) (by decide) Hi1.out Hi1.out Mx3.out).mono ?_; rintro ee w3 ⟨e3, K3, s3, M3, E3, K3b, s3b, M3b, E3b, rfl, v3, B⟩; replace hT := hT.below B; replace hT2 := hT2.below B; replace HB := Hqb HB B; clear B
 go_wp2_with fail
 refine (bkPlus hT2 v1.top.1 v1.top.2 v2.top.1 v2.top.2 v3.top.1 v3.top.2 v1.rk v2.rk v3.rk HP1.out HP2.out).mono ?_; rintro ee w4 ⟨e21, K21, s21, M21, E21, K21b, s21b, M21b, E21b, e22, K22, s22, M22, E22, K22b, s22b, M22b, E22b, rfl, v21, v22, B⟩; replace hT := hT.below B; replace hT2 := hT2.below B; replace HB := Hqb HB B; clear B
 go_upto_region 2 with (fail)
 have e4X2 : (World.alloc w4 (.cells #[.bool e21, .int .i64 K21, .bool s21, .int .u64 M21, .int .i64 E21, .int .i64 K21b, .bool s21b, .int .u64 M21b, .int .i64 E21b] 26)).heap.size = w4.heap.size + 1 := by simp
 have lX1 := Nat.le_refl (World.heap w4).size; replace hT := hT.below (bel1 _ (.cells #[.bool e21, .int .i64 K21, .bool s21, .int .u64 M21, .int .i64 E21, .int .i64 K21b, .bool s21b, .int .u64 M21b, .int .i64 E21b] 26)); replace hT2 := hT2.below (bel1 _ (.cells #[.bool e21, .int .i64 K21, .bool s21, .int .u64 M21, .int .i64 E21, .int .i64 K21b, .bool s21b, .int .u64 M21b, .int .i64 E21b] 26)); replace HB := Lib.hid (bt HB.out (bel1 _ (.cells #[.bool e21, .int .i64 K21, .bool s21, .int .u64 M21, .int .i64 E21, .int .i64 K21b, .bool s21b, .int .u64 M21b, .int .i64 E21b] 26)))
 have X1 := Bo.new w4 #[.bool e21, .int .i64 K21, .bool s21, .int .u64 M21, .int .i64 E21, .int .i64 K21b, .bool s21b, .int .u64 M21b, .int .i64 E21b] 26; generalize hWn : World.alloc w4 (.cells #[.bool e21, .int .i64 K21, .bool s21, .int .u64 M21, .int .i64 E21, .int .i64 K21b, .bool s21b, .int .u64 M21b, .int .i64 E21b] 26) = w5 at *; clear hWn; have lX2 := Nat.le_refl (World.heap w5).size; have nX2X1 := X1.lt
 generalize hWn : w5.alloc _ = w6 at *; obtain ⟨X2, BW⟩ := Bo.nw hWn; clear hWn; replace X1 := X1.below BW; replace hT := hT.below BW; replace hT2 := hT2.below BW; replace HB := Hqb HB BW; clear BW; rw [e4X2] at X2; clear lX1 lX2 e4X2; clear v1 v2 v3
 go_wp2_with fail
 refine (kvOf (by decide) (by decide) (by decide) (by decide) Hi4.out Hi9.out Mx5.out).mono ?_; rintro ee w7 ⟨e4, K4, s4, M4, E4, K4b, s4b, M4b, E4b, rfl, v4, B⟩; replace X1 := X1.below B; replace X2 := X2.below B; replace hT := hT.below B; replace hT2 := hT2.below B; replace HB := Hqb HB B; clear B
 go_wp2_with fail
 refine (kvOf (by decide) (by decide) (by decide) (by decide) Him5.out Hi0.out Mx6.out).mono ?_; rintro ee w8 ⟨e5, K5, s5, M5, E5, K5b, s5b, M5b, E5b, rfl, v5, B⟩; replace X1 := X1.below B; replace X2 := X2.below B; replace hT := hT.below B; replace hT2 := hT2.below B; replace HB := Hqb HB B; clear B
 go_wp2_with fail
 refine (bkSqr hT HRR.out v4.top.1 v4.top.2 v5.top.1 v5.top.2 v4.rk v5.rk HS.out).mono ?_; rintro ee w9 ⟨e6, K6, s6, M6, E6, K6b, s6b, M6b, E6b, rfl, v6, B⟩; replace X1 := X1.below B; replace X2 := X2.below B; replace hT := hT.below B; replace hT2 := hT2.below B; replace HB := Hqb HB B; clear B; clear v4 v5; obtain ⟨rfl, a6, b6, o6a, o6l, o6h⟩ := v6
 obtain rfl : K6 = 1 := fin_one10 a6 HN.out.1 HN.out.2.1 HN.out.2.2
 go_upto_region 3 with (fail)
 have lX3 := Nat.le_refl (World.heap w9).size; have nX3X1 := X1.lt; have nX3X2 := X2.lt; generalize hWn : w9.alloc _ = wA at *; obtain ⟨X3, BW⟩ := Bo.nw hWn; clear hWn; replace X1 := X1.below BW; replace X2 := X2.below BW; replace hT := hT.below BW; replace hT2 := hT2.below BW; replace HB := Hqb HB BW; clear BW; clear lX3
 have v6 : Ci false 1 s6 M6 E6 K6b s6b M6b E6b (some (im3, im2)) := ⟨rfl, a6, b6, o6a, o6l, o6h⟩
 refine Jo.rk [0, 1, 2, 3, 4, 5, 6, 7, 8, 9, 10, 11, 12, 13, 14, 15, 16, 17, 18, 19, 20, 21, 22, 23, 24, 25, 26, 27, 28, 29, 30] [some 14, some 15, some 16, some 17, some 18, some 19, some 20, some 21, some 22, some 23, some 24, some 25, some 26, some 27, some 28, some 29, some 30, some 31, some 32, some 33, some 34, some 35, some 36, some 37, some 38, some 39, some 40, some 41, some 42, some 43, some 0] [[], [], [0, 1], [2], [3], [3], [3, 4, 5], [3, 6], [7], [8], [8], [8, 9, 10], [8, 11], [12], [13], [13, 14], [13, 15], [13, 16], [17], [18], [18, 19], [18], [18, 20, 21], [18, 22], [23], [24], [24, 25], [24, 26], [24, 27], [24, 28], [29]] 31 0 [Jo.q9 e21 K21 s21 M21 E21 K21b s21b M21b E21b, Jo.Fact.iv x4, Jo.qb true, Jo.qb true, Jo.q9 e22 K22 s22 M22 E22 K22b s22b M22b E22b, Jo.Fact.iv x3, Jo.qb true, Jo.qb true, Jo.qb true, Jo.q9 false 1 s6 M6 E6 K6b s6b M6b E6b, Jo.Fact.iv (some (im3, im2)), Jo.qb true, Jo.qb true, Jo.qb true, Jo.qp w9.heap.size 0, Jo.qb false, Jo.qb true, Jo.qb true, Jo.qb true, Jo.qp w9.heap.size 1, Jo.q4 1 s6 M6 E6, Jo.Fact.num im3, Jo.qb true, Jo.qb true, Jo.qb true, Jo.qp w9.heap.size 1, Jo.qp w9.heap.size 1, Jo.qi 1, Jo.qb true, Jo.qb true, Jo.qb true] (by kernel_rfl) (by kernel_rfl) (by decide) rfl ?_ ?_
 · refine Jo.jm rfl ?_ ?_; rotate_left
   refine Jo.jm rfl ?_ ?_
   · rintro wj hJ K hK; simp only [Jo.z] at hK ⊢; go_simp; refine (kvOf (by decide) (by decide) (by decide) (by decide) Hi2.out Hi2.out Mx4.out).mono ?_; rintro ee wk ⟨e7, K7, s7, M7, E7, K7b, s7b, M7b, E7b, rfl, v7, B⟩; exact hK.out _ _ ⟨e7, K7, s7, M7, E7, K7b, s7b, M7b, E7b, rfl, v7⟩ B
   refine Jo.jm rfl ?_ ?_
   · rintro wj hJ _ rfl _ ⟨e7, K7, s7, M7, E7, K7b, s7b, M7b, E7b, rfl, v7⟩ K hK; simp only [Jo.z] at hK ⊢; obtain ⟨rfl, rfl, rfl, rfl, rfl, rfl, rfl, rfl, rfl⟩ := v21.uniq v7; go_simp
     exact hK.out _ _ (by first | rfl | (show Value.bool _ = Value.bool _; simp)) (br _ _)
   iterate 2 (refine Jo.jm rfl ?_ ?_; rotate_left)
   refine Jo.jm rfl ?_ ?_
   · rintro wj hJ _ rfl K hK; simp only [Jo.z] at hK ⊢; go_simp; refine (kvOf (by decide) (by decide) (by decide) (by decide) Hi1.out Hi1.out Mx3.out).mono ?_; rintro ee wk ⟨e8, K8, s8, M8, E8, K8b, s8b, M8b, E8b, rfl, v8, B⟩; exact hK.out _ _ ⟨e8, K8, s8, M8, E8, K8b, s8b, M8b, E8b, rfl, v8⟩ B
   refine Jo.jm rfl ?_ ?_
   · rintro wj hJ _ rfl _ rfl _ ⟨e8, K8, s8, M8, E8, K8b, s8b, M8b, E8b, rfl, v8⟩ K hK; simp only [Jo.z] at hK ⊢; obtain ⟨rfl, rfl, rfl, rfl, rfl, rfl, rfl, rfl, rfl⟩ := v22.uniq v8; go_simp
     exact hK.out _ _ (by first | rfl | (show Value.bool _ = Value.bool _; simp)) (br _ _)
   iterate 3 (refine Jo.jm rfl ?_ ?_; rotate_left)
   refine Jo.jm rfl ?_ ?_
   · rintro wj hJ _ rfl K hK; simp only [Jo.z] at hK ⊢; go_simp; refine (kvOf (by decide) (by decide) (by decide) (by decide) Him3.out Him2.out Mx7.out).mono ?_; rintro ee wk ⟨e9, K9, s9, M9, E9, K9b, s9b, M9b, E9b, rfl, v9, B⟩; exact hK.out _ _ ⟨e9, K9, s9, M9, E9, K9b, s9b, M9b, E9b, rfl, v9⟩ B
   refine Jo.jm rfl ?_ ?_
   · rintro wj hJ _ rfl _ rfl _ ⟨e9, K9, s9, M9, E9, K9b, s9b, M9b, E9b, rfl, v9⟩ K hK; simp only [Jo.z] at hK ⊢; obtain ⟨rfl, rfl, rfl, rfl, rfl, rfl, rfl, rfl, rfl⟩ := v6.uniq v9; go_simp
     exact hK.out _ _ (by first | rfl | (show Value.bool _ = Value.bool _; simp)) (br _ _)
   iterate 3 (refine Jo.jm rfl ?_ ?_; rotate_left)
   refine Jo.jm rfl ?_ ?_
   · rintro wj hJ _ rfl _ rfl K hK; simp only [Jo.z] at hK ⊢; have xX30 := (X3.below hJ).a 0 (.bool false) rfl; go_simp; exact hK.out _ _ rfl (br _ _)
   iterate 5 (refine Jo.jm rfl ?_ ?_; rotate_left)
   refine Jo.jm rfl ?_ ?_
   · rintro wj hJ _ rfl K hK; simp only [Jo.z] at hK ⊢; go_simp; refine (nOf _ (by decide) (by decide) Him3.out).mono ?_; rintro ee wk ⟨K10, s10, M10, E10, rfl, q10, B⟩; exact hK.out _ _ ⟨K10, s10, M10, E10, rfl, q10⟩ B
   refine Jo.jm rfl ?_ ?_
   · rintro wj hJ _ rfl _ rfl _ ⟨K10, s10, M10, E10, rfl, q10⟩ K hK; simp only [Jo.z] at hK ⊢; obtain ⟨rfl, rfl, rfl, rfl⟩ := a6.uniq q10; go_simp
     exact hK.out _ _ (by first | rfl | (show Value.bool _ = Value.bool _; simp)) (br _ _)
   iterate 4 (refine Jo.jm rfl ?_ ?_; rotate_left)
   refine Jo.jm rfl ?_ ?_
   · rintro wj hJ _ rfl _ rfl K hK; simp only [Jo.z] at hK ⊢; have xX31 := (X3.below hJ).a 1 (.int .i64 1) rfl; go_simp; exact hK.out _ _ rfl (br _ _)
   refine Jo.jm rfl ?_ ?_
   · rintro wj hJ _ rfl _ rfl K hK; simp only [Jo.z] at hK ⊢; go_simp
     exact hK.out _ _ (by first | rfl | (show Value.bool _ = Value.bool _; simp)) (br _ _)
   iterate 2 (refine Jo.jm rfl ?_ ?_; rotate_left)
   exact Jo.Steps.nil
   all_goals (rintro wj hJ; (repeat rintro _ rfl); intro K hK; simp only [Jo.z] at hK ⊢; have xX1 := (X1.below hJ).cell; have xX2 := (X2.below hJ).cell; have xX3 := (X3.below hJ).cell; go_simp; exact hK.out _ _ rfl (br _ _))
 rintro wB hJ _ rfl _ ⟨e7, K7, s7, M7, E7, K7b, s7b, M7b, E7b, rfl, v7⟩ _ rfl _ rfl _ rfl _ ⟨e8, K8, s8, M8, E8, K8b, s8b, M8b, E8b, rfl, v8⟩ _ rfl _ rfl _ rfl _ rfl _ ⟨e9, K9, s9, M9, E9, K9b, s9b, M9b, E9b, rfl, v9⟩ _ rfl _ rfl _ rfl _ _ _ rfl _ rfl _ rfl _ rfl _ _ _ rfl _ ⟨K10, s10, M10, E10, rfl, _⟩ _ rfl _ rfl _ rfl _ _ _ _ _ rfl _ rfl _ rfl _ rfl -; simp only [Jo.z]; replace X1 := X1.below hJ
 replace X2 := X2.below hJ; replace X3 := X3.below hJ; replace hT := hT.below hJ; replace hT2 := hT2.below hJ; replace HB := Hqb HB hJ; refine Jo.jdone (by kernel_rfl) ?_; go_wp2
 go_ret
 exact ⟨rfl, HB.out⟩
end Go.Proofs.YtnbliijpjcmbjaaGreatDoor

/-
  The walk of IvWider: for all arguments the call answers true, and nothing that was there has turned.
-/
import Derived.Test.YthhlccdmflgbbaaDoorYBas
namespace Go.Proofs.YthhlccdmflgbbaaDoor
open Go.RowKit
set_option linter.unusedVariables false
set_option linter.unusedSimpArgs false
set_option maxRecDepth 100000

set_option maxHeartbeats 8000000 in
theorem ivWider_no (e0 : Bool) (D0 : Int) (s0 : Bool) (M0 E0 G0 : Int) (g0 : Bool) (P0 Q0 : Int) (D1 : Int) (s1 : Bool) (M1 E1 : Int) (D2 : Int) (s2 : Bool) (M2 E2 : Int) (w : World) (u0 : M0 < 18446744073709551616) (v0 : P0 < 18446744073709551616) (h : mayI e0 D0 s0 M0 E0 G0 g0 P0 Q0 = false) :
    Calls Tryd.prog 4 #[.agg #[.bool e0, .int .i64 D0, .bool s0, .int .u64 M0, .int .i64 E0, .int .i64 G0, .bool g0, .int .u64 P0, .int .i64 Q0], .agg #[.int .i64 D1, .bool s1, .int .u64 M1, .int .i64 E1], .agg #[.int .i64 D2, .bool s2, .int .u64 M2, .int .i64 E2]] w (PB w true) := by
  have H0 := Lib.hid h; clear h
  go_enter Tryd.func4, Tryd.ntmps4
  go_upto_region 1 with (fail)
  generalize hW1 : ((w.alloc _).alloc _).alloc _ = w1 at *; obtain ⟨X0, X1, X2, HB⟩ := Bo.en3 hW1; clear hW1
  go_wp2_with fail
  refine (awake8).mono ?_; rintro ee w2 ⟨rfl, B⟩; replace X0 := X0.below B; replace X1 := X1.below B; replace X2 := X2.below B; replace HB := Lib.hid (bt HB.out B); clear B; obtain ⟨xX00, xX01, xX02, xX03, xX04, xX05, xX06, xX07, xX08⟩ := X0.u9
  go_wp2_with fail
  refine (kvMay u0 v0 H0.out).mono ?_; rintro ee w3 ⟨rfl, B⟩; clear xX00 xX01 xX02 xX03 xX04 xX05 xX06 xX07 xX08; replace X0 := X0.below B; replace X1 := X1.below B; replace X2 := X2.below B; replace HB := Lib.hid (bt HB.out B); clear B; go_wp2
  go_ret
  exact ⟨rfl, HB.out⟩
set_option maxHeartbeats 8000000 in
theorem ivWider_neg (e0 : Bool) (D0 : Int) (s0 : Bool) (M0 E0 G0 : Int) (g0 : Bool) (P0 Q0 : Int) (D1 : Int) (s1 : Bool) (M1 E1 : Int) (D2 : Int) (s2 : Bool) (M2 E2 : Int) (w : World) (x : Sp) (σ : Int) (c0 : Ci e0 D0 s0 M0 E0 G0 g0 P0 Q0 x) (u1 : M1 < 18446744073709551616) (hσ : cmpI (rk D1 s1 M1 E1) 0 = σ) (ht : decide (σ < 0) = true) :
    Calls Tryd.prog 4 #[.agg #[.bool e0, .int .i64 D0, .bool s0, .int .u64 M0, .int .i64 E0, .int .i64 G0, .bool g0, .int .u64 P0, .int .i64 Q0], .agg #[.int .i64 D1, .bool s1, .int .u64 M1, .int .i64 E1], .agg #[.int .i64 D2, .bool s2, .int .u64 M2, .int .i64 E2]] w (PB w true) := by
  have HS := Lib.hid hσ; clear hσ
  go_enter Tryd.func4, Tryd.ntmps4
  go_upto_region 1 with (fail)
  generalize hW1 : ((w.alloc _).alloc _).alloc _ = w1 at *; obtain ⟨X0, X1, X2, HB⟩ := Bo.en3 hW1; clear hW1
  go_wp2_with fail
  refine (awake8).mono ?_; rintro ee w2 ⟨rfl, B⟩; replace X0 := X0.below B; replace X1 := X1.below B; replace X2 := X2.below B; replace HB := Lib.hid (bt HB.out B); clear B; obtain ⟨xX00, xX01, xX02, xX03, xX04, xX05, xX06, xX07, xX08⟩ := X0.u9
  go_wp2_with fail
  refine (kvMay c0.top.1 c0.top.2 c0.may).mono ?_; rintro ee w3 ⟨rfl, B⟩; clear xX00 xX01 xX02 xX03 xX04 xX05 xX06 xX07 xX08; replace X0 := X0.below B; replace X1 := X1.below B; replace X2 := X2.below B; replace HB := Lib.hid (bt HB.out B); clear B; obtain ⟨xX10, xX11, xX12, xX13⟩ := X1.u4
  go_wp2_with fail
  refine (nSign u1 HS.out).mono ?_; rintro ee w4 ⟨rfl, B⟩; clear xX10 xX11 xX12 xX13; replace X0 := X0.below B; replace X1 := X1.below B; replace X2 := X2.below B; replace HB := Lib.hid (bt HB.out B); clear B; go_wp2
  go_ret
  exact ⟨rfl, HB.out⟩
set_option maxHeartbeats 8000000 in
theorem ivWider_gt (e0 : Bool) (D0 : Int) (s0 : Bool) (M0 E0 G0 : Int) (g0 : Bool) (P0 Q0 : Int) (D1 : Int) (s1 : Bool) (M1 E1 : Int) (D2 : Int) (s2 : Bool) (M2 E2 : Int) (w : World) (x : Sp) (σ c : Int) (c0 : Ci e0 D0 s0 M0 E0 G0 g0 P0 Q0 x) (u1 : M1 < 18446744073709551616) (u2 : M2 < 18446744073709551616) (hσ : cmpI (rk D1 s1 M1 E1) 0 = σ) (ht : decide (σ < 0) = false) (hc : cmpI (rk D1 s1 M1 E1) (rk D2 s2 M2 E2) = c) (ht2 : decide (0 < c) = true) :
    Calls Tryd.prog 4 #[.agg #[.bool e0, .int .i64 D0, .bool s0, .int .u64 M0, .int .i64 E0, .int .i64 G0, .bool g0, .int .u64 P0, .int .i64 Q0], .agg #[.int .i64 D1, .bool s1, .int .u64 M1, .int .i64 E1], .agg #[.int .i64 D2, .bool s2, .int .u64 M2, .int .i64 E2]] w (PB w true) := by
  have HS := Lib.hid hσ; have HC := Lib.hid hc; clear hσ hc
  go_enter Tryd.func4, Tryd.ntmps4
  go_upto_region 1 with (fail)
  generalize hW1 : ((w.alloc _).alloc _).alloc _ = w1 at *; obtain ⟨X0, X1, X2, HB⟩ := Bo.en3 hW1; clear hW1
  go_wp2_with fail
  refine (awake8).mono ?_; rintro ee w2 ⟨rfl, B⟩; replace X0 := X0.below B; replace X1 := X1.below B; replace X2 := X2.below B; replace HB := Lib.hid (bt HB.out B); clear B; obtain ⟨xX00, xX01, xX02, xX03, xX04, xX05, xX06, xX07, xX08⟩ := X0.u9
  go_wp2_with fail
  refine (kvMay c0.top.1 c0.top.2 c0.may).mono ?_; rintro ee w3 ⟨rfl, B⟩; clear xX00 xX01 xX02 xX03 xX04 xX05 xX06 xX07 xX08; replace X0 := X0.below B; replace X1 := X1.below B; replace X2 := X2.below B; replace HB := Lib.hid (bt HB.out B); clear B; obtain ⟨xX10, xX11, xX12, xX13⟩ := X1.u4
  go_wp2_with fail
  refine (nSign u1 HS.out).mono ?_; rintro ee w4 ⟨rfl, B⟩; clear xX10 xX11 xX12 xX13; replace X0 := X0.below B; replace X1 := X1.below B; replace X2 := X2.below B; replace HB := Lib.hid (bt HB.out B); clear B; obtain ⟨xX10, xX11, xX12, xX13⟩ := X1.u4; obtain ⟨xX20, xX21, xX22, xX23⟩ := X2.u4
  go_wp2_with fail
  refine (nCmp u1 u2 HC.out).mono ?_; rintro ee w5 ⟨rfl, B⟩; clear xX10 xX11 xX12 xX13 xX20 xX21 xX22 xX23; replace X0 := X0.below B; replace X1 := X1.below B; replace X2 := X2.below B; replace HB := Lib.hid (bt HB.out B); clear B; go_wp2
  go_ret
  exact ⟨rfl, HB.out⟩
set_option maxHeartbeats 8000000 in
theorem ivWider_main (e0 : Bool) (D0 : Int) (s0 : Bool) (M0 E0 G0 : Int) (g0 : Bool) (P0 Q0 : Int) (D1 : Int) (s1 : Bool) (M1 E1 : Int) (D2 : Int) (s2 : Bool) (M2 E2 : Int) (w : World) (x y z : Sp) (a b σ c : Int) (hT : Tb w) (c0 : Ci e0 D0 s0 M0 E0 G0 g0 P0 Q0 x) (u1 : M1 < 18446744073709551616) (u2 : M2 < 18446744073709551616) (ha : rk D1 s1 M1 E1 = a) (hb : rk D2 s2 M2 E2 = b) (hσ : cmpI (rk D1 s1 M1 E1) 0 = σ) (ht : decide (σ < 0) = false) (hc : cmpI (rk D1 s1 M1 E1) (rk D2 s2 M2 E2) = c) (ht2 : decide (0 < c) = false)
    (hy : infI x a = y) (hz : infI x b = z) (h0 : infI x 0 = x) (h1 : witI x y = true) (h2 : witI y z = true) :
    Calls Tryd.prog 4 #[.agg #[.bool e0, .int .i64 D0, .bool s0, .int .u64 M0, .int .i64 E0, .int .i64 G0, .bool g0, .int .u64 P0, .int .i64 Q0], .agg #[.int .i64 D1, .bool s1, .int .u64 M1, .int .i64 E1], .agg #[.int .i64 D2, .bool s2, .int .u64 M2, .int .i64 E2]] w (PB w true) := by
  have HS := Lib.hid hσ; have HC := Lib.hid hc; have HA := Lib.hid ha; have HBB := Lib.hid hb; have HY := Lib.hid hy; have HZ := Lib.hid hz; have H0 := Lib.hid h0; have H1 := Lib.hid h1; have H2 := Lib.hid h2
  have HR0 : Hid (rk 0 false 0 0 = 0) := Lib.hid Fq.nought.rk
  clear hσ hc ha hb hy hz h0 h1 h2
  go_enter Tryd.func4, Tryd.ntmps4
  go_upto_region 1 with (fail)
  generalize hW1 : ((w.alloc _).alloc _).alloc _ = w1 at *; obtain ⟨X0, X1, X2, HB⟩ := Bo.en3 hW1; replace hT := hT.below HB.out; clear hW1
  go_wp2_with fail
  refine (awake8).mono ?_; rintro ee w2 ⟨rfl, B⟩; replace X0 := X0.below B; replace X1 := X1.below B; replace X2 := X2.below B; replace hT := hT.below B; replace HB := Lib.hid (bt HB.out B); clear B; obtain ⟨xX00, xX01, xX02, xX03, xX04, xX05, xX06, xX07, xX08⟩ := X0.u9
  go_wp2_with fail
  refine (kvMay c0.top.1 c0.top.2 c0.may).mono ?_; rintro ee w3 ⟨rfl, B⟩; clear xX00 xX01 xX02 xX03 xX04 xX05 xX06 xX07 xX08; replace X0 := X0.below B; replace X1 := X1.below B; replace X2 := X2.below B; replace hT := hT.below B; replace HB := Lib.hid (bt HB.out B); clear B; obtain ⟨xX10, xX11, xX12, xX13⟩ := X1.u4
  go_wp2_with fail
  refine (nSign u1 HS.out).mono ?_; rintro ee w4 ⟨rfl, B⟩; clear xX10 xX11 xX12 xX13; replace X0 := X0.below B; replace X1 := X1.below B; replace X2 := X2.below B; replace hT := hT.below B; replace HB := Lib.hid (bt HB.out B); clear B; obtain ⟨xX10, xX11, xX12, xX13⟩ := X1.u4; obtain ⟨xX20, xX21, xX22, xX23⟩ := X2.u4
  go_wp2_with fail
  refine (nCmp u1 u2 HC.out).mono ?_; rintro ee w5 ⟨rfl, B⟩; clear xX10 xX11 xX12 xX13 xX20 xX21 xX22 xX23; replace X0 := X0.below B; replace X1 := X1.below B; replace X2 := X2.below B; replace hT := hT.below B; replace HB := Lib.hid (bt HB.out B); clear B; obtain ⟨xX00, xX01, xX02, xX03, xX04, xX05, xX06, xX07, xX08⟩ := X0.u9; obtain ⟨xX10, xX11, xX12, xX13⟩ := X1.u4
  go_wp2_with fail
  refine (kvInflate hT c0.top.1 c0.top.2 u1 c0.rk HA.out HY.out).mono ?_; rintro ee w6 ⟨e20, K20, s20, M20, E20, K20b, s20b, M20b, E20b, rfl, v20, B⟩; clear xX00 xX01 xX02 xX03 xX04 xX05 xX06 xX07 xX08 xX10 xX11 xX12 xX13; replace X0 := X0.below B; replace X1 := X1.below B; replace X2 := X2.below B; replace hT := hT.below B; replace HB := Lib.hid (bt HB.out B); clear B
  go_upto_region 5 with (fail)
  have lX8 := Nat.le_refl (World.heap w6).size; have nX8X0 := X0.lt; have nX8X1 := X1.lt; have nX8X2 := X2.lt; generalize hWn : w6.alloc _ = w7 at *; obtain ⟨X8, BW⟩ := Bo.nw hWn; clear hWn; replace X0 := X0.below BW; replace X1 := X1.below BW; replace X2 := X2.below BW; replace hT := hT.below BW; replace HB := Lib.hid (bt HB.out BW); clear BW; clear lX8; obtain ⟨xX00, xX01, xX02, xX03, xX04, xX05, xX06, xX07, xX08⟩ := X0.u9
  obtain ⟨xX20, xX21, xX22, xX23⟩ := X2.u4
  go_wp2_with fail
  refine (kvInflate hT c0.top.1 c0.top.2 u2 c0.rk HBB.out HZ.out).mono ?_; rintro ee w8 ⟨e21, K21, s21, M21, E21, K21b, s21b, M21b, E21b, rfl, v21, B⟩; clear xX00 xX01 xX02 xX03 xX04 xX05 xX06 xX07 xX08 xX20 xX21 xX22 xX23; replace X0 := X0.below B; replace X1 := X1.below B; replace X2 := X2.below B; replace X8 := X8.below B; replace hT := hT.below B; replace HB := Lib.hid (bt HB.out B); clear B
  go_upto_region 6 with (fail)
  have lX9 := Nat.le_refl (World.heap w8).size; have nX9X0 := X0.lt; have nX9X1 := X1.lt; have nX9X2 := X2.lt; have nX9X8 := X8.lt; generalize hWn : w8.alloc _ = w9 at *; obtain ⟨X9, BW⟩ := Bo.nw hWn; clear hWn; replace X0 := X0.below BW; replace X1 := X1.below BW; replace X2 := X2.below BW; replace X8 := X8.below BW; replace hT := hT.below BW; replace HB := Lib.hid (bt HB.out BW); clear BW; clear lX9
  refine Jo.rj [0, 1, 2, 3, 4, 5, 6, 7, 8, 9, 10, 11, 12, 13, 14, 15, 16, 17, 18, 19, 20, 21, 22] [some 32, some 33, some 34, some 35, some 36, some 37, some 38, some 39, some 40, some 41, some 42, some 43, some 44, some 45, some 46, some 47, some 48, some 49, some 50, some 51, some 52, some 53, some 6] [[], [0], [1], [1], [1, 2, 3], [1, 4], [5], [6], [6], [6, 7, 8], [6, 9], [10], [11], [11], [11, 12, 13], [11], [11, 14, 15], [11, 16], [17], [18], [18, 19], [18, 20], [21]] 23 [(some 32, 0), (some 33, 1), (some 34, 2), (some 35, 3), (some 36, 4), (some 37, 5), (some 38, 6), (some 39, 7), (some 40, 8), (some 41, 9), (some 42, 10), (some 43, 11), (some 44, 12), (some 45, 13), (some 46, 14), (some 47, 15), (some 48, 16), (some 49, 17), (some 50, 18), (some 51, 19), (some 52, 20), (some 53, 21), (some 6, 22)] 0 [Jo.qb true, Jo.qb true, Jo.q9 e0 D0 s0 M0 E0 G0 g0 P0 Q0, Jo.q9 e20 K20 s20 M20 E20 K20b s20b M20b E20b, Jo.qb true, Jo.qb true, Jo.qb true, Jo.q9 e20 K20 s20 M20 E20 K20b s20b M20b E20b, Jo.q9 e21 K21 s21 M21 E21 K21b s21b M21b E21b, Jo.qb true, Jo.qb true, Jo.qb true, Jo.q9 e0 D0 s0 M0 E0 G0 g0 P0 Q0, Jo.q4 0 false 0 0, Jo.Fact.iv x, Jo.q9 e0 D0 s0 M0 E0 G0 g0 P0 Q0, Jo.qb true, Jo.qb true, Jo.qb true, Jo.q9 e21 K21 s21 M21 E21 K21b s21b M21b E21b, Jo.qb true, Jo.qb true, Jo.qb true] (by kernel_rfl) (by kernel_rfl) (by decide) rfl rfl ?_ ?_
  · refine Jo.jn 0 (some 32) [] _ rfl rfl rfl rfl ?_ ?_
    · rintro wj hJ K hK; simp only [Jo.z] at hK ⊢; go_simp; exact hK.out _ _ rfl (br _ _)
    refine Jo.jn 1 (some 33) [(some 32, 0)] _ rfl rfl rfl rfl ?_ ?_
    · rintro wj hJ _ rfl K hK; simp only [Jo.z] at hK ⊢; go_simp; exact hK.out _ _ rfl (br _ _)
    refine Jo.jn 2 (some 34) [(some 33, 1)] _ rfl rfl rfl rfl ?_ ?_
    · rintro wj hJ _ rfl K hK; simp only [Jo.z] at hK ⊢; obtain ⟨xX00, xX01, xX02, xX03, xX04, xX05, xX06, xX07, xX08⟩ := (X0.below hJ).u9; go_simp; exact hK.out _ _ rfl (br _ _)
    refine Jo.jn 3 (some 35) [(some 33, 1)] _ rfl rfl rfl rfl ?_ ?_
    · rintro wj hJ _ rfl K hK; simp only [Jo.z] at hK ⊢; obtain ⟨xX80, xX81, xX82, xX83, xX84, xX85, xX86, xX87, xX88⟩ := (X8.below hJ).u9; go_simp; exact hK.out _ _ rfl (br _ _)
    refine Jo.jn 4 (some 36) [(some 33, 1), (some 34, 2), (some 35, 3)] _ rfl rfl rfl rfl ?_ ?_
    · rintro wj hJ _ rfl _ rfl _ rfl K hK; simp only [Jo.z] at hK ⊢; go_simp; refine (kvWithin c0.top.1 c0.top.2 v20.top.1 v20.top.2 c0.rk v20.rk H1.out).mono ?_; rintro ee wk ⟨rfl, B⟩; exact hK.out _ _ rfl B
    refine Jo.jn 5 (some 37) [(some 33, 1), (some 36, 4)] _ rfl rfl rfl rfl ?_ ?_
    · rintro wj hJ _ rfl _ rfl K hK; simp only [Jo.z] at hK ⊢; go_simp; exact hK.out _ _ rfl (br _ _)
    refine Jo.jn 6 (some 38) [(some 37, 5)] _ rfl rfl rfl rfl ?_ ?_
    · rintro wj hJ _ rfl K hK; simp only [Jo.z] at hK ⊢; go_simp; exact hK.out _ _ rfl (br _ _)
    refine Jo.jn 7 (some 39) [(some 38, 6)] _ rfl rfl rfl rfl ?_ ?_
    · rintro wj hJ _ rfl K hK; simp only [Jo.z] at hK ⊢; obtain ⟨xX80, xX81, xX82, xX83, xX84, xX85, xX86, xX87, xX88⟩ := (X8.below hJ).u9; go_simp; exact hK.out _ _ rfl (br _ _)
    refine Jo.jn 8 (some 40) [(some 38, 6)] _ rfl rfl rfl rfl ?_ ?_
    · rintro wj hJ _ rfl K hK; simp only [Jo.z] at hK ⊢; obtain ⟨xX90, xX91, xX92, xX93, xX94, xX95, xX96, xX97, xX98⟩ := (X9.below hJ).u9; go_simp; exact hK.out _ _ rfl (br _ _)
    refine Jo.jn 9 (some 41) [(some 38, 6), (some 39, 7), (some 40, 8)] _ rfl rfl rfl rfl ?_ ?_
    · rintro wj hJ _ rfl _ rfl _ rfl K hK; simp only [Jo.z] at hK ⊢; go_simp; refine (kvWithin v20.top.1 v20.top.2 v21.top.1 v21.top.2 v20.rk v21.rk H2.out).mono ?_; rintro ee wk ⟨rfl, B⟩; exact hK.out _ _ rfl B
    refine Jo.jn 10 (some 42) [(some 38, 6), (some 41, 9)] _ rfl rfl rfl rfl ?_ ?_
    · rintro wj hJ _ rfl _ rfl K hK; simp only [Jo.z] at hK ⊢; go_simp; exact hK.out _ _ rfl (br _ _)
    refine Jo.jn 11 (some 43) [(some 42, 10)] _ rfl rfl rfl rfl ?_ ?_
    · rintro wj hJ _ rfl K hK; simp only [Jo.z] at hK ⊢; go_simp; exact hK.out _ _ rfl (br _ _)
    refine Jo.jn 12 (some 44) [(some 43, 11)] _ rfl rfl rfl rfl ?_ ?_
    · rintro wj hJ _ rfl K hK; simp only [Jo.z] at hK ⊢; obtain ⟨xX00, xX01, xX02, xX03, xX04, xX05, xX06, xX07, xX08⟩ := (X0.below hJ).u9; go_simp; exact hK.out _ _ rfl (br _ _)
    refine Jo.jn 13 (some 45) [(some 43, 11)] _ rfl rfl rfl rfl ?_ ?_
    · rintro wj hJ _ rfl K hK; simp only [Jo.z] at hK ⊢; go_simp; exact hK.out _ _ rfl (br _ _)
    refine Jo.jn 14 (some 46) [(some 43, 11), (some 44, 12), (some 45, 13)] _ rfl rfl rfl rfl ?_ ?_
    · rintro wj hJ _ rfl _ rfl _ rfl K hK; simp only [Jo.z] at hK ⊢; go_simp; refine (kvInflate (hT.below hJ) c0.top.1 c0.top.2 (by decide) c0.rk HR0.out H0.out).mono ?_; rintro ee wk ⟨e22, K22, s22, M22, E22, K22b, s22b, M22b, E22b, rfl, v22, B⟩; exact hK.out _ _ ⟨e22, K22, s22, M22, E22, K22b, s22b, M22b, E22b, rfl, v22⟩ B
    refine Jo.jn 15 (some 47) [(some 43, 11)] _ rfl rfl rfl rfl ?_ ?_
    · rintro wj hJ _ rfl K hK; simp only [Jo.z] at hK ⊢; obtain ⟨xX00, xX01, xX02, xX03, xX04, xX05, xX06, xX07, xX08⟩ := (X0.below hJ).u9; go_simp; exact hK.out _ _ rfl (br _ _)
    refine Jo.jn 16 (some 48) [(some 43, 11), (some 46, 14), (some 47, 15)] _ rfl rfl rfl rfl ?_ ?_
    · rintro wj hJ _ rfl _ ⟨e22, K22, s22, M22, E22, K22b, s22b, M22b, E22b, rfl, v22⟩ _ rfl K hK; simp only [Jo.z] at hK ⊢; obtain ⟨rfl, rfl, rfl, rfl, rfl, rfl, rfl, rfl, rfl⟩ := v22.uniq c0; go_simp
      exact hK.out _ _ (by first | rfl | (show Value.bool _ = Value.bool _; simp)) (br _ _)
    refine Jo.jn 17 (some 49) [(some 43, 11), (some 48, 16)] _ rfl rfl rfl rfl ?_ ?_
    · rintro wj hJ _ rfl _ rfl K hK; simp only [Jo.z] at hK ⊢; go_simp; exact hK.out _ _ rfl (br _ _)
    refine Jo.jn 18 (some 50) [(some 49, 17)] _ rfl rfl rfl rfl ?_ ?_
    · rintro wj hJ _ rfl K hK; simp only [Jo.z] at hK ⊢; go_simp; exact hK.out _ _ rfl (br _ _)
    refine Jo.jn 19 (some 51) [(some 50, 18)] _ rfl rfl rfl rfl ?_ ?_
    · rintro wj hJ _ rfl K hK; simp only [Jo.z] at hK ⊢; obtain ⟨xX90, xX91, xX92, xX93, xX94, xX95, xX96, xX97, xX98⟩ := (X9.below hJ).u9; go_simp; exact hK.out _ _ rfl (br _ _)
    refine Jo.jn 20 (some 52) [(some 50, 18), (some 51, 19)] _ rfl rfl rfl rfl ?_ ?_
    · rintro wj hJ _ rfl _ rfl K hK; simp only [Jo.z] at hK ⊢; go_simp; refine (kvMay v21.top.1 v21.top.2 v21.may).mono ?_; rintro ee wk ⟨rfl, B⟩; exact hK.out _ _ rfl B
    refine Jo.jn 21 (some 53) [(some 50, 18), (some 52, 20)] _ rfl rfl rfl rfl ?_ ?_
    · rintro wj hJ _ rfl _ rfl K hK; simp only [Jo.z] at hK ⊢; go_simp; exact hK.out _ _ rfl (br _ _)
    refine Jo.jn 22 (some 6) [(some 53, 21)] _ rfl rfl rfl rfl ?_ ?_
    · rintro wj hJ _ rfl K hK; simp only [Jo.z] at hK ⊢; go_simp; exact hK.out _ _ rfl (br _ _)
    exact Jo.Steps.nil
  rintro wA hJ _ rfl _ rfl _ rfl _ rfl _ rfl _ rfl _ rfl _ rfl _ rfl _ rfl _ rfl _ rfl _ rfl _ rfl _ ⟨e22, K22, s22, M22, E22, K22b, s22b, M22b, E22b, rfl, v22⟩ _ rfl _ rfl _ rfl _ rfl _ rfl _ rfl _ rfl _ rfl -; simp only [Jo.z]; replace X0 := X0.below hJ; replace X1 := X1.below hJ; replace X2 := X2.below hJ; replace X8 := X8.below hJ; replace X9 := X9.below hJ; replace hT := hT.below hJ; replace HB := Lib.hid (bt HB.out hJ)
  refine Jo.jdone (by kernel_rfl) ?_; go_wp2
  go_ret
  exact ⟨rfl, HB.out⟩

theorem ivWider_walk (e0 : Bool) (D0 : Int) (s0 : Bool) (M0 E0 G0 : Int) (g0 : Bool) (P0 Q0 : Int) (D1 : Int) (s1 : Bool) (M1 E1 : Int) (D2 : Int) (s2 : Bool) (M2 E2 : Int) (w : World) (hT : Tb w) (u0 : M0 < 18446744073709551616) (v0 : P0 < 18446744073709551616) (w1 : 0 ≤ M1) (u1 : M1 < 18446744073709551616) (w2 : 0 ≤ M2) (u2 : M2 < 18446744073709551616) :
    Calls Tryd.prog 4 #[.agg #[.bool e0, .int .i64 D0, .bool s0, .int .u64 M0, .int .i64 E0, .int .i64 G0, .bool g0, .int .u64 P0, .int .i64 Q0], .agg #[.int .i64 D1, .bool s1, .int .u64 M1, .int .i64 E1], .agg #[.int .i64 D2, .bool s2, .int .u64 M2, .int .i64 E2]] w fun e w' => e = .returned (.bool true) ∧ Below w.heap.size w w' := by
  cases h0 : mayI e0 D0 s0 M0 E0 G0 g0 P0 Q0
  · exact ivWider_no e0 D0 s0 M0 E0 G0 g0 P0 Q0 D1 s1 M1 E1 D2 s2 M2 E2 w u0 v0 h0
  · have c0 := mayI_ci u0 v0 h0; generalize rkI e0 D0 s0 M0 E0 G0 g0 P0 Q0 = x at c0
    have b1 : -19342822337206103650074625 ≤ rk D1 s1 M1 E1 ∧ rk D1 s1 M1 E1 ≤ 19342822337206103650074625 := rk_bd u1
    have b2 : -19342822337206103650074625 ≤ rk D2 s2 M2 E2 ∧ rk D2 s2 M2 E2 ≤ 19342822337206103650074625 := rk_bd u2
    by_cases hn : rk D1 s1 M1 E1 < 0
    · exact ivWider_neg e0 D0 s0 M0 E0 G0 g0 P0 Q0 D1 s1 M1 E1 D2 s2 M2 E2 w x _ c0 u1 rfl (by rw [cmp_lt rfl]; exact decide_eq_true hn)
    · have ht := (cmp_lt (x := rk D1 s1 M1 E1) (y := 0) rfl).trans (decide_eq_false hn)
      by_cases hg : rk D2 s2 M2 E2 < rk D1 s1 M1 E1
      · exact ivWider_gt e0 D0 s0 M0 E0 G0 g0 P0 Q0 D1 s1 M1 E1 D2 s2 M2 E2 w x _ _ c0 u1 u2 rfl ht rfl (by rw [cmp_gt rfl]; exact decide_eq_true hg)
      · exact ivWider_main e0 D0 s0 M0 E0 G0 g0 P0 Q0 D1 s1 M1 E1 D2 s2 M2 E2 w x _ _ _ _ _ _ hT c0 u1 u2 rfl rfl rfl ht rfl (by rw [cmp_gt rfl]; exact decide_eq_false hg) rfl rfl (inf_zero c0.ok) (inf_wit c0.ok (by omega) b1.2) (inf_mono c0.ok (by omega) (by omega) b2.2)
end Go.Proofs.YthhlccdmflgbbaaDoor

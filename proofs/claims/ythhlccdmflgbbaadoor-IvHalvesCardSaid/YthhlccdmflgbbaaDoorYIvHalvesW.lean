/-
  The walk of IvHalves: for all arguments the call answers true, and nothing that was there has turned.
-/
import Derived.Test.YthhlccdmflgbbaaDoorYBas
namespace Go.Proofs.YthhlccdmflgbbaaDoor
open Go.RowKit
set_option linter.unusedVariables false
set_option linter.unusedSimpArgs false
set_option maxRecDepth 100000

set_option maxHeartbeats 8000000 in
theorem ivHalves_no (e0 : Bool) (D0 : Int) (s0 : Bool) (M0 E0 G0 : Int) (g0 : Bool) (P0 Q0 : Int) (w : World) (u0 : M0 < 18446744073709551616) (v0 : P0 < 18446744073709551616) (h : mayI e0 D0 s0 M0 E0 G0 g0 P0 Q0 = false) :
    Calls Tryd.prog 3 #[.agg #[.bool e0, .int .i64 D0, .bool s0, .int .u64 M0, .int .i64 E0, .int .i64 G0, .bool g0, .int .u64 P0, .int .i64 Q0]] w (PB w true) := by
  have H0 := Lib.hid h; clear h
  go_enter Tryd.func3, Tryd.ntmps3
  go_upto_region 1 with (fail)
  generalize hW1 : w.alloc _ = w1 at *; obtain ⟨X0, HB⟩ := Bo.en1 hW1; clear hW1
  go_wp2_with fail
  refine (awake8).mono ?_; rintro ee w2 ⟨rfl, B⟩; replace X0 := X0.below B; replace HB := Lib.hid (bt HB.out B); clear B; obtain ⟨xX00, xX01, xX02, xX03, xX04, xX05, xX06, xX07, xX08⟩ := X0.u9
  go_wp2_with fail
  refine (kvMay u0 v0 H0.out).mono ?_; rintro ee w3 ⟨rfl, B⟩; clear xX00 xX01 xX02 xX03 xX04 xX05 xX06 xX07 xX08; replace X0 := X0.below B; replace HB := Lib.hid (bt HB.out B); clear B; obtain ⟨xX00, xX01, xX02, xX03, xX04, xX05, xX06, xX07, xX08⟩ := X0.u9; go_wp2
  go_ret
  exact ⟨rfl, HB.out⟩
set_option maxHeartbeats 8000000 in
theorem ivHalves_e (D0 : Int) (s0 : Bool) (M0 E0 G0 : Int) (g0 : Bool) (P0 Q0 : Int) (w : World) (c0 : Ci true D0 s0 M0 E0 G0 g0 P0 Q0 none) :
    Calls Tryd.prog 3 #[.agg #[.bool true, .int .i64 D0, .bool s0, .int .u64 M0, .int .i64 E0, .int .i64 G0, .bool g0, .int .u64 P0, .int .i64 Q0]] w (PB w true) := by
  go_enter Tryd.func3, Tryd.ntmps3
  go_upto_region 1 with (fail)
  generalize hW1 : w.alloc _ = w1 at *; obtain ⟨X0, HB⟩ := Bo.en1 hW1; clear hW1
  go_wp2_with fail
  refine (awake8).mono ?_; rintro ee w2 ⟨rfl, B⟩; replace X0 := X0.below B; replace HB := Lib.hid (bt HB.out B); clear B; obtain ⟨xX00, xX01, xX02, xX03, xX04, xX05, xX06, xX07, xX08⟩ := X0.u9
  go_wp2_with fail
  refine (kvMay c0.top.1 c0.top.2 c0.may).mono ?_; rintro ee w3 ⟨rfl, B⟩; clear xX00 xX01 xX02 xX03 xX04 xX05 xX06 xX07 xX08; replace X0 := X0.below B; replace HB := Lib.hid (bt HB.out B); clear B; obtain ⟨xX00, xX01, xX02, xX03, xX04, xX05, xX06, xX07, xX08⟩ := X0.u9; go_wp2
  go_ret
  exact ⟨rfl, HB.out⟩
set_option maxHeartbeats 8000000 in
theorem ivHalves_main (D0 : Int) (s0 : Bool) (M0 E0 G0 : Int) (g0 : Bool) (P0 Q0 : Int) (w : World) (a b m wl wx : Int) (p : Sp) (hT : Tb w) (c0 : Ci false D0 s0 M0 E0 G0 g0 P0 Q0 (some (a, b))) (hm : midI (some (a, b)) = m) (hlo : loI (some (a, b)) = some (a, m)) (hhi : hiI (some (a, b)) = some (m, b))
    (h1 : hasI (some (a, b)) m = true) (h2 : hasI (some (a, m)) m = true) (h3 : hasI (some (m, b)) m = true) (h4 : hullL [some (a, m), some (m, b)] = some (a, b)) (h5 : meetL [some (a, m), some (m, b)] = p) (h6 : mkI m m = p)
    (h7 : widI (some (a, m)) = wl) (h8 : widI (some (a, b)) = wx) (h9 : wl ≤ wx) :
    Calls Tryd.prog 3 #[.agg #[.bool false, .int .i64 D0, .bool s0, .int .u64 M0, .int .i64 E0, .int .i64 G0, .bool g0, .int .u64 P0, .int .i64 Q0]] w (PB w true) := by
  obtain ⟨c, hc⟩ : ∃ c, cmpI wl wx = c := ⟨_, rfl⟩
  have hc0 : decide (c ≤ 0) = true := by rw [cmp_le hc]; exact decide_eq_true h9
  have HMD := Lib.hid hm; have HLO := Lib.hid hlo; have HHI := Lib.hid hhi; have H1 := Lib.hid h1; have H2 := Lib.hid h2; have H3 := Lib.hid h3; have H4 := Lib.hid h4; have H5 := Lib.hid h5; have H6 := Lib.hid h6; have H7 := Lib.hid h7; have H8 := Lib.hid h8; have HC := Lib.hid hc; have HC0 := Lib.hid hc0; clear hm hlo hhi h1 h2 h3 h4 h5 h6 h7 h8 h9 hc hc0
  go_enter Tryd.func3, Tryd.ntmps3
  go_upto_region 1 with (fail)
  generalize hW1 : w.alloc _ = w1 at *; obtain ⟨X0, HB⟩ := Bo.en1 hW1; replace hT := hT.below HB.out; clear hW1
  go_wp2_with fail
  refine (awake8).mono ?_; rintro ee w2 ⟨rfl, B⟩; replace X0 := X0.below B; replace hT := hT.below B; replace HB := Lib.hid (bt HB.out B); clear B; obtain ⟨xX00, xX01, xX02, xX03, xX04, xX05, xX06, xX07, xX08⟩ := X0.u9
  go_wp2_with fail
  refine (kvMay c0.top.1 c0.top.2 c0.may).mono ?_; rintro ee w3 ⟨rfl, B⟩; clear xX00 xX01 xX02 xX03 xX04 xX05 xX06 xX07 xX08; replace X0 := X0.below B; replace hT := hT.below B; replace HB := Lib.hid (bt HB.out B); clear B; obtain ⟨xX00, xX01, xX02, xX03, xX04, xX05, xX06, xX07, xX08⟩ := X0.u9
  go_wp2_with fail
  refine (kvMid hT c0.top.1 c0.top.2 c0.rk HMD.out).mono ?_; rintro ee w4 ⟨K20, s20, M20, E20, rfl, q20, B⟩; clear xX00 xX01 xX02 xX03 xX04 xX05 xX06 xX07 xX08; replace X0 := X0.below B; replace hT := hT.below B; replace HB := Lib.hid (bt HB.out B); clear B
  go_upto_region 5 with (fail)
  have lX4 := Nat.le_refl (World.heap w4).size; have nX4X0 := X0.lt; generalize hWn : w4.alloc _ = w5 at *; obtain ⟨X4, BW⟩ := Bo.nw hWn; clear hWn; replace X0 := X0.below BW; replace hT := hT.below BW; replace HB := Lib.hid (bt HB.out BW); clear BW; clear lX4; obtain ⟨xX00, xX01, xX02, xX03, xX04, xX05, xX06, xX07, xX08⟩ := X0.u9
  go_wp2_with fail
  refine (kvSplit hT c0.top.1 c0.top.2 c0.rk HLO.out HHI.out).mono ?_; rintro ee w6 ⟨e21, K21, s21, M21, E21, K21b, s21b, M21b, E21b, e22, K22, s22, M22, E22, K22b, s22b, M22b, E22b, rfl, v21, v22, B⟩; clear xX00 xX01 xX02 xX03 xX04 xX05 xX06 xX07 xX08; replace X0 := X0.below B; replace X4 := X4.below B; replace hT := hT.below B; replace HB := Lib.hid (bt HB.out B); clear B
  go_upto_region 6 with (fail)
  have e4X6 : (World.alloc w6 (.cells #[.bool e21, .int .i64 K21, .bool s21, .int .u64 M21, .int .i64 E21, .int .i64 K21b, .bool s21b, .int .u64 M21b, .int .i64 E21b] 26)).heap.size = w6.heap.size + 1 := by simp
  have lX5 := Nat.le_refl (World.heap w6).size; have nX5X0 := X0.lt; have nX5X4 := X4.lt; replace X0 := X0.below (bel1 _ (.cells #[.bool e21, .int .i64 K21, .bool s21, .int .u64 M21, .int .i64 E21, .int .i64 K21b, .bool s21b, .int .u64 M21b, .int .i64 E21b] 26)); replace X4 := X4.below (bel1 _ (.cells #[.bool e21, .int .i64 K21, .bool s21, .int .u64 M21, .int .i64 E21, .int .i64 K21b, .bool s21b, .int .u64 M21b, .int .i64 E21b] 26))
  replace hT := hT.below (bel1 _ (.cells #[.bool e21, .int .i64 K21, .bool s21, .int .u64 M21, .int .i64 E21, .int .i64 K21b, .bool s21b, .int .u64 M21b, .int .i64 E21b] 26)); replace HB := Lib.hid (bt HB.out (bel1 _ (.cells #[.bool e21, .int .i64 K21, .bool s21, .int .u64 M21, .int .i64 E21, .int .i64 K21b, .bool s21b, .int .u64 M21b, .int .i64 E21b] 26))); have X5 := Bo.new w6 #[.bool e21, .int .i64 K21, .bool s21, .int .u64 M21, .int .i64 E21, .int .i64 K21b, .bool s21b, .int .u64 M21b, .int .i64 E21b] 26
  generalize hWn : World.alloc w6 (.cells #[.bool e21, .int .i64 K21, .bool s21, .int .u64 M21, .int .i64 E21, .int .i64 K21b, .bool s21b, .int .u64 M21b, .int .i64 E21b] 26) = w7 at *; clear hWn; have lX6 := Nat.le_refl (World.heap w7).size; have nX6X0 := X0.lt; have nX6X4 := X4.lt; have nX6X5 := X5.lt; generalize hWn : w7.alloc _ = w8 at *; obtain ⟨X6, BW⟩ := Bo.nw hWn; clear hWn; replace X0 := X0.below BW
  replace X4 := X4.below BW; replace X5 := X5.below BW; replace hT := hT.below BW; replace HB := Lib.hid (bt HB.out BW); clear BW; rw [e4X6] at X6; clear lX5 lX6 e4X6; refine Jo.rj [0, 1, 2, 3, 4, 5, 6, 7, 8, 9, 10, 11, 12, 13, 14, 15, 16, 17, 18, 19, 20, 21, 22, 23, 24, 25, 26, 27, 28, 29, 30, 31, 32, 33, 34, 35, 36, 37, 38, 39, 40, 41] [some 23, some 24, some 25, some 26, some 27, some 28, some 29, some 30, some 31, some 32, some 33, some 34, some 35, some 36, some 37, some 38, some 39, some 40, some 41, some 42, some 43, some 44, some 45, some 46, some 47, some 48, some 49, some 50, some 51, some 52, some 53, some 54, some 55, some 56, some 57, some 58, some 59, some 60, some 61, some 62, some 63, some 2] [[], [0], [1], [1], [1, 2, 3], [1, 4], [5], [6], [6], [6, 7, 8], [6, 9], [10], [11], [11], [11, 12, 13], [11, 14], [15], [16], [16], [16, 17, 18], [16, 19], [16], [16, 20, 21], [16, 22], [23], [24], [24], [24, 25, 26], [24, 27], [24], [24, 29], [24, 28, 30], [24, 31], [32], [33], [33, 34], [33], [33, 36], [33, 35, 37], [33, 38], [33, 39], [40]] 42 [(some 23, 0), (some 24, 1), (some 25, 2), (some 26, 3), (some 27, 4), (some 28, 5), (some 29, 6), (some 30, 7), (some 31, 8), (some 32, 9), (some 33, 10), (some 34, 11), (some 35, 12), (some 36, 13), (some 37, 14), (some 38, 15), (some 39, 16), (some 40, 17), (some 41, 18), (some 42, 19), (some 43, 20), (some 44, 21), (some 45, 22), (some 46, 23), (some 47, 24), (some 48, 25), (some 49, 26), (some 50, 27), (some 51, 28), (some 52, 29), (some 53, 30), (some 54, 31), (some 55, 32), (some 56, 33), (some 57, 34), (some 58, 35), (some 59, 36), (some 60, 37), (some 61, 38), (some 62, 39), (some 63, 40), (some 2, 41)] 0 [Jo.qb true, Jo.qb true, Jo.q9 false D0 s0 M0 E0 G0 g0 P0 Q0, Jo.q4 K20 s20 M20 E20, Jo.qb true, Jo.qb true, Jo.qb true, Jo.q9 e21 K21 s21 M21 E21 K21b s21b M21b E21b, Jo.q4 K20 s20 M20 E20, Jo.qb true, Jo.qb true, Jo.qb true, Jo.q9 e22 K22 s22 M22 E22 K22b s22b M22b E22b, Jo.q4 K20 s20 M20 E20, Jo.qb true, Jo.qb true, Jo.qb true, Jo.q9 e21 K21 s21 M21 E21 K21b s21b M21b E21b, Jo.q9 e22 K22 s22 M22 E22 K22b s22b M22b E22b, Jo.Fact.il8 2 [some (a, m), some (m, b)], Jo.Fact.iv (some (a, b)), Jo.q9 false D0 s0 M0 E0 G0 g0 P0 Q0, Jo.qb true, Jo.qb true, Jo.qb true, Jo.q9 e21 K21 s21 M21 E21 K21b s21b M21b E21b, Jo.q9 e22 K22 s22 M22 E22 K22b s22b M22b E22b, Jo.Fact.il8 2 [some (a, m), some (m, b)], Jo.Fact.iv p, Jo.q4 K20 s20 M20 E20, Jo.Fact.iv p, Jo.qb true, Jo.qb true, Jo.qb true, Jo.q9 e21 K21 s21 M21 E21 K21b s21b M21b E21b, Jo.Fact.num wl, Jo.q9 false D0 s0 M0 E0 G0 g0 P0 Q0, Jo.Fact.num wx, Jo.qi c, Jo.qb true, Jo.qb true, Jo.qb true] (by kernel_rfl) (by kernel_rfl) (by decide) rfl rfl ?_ ?_
  · refine Jo.jn 0 (some 23) [] _ rfl rfl rfl rfl ?_ ?_
    · rintro wj hJ K hK; simp only [Jo.z] at hK ⊢; go_simp; exact hK.out _ _ rfl (br _ _)
    refine Jo.jn 1 (some 24) [(some 23, 0)] _ rfl rfl rfl rfl ?_ ?_
    · rintro wj hJ _ rfl K hK; simp only [Jo.z] at hK ⊢; go_simp; exact hK.out _ _ rfl (br _ _)
    refine Jo.jn 2 (some 25) [(some 24, 1)] _ rfl rfl rfl rfl ?_ ?_
    · rintro wj hJ _ rfl K hK; simp only [Jo.z] at hK ⊢; obtain ⟨xX00, xX01, xX02, xX03, xX04, xX05, xX06, xX07, xX08⟩ := (X0.below hJ).u9; go_simp; exact hK.out _ _ rfl (br _ _)
    refine Jo.jn 3 (some 26) [(some 24, 1)] _ rfl rfl rfl rfl ?_ ?_
    · rintro wj hJ _ rfl K hK; simp only [Jo.z] at hK ⊢; obtain ⟨xX40, xX41, xX42, xX43⟩ := (X4.below hJ).u4; go_simp; exact hK.out _ _ rfl (br _ _)
    refine Jo.jn 4 (some 27) [(some 24, 1), (some 25, 2), (some 26, 3)] _ rfl rfl rfl rfl ?_ ?_
    · rintro wj hJ _ rfl _ rfl _ rfl K hK; simp only [Jo.z] at hK ⊢; go_simp; refine (kvHas c0.top.1 c0.top.2 q20.top c0.rk q20.rk H1.out).mono ?_; rintro ee wk ⟨rfl, B⟩; exact hK.out _ _ rfl B
    refine Jo.jn 5 (some 28) [(some 24, 1), (some 27, 4)] _ rfl rfl rfl rfl ?_ ?_
    · rintro wj hJ _ rfl _ rfl K hK; simp only [Jo.z] at hK ⊢; go_simp; exact hK.out _ _ rfl (br _ _)
    refine Jo.jn 6 (some 29) [(some 28, 5)] _ rfl rfl rfl rfl ?_ ?_
    · rintro wj hJ _ rfl K hK; simp only [Jo.z] at hK ⊢; go_simp; exact hK.out _ _ rfl (br _ _)
    refine Jo.jn 7 (some 30) [(some 29, 6)] _ rfl rfl rfl rfl ?_ ?_
    · rintro wj hJ _ rfl K hK; simp only [Jo.z] at hK ⊢; obtain ⟨xX50, xX51, xX52, xX53, xX54, xX55, xX56, xX57, xX58⟩ := (X5.below hJ).u9; go_simp; exact hK.out _ _ rfl (br _ _)
    refine Jo.jn 8 (some 31) [(some 29, 6)] _ rfl rfl rfl rfl ?_ ?_
    · rintro wj hJ _ rfl K hK; simp only [Jo.z] at hK ⊢; obtain ⟨xX40, xX41, xX42, xX43⟩ := (X4.below hJ).u4; go_simp; exact hK.out _ _ rfl (br _ _)
    refine Jo.jn 9 (some 32) [(some 29, 6), (some 30, 7), (some 31, 8)] _ rfl rfl rfl rfl ?_ ?_
    · rintro wj hJ _ rfl _ rfl _ rfl K hK; simp only [Jo.z] at hK ⊢; go_simp; refine (kvHas v21.top.1 v21.top.2 q20.top v21.rk q20.rk H2.out).mono ?_; rintro ee wk ⟨rfl, B⟩; exact hK.out _ _ rfl B
    refine Jo.jn 10 (some 33) [(some 29, 6), (some 32, 9)] _ rfl rfl rfl rfl ?_ ?_
    · rintro wj hJ _ rfl _ rfl K hK; simp only [Jo.z] at hK ⊢; go_simp; exact hK.out _ _ rfl (br _ _)
    refine Jo.jn 11 (some 34) [(some 33, 10)] _ rfl rfl rfl rfl ?_ ?_
    · rintro wj hJ _ rfl K hK; simp only [Jo.z] at hK ⊢; go_simp; exact hK.out _ _ rfl (br _ _)
    refine Jo.jn 12 (some 35) [(some 34, 11)] _ rfl rfl rfl rfl ?_ ?_
    · rintro wj hJ _ rfl K hK; simp only [Jo.z] at hK ⊢; obtain ⟨xX60, xX61, xX62, xX63, xX64, xX65, xX66, xX67, xX68⟩ := (X6.below hJ).u9; go_simp; exact hK.out _ _ rfl (br _ _)
    refine Jo.jn 13 (some 36) [(some 34, 11)] _ rfl rfl rfl rfl ?_ ?_
    · rintro wj hJ _ rfl K hK; simp only [Jo.z] at hK ⊢; obtain ⟨xX40, xX41, xX42, xX43⟩ := (X4.below hJ).u4; go_simp; exact hK.out _ _ rfl (br _ _)
    refine Jo.jn 14 (some 37) [(some 34, 11), (some 35, 12), (some 36, 13)] _ rfl rfl rfl rfl ?_ ?_
    · rintro wj hJ _ rfl _ rfl _ rfl K hK; simp only [Jo.z] at hK ⊢; go_simp; refine (kvHas v22.top.1 v22.top.2 q20.top v22.rk q20.rk H3.out).mono ?_; rintro ee wk ⟨rfl, B⟩; exact hK.out _ _ rfl B
    refine Jo.jn 15 (some 38) [(some 34, 11), (some 37, 14)] _ rfl rfl rfl rfl ?_ ?_
    · rintro wj hJ _ rfl _ rfl K hK; simp only [Jo.z] at hK ⊢; go_simp; exact hK.out _ _ rfl (br _ _)
    refine Jo.jn 16 (some 39) [(some 38, 15)] _ rfl rfl rfl rfl ?_ ?_
    · rintro wj hJ _ rfl K hK; simp only [Jo.z] at hK ⊢; go_simp; exact hK.out _ _ rfl (br _ _)
    refine Jo.jn 17 (some 40) [(some 39, 16)] _ rfl rfl rfl rfl ?_ ?_
    · rintro wj hJ _ rfl K hK; simp only [Jo.z] at hK ⊢; obtain ⟨xX50, xX51, xX52, xX53, xX54, xX55, xX56, xX57, xX58⟩ := (X5.below hJ).u9; go_simp; exact hK.out _ _ rfl (br _ _)
    refine Jo.jn 18 (some 41) [(some 39, 16)] _ rfl rfl rfl rfl ?_ ?_
    · rintro wj hJ _ rfl K hK; simp only [Jo.z] at hK ⊢; obtain ⟨xX60, xX61, xX62, xX63, xX64, xX65, xX66, xX67, xX68⟩ := (X6.below hJ).u9; go_simp; exact hK.out _ _ rfl (br _ _)
    refine Jo.jn 19 (some 42) [(some 39, 16), (some 40, 17), (some 41, 18)] _ rfl rfl rfl rfl ?_ ?_
    · rintro wj hJ _ rfl _ rfl _ rfl K hK; simp only [Jo.z] at hK ⊢; go_simp; exact hK.out _ _ ⟨_, 2, rfl, Il8.lit2 rfl v21.rw v22.rw⟩ (bel1 _ _)
    refine Jo.jn 20 (some 43) [(some 39, 16), (some 42, 19)] _ rfl rfl rfl rfl ?_ ?_
    · rintro wj hJ _ rfl _ ⟨A23, c23, rfl, h23⟩ K hK; simp only [Jo.z] at hK ⊢; go_simp; refine (kvHull h23 H4.out).mono ?_; rintro ee wk ⟨e24, K24, s24, M24, E24, K24b, s24b, M24b, E24b, rfl, v24, B⟩; exact hK.out _ _ ⟨e24, K24, s24, M24, E24, K24b, s24b, M24b, E24b, rfl, v24⟩ B
    refine Jo.jn 21 (some 44) [(some 39, 16)] _ rfl rfl rfl rfl ?_ ?_
    · rintro wj hJ _ rfl K hK; simp only [Jo.z] at hK ⊢; obtain ⟨xX00, xX01, xX02, xX03, xX04, xX05, xX06, xX07, xX08⟩ := (X0.below hJ).u9; go_simp; exact hK.out _ _ rfl (br _ _)
    refine Jo.jn 22 (some 45) [(some 39, 16), (some 43, 20), (some 44, 21)] _ rfl rfl rfl rfl ?_ ?_
    · rintro wj hJ _ rfl _ ⟨e24, K24, s24, M24, E24, K24b, s24b, M24b, E24b, rfl, v24⟩ _ rfl K hK; simp only [Jo.z] at hK ⊢; obtain ⟨rfl, rfl, rfl, rfl, rfl, rfl, rfl, rfl, rfl⟩ := v24.uniq c0; go_simp
      exact hK.out _ _ (by first | rfl | (show Value.bool _ = Value.bool _; simp)) (br _ _)
    refine Jo.jn 23 (some 46) [(some 39, 16), (some 45, 22)] _ rfl rfl rfl rfl ?_ ?_
    · rintro wj hJ _ rfl _ rfl K hK; simp only [Jo.z] at hK ⊢; go_simp; exact hK.out _ _ rfl (br _ _)
    refine Jo.jn 24 (some 47) [(some 46, 23)] _ rfl rfl rfl rfl ?_ ?_
    · rintro wj hJ _ rfl K hK; simp only [Jo.z] at hK ⊢; go_simp; exact hK.out _ _ rfl (br _ _)
    refine Jo.jn 25 (some 48) [(some 47, 24)] _ rfl rfl rfl rfl ?_ ?_
    · rintro wj hJ _ rfl K hK; simp only [Jo.z] at hK ⊢; obtain ⟨xX50, xX51, xX52, xX53, xX54, xX55, xX56, xX57, xX58⟩ := (X5.below hJ).u9; go_simp; exact hK.out _ _ rfl (br _ _)
    refine Jo.jn 26 (some 49) [(some 47, 24)] _ rfl rfl rfl rfl ?_ ?_
    · rintro wj hJ _ rfl K hK; simp only [Jo.z] at hK ⊢; obtain ⟨xX60, xX61, xX62, xX63, xX64, xX65, xX66, xX67, xX68⟩ := (X6.below hJ).u9; go_simp; exact hK.out _ _ rfl (br _ _)
    refine Jo.jn 27 (some 50) [(some 47, 24), (some 48, 25), (some 49, 26)] _ rfl rfl rfl rfl ?_ ?_
    · rintro wj hJ _ rfl _ rfl _ rfl K hK; simp only [Jo.z] at hK ⊢; go_simp; exact hK.out _ _ ⟨_, 2, rfl, Il8.lit2 rfl v21.rw v22.rw⟩ (bel1 _ _)
    refine Jo.jn 28 (some 51) [(some 47, 24), (some 50, 27)] _ rfl rfl rfl rfl ?_ ?_
    · rintro wj hJ _ rfl _ ⟨A25, c25, rfl, h25⟩ K hK; simp only [Jo.z] at hK ⊢; go_simp; refine (kvMeet h25 H5.out).mono ?_; rintro ee wk ⟨e26, K26, s26, M26, E26, K26b, s26b, M26b, E26b, rfl, v26, B⟩; exact hK.out _ _ ⟨e26, K26, s26, M26, E26, K26b, s26b, M26b, E26b, rfl, v26⟩ B
    refine Jo.jn 29 (some 52) [(some 47, 24)] _ rfl rfl rfl rfl ?_ ?_
    · rintro wj hJ _ rfl K hK; simp only [Jo.z] at hK ⊢; obtain ⟨xX40, xX41, xX42, xX43⟩ := (X4.below hJ).u4; go_simp; exact hK.out _ _ rfl (br _ _)
    refine Jo.jn 30 (some 53) [(some 47, 24), (some 52, 29)] _ rfl rfl rfl rfl ?_ ?_
    · rintro wj hJ _ rfl _ rfl K hK; simp only [Jo.z] at hK ⊢; go_simp; refine (kvPoint q20.top q20.rk H6.out).mono ?_; rintro ee wk ⟨e27, K27, s27, M27, E27, K27b, s27b, M27b, E27b, rfl, v27, B⟩; exact hK.out _ _ ⟨e27, K27, s27, M27, E27, K27b, s27b, M27b, E27b, rfl, v27⟩ B
    refine Jo.jn 31 (some 54) [(some 47, 24), (some 51, 28), (some 53, 30)] _ rfl rfl rfl rfl ?_ ?_
    · rintro wj hJ _ rfl _ ⟨e26, K26, s26, M26, E26, K26b, s26b, M26b, E26b, rfl, v26⟩ _ ⟨e27, K27, s27, M27, E27, K27b, s27b, M27b, E27b, rfl, v27⟩ K hK; simp only [Jo.z] at hK ⊢; obtain ⟨rfl, rfl, rfl, rfl, rfl, rfl, rfl, rfl, rfl⟩ := v26.uniq v27; go_simp
      exact hK.out _ _ (by first | rfl | (show Value.bool _ = Value.bool _; simp)) (br _ _)
    refine Jo.jn 32 (some 55) [(some 47, 24), (some 54, 31)] _ rfl rfl rfl rfl ?_ ?_
    · rintro wj hJ _ rfl _ rfl K hK; simp only [Jo.z] at hK ⊢; go_simp; exact hK.out _ _ rfl (br _ _)
    refine Jo.jn 33 (some 56) [(some 55, 32)] _ rfl rfl rfl rfl ?_ ?_
    · rintro wj hJ _ rfl K hK; simp only [Jo.z] at hK ⊢; go_simp; exact hK.out _ _ rfl (br _ _)
    refine Jo.jn 34 (some 57) [(some 56, 33)] _ rfl rfl rfl rfl ?_ ?_
    · rintro wj hJ _ rfl K hK; simp only [Jo.z] at hK ⊢; obtain ⟨xX50, xX51, xX52, xX53, xX54, xX55, xX56, xX57, xX58⟩ := (X5.below hJ).u9; go_simp; exact hK.out _ _ rfl (br _ _)
    refine Jo.jn 35 (some 58) [(some 56, 33), (some 57, 34)] _ rfl rfl rfl rfl ?_ ?_
    · rintro wj hJ _ rfl _ rfl K hK; simp only [Jo.z] at hK ⊢; go_simp; refine (kvWidth (hT.below hJ) v21.top.1 v21.top.2 v21.rk H7.out).mono ?_; rintro ee wk ⟨K28, s28, M28, E28, rfl, q28, B⟩; exact hK.out _ _ ⟨K28, s28, M28, E28, rfl, q28⟩ B
    refine Jo.jn 36 (some 59) [(some 56, 33)] _ rfl rfl rfl rfl ?_ ?_
    · rintro wj hJ _ rfl K hK; simp only [Jo.z] at hK ⊢; obtain ⟨xX00, xX01, xX02, xX03, xX04, xX05, xX06, xX07, xX08⟩ := (X0.below hJ).u9; go_simp; exact hK.out _ _ rfl (br _ _)
    refine Jo.jn 37 (some 60) [(some 56, 33), (some 59, 36)] _ rfl rfl rfl rfl ?_ ?_
    · rintro wj hJ _ rfl _ rfl K hK; simp only [Jo.z] at hK ⊢; go_simp; refine (kvWidth (hT.below hJ) c0.top.1 c0.top.2 c0.rk H8.out).mono ?_; rintro ee wk ⟨K29, s29, M29, E29, rfl, q29, B⟩; exact hK.out _ _ ⟨K29, s29, M29, E29, rfl, q29⟩ B
    refine Jo.jn 38 (some 61) [(some 56, 33), (some 58, 35), (some 60, 37)] _ rfl rfl rfl rfl ?_ ?_
    · rintro wj hJ _ rfl _ ⟨K28, s28, M28, E28, rfl, q28⟩ _ ⟨K29, s29, M29, E29, rfl, q29⟩ K hK; simp only [Jo.z] at hK ⊢; go_simp; refine (nCmp (z := c) q28.top q29.top (by rw [q28.rk, q29.rk]; exact HC.out)).mono ?_; rintro ee wk ⟨rfl, B⟩; exact hK.out _ _ rfl B
    refine Jo.jn 39 (some 62) [(some 56, 33), (some 61, 38)] _ rfl rfl rfl rfl ?_ ?_
    · rintro wj hJ _ rfl _ rfl K hK; simp only [Jo.z] at hK ⊢; have ht := HC0.out; go_simp
      exact hK.out _ _ (by first | rfl | (show Value.bool _ = Value.bool _; simp only [ht])) (br _ _)
    refine Jo.jn 40 (some 63) [(some 56, 33), (some 62, 39)] _ rfl rfl rfl rfl ?_ ?_
    · rintro wj hJ _ rfl _ rfl K hK; simp only [Jo.z] at hK ⊢; go_simp; exact hK.out _ _ rfl (br _ _)
    refine Jo.jn 41 (some 2) [(some 63, 40)] _ rfl rfl rfl rfl ?_ ?_
    · rintro wj hJ _ rfl K hK; simp only [Jo.z] at hK ⊢; go_simp; exact hK.out _ _ rfl (br _ _)
    exact Jo.Steps.nil
  rintro w9 hJ _ rfl _ rfl _ rfl _ rfl _ rfl _ rfl _ rfl _ rfl _ rfl _ rfl _ rfl _ rfl _ rfl _ rfl _ rfl _ rfl _ rfl _ rfl _ rfl _ ⟨_, _, rfl, _⟩ _ ⟨e24, K24, s24, M24, E24, K24b, s24b, M24b, E24b, rfl, v24⟩ _ rfl _ rfl _ rfl _ rfl _ rfl _ rfl _ ⟨_, _, rfl, _⟩ _ ⟨e26, K26, s26, M26, E26, K26b, s26b, M26b, E26b, rfl, v26⟩ _ rfl _ ⟨e27, K27, s27, M27, E27, K27b, s27b, M27b, E27b, rfl, v27⟩ _ rfl _ rfl _ rfl _ rfl _ ⟨K28, s28, M28, E28, rfl, _⟩ _ rfl _ ⟨K29, s29, M29, E29, rfl, _⟩ _ rfl _ rfl _ rfl _ rfl -
  simp only [Jo.z]; replace X0 := X0.below hJ; replace X4 := X4.below hJ; replace X5 := X5.below hJ; replace X6 := X6.below hJ; replace hT := hT.below hJ; replace HB := Lib.hid (bt HB.out hJ); refine Jo.jdone (by kernel_rfl) ?_; go_wp2
  go_ret
  exact ⟨rfl, HB.out⟩

theorem ivHalves_walk (e0 : Bool) (D0 : Int) (s0 : Bool) (M0 E0 G0 : Int) (g0 : Bool) (P0 Q0 : Int) (w : World) (hT : Tb w) (u0 : M0 < 18446744073709551616) (v0 : P0 < 18446744073709551616) :
    Calls Tryd.prog 3 #[.agg #[.bool e0, .int .i64 D0, .bool s0, .int .u64 M0, .int .i64 E0, .int .i64 G0, .bool g0, .int .u64 P0, .int .i64 Q0]] w fun e w' => e = .returned (.bool true) ∧ Below w.heap.size w w' := by
  cases h0 : mayI e0 D0 s0 M0 E0 G0 g0 P0 Q0
  · exact ivHalves_no e0 D0 s0 M0 E0 G0 g0 P0 Q0 w u0 v0 h0
  · have c0 := mayI_ci u0 v0 h0; generalize rkI e0 D0 s0 M0 E0 G0 g0 P0 Q0 = x at c0
    rcases x with _ | ⟨a, b⟩
    · obtain rfl : e0 = true := c0.1
      exact ivHalves_e D0 s0 M0 E0 G0 g0 P0 Q0 w c0
    · obtain rfl : e0 = false := c0.1
      have ho := c0.ok; obtain ⟨m, hm⟩ : ∃ m, midI (some (a, b)) = m := ⟨_, rfl⟩; obtain ⟨k1, k2, k3, k4, k5, k6⟩ := halves ho hm; have j1 := lo_eq ho; have j2 := hi_eq ho; rw [hm] at j1 j2
      have e5 : meetL [some (a, m), some (m, b)] = mkI m m := by
        show meetI (meetI allI (some (a, m))) (some (m, b)) = _
        rw [meet_all j1.2]; exact k5
      exact ivHalves_main D0 s0 M0 E0 G0 g0 P0 Q0 w a b m _ _ _ hT c0 hm j1.1 j2.1 k1 k2 k3 k4 e5 rfl rfl rfl k6
end Go.Proofs.YthhlccdmflgbbaaDoor

/-
  The walk of IvParts: for all arguments the call answers true, and nothing that was there has turned.
-/
import Derived.Test.YthhlccdmflgbbaaGreatDoorYBas
import Derived.Test.YthhlccdmflgbbaaGreatDoorYBav
import Derived.Test.YthhlccdmflgbbaaGreatDoorYBaw
namespace Go.Proofs.YthhlccdmflgbbaaGreatDoor
open Go.RowKit
set_option linter.unusedVariables false
set_option linter.unusedSimpArgs false
set_option maxRecDepth 100000

set_option maxHeartbeats 1000000 in
theorem kvFew {w : World} {e0 : Bool} {D0 M0 E0 G0 P0 Q0 : Int} {s0 g0 p q r : Bool} (hp : fewq D0 E0 = p) (hq : fewq G0 Q0 = q) (hr : (p && q) = r) : Calls Tryz.prog 5 #[.agg #[.bool e0, .int .i64 D0, .bool s0, .int .u64 M0, .int .i64 E0, .int .i64 G0, .bool g0, .int .u64 P0, .int .i64 Q0]] w (PB w r) := by
  have HP := Lib.hid hp; have HQ := Lib.hid hq; clear hp hq
  go_enter Tryz.func5, Tryz.ntmps5
  go_upto_region 1 with (fail)
  generalize hW1 : w.alloc _ = w1 at *; obtain ⟨X1, HB⟩ := Bo.en1 hW1; clear hW1; obtain ⟨xX10, xX11, xX12, xX13, xX14, xX15, xX16, xX17, xX18⟩ := X1.u9
  go_wp2_with fail
  refine (aFew HP.out).mono ?_; rintro ee w2 ⟨rfl, B⟩; clear xX10 xX11 xX12 xX13 xX14 xX15 xX16 xX17 xX18; replace X1 := X1.below B; replace HB := Lib.hid (bt HB.out B); clear B; obtain ⟨xX10, xX11, xX12, xX13, xX14, xX15, xX16, xX17, xX18⟩ := X1.u9
  go_wp2_with fail
  refine (aFew HQ.out).mono ?_; rintro ee w3 ⟨rfl, B⟩; clear xX10 xX11 xX12 xX13 xX14 xX15 xX16 xX17 xX18; replace X1 := X1.below B; replace HB := Lib.hid (bt HB.out B); clear B
  cases p
  · obtain rfl : false = r := hr
    go_wp2
    go_ret
    exact ⟨rfl, HB.out⟩
  · obtain rfl : q = r := hr
    go_wp2
    go_ret
    exact ⟨rfl, HB.out⟩
set_option maxHeartbeats 8000000 in
theorem ivParts_far (e0 : Bool) (D0 : Int) (s0 : Bool) (M0 E0 G0 : Int) (g0 : Bool) (P0 Q0 : Int) (D1 : Int) (s1 : Bool) (M1 E1 : Int) (w : World) (p q : Bool) (hp : (fewq D0 E0 && fewq G0 Q0) = p) (hq : fewq D1 E1 = q) (h : (p && q) = false) :
    Calls Tryz.prog 3 #[.agg #[.bool e0, .int .i64 D0, .bool s0, .int .u64 M0, .int .i64 E0, .int .i64 G0, .bool g0, .int .u64 P0, .int .i64 Q0], .agg #[.int .i64 D1, .bool s1, .int .u64 M1, .int .i64 E1]] w (PB w true) := by
  have HP := Lib.hid hp; have HQ := Lib.hid hq; clear hp hq
  go_enter Tryz.func3, Tryz.ntmps3
  go_upto_region 1 with (fail)
  generalize hW1 : (w.alloc _).alloc _ = w1 at *; obtain ⟨X0, X1, HB⟩ := Bo.en2 hW1; clear hW1
  go_wp2_with fail
  refine (awake8).mono ?_; rintro ee w2 ⟨rfl, B⟩; replace X0 := X0.below B; replace X1 := X1.below B; replace HB := Lib.hid (bt HB.out B); clear B; obtain ⟨xX00, xX01, xX02, xX03, xX04, xX05, xX06, xX07, xX08⟩ := X0.u9
  go_wp2_with fail
  refine (kvFew rfl rfl HP.out).mono ?_; rintro ee w3 ⟨rfl, B⟩; clear xX00 xX01 xX02 xX03 xX04 xX05 xX06 xX07 xX08; replace X0 := X0.below B; replace X1 := X1.below B; replace HB := Lib.hid (bt HB.out B); clear B; obtain ⟨xX10, xX11, xX12, xX13⟩ := X1.u4
  go_wp2_with fail
  refine (aFew HQ.out).mono ?_; rintro ee w4 ⟨rfl, B⟩; clear xX10 xX11 xX12 xX13; replace X0 := X0.below B; replace X1 := X1.below B; replace HB := Lib.hid (bt HB.out B); clear B
  cases p
  · go_wp2
    go_ret
    exact ⟨rfl, HB.out⟩
  · obtain rfl : q = false := h
    go_wp2
    go_ret
    exact ⟨rfl, HB.out⟩
set_option maxHeartbeats 8000000 in
theorem ivParts_main (e0 : Bool) (D0 : Int) (s0 : Bool) (M0 E0 G0 : Int) (g0 : Bool) (P0 Q0 : Int) (D1 : Int) (s1 : Bool) (M1 E1 : Int) (w : World) (x lo_ hi_ z : Sp) (m wd y : Int) (hT : Tb w) (u0 : M0 < 18446744073709551616) (v0 : P0 < 18446744073709551616) (u1 : M1 < 18446744073709551616) (hp : (fewq D0 E0 && fewq G0 Q0) = true) (hq : fewq D1 E1 = true) (hx : rkI e0 D0 s0 M0 E0 G0 g0 P0 Q0 = x) (hy : rk D1 s1 M1 E1 = y)
    (n1 : NearS x) (n2 : ∀ a b, x = some (a, b) → infp b = false → infp (-a) = false → Near (ep b) (ep (-a))) (n3 : ∀ a b, x = some (a, b) → (infp a = false → infp (-y) = false → Near (ep a) (ep (-y))) ∧ (infp b = false → infp y = false → Near (ep b) (ep y)))
    (h1 : loI x = lo_) (h2 : hiI x = hi_) (h3 : midI x = m) (h4 : widI x = wd) (h5 : infI x y = z) :
    Calls Tryz.prog 3 #[.agg #[.bool e0, .int .i64 D0, .bool s0, .int .u64 M0, .int .i64 E0, .int .i64 G0, .bool g0, .int .u64 P0, .int .i64 Q0], .agg #[.int .i64 D1, .bool s1, .int .u64 M1, .int .i64 E1]] w (PB w true) := by
  have HP := Lib.hid hp; have HQ := Lib.hid hq; have HX := Lib.hid hx; have HY := Lib.hid hy; have N1 := Lib.hid n1; have N2 := Lib.hid n2; have N3 := Lib.hid n3; have H1 := Lib.hid h1; have H2 := Lib.hid h2; have H3 := Lib.hid h3; have H4 := Lib.hid h4; have H5 := Lib.hid h5; clear hp hq hx hy n1 n2 n3 h1 h2 h3 h4 h5
  go_enter Tryz.func3, Tryz.ntmps3
  go_upto_region 1 with (fail)
  generalize hW1 : (w.alloc _).alloc _ = w1 at *; obtain ⟨X0, X1, HB⟩ := Bo.en2 hW1; replace hT := hT.below HB.out; clear hW1
  go_wp2_with fail
  refine (awake8).mono ?_; rintro ee w2 ⟨rfl, B⟩; replace X0 := X0.below B; replace X1 := X1.below B; replace hT := hT.below B; replace HB := Lib.hid (bt HB.out B); clear B; obtain ⟨xX00, xX01, xX02, xX03, xX04, xX05, xX06, xX07, xX08⟩ := X0.u9
  go_wp2_with fail
  refine (kvFew rfl rfl HP.out).mono ?_; rintro ee w3 ⟨rfl, B⟩; clear xX00 xX01 xX02 xX03 xX04 xX05 xX06 xX07 xX08; replace X0 := X0.below B; replace X1 := X1.below B; replace hT := hT.below B; replace HB := Lib.hid (bt HB.out B); clear B; obtain ⟨xX10, xX11, xX12, xX13⟩ := X1.u4
  go_wp2_with fail
  refine (aFew HQ.out).mono ?_; rintro ee w4 ⟨rfl, B⟩; clear xX10 xX11 xX12 xX13; replace X0 := X0.below B; replace X1 := X1.below B; replace hT := hT.below B; replace HB := Lib.hid (bt HB.out B); clear B; obtain ⟨xX00, xX01, xX02, xX03, xX04, xX05, xX06, xX07, xX08⟩ := X0.u9
  go_wp2_with fail
  refine (kvSplit hT u0 v0 HX.out H1.out H2.out).mono ?_; rintro ee w5 ⟨e20, K20, s20, M20, E20, K20b, s20b, M20b, E20b, e21, K21, s21, M21, E21, K21b, s21b, M21b, E21b, rfl, v20, v21, B⟩; clear xX00 xX01 xX02 xX03 xX04 xX05 xX06 xX07 xX08; replace X0 := X0.below B; replace X1 := X1.below B; replace hT := hT.below B; replace HB := Lib.hid (bt HB.out B); clear B
  go_upto_region 7 with (fail)
  have e4X9 : (World.alloc w5 (.cells #[.bool e20, .int .i64 K20, .bool s20, .int .u64 M20, .int .i64 E20, .int .i64 K20b, .bool s20b, .int .u64 M20b, .int .i64 E20b] 26)).heap.size = w5.heap.size + 1 := by simp
  have lX8 := Nat.le_refl (World.heap w5).size; have nX8X0 := X0.lt; have nX8X1 := X1.lt; replace X0 := X0.below (bel1 _ (.cells #[.bool e20, .int .i64 K20, .bool s20, .int .u64 M20, .int .i64 E20, .int .i64 K20b, .bool s20b, .int .u64 M20b, .int .i64 E20b] 26)); replace X1 := X1.below (bel1 _ (.cells #[.bool e20, .int .i64 K20, .bool s20, .int .u64 M20, .int .i64 E20, .int .i64 K20b, .bool s20b, .int .u64 M20b, .int .i64 E20b] 26))
  replace hT := hT.below (bel1 _ (.cells #[.bool e20, .int .i64 K20, .bool s20, .int .u64 M20, .int .i64 E20, .int .i64 K20b, .bool s20b, .int .u64 M20b, .int .i64 E20b] 26)); replace HB := Lib.hid (bt HB.out (bel1 _ (.cells #[.bool e20, .int .i64 K20, .bool s20, .int .u64 M20, .int .i64 E20, .int .i64 K20b, .bool s20b, .int .u64 M20b, .int .i64 E20b] 26))); have X8 := Bo.new w5 #[.bool e20, .int .i64 K20, .bool s20, .int .u64 M20, .int .i64 E20, .int .i64 K20b, .bool s20b, .int .u64 M20b, .int .i64 E20b] 26
  generalize hWn : World.alloc w5 (.cells #[.bool e20, .int .i64 K20, .bool s20, .int .u64 M20, .int .i64 E20, .int .i64 K20b, .bool s20b, .int .u64 M20b, .int .i64 E20b] 26) = w6 at *; clear hWn; have lX9 := Nat.le_refl (World.heap w6).size; have nX9X0 := X0.lt; have nX9X1 := X1.lt; have nX9X8 := X8.lt; generalize hWn : w6.alloc _ = w7 at *; obtain ⟨X9, BW⟩ := Bo.nw hWn; clear hWn; replace X0 := X0.below BW
  replace X1 := X1.below BW; replace X8 := X8.below BW; replace hT := hT.below BW; replace HB := Lib.hid (bt HB.out BW); clear BW; rw [e4X9] at X9; clear lX8 lX9 e4X9; obtain ⟨xX00, xX01, xX02, xX03, xX04, xX05, xX06, xX07, xX08⟩ := X0.u9
  go_wp2_with fail
  refine (jvSplit u0 v0 HX.out N1.out H1.out H2.out).mono ?_; rintro ee w8 ⟨e22, K22, s22, M22, E22, K22b, s22b, M22b, E22b, e23, K23, s23, M23, E23, K23b, s23b, M23b, E23b, rfl, v22, v23, B⟩; clear xX00 xX01 xX02 xX03 xX04 xX05 xX06 xX07 xX08; replace X0 := X0.below B; replace X1 := X1.below B; replace X8 := X8.below B; replace X9 := X9.below B; replace hT := hT.below B; replace HB := Lib.hid (bt HB.out B)
  clear B
  go_upto_region 8 with (fail)
  have e4X11 : (World.alloc w8 (.cells #[.bool e22, .int .i64 K22, .bool s22, .int .u64 M22, .int .i64 E22, .int .i64 K22b, .bool s22b, .int .u64 M22b, .int .i64 E22b] 26)).heap.size = w8.heap.size + 1 := by simp
  have lX10 := Nat.le_refl (World.heap w8).size; have nX10X0 := X0.lt; have nX10X1 := X1.lt; have nX10X8 := X8.lt; have nX10X9 := X9.lt; replace X0 := X0.below (bel1 _ (.cells #[.bool e22, .int .i64 K22, .bool s22, .int .u64 M22, .int .i64 E22, .int .i64 K22b, .bool s22b, .int .u64 M22b, .int .i64 E22b] 26)); replace X1 := X1.below (bel1 _ (.cells #[.bool e22, .int .i64 K22, .bool s22, .int .u64 M22, .int .i64 E22, .int .i64 K22b, .bool s22b, .int .u64 M22b, .int .i64 E22b] 26))
  replace X8 := X8.below (bel1 _ (.cells #[.bool e22, .int .i64 K22, .bool s22, .int .u64 M22, .int .i64 E22, .int .i64 K22b, .bool s22b, .int .u64 M22b, .int .i64 E22b] 26)); replace X9 := X9.below (bel1 _ (.cells #[.bool e22, .int .i64 K22, .bool s22, .int .u64 M22, .int .i64 E22, .int .i64 K22b, .bool s22b, .int .u64 M22b, .int .i64 E22b] 26)); replace hT := hT.below (bel1 _ (.cells #[.bool e22, .int .i64 K22, .bool s22, .int .u64 M22, .int .i64 E22, .int .i64 K22b, .bool s22b, .int .u64 M22b, .int .i64 E22b] 26))
  replace HB := Lib.hid (bt HB.out (bel1 _ (.cells #[.bool e22, .int .i64 K22, .bool s22, .int .u64 M22, .int .i64 E22, .int .i64 K22b, .bool s22b, .int .u64 M22b, .int .i64 E22b] 26))); have X10 := Bo.new w8 #[.bool e22, .int .i64 K22, .bool s22, .int .u64 M22, .int .i64 E22, .int .i64 K22b, .bool s22b, .int .u64 M22b, .int .i64 E22b] 26; generalize hWn : World.alloc w8 (.cells #[.bool e22, .int .i64 K22, .bool s22, .int .u64 M22, .int .i64 E22, .int .i64 K22b, .bool s22b, .int .u64 M22b, .int .i64 E22b] 26) = w9 at *
  clear hWn; have lX11 := Nat.le_refl (World.heap w9).size; have nX11X0 := X0.lt; have nX11X1 := X1.lt; have nX11X8 := X8.lt; have nX11X9 := X9.lt; have nX11X10 := X10.lt; generalize hWn : w9.alloc _ = wA at *; obtain ⟨X11, BW⟩ := Bo.nw hWn; clear hWn; replace X0 := X0.below BW; replace X1 := X1.below BW; replace X8 := X8.below BW; replace X9 := X9.below BW; replace X10 := X10.below BW; replace hT := hT.below BW
  replace HB := Lib.hid (bt HB.out BW); clear BW; rw [e4X11] at X11; clear lX10 lX11 e4X11; refine Jo.rj [0, 1, 2, 3, 4, 5, 6, 7, 8, 9, 10, 11, 12, 13, 14, 15, 16, 17, 18, 19, 20, 21, 22, 23, 24, 25, 26, 27, 28, 29, 30, 31] [some 38, some 39, some 40, some 41, some 42, some 43, some 44, some 45, some 46, some 47, some 48, some 49, some 50, some 51, some 52, some 53, some 54, some 55, some 56, some 57, some 58, some 59, some 60, some 61, some 62, some 63, some 64, some 65, some 66, some 67, some 68, some 4] [[], [0], [], [2], [1, 3], [4], [5], [5, 6], [5], [5, 8], [5, 7, 9], [5, 10], [11], [12], [12], [12, 13, 14], [12, 15], [16], [17], [17], [17, 18, 19], [17, 20], [21], [22], [22], [22, 23, 24], [22], [22], [22, 26, 27], [22, 25, 28], [22, 29], [30]] 32 [(some 38, 0), (some 39, 1), (some 40, 2), (some 41, 3), (some 42, 4), (some 43, 5), (some 44, 6), (some 45, 7), (some 46, 8), (some 47, 9), (some 48, 10), (some 49, 11), (some 50, 12), (some 51, 13), (some 52, 14), (some 53, 15), (some 54, 16), (some 55, 17), (some 56, 18), (some 57, 19), (some 58, 20), (some 59, 21), (some 60, 22), (some 61, 23), (some 62, 24), (some 63, 25), (some 64, 26), (some 65, 27), (some 66, 28), (some 67, 29), (some 68, 30), (some 4, 31)] 0 [Jo.q9 e0 D0 s0 M0 E0 G0 g0 P0 Q0, Jo.Fact.num m, Jo.q9 e0 D0 s0 M0 E0 G0 g0 P0 Q0, Jo.Fact.num m, Jo.qb true, Jo.qb true, Jo.q9 e0 D0 s0 M0 E0 G0 g0 P0 Q0, Jo.Fact.num wd, Jo.q9 e0 D0 s0 M0 E0 G0 g0 P0 Q0, Jo.Fact.num wd, Jo.qb true, Jo.qb true, Jo.qb true, Jo.q9 e20 K20 s20 M20 E20 K20b s20b M20b E20b, Jo.q9 e22 K22 s22 M22 E22 K22b s22b M22b E22b, Jo.qb true, Jo.qb true, Jo.qb true, Jo.q9 e21 K21 s21 M21 E21 K21b s21b M21b E21b, Jo.q9 e23 K23 s23 M23 E23 K23b s23b M23b E23b, Jo.qb true, Jo.qb true, Jo.qb true, Jo.q9 e0 D0 s0 M0 E0 G0 g0 P0 Q0, Jo.q4 D1 s1 M1 E1, Jo.Fact.iv z, Jo.q9 e0 D0 s0 M0 E0 G0 g0 P0 Q0, Jo.q4 D1 s1 M1 E1, Jo.Fact.iv z, Jo.qb true, Jo.qb true, Jo.qb true] (by kernel_rfl) (by kernel_rfl) (by decide) rfl rfl ?_ ?_
  · refine Jo.jn 0 (some 38) [] _ rfl rfl rfl rfl ?_ ?_
    · rintro wj hJ K hK; simp only [Jo.z] at hK ⊢; obtain ⟨xX00, xX01, xX02, xX03, xX04, xX05, xX06, xX07, xX08⟩ := (X0.below hJ).u9; go_simp; exact hK.out _ _ rfl (br _ _)
    refine Jo.jn 1 (some 39) [(some 38, 0)] _ rfl rfl rfl rfl ?_ ?_
    · rintro wj hJ _ rfl K hK; simp only [Jo.z] at hK ⊢; go_simp; refine (kvMid (hT.below hJ) u0 v0 HX.out H3.out).mono ?_; rintro ee wk ⟨K24, s24, M24, E24, rfl, q24, B⟩; exact hK.out _ _ ⟨K24, s24, M24, E24, rfl, q24⟩ B
    refine Jo.jn 2 (some 40) [] _ rfl rfl rfl rfl ?_ ?_
    · rintro wj hJ K hK; simp only [Jo.z] at hK ⊢; obtain ⟨xX00, xX01, xX02, xX03, xX04, xX05, xX06, xX07, xX08⟩ := (X0.below hJ).u9; go_simp; exact hK.out _ _ rfl (br _ _)
    refine Jo.jn 3 (some 41) [(some 40, 2)] _ rfl rfl rfl rfl ?_ ?_
    · rintro wj hJ _ rfl K hK; simp only [Jo.z] at hK ⊢; go_simp; refine (jvMid u0 v0 HX.out N1.out H3.out).mono ?_; rintro ee wk ⟨K25, s25, M25, E25, rfl, q25, B⟩; exact hK.out _ _ ⟨K25, s25, M25, E25, rfl, q25⟩ B
    refine Jo.jn 4 (some 42) [(some 39, 1), (some 41, 3)] _ rfl rfl rfl rfl ?_ ?_
    · rintro wj hJ _ ⟨K24, s24, M24, E24, rfl, q24⟩ _ ⟨K25, s25, M25, E25, rfl, q25⟩ K hK; simp only [Jo.z] at hK ⊢; obtain ⟨rfl, rfl, rfl, rfl⟩ := q24.uniq q25; go_simp
      exact hK.out _ _ (by first | rfl | (show Value.bool _ = Value.bool _; simp)) (br _ _)
    refine Jo.jn 5 (some 43) [(some 42, 4)] _ rfl rfl rfl rfl ?_ ?_
    · rintro wj hJ _ rfl K hK; simp only [Jo.z] at hK ⊢; go_simp; exact hK.out _ _ rfl (br _ _)
    refine Jo.jn 6 (some 44) [(some 43, 5)] _ rfl rfl rfl rfl ?_ ?_
    · rintro wj hJ _ rfl K hK; simp only [Jo.z] at hK ⊢; obtain ⟨xX00, xX01, xX02, xX03, xX04, xX05, xX06, xX07, xX08⟩ := (X0.below hJ).u9; go_simp; exact hK.out _ _ rfl (br _ _)
    refine Jo.jn 7 (some 45) [(some 43, 5), (some 44, 6)] _ rfl rfl rfl rfl ?_ ?_
    · rintro wj hJ _ rfl _ rfl K hK; simp only [Jo.z] at hK ⊢; go_simp; refine (kvWidth (hT.below hJ) u0 v0 HX.out H4.out).mono ?_; rintro ee wk ⟨K26, s26, M26, E26, rfl, q26, B⟩; exact hK.out _ _ ⟨K26, s26, M26, E26, rfl, q26⟩ B
    refine Jo.jn 8 (some 46) [(some 43, 5)] _ rfl rfl rfl rfl ?_ ?_
    · rintro wj hJ _ rfl K hK; simp only [Jo.z] at hK ⊢; obtain ⟨xX00, xX01, xX02, xX03, xX04, xX05, xX06, xX07, xX08⟩ := (X0.below hJ).u9; go_simp; exact hK.out _ _ rfl (br _ _)
    refine Jo.jn 9 (some 47) [(some 43, 5), (some 46, 8)] _ rfl rfl rfl rfl ?_ ?_
    · rintro wj hJ _ rfl _ rfl K hK; simp only [Jo.z] at hK ⊢; go_simp; refine (jvWidth u0 v0 HX.out N2.out H4.out).mono ?_; rintro ee wk ⟨K27, s27, M27, E27, rfl, q27, B⟩; exact hK.out _ _ ⟨K27, s27, M27, E27, rfl, q27⟩ B
    refine Jo.jn 10 (some 48) [(some 43, 5), (some 45, 7), (some 47, 9)] _ rfl rfl rfl rfl ?_ ?_
    · rintro wj hJ _ rfl _ ⟨K26, s26, M26, E26, rfl, q26⟩ _ ⟨K27, s27, M27, E27, rfl, q27⟩ K hK; simp only [Jo.z] at hK ⊢; obtain ⟨rfl, rfl, rfl, rfl⟩ := q26.uniq q27; go_simp
      exact hK.out _ _ (by first | rfl | (show Value.bool _ = Value.bool _; simp)) (br _ _)
    refine Jo.jn 11 (some 49) [(some 43, 5), (some 48, 10)] _ rfl rfl rfl rfl ?_ ?_
    · rintro wj hJ _ rfl _ rfl K hK; simp only [Jo.z] at hK ⊢; go_simp; exact hK.out _ _ rfl (br _ _)
    refine Jo.jn 12 (some 50) [(some 49, 11)] _ rfl rfl rfl rfl ?_ ?_
    · rintro wj hJ _ rfl K hK; simp only [Jo.z] at hK ⊢; go_simp; exact hK.out _ _ rfl (br _ _)
    refine Jo.jn 13 (some 51) [(some 50, 12)] _ rfl rfl rfl rfl ?_ ?_
    · rintro wj hJ _ rfl K hK; simp only [Jo.z] at hK ⊢; obtain ⟨xX80, xX81, xX82, xX83, xX84, xX85, xX86, xX87, xX88⟩ := (X8.below hJ).u9; go_simp; exact hK.out _ _ rfl (br _ _)
    refine Jo.jn 14 (some 52) [(some 50, 12)] _ rfl rfl rfl rfl ?_ ?_
    · rintro wj hJ _ rfl K hK; simp only [Jo.z] at hK ⊢; obtain ⟨xX100, xX101, xX102, xX103, xX104, xX105, xX106, xX107, xX108⟩ := (X10.below hJ).u9; go_simp; exact hK.out _ _ rfl (br _ _)
    refine Jo.jn 15 (some 53) [(some 50, 12), (some 51, 13), (some 52, 14)] _ rfl rfl rfl rfl ?_ ?_
    · rintro wj hJ _ rfl _ rfl _ rfl K hK; simp only [Jo.z] at hK ⊢; obtain ⟨rfl, rfl, rfl, rfl, rfl, rfl, rfl, rfl, rfl⟩ := v20.uniq v22; go_simp
      exact hK.out _ _ (by first | rfl | (show Value.bool _ = Value.bool _; simp)) (br _ _)
    refine Jo.jn 16 (some 54) [(some 50, 12), (some 53, 15)] _ rfl rfl rfl rfl ?_ ?_
    · rintro wj hJ _ rfl _ rfl K hK; simp only [Jo.z] at hK ⊢; go_simp; exact hK.out _ _ rfl (br _ _)
    refine Jo.jn 17 (some 55) [(some 54, 16)] _ rfl rfl rfl rfl ?_ ?_
    · rintro wj hJ _ rfl K hK; simp only [Jo.z] at hK ⊢; go_simp; exact hK.out _ _ rfl (br _ _)
    refine Jo.jn 18 (some 56) [(some 55, 17)] _ rfl rfl rfl rfl ?_ ?_
    · rintro wj hJ _ rfl K hK; simp only [Jo.z] at hK ⊢; obtain ⟨xX90, xX91, xX92, xX93, xX94, xX95, xX96, xX97, xX98⟩ := (X9.below hJ).u9; go_simp; exact hK.out _ _ rfl (br _ _)
    refine Jo.jn 19 (some 57) [(some 55, 17)] _ rfl rfl rfl rfl ?_ ?_
    · rintro wj hJ _ rfl K hK; simp only [Jo.z] at hK ⊢; obtain ⟨xX110, xX111, xX112, xX113, xX114, xX115, xX116, xX117, xX118⟩ := (X11.below hJ).u9; go_simp; exact hK.out _ _ rfl (br _ _)
    refine Jo.jn 20 (some 58) [(some 55, 17), (some 56, 18), (some 57, 19)] _ rfl rfl rfl rfl ?_ ?_
    · rintro wj hJ _ rfl _ rfl _ rfl K hK; simp only [Jo.z] at hK ⊢; obtain ⟨rfl, rfl, rfl, rfl, rfl, rfl, rfl, rfl, rfl⟩ := v21.uniq v23; go_simp
      exact hK.out _ _ (by first | rfl | (show Value.bool _ = Value.bool _; simp)) (br _ _)
    refine Jo.jn 21 (some 59) [(some 55, 17), (some 58, 20)] _ rfl rfl rfl rfl ?_ ?_
    · rintro wj hJ _ rfl _ rfl K hK; simp only [Jo.z] at hK ⊢; go_simp; exact hK.out _ _ rfl (br _ _)
    refine Jo.jn 22 (some 60) [(some 59, 21)] _ rfl rfl rfl rfl ?_ ?_
    · rintro wj hJ _ rfl K hK; simp only [Jo.z] at hK ⊢; go_simp; exact hK.out _ _ rfl (br _ _)
    refine Jo.jn 23 (some 61) [(some 60, 22)] _ rfl rfl rfl rfl ?_ ?_
    · rintro wj hJ _ rfl K hK; simp only [Jo.z] at hK ⊢; obtain ⟨xX00, xX01, xX02, xX03, xX04, xX05, xX06, xX07, xX08⟩ := (X0.below hJ).u9; go_simp; exact hK.out _ _ rfl (br _ _)
    refine Jo.jn 24 (some 62) [(some 60, 22)] _ rfl rfl rfl rfl ?_ ?_
    · rintro wj hJ _ rfl K hK; simp only [Jo.z] at hK ⊢; obtain ⟨xX10, xX11, xX12, xX13⟩ := (X1.below hJ).u4; go_simp; exact hK.out _ _ rfl (br _ _)
    refine Jo.jn 25 (some 63) [(some 60, 22), (some 61, 23), (some 62, 24)] _ rfl rfl rfl rfl ?_ ?_
    · rintro wj hJ _ rfl _ rfl _ rfl K hK; simp only [Jo.z] at hK ⊢; go_simp; refine (kvInflate (hT.below hJ) u0 v0 u1 HX.out HY.out H5.out).mono ?_; rintro ee wk ⟨e28, K28, s28, M28, E28, K28b, s28b, M28b, E28b, rfl, v28, B⟩; exact hK.out _ _ ⟨e28, K28, s28, M28, E28, K28b, s28b, M28b, E28b, rfl, v28⟩ B
    refine Jo.jn 26 (some 64) [(some 60, 22)] _ rfl rfl rfl rfl ?_ ?_
    · rintro wj hJ _ rfl K hK; simp only [Jo.z] at hK ⊢; obtain ⟨xX00, xX01, xX02, xX03, xX04, xX05, xX06, xX07, xX08⟩ := (X0.below hJ).u9; go_simp; exact hK.out _ _ rfl (br _ _)
    refine Jo.jn 27 (some 65) [(some 60, 22)] _ rfl rfl rfl rfl ?_ ?_
    · rintro wj hJ _ rfl K hK; simp only [Jo.z] at hK ⊢; obtain ⟨xX10, xX11, xX12, xX13⟩ := (X1.below hJ).u4; go_simp; exact hK.out _ _ rfl (br _ _)
    refine Jo.jn 28 (some 66) [(some 60, 22), (some 64, 26), (some 65, 27)] _ rfl rfl rfl rfl ?_ ?_
    · rintro wj hJ _ rfl _ rfl _ rfl K hK; simp only [Jo.z] at hK ⊢; go_simp; refine (jvInflate u0 v0 u1 HX.out HY.out N3.out H5.out).mono ?_; rintro ee wk ⟨e29, K29, s29, M29, E29, K29b, s29b, M29b, E29b, rfl, v29, B⟩; exact hK.out _ _ ⟨e29, K29, s29, M29, E29, K29b, s29b, M29b, E29b, rfl, v29⟩ B
    refine Jo.jn 29 (some 67) [(some 60, 22), (some 63, 25), (some 66, 28)] _ rfl rfl rfl rfl ?_ ?_
    · rintro wj hJ _ rfl _ ⟨e28, K28, s28, M28, E28, K28b, s28b, M28b, E28b, rfl, v28⟩ _ ⟨e29, K29, s29, M29, E29, K29b, s29b, M29b, E29b, rfl, v29⟩ K hK; simp only [Jo.z] at hK ⊢; obtain ⟨rfl, rfl, rfl, rfl, rfl, rfl, rfl, rfl, rfl⟩ := v28.uniq v29; go_simp
      exact hK.out _ _ (by first | rfl | (show Value.bool _ = Value.bool _; simp)) (br _ _)
    refine Jo.jn 30 (some 68) [(some 60, 22), (some 67, 29)] _ rfl rfl rfl rfl ?_ ?_
    · rintro wj hJ _ rfl _ rfl K hK; simp only [Jo.z] at hK ⊢; go_simp; exact hK.out _ _ rfl (br _ _)
    refine Jo.jn 31 (some 4) [(some 68, 30)] _ rfl rfl rfl rfl ?_ ?_
    · rintro wj hJ _ rfl K hK; simp only [Jo.z] at hK ⊢; go_simp; exact hK.out _ _ rfl (br _ _)
    exact Jo.Steps.nil
  rintro wB hJ _ rfl _ ⟨K24, s24, M24, E24, rfl, _⟩ _ rfl _ ⟨K25, s25, M25, E25, rfl, _⟩ _ rfl _ rfl _ rfl _ ⟨K26, s26, M26, E26, rfl, _⟩ _ rfl _ ⟨K27, s27, M27, E27, rfl, _⟩ _ rfl _ rfl _ rfl _ rfl _ rfl _ rfl _ rfl _ rfl _ rfl _ rfl _ rfl _ rfl _ rfl _ rfl _ rfl _ ⟨e28, K28, s28, M28, E28, K28b, s28b, M28b, E28b, rfl, v28⟩ _ rfl _ rfl _ ⟨e29, K29, s29, M29, E29, K29b, s29b, M29b, E29b, rfl, v29⟩ _ rfl _ rfl _ rfl -
  simp only [Jo.z]; replace X0 := X0.below hJ; replace X1 := X1.below hJ; replace X8 := X8.below hJ; replace X9 := X9.below hJ; replace X10 := X10.below hJ; replace X11 := X11.below hJ; replace hT := hT.below hJ; replace HB := Lib.hid (bt HB.out hJ); refine Jo.jdone (by kernel_rfl) ?_; go_wp2
  go_ret
  exact ⟨rfl, HB.out⟩
theorem rkI_ends {e : Bool} {K M E K' M' E' : Int} {s s' : Bool} {a b : Int} (h : rkI e K s M E K' s' M' E' = some (a, b)) : rk K s M E = a ∧ rk K' s' M' E' = b := by
  cases e
  · rw [rkI_f] at h
    split at h
    · unfold mkI at h
      split at h
      · cases h
        exact ⟨rfl, rfl⟩
      · cases h
    · cases h
  · cases h

theorem ivParts_walk (e0 : Bool) (D0 : Int) (s0 : Bool) (M0 E0 G0 : Int) (g0 : Bool) (P0 Q0 : Int) (D1 : Int) (s1 : Bool) (M1 E1 : Int) (w : World) (hT : Tb w) (u0 : M0 < 18446744073709551616) (v0 : P0 < 18446744073709551616) (w1 : 0 ≤ M1) (u1 : M1 < 18446744073709551616) :
    Calls Tryz.prog 3 #[.agg #[.bool e0, .int .i64 D0, .bool s0, .int .u64 M0, .int .i64 E0, .int .i64 G0, .bool g0, .int .u64 P0, .int .i64 Q0], .agg #[.int .i64 D1, .bool s1, .int .u64 M1, .int .i64 E1]] w fun e w' => e = .returned (.bool true) ∧ Below w.heap.size w w' := by
  cases hp : (fewq D0 E0 && fewq G0 Q0)
  · exact ivParts_far e0 D0 s0 M0 E0 G0 g0 P0 Q0 D1 s1 M1 E1 w _ _ hp rfl rfl
  · cases hq : fewq D1 E1
    · exact ivParts_far e0 D0 s0 M0 E0 G0 g0 P0 Q0 D1 s1 M1 E1 w _ _ hp hq rfl
    · have hab := hp; rw [Bool.and_eq_true] at hab; have f1 := few_fz (s := s0) u0 hab.1; have f2 := few_fz (s := g0) v0 hab.2; have f3 := few_fz (s := s1) u1 hq
      refine ivParts_main e0 D0 s0 M0 E0 G0 g0 P0 Q0 D1 s1 M1 E1 w _ _ _ _ _ _ _ hT u0 v0 u1 hp hq rfl rfl (fun a b h => ?_) (fun a b h => ?_) (fun a b h => ?_) rfl rfl rfl rfl rfl
      all_goals obtain ⟨ha, hb⟩ := rkI_ends h
      all_goals rw [ha] at f1
      all_goals rw [hb] at f2
      · exact f1.near f2 (by decide)
      · exact f2.near f1.neg (by decide)
      · exact ⟨f1.near f3.neg (by decide), f2.near f3 (by decide)⟩
end Go.Proofs.YthhlccdmflgbbaaGreatDoor

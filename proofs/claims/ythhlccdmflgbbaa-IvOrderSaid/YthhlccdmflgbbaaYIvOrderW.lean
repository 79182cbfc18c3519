/-
  The walk of IvOrder: for all arguments the call answers true, and nothing that was there has turned.
-/
import Derived.Test.YthhlccdmflgbbaaYAar
namespace Go.Proofs.Ythhlccdmflgbbaa
open Go.RowKit
set_option linter.unusedVariables false
set_option linter.unusedSimpArgs false
set_option maxRecDepth 100000

theorem meet2 {x y : Sp} (hx : SpOk x) : meetL [x, y] = meetI x y := by
  show meetI (meetI allI x) y = _
  rw [meet_all hx]
set_option maxHeartbeats 8000000 in
theorem ivOrder_no0 (e0 : Bool) (D0 : Int) (s0 : Bool) (M0 E0 G0 : Int) (g0 : Bool) (P0 Q0 : Int) (e1 : Bool) (D1 : Int) (s1 : Bool) (M1 E1 G1 : Int) (g1 : Bool) (P1 Q1 : Int) (w : World) (u0 : M0 < 18446744073709551616) (v0 : P0 < 18446744073709551616) (h0 : mayI e0 D0 s0 M0 E0 G0 g0 P0 Q0 = false) :
    Calls Try.prog 6 #[.agg #[.bool e0, .int .i64 D0, .bool s0, .int .u64 M0, .int .i64 E0, .int .i64 G0, .bool g0, .int .u64 P0, .int .i64 Q0], .agg #[.bool e1, .int .i64 D1, .bool s1, .int .u64 M1, .int .i64 E1, .int .i64 G1, .bool g1, .int .u64 P1, .int .i64 Q1]] w (PB w true) := by
  have H0 := Lib.hid h0
  clear h0
  go_enter Try.func6, Try.ntmps6
  go_upto_region 1 with (fail)
  have X0 := (Bo.newAt w (g := w.heap.size) (by simp) #[.bool e0, .int .i64 D0, .bool s0, .int .u64 M0, .int .i64 E0, .int .i64 G0, .bool g0, .int .u64 P0, .int .i64 Q0] 26).below (bel1 _ (.cells #[.bool e1, .int .i64 D1, .bool s1, .int .u64 M1, .int .i64 E1, .int .i64 G1, .bool g1, .int .u64 P1, .int .i64 Q1] 26))
  have X1 := (Bo.newAt (w.alloc (.cells #[.bool e0, .int .i64 D0, .bool s0, .int .u64 M0, .int .i64 E0, .int .i64 G0, .bool g0, .int .u64 P0, .int .i64 Q0] 26)) (g := w.heap.size + 1) (by simp) #[.bool e1, .int .i64 D1, .bool s1, .int .u64 M1, .int .i64 E1, .int .i64 G1, .bool g1, .int .u64 P1, .int .i64 Q1] 26)
  have HB := Lib.hid (bel2 w (.cells #[.bool e0, .int .i64 D0, .bool s0, .int .u64 M0, .int .i64 E0, .int .i64 G0, .bool g0, .int .u64 P0, .int .i64 Q0] 26) (.cells #[.bool e1, .int .i64 D1, .bool s1, .int .u64 M1, .int .i64 E1, .int .i64 G1, .bool g1, .int .u64 P1, .int .i64 Q1] 26))
  generalize hW1 : ((w.alloc (.cells #[.bool e0, .int .i64 D0, .bool s0, .int .u64 M0, .int .i64 E0, .int .i64 G0, .bool g0, .int .u64 P0, .int .i64 Q0] 26)).alloc (.cells #[.bool e1, .int .i64 D1, .bool s1, .int .u64 M1, .int .i64 E1, .int .i64 G1, .bool g1, .int .u64 P1, .int .i64 Q1] 26)) = w1 at *
  clear hW1
  go_wp2_with fail
  refine (awake8).mono ?_
  rintro ee w2 ⟨rfl, B⟩
  replace X0 := X0.below B
  replace X1 := X1.below B
  replace HB := Lib.hid (bt HB.out B)
  clear B
  obtain ⟨xX00, xX01, xX02, xX03, xX04, xX05, xX06, xX07, xX08⟩ := X0.ce9 rfl rfl rfl rfl rfl rfl rfl rfl rfl
  go_wp2_with fail
  refine (kvMay u0 v0 H0.out).mono ?_
  rintro ee w3 ⟨rfl, B⟩
  clear xX00 xX01 xX02 xX03 xX04 xX05 xX06 xX07 xX08
  replace X0 := X0.below B
  replace X1 := X1.below B
  replace HB := Lib.hid (bt HB.out B)
  clear B
  go_wp2
  go_ret
  exact ⟨rfl, HB.out⟩
set_option maxHeartbeats 8000000 in
theorem ivOrder_no1 (e0 : Bool) (D0 : Int) (s0 : Bool) (M0 E0 G0 : Int) (g0 : Bool) (P0 Q0 : Int) (e1 : Bool) (D1 : Int) (s1 : Bool) (M1 E1 G1 : Int) (g1 : Bool) (P1 Q1 : Int) (w : World) (u0 : M0 < 18446744073709551616) (v0 : P0 < 18446744073709551616) (u1 : M1 < 18446744073709551616) (v1 : P1 < 18446744073709551616) (h0 : mayI e0 D0 s0 M0 E0 G0 g0 P0 Q0 = true) (h1 : mayI e1 D1 s1 M1 E1 G1 g1 P1 Q1 = false) :
    Calls Try.prog 6 #[.agg #[.bool e0, .int .i64 D0, .bool s0, .int .u64 M0, .int .i64 E0, .int .i64 G0, .bool g0, .int .u64 P0, .int .i64 Q0], .agg #[.bool e1, .int .i64 D1, .bool s1, .int .u64 M1, .int .i64 E1, .int .i64 G1, .bool g1, .int .u64 P1, .int .i64 Q1]] w (PB w true) := by
  have H0 := Lib.hid h0
  have H1 := Lib.hid h1
  clear h0 h1
  go_enter Try.func6, Try.ntmps6
  go_upto_region 1 with (fail)
  have X0 := (Bo.newAt w (g := w.heap.size) (by simp) #[.bool e0, .int .i64 D0, .bool s0, .int .u64 M0, .int .i64 E0, .int .i64 G0, .bool g0, .int .u64 P0, .int .i64 Q0] 26).below (bel1 _ (.cells #[.bool e1, .int .i64 D1, .bool s1, .int .u64 M1, .int .i64 E1, .int .i64 G1, .bool g1, .int .u64 P1, .int .i64 Q1] 26))
  have X1 := (Bo.newAt (w.alloc (.cells #[.bool e0, .int .i64 D0, .bool s0, .int .u64 M0, .int .i64 E0, .int .i64 G0, .bool g0, .int .u64 P0, .int .i64 Q0] 26)) (g := w.heap.size + 1) (by simp) #[.bool e1, .int .i64 D1, .bool s1, .int .u64 M1, .int .i64 E1, .int .i64 G1, .bool g1, .int .u64 P1, .int .i64 Q1] 26)
  have HB := Lib.hid (bel2 w (.cells #[.bool e0, .int .i64 D0, .bool s0, .int .u64 M0, .int .i64 E0, .int .i64 G0, .bool g0, .int .u64 P0, .int .i64 Q0] 26) (.cells #[.bool e1, .int .i64 D1, .bool s1, .int .u64 M1, .int .i64 E1, .int .i64 G1, .bool g1, .int .u64 P1, .int .i64 Q1] 26))
  generalize hW1 : ((w.alloc (.cells #[.bool e0, .int .i64 D0, .bool s0, .int .u64 M0, .int .i64 E0, .int .i64 G0, .bool g0, .int .u64 P0, .int .i64 Q0] 26)).alloc (.cells #[.bool e1, .int .i64 D1, .bool s1, .int .u64 M1, .int .i64 E1, .int .i64 G1, .bool g1, .int .u64 P1, .int .i64 Q1] 26)) = w1 at *
  clear hW1
  go_wp2_with fail
  refine (awake8).mono ?_
  rintro ee w2 ⟨rfl, B⟩
  replace X0 := X0.below B
  replace X1 := X1.below B
  replace HB := Lib.hid (bt HB.out B)
  clear B
  obtain ⟨xX00, xX01, xX02, xX03, xX04, xX05, xX06, xX07, xX08⟩ := X0.ce9 rfl rfl rfl rfl rfl rfl rfl rfl rfl
  go_wp2_with fail
  refine (kvMay u0 v0 H0.out).mono ?_
  rintro ee w3 ⟨rfl, B⟩
  clear xX00 xX01 xX02 xX03 xX04 xX05 xX06 xX07 xX08
  replace X0 := X0.below B
  replace X1 := X1.below B
  replace HB := Lib.hid (bt HB.out B)
  clear B
  obtain ⟨xX10, xX11, xX12, xX13, xX14, xX15, xX16, xX17, xX18⟩ := X1.ce9 rfl rfl rfl rfl rfl rfl rfl rfl rfl
  go_wp2_with fail
  refine (kvMay u1 v1 H1.out).mono ?_
  rintro ee w4 ⟨rfl, B⟩
  clear xX10 xX11 xX12 xX13 xX14 xX15 xX16 xX17 xX18
  replace X0 := X0.below B
  replace X1 := X1.below B
  replace HB := Lib.hid (bt HB.out B)
  clear B
  go_wp2
  go_ret
  exact ⟨rfl, HB.out⟩
set_option maxHeartbeats 8000000 in
theorem ivOrder_t (e0 : Bool) (D0 : Int) (s0 : Bool) (M0 E0 G0 : Int) (g0 : Bool) (P0 Q0 : Int) (e1 : Bool) (D1 : Int) (s1 : Bool) (M1 E1 G1 : Int) (g1 : Bool) (P1 Q1 : Int) (w : World) (x y m h : Sp) (c0 : Ci e0 D0 s0 M0 E0 G0 g0 P0 Q0 x) (c1 : Ci e1 D1 s1 M1 E1 G1 g1 P1 Q1 y) (hm : meetL [x, y] = m) (hm2 : meetL [y, x] = m) (hh : hullL [x, y] = h)
    (h1 : witI m x = true) (h2 : witI m y = true) (h3 : witI x h = true) (h4 : witI y h = true) (h5 : witI x y = true) (h6 : m = x) (h7 : h = y) :
    Calls Try.prog 6 #[.agg #[.bool e0, .int .i64 D0, .bool s0, .int .u64 M0, .int .i64 E0, .int .i64 G0, .bool g0, .int .u64 P0, .int .i64 Q0], .agg #[.bool e1, .int .i64 D1, .bool s1, .int .u64 M1, .int .i64 E1, .int .i64 G1, .bool g1, .int .u64 P1, .int .i64 Q1]] w (PB w true) := by
  have HME := Lib.hid hm
  have HM2 := Lib.hid hm2
  have HHU := Lib.hid hh
  have H1 := Lib.hid h1
  have H2 := Lib.hid h2
  have H3 := Lib.hid h3
  have H4 := Lib.hid h4
  have H5 := Lib.hid h5
  have H6 := Lib.hid h6
  have H7 := Lib.hid h7
  clear hm hm2 hh h1 h2 h3 h4 h5 h6 h7
  go_enter Try.func6, Try.ntmps6
  go_upto_region 1 with (fail)
  have X0 := (Bo.newAt w (g := w.heap.size) (by simp) #[.bool e0, .int .i64 D0, .bool s0, .int .u64 M0, .int .i64 E0, .int .i64 G0, .bool g0, .int .u64 P0, .int .i64 Q0] 26).below (bel1 _ (.cells #[.bool e1, .int .i64 D1, .bool s1, .int .u64 M1, .int .i64 E1, .int .i64 G1, .bool g1, .int .u64 P1, .int .i64 Q1] 26))
  have X1 := (Bo.newAt (w.alloc (.cells #[.bool e0, .int .i64 D0, .bool s0, .int .u64 M0, .int .i64 E0, .int .i64 G0, .bool g0, .int .u64 P0, .int .i64 Q0] 26)) (g := w.heap.size + 1) (by simp) #[.bool e1, .int .i64 D1, .bool s1, .int .u64 M1, .int .i64 E1, .int .i64 G1, .bool g1, .int .u64 P1, .int .i64 Q1] 26)
  have HB := Lib.hid (bel2 w (.cells #[.bool e0, .int .i64 D0, .bool s0, .int .u64 M0, .int .i64 E0, .int .i64 G0, .bool g0, .int .u64 P0, .int .i64 Q0] 26) (.cells #[.bool e1, .int .i64 D1, .bool s1, .int .u64 M1, .int .i64 E1, .int .i64 G1, .bool g1, .int .u64 P1, .int .i64 Q1] 26))
  generalize hW1 : ((w.alloc (.cells #[.bool e0, .int .i64 D0, .bool s0, .int .u64 M0, .int .i64 E0, .int .i64 G0, .bool g0, .int .u64 P0, .int .i64 Q0] 26)).alloc (.cells #[.bool e1, .int .i64 D1, .bool s1, .int .u64 M1, .int .i64 E1, .int .i64 G1, .bool g1, .int .u64 P1, .int .i64 Q1] 26)) = w1 at *
  clear hW1
  go_wp2_with fail
  refine (awake8).mono ?_
  rintro ee w2 ⟨rfl, B⟩
  replace X0 := X0.below B
  replace X1 := X1.below B
  replace HB := Lib.hid (bt HB.out B)
  clear B
  obtain ⟨xX00, xX01, xX02, xX03, xX04, xX05, xX06, xX07, xX08⟩ := X0.ce9 rfl rfl rfl rfl rfl rfl rfl rfl rfl
  go_wp2_with fail
  refine (kvMay c0.top.1 c0.top.2 c0.may).mono ?_
  rintro ee w3 ⟨rfl, B⟩
  clear xX00 xX01 xX02 xX03 xX04 xX05 xX06 xX07 xX08
  replace X0 := X0.below B
  replace X1 := X1.below B
  replace HB := Lib.hid (bt HB.out B)
  clear B
  obtain ⟨xX10, xX11, xX12, xX13, xX14, xX15, xX16, xX17, xX18⟩ := X1.ce9 rfl rfl rfl rfl rfl rfl rfl rfl rfl
  go_wp2_with fail
  refine (kvMay c1.top.1 c1.top.2 c1.may).mono ?_
  rintro ee w4 ⟨rfl, B⟩
  clear xX10 xX11 xX12 xX13 xX14 xX15 xX16 xX17 xX18
  replace X0 := X0.below B
  replace X1 := X1.below B
  replace HB := Lib.hid (bt HB.out B)
  clear B
  obtain ⟨xX00, xX01, xX02, xX03, xX04, xX05, xX06, xX07, xX08⟩ := X0.ce9 rfl rfl rfl rfl rfl rfl rfl rfl rfl
  obtain ⟨xX10, xX11, xX12, xX13, xX14, xX15, xX16, xX17, xX18⟩ := X1.ce9 rfl rfl rfl rfl rfl rfl rfl rfl rfl
  go_wp2_with fail
  refine (kvMeet (Il8.lit2 rfl c0.rw c1.rw) HME.out).mono ?_
  rintro ee w5 ⟨e20, K20, s20, M20, E20, K20b, s20b, M20b, E20b, rfl, v20, B⟩
  clear xX00 xX01 xX02 xX03 xX04 xX05 xX06 xX07 xX08 xX10 xX11 xX12 xX13 xX14 xX15 xX16 xX17 xX18
  replace B := bt (bel1 _ _) B
  replace X0 := X0.below B
  replace X1 := X1.below B
  replace HB := Lib.hid (bt HB.out B)
  clear B
  go_upto_region 5 with (fail)
  have lX6 := Nat.le_refl (World.heap w5).size
  have nX6X0 := X0.lt
  have nX6X1 := X1.lt
  replace X0 := X0.below (bel1 _ (.cells #[.bool e20, .int .i64 K20, .bool s20, .int .u64 M20, .int .i64 E20, .int .i64 K20b, .bool s20b, .int .u64 M20b, .int .i64 E20b] 26))
  replace X1 := X1.below (bel1 _ (.cells #[.bool e20, .int .i64 K20, .bool s20, .int .u64 M20, .int .i64 E20, .int .i64 K20b, .bool s20b, .int .u64 M20b, .int .i64 E20b] 26))
  replace HB := Lib.hid (bt HB.out (bel1 _ (.cells #[.bool e20, .int .i64 K20, .bool s20, .int .u64 M20, .int .i64 E20, .int .i64 K20b, .bool s20b, .int .u64 M20b, .int .i64 E20b] 26)))
  have X6 := Bo.new w5 #[.bool e20, .int .i64 K20, .bool s20, .int .u64 M20, .int .i64 E20, .int .i64 K20b, .bool s20b, .int .u64 M20b, .int .i64 E20b] 26
  generalize hWn : World.alloc w5 (.cells #[.bool e20, .int .i64 K20, .bool s20, .int .u64 M20, .int .i64 E20, .int .i64 K20b, .bool s20b, .int .u64 M20b, .int .i64 E20b] 26) = w6 at *
  clear hWn
  clear lX6
  obtain ⟨xX00, xX01, xX02, xX03, xX04, xX05, xX06, xX07, xX08⟩ := X0.ce9 rfl rfl rfl rfl rfl rfl rfl rfl rfl
  obtain ⟨xX10, xX11, xX12, xX13, xX14, xX15, xX16, xX17, xX18⟩ := X1.ce9 rfl rfl rfl rfl rfl rfl rfl rfl rfl
  go_wp2_with fail
  refine (kvHull (Il8.lit2 rfl c0.rw c1.rw) HHU.out).mono ?_
  rintro ee w7 ⟨e21, K21, s21, M21, E21, K21b, s21b, M21b, E21b, rfl, v21, B⟩
  clear xX00 xX01 xX02 xX03 xX04 xX05 xX06 xX07 xX08 xX10 xX11 xX12 xX13 xX14 xX15 xX16 xX17 xX18
  replace B := bt (bel1 _ _) B
  replace X0 := X0.below B
  replace X1 := X1.below B
  replace X6 := X6.below B
  replace HB := Lib.hid (bt HB.out B)
  clear B
  go_upto_region 6 with (fail)
  have lX7 := Nat.le_refl (World.heap w7).size
  have nX7X0 := X0.lt
  have nX7X1 := X1.lt
  have nX7X6 := X6.lt
  replace X0 := X0.below (bel1 _ (.cells #[.bool e21, .int .i64 K21, .bool s21, .int .u64 M21, .int .i64 E21, .int .i64 K21b, .bool s21b, .int .u64 M21b, .int .i64 E21b] 26))
  replace X1 := X1.below (bel1 _ (.cells #[.bool e21, .int .i64 K21, .bool s21, .int .u64 M21, .int .i64 E21, .int .i64 K21b, .bool s21b, .int .u64 M21b, .int .i64 E21b] 26))
  replace X6 := X6.below (bel1 _ (.cells #[.bool e21, .int .i64 K21, .bool s21, .int .u64 M21, .int .i64 E21, .int .i64 K21b, .bool s21b, .int .u64 M21b, .int .i64 E21b] 26))
  replace HB := Lib.hid (bt HB.out (bel1 _ (.cells #[.bool e21, .int .i64 K21, .bool s21, .int .u64 M21, .int .i64 E21, .int .i64 K21b, .bool s21b, .int .u64 M21b, .int .i64 E21b] 26)))
  have X7 := Bo.new w7 #[.bool e21, .int .i64 K21, .bool s21, .int .u64 M21, .int .i64 E21, .int .i64 K21b, .bool s21b, .int .u64 M21b, .int .i64 E21b] 26
  generalize hWn : World.alloc w7 (.cells #[.bool e21, .int .i64 K21, .bool s21, .int .u64 M21, .int .i64 E21, .int .i64 K21b, .bool s21b, .int .u64 M21b, .int .i64 E21b] 26) = w8 at *
  clear hWn
  clear lX7
  obtain ⟨xX00, xX01, xX02, xX03, xX04, xX05, xX06, xX07, xX08⟩ := X0.ce9 rfl rfl rfl rfl rfl rfl rfl rfl rfl
  obtain ⟨xX10, xX11, xX12, xX13, xX14, xX15, xX16, xX17, xX18⟩ := X1.ce9 rfl rfl rfl rfl rfl rfl rfl rfl rfl
  go_wp2_with fail
  refine (kvWithin c0.top.1 c0.top.2 c1.top.1 c1.top.2 c0.rk c1.rk H5.out).mono ?_
  rintro ee w9 ⟨rfl, B⟩
  clear xX00 xX01 xX02 xX03 xX04 xX05 xX06 xX07 xX08 xX10 xX11 xX12 xX13 xX14 xX15 xX16 xX17 xX18
  replace X0 := X0.below B
  replace X1 := X1.below B
  replace X6 := X6.below B
  replace X7 := X7.below B
  replace HB := Lib.hid (bt HB.out B)
  clear B
  go_upto_region 7 with (fail)
  refine Jo.region_joint (T := [0, 1, 2, 3, 4, 5, 6, 7, 8, 9, 10, 11, 12, 13, 14, 15, 16, 17, 18, 19, 20, 21, 22, 23, 24, 25, 26, 27, 28, 29, 30, 31, 32, 33, 34, 35, 36, 37, 38, 39, 40, 41, 42, 43]) (ds := [some 30, some 31, some 32, some 33, some 34, some 35, some 36, some 37, some 38, some 39, some 40, some 41, some 42, some 43, some 44, some 45, some 46, some 47, some 48, some 49, some 50, some 51, some 52, some 53, some 54, some 55, some 56, some 57, some 58, some 59, some 60, some 61, some 62, some 63, some 64, some 65, some 66, some 67, some 68, some 69, some 70, some 71, some 72, some 4]) (ls := [[], [0], [1], [1], [1, 2, 3], [1, 4], [5], [6], [6], [6, 7, 8], [6, 9], [10], [11], [11], [11, 12, 13], [11, 14], [15], [16], [16], [16, 17, 18], [16, 19], [20], [21], [21], [21], [21, 23, 24], [21, 22, 25], [21, 26], [27], [28], [28], [28], [28, 30, 31], [28, 29, 32], [28, 33], [34], [35], [35], [35, 36, 37], [35, 38], [35], [35, 39, 40], [35, 41], [42]]) (k := 44) (L := [(some 30, 0), (some 31, 1), (some 32, 2), (some 33, 3), (some 34, 4), (some 35, 5), (some 36, 6), (some 37, 7), (some 38, 8), (some 39, 9), (some 40, 10), (some 41, 11), (some 42, 12), (some 43, 13), (some 44, 14), (some 45, 15), (some 46, 16), (some 47, 17), (some 48, 18), (some 49, 19), (some 50, 20), (some 51, 21), (some 52, 22), (some 53, 23), (some 54, 24), (some 55, 25), (some 56, 26), (some 57, 27), (some 58, 28), (some 59, 29), (some 60, 30), (some 61, 31), (some 62, 32), (some 63, 33), (some 64, 34), (some 65, 35), (some 66, 36), (some 67, 37), (some 68, 38), (some 69, 39), (some 70, 40), (some 71, 41), (some 72, 42), (some 4, 43)]) (fuel := 0) (J := fun wj => Below (World.heap w9).size w9 wj)
    (F := [Jo.Fact.eq (.bool true), Jo.Fact.eq (.bool true), Jo.Fact.eq (.agg #[.bool e20, .int .i64 K20, .bool s20, .int .u64 M20, .int .i64 E20, .int .i64 K20b, .bool s20b, .int .u64 M20b, .int .i64 E20b]), Jo.Fact.eq (.agg #[.bool e0, .int .i64 D0, .bool s0, .int .u64 M0, .int .i64 E0, .int .i64 G0, .bool g0, .int .u64 P0, .int .i64 Q0]), Jo.Fact.eq (.bool true), Jo.Fact.eq (.bool true), Jo.Fact.eq (.bool true), Jo.Fact.eq (.agg #[.bool e20, .int .i64 K20, .bool s20, .int .u64 M20, .int .i64 E20, .int .i64 K20b, .bool s20b, .int .u64 M20b, .int .i64 E20b]), Jo.Fact.eq (.agg #[.bool e1, .int .i64 D1, .bool s1, .int .u64 M1, .int .i64 E1, .int .i64 G1, .bool g1, .int .u64 P1, .int .i64 Q1]), Jo.Fact.eq (.bool true), Jo.Fact.eq (.bool true), Jo.Fact.eq (.bool true), Jo.Fact.eq (.agg #[.bool e0, .int .i64 D0, .bool s0, .int .u64 M0, .int .i64 E0, .int .i64 G0, .bool g0, .int .u64 P0, .int .i64 Q0]), Jo.Fact.eq (.agg #[.bool e21, .int .i64 K21, .bool s21, .int .u64 M21, .int .i64 E21, .int .i64 K21b, .bool s21b, .int .u64 M21b, .int .i64 E21b]), Jo.Fact.eq (.bool true), Jo.Fact.eq (.bool true), Jo.Fact.eq (.bool true), Jo.Fact.eq (.agg #[.bool e1, .int .i64 D1, .bool s1, .int .u64 M1, .int .i64 E1, .int .i64 G1, .bool g1, .int .u64 P1, .int .i64 Q1]), Jo.Fact.eq (.agg #[.bool e21, .int .i64 K21, .bool s21, .int .u64 M21, .int .i64 E21, .int .i64 K21b, .bool s21b, .int .u64 M21b, .int .i64 E21b]), Jo.Fact.eq (.bool true), Jo.Fact.eq (.bool true), Jo.Fact.eq (.bool true), Jo.Fact.eq (.bool true), Jo.Fact.eq (.agg #[.bool e20, .int .i64 K20, .bool s20, .int .u64 M20, .int .i64 E20, .int .i64 K20b, .bool s20b, .int .u64 M20b, .int .i64 E20b]), Jo.Fact.eq (.agg #[.bool e0, .int .i64 D0, .bool s0, .int .u64 M0, .int .i64 E0, .int .i64 G0, .bool g0, .int .u64 P0, .int .i64 Q0]), Jo.Fact.eq (.bool true), Jo.Fact.eq (.bool true), Jo.Fact.eq (.bool true), Jo.Fact.eq (.bool true), Jo.Fact.eq (.bool true), Jo.Fact.eq (.agg #[.bool e21, .int .i64 K21, .bool s21, .int .u64 M21, .int .i64 E21, .int .i64 K21b, .bool s21b, .int .u64 M21b, .int .i64 E21b]), Jo.Fact.eq (.agg #[.bool e1, .int .i64 D1, .bool s1, .int .u64 M1, .int .i64 E1, .int .i64 G1, .bool g1, .int .u64 P1, .int .i64 Q1]), Jo.Fact.eq (.bool true), Jo.Fact.eq (.bool true), Jo.Fact.eq (.bool true), Jo.Fact.eq (.bool true), Jo.Fact.eq (.agg #[.bool e1, .int .i64 D1, .bool s1, .int .u64 M1, .int .i64 E1, .int .i64 G1, .bool g1, .int .u64 P1, .int .i64 Q1]), Jo.Fact.eq (.agg #[.bool e0, .int .i64 D0, .bool s0, .int .u64 M0, .int .i64 E0, .int .i64 G0, .bool g0, .int .u64 P0, .int .i64 Q0]), Jo.Fact.il8 2 [y, x], Jo.Fact.iv m, Jo.Fact.eq (.agg #[.bool e20, .int .i64 K20, .bool s20, .int .u64 M20, .int .i64 E20, .int .i64 K20b, .bool s20b, .int .u64 M20b, .int .i64 E20b]), Jo.Fact.eq (.bool true), Jo.Fact.eq (.bool true), Jo.Fact.eq (.bool true)])
    (by kernel_rfl) (by kernel_rfl) (by decide) rfl rfl (fun _ _ h b => bt h b) ((Below.refl _ _).drew) ?_ (fun vs wA hJ hd => ?_)
  · refine Jo.jd 0 (some 30) [] (Jo.Fact.eq (.bool true)) rfl rfl rfl rfl (fun vs wj hJ hd K hK => ?_) ?_
    · simp only [Jo.putl, Jo.ze, Act.put, Jo.za, Jo.zb, Jo.zc] at hK ⊢
      clear hd
      go_simp
      exact hK.out _ _ rfl (Below.refl _ _)
    refine Jo.jd 1 (some 31) [(some 30, 0)] (Jo.Fact.eq (.bool true)) rfl rfl rfl rfl (fun vs wj hJ hd K hK => ?_) ?_
    · simp only [Jo.putl, Jo.zd, Jo.ze, Act.put, Jo.za, Jo.zb, Jo.zc] at hK ⊢
      rw [show vs 0 = _ from hd 0 (by decide)] at hK ⊢
      clear hd
      go_simp
      exact hK.out _ _ rfl (Below.refl _ _)
    refine Jo.jd 2 (some 32) [(some 31, 1)] (Jo.Fact.eq (.agg #[.bool e20, .int .i64 K20, .bool s20, .int .u64 M20, .int .i64 E20, .int .i64 K20b, .bool s20b, .int .u64 M20b, .int .i64 E20b])) rfl rfl rfl rfl (fun vs wj hJ hd K hK => ?_) ?_
    · simp only [Jo.putl, Jo.zd, Jo.ze, Act.put, Jo.za, Jo.zb, Jo.zc] at hK ⊢
      rw [show vs 1 = _ from hd 1 (by decide)] at hK ⊢
      clear hd
      have xX60 := (X6.below hJ).a 0 (.bool e20) rfl
      have xX61 := (X6.below hJ).a 1 (.int .i64 K20) rfl
      have xX62 := (X6.below hJ).a 2 (.bool s20) rfl
      have xX63 := (X6.below hJ).a 3 (.int .u64 M20) rfl
      have xX64 := (X6.below hJ).a 4 (.int .i64 E20) rfl
      have xX65 := (X6.below hJ).a 5 (.int .i64 K20b) rfl
      have xX66 := (X6.below hJ).a 6 (.bool s20b) rfl
      have xX67 := (X6.below hJ).a 7 (.int .u64 M20b) rfl
      have xX68 := (X6.below hJ).a 8 (.int .i64 E20b) rfl
      go_simp
      exact hK.out _ _ rfl (Below.refl _ _)
    refine Jo.jd 3 (some 33) [(some 31, 1)] (Jo.Fact.eq (.agg #[.bool e0, .int .i64 D0, .bool s0, .int .u64 M0, .int .i64 E0, .int .i64 G0, .bool g0, .int .u64 P0, .int .i64 Q0])) rfl rfl rfl rfl (fun vs wj hJ hd K hK => ?_) ?_
    · simp only [Jo.putl, Jo.zd, Jo.ze, Act.put, Jo.za, Jo.zb, Jo.zc] at hK ⊢
      rw [show vs 1 = _ from hd 1 (by decide)] at hK ⊢
      clear hd
      have xX00 := (X0.below hJ).a 0 (.bool e0) rfl
      have xX01 := (X0.below hJ).a 1 (.int .i64 D0) rfl
      have xX02 := (X0.below hJ).a 2 (.bool s0) rfl
      have xX03 := (X0.below hJ).a 3 (.int .u64 M0) rfl
      have xX04 := (X0.below hJ).a 4 (.int .i64 E0) rfl
      have xX05 := (X0.below hJ).a 5 (.int .i64 G0) rfl
      have xX06 := (X0.below hJ).a 6 (.bool g0) rfl
      have xX07 := (X0.below hJ).a 7 (.int .u64 P0) rfl
      have xX08 := (X0.below hJ).a 8 (.int .i64 Q0) rfl
      go_simp
      exact hK.out _ _ rfl (Below.refl _ _)
    refine Jo.jd 4 (some 34) [(some 31, 1), (some 32, 2), (some 33, 3)] (Jo.Fact.eq (.bool true)) rfl rfl rfl rfl (fun vs wj hJ hd K hK => ?_) ?_
    · simp only [Jo.putl, Jo.zd, Jo.ze, Act.put, Jo.za, Jo.zb, Jo.zc] at hK ⊢
      rw [show vs 1 = _ from hd 1 (by decide), show vs 2 = _ from hd 2 (by decide), show vs 3 = _ from hd 3 (by decide)] at hK ⊢
      clear hd
      go_simp
      refine (kvWithin v20.top.1 v20.top.2 c0.top.1 c0.top.2 v20.rk c0.rk H1.out).mono ?_
      rintro ee wk ⟨rfl, B⟩
      exact hK.out _ _ rfl B
    refine Jo.jd 5 (some 35) [(some 31, 1), (some 34, 4)] (Jo.Fact.eq (.bool true)) rfl rfl rfl rfl (fun vs wj hJ hd K hK => ?_) ?_
    · simp only [Jo.putl, Jo.zd, Jo.ze, Act.put, Jo.za, Jo.zb, Jo.zc] at hK ⊢
      rw [show vs 1 = _ from hd 1 (by decide), show vs 4 = _ from hd 4 (by decide)] at hK ⊢
      clear hd
      go_simp
      exact hK.out _ _ rfl (Below.refl _ _)
    refine Jo.jd 6 (some 36) [(some 35, 5)] (Jo.Fact.eq (.bool true)) rfl rfl rfl rfl (fun vs wj hJ hd K hK => ?_) ?_
    · simp only [Jo.putl, Jo.zd, Jo.ze, Act.put, Jo.za, Jo.zb, Jo.zc] at hK ⊢
      rw [show vs 5 = _ from hd 5 (by decide)] at hK ⊢
      clear hd
      go_simp
      exact hK.out _ _ rfl (Below.refl _ _)
    refine Jo.jd 7 (some 37) [(some 36, 6)] (Jo.Fact.eq (.agg #[.bool e20, .int .i64 K20, .bool s20, .int .u64 M20, .int .i64 E20, .int .i64 K20b, .bool s20b, .int .u64 M20b, .int .i64 E20b])) rfl rfl rfl rfl (fun vs wj hJ hd K hK => ?_) ?_
    · simp only [Jo.putl, Jo.zd, Jo.ze, Act.put, Jo.za, Jo.zb, Jo.zc] at hK ⊢
      rw [show vs 6 = _ from hd 6 (by decide)] at hK ⊢
      clear hd
      have xX60 := (X6.below hJ).a 0 (.bool e20) rfl
      have xX61 := (X6.below hJ).a 1 (.int .i64 K20) rfl
      have xX62 := (X6.below hJ).a 2 (.bool s20) rfl
      have xX63 := (X6.below hJ).a 3 (.int .u64 M20) rfl
      have xX64 := (X6.below hJ).a 4 (.int .i64 E20) rfl
      have xX65 := (X6.below hJ).a 5 (.int .i64 K20b) rfl
      have xX66 := (X6.below hJ).a 6 (.bool s20b) rfl
      have xX67 := (X6.below hJ).a 7 (.int .u64 M20b) rfl
      have xX68 := (X6.below hJ).a 8 (.int .i64 E20b) rfl
      go_simp
      exact hK.out _ _ rfl (Below.refl _ _)
    refine Jo.jd 8 (some 38) [(some 36, 6)] (Jo.Fact.eq (.agg #[.bool e1, .int .i64 D1, .bool s1, .int .u64 M1, .int .i64 E1, .int .i64 G1, .bool g1, .int .u64 P1, .int .i64 Q1])) rfl rfl rfl rfl (fun vs wj hJ hd K hK => ?_) ?_
    · simp only [Jo.putl, Jo.zd, Jo.ze, Act.put, Jo.za, Jo.zb, Jo.zc] at hK ⊢
      rw [show vs 6 = _ from hd 6 (by decide)] at hK ⊢
      clear hd
      have xX10 := (X1.below hJ).a 0 (.bool e1) rfl
      have xX11 := (X1.below hJ).a 1 (.int .i64 D1) rfl
      have xX12 := (X1.below hJ).a 2 (.bool s1) rfl
      have xX13 := (X1.below hJ).a 3 (.int .u64 M1) rfl
      have xX14 := (X1.below hJ).a 4 (.int .i64 E1) rfl
      have xX15 := (X1.below hJ).a 5 (.int .i64 G1) rfl
      have xX16 := (X1.below hJ).a 6 (.bool g1) rfl
      have xX17 := (X1.below hJ).a 7 (.int .u64 P1) rfl
      have xX18 := (X1.below hJ).a 8 (.int .i64 Q1) rfl
      go_simp
      exact hK.out _ _ rfl (Below.refl _ _)
    refine Jo.jd 9 (some 39) [(some 36, 6), (some 37, 7), (some 38, 8)] (Jo.Fact.eq (.bool true)) rfl rfl rfl rfl (fun vs wj hJ hd K hK => ?_) ?_
    · simp only [Jo.putl, Jo.zd, Jo.ze, Act.put, Jo.za, Jo.zb, Jo.zc] at hK ⊢
      rw [show vs 6 = _ from hd 6 (by decide), show vs 7 = _ from hd 7 (by decide), show vs 8 = _ from hd 8 (by decide)] at hK ⊢
      clear hd
      go_simp
      refine (kvWithin v20.top.1 v20.top.2 c1.top.1 c1.top.2 v20.rk c1.rk H2.out).mono ?_
      rintro ee wk ⟨rfl, B⟩
      exact hK.out _ _ rfl B
    refine Jo.jd 10 (some 40) [(some 36, 6), (some 39, 9)] (Jo.Fact.eq (.bool true)) rfl rfl rfl rfl (fun vs wj hJ hd K hK => ?_) ?_
    · simp only [Jo.putl, Jo.zd, Jo.ze, Act.put, Jo.za, Jo.zb, Jo.zc] at hK ⊢
      rw [show vs 6 = _ from hd 6 (by decide), show vs 9 = _ from hd 9 (by decide)] at hK ⊢
      clear hd
      go_simp
      exact hK.out _ _ rfl (Below.refl _ _)
    refine Jo.jd 11 (some 41) [(some 40, 10)] (Jo.Fact.eq (.bool true)) rfl rfl rfl rfl (fun vs wj hJ hd K hK => ?_) ?_
    · simp only [Jo.putl, Jo.zd, Jo.ze, Act.put, Jo.za, Jo.zb, Jo.zc] at hK ⊢
      rw [show vs 10 = _ from hd 10 (by decide)] at hK ⊢
      clear hd
      go_simp
      exact hK.out _ _ rfl (Below.refl _ _)
    refine Jo.jd 12 (some 42) [(some 41, 11)] (Jo.Fact.eq (.agg #[.bool e0, .int .i64 D0, .bool s0, .int .u64 M0, .int .i64 E0, .int .i64 G0, .bool g0, .int .u64 P0, .int .i64 Q0])) rfl rfl rfl rfl (fun vs wj hJ hd K hK => ?_) ?_
    · simp only [Jo.putl, Jo.zd, Jo.ze, Act.put, Jo.za, Jo.zb, Jo.zc] at hK ⊢
      rw [show vs 11 = _ from hd 11 (by decide)] at hK ⊢
      clear hd
      have xX00 := (X0.below hJ).a 0 (.bool e0) rfl
      have xX01 := (X0.below hJ).a 1 (.int .i64 D0) rfl
      have xX02 := (X0.below hJ).a 2 (.bool s0) rfl
      have xX03 := (X0.below hJ).a 3 (.int .u64 M0) rfl
      have xX04 := (X0.below hJ).a 4 (.int .i64 E0) rfl
      have xX05 := (X0.below hJ).a 5 (.int .i64 G0) rfl
      have xX06 := (X0.below hJ).a 6 (.bool g0) rfl
      have xX07 := (X0.below hJ).a 7 (.int .u64 P0) rfl
      have xX08 := (X0.below hJ).a 8 (.int .i64 Q0) rfl
      go_simp
      exact hK.out _ _ rfl (Below.refl _ _)
    refine Jo.jd 13 (some 43) [(some 41, 11)] (Jo.Fact.eq (.agg #[.bool e21, .int .i64 K21, .bool s21, .int .u64 M21, .int .i64 E21, .int .i64 K21b, .bool s21b, .int .u64 M21b, .int .i64 E21b])) rfl rfl rfl rfl (fun vs wj hJ hd K hK => ?_) ?_
    · simp only [Jo.putl, Jo.zd, Jo.ze, Act.put, Jo.za, Jo.zb, Jo.zc] at hK ⊢
      rw [show vs 11 = _ from hd 11 (by decide)] at hK ⊢
      clear hd
      have xX70 := (X7.below hJ).a 0 (.bool e21) rfl
      have xX71 := (X7.below hJ).a 1 (.int .i64 K21) rfl
      have xX72 := (X7.below hJ).a 2 (.bool s21) rfl
      have xX73 := (X7.below hJ).a 3 (.int .u64 M21) rfl
      have xX74 := (X7.below hJ).a 4 (.int .i64 E21) rfl
      have xX75 := (X7.below hJ).a 5 (.int .i64 K21b) rfl
      have xX76 := (X7.below hJ).a 6 (.bool s21b) rfl
      have xX77 := (X7.below hJ).a 7 (.int .u64 M21b) rfl
      have xX78 := (X7.below hJ).a 8 (.int .i64 E21b) rfl
      go_simp
      exact hK.out _ _ rfl (Below.refl _ _)
    refine Jo.jd 14 (some 44) [(some 41, 11), (some 42, 12), (some 43, 13)] (Jo.Fact.eq (.bool true)) rfl rfl rfl rfl (fun vs wj hJ hd K hK => ?_) ?_
    · simp only [Jo.putl, Jo.zd, Jo.ze, Act.put, Jo.za, Jo.zb, Jo.zc] at hK ⊢
      rw [show vs 11 = _ from hd 11 (by decide), show vs 12 = _ from hd 12 (by decide), show vs 13 = _ from hd 13 (by decide)] at hK ⊢
      clear hd
      go_simp
      refine (kvWithin c0.top.1 c0.top.2 v21.top.1 v21.top.2 c0.rk v21.rk H3.out).mono ?_
      rintro ee wk ⟨rfl, B⟩
      exact hK.out _ _ rfl B
    refine Jo.jd 15 (some 45) [(some 41, 11), (some 44, 14)] (Jo.Fact.eq (.bool true)) rfl rfl rfl rfl (fun vs wj hJ hd K hK => ?_) ?_
    · simp only [Jo.putl, Jo.zd, Jo.ze, Act.put, Jo.za, Jo.zb, Jo.zc] at hK ⊢
      rw [show vs 11 = _ from hd 11 (by decide), show vs 14 = _ from hd 14 (by decide)] at hK ⊢
      clear hd
      go_simp
      exact hK.out _ _ rfl (Below.refl _ _)
    refine Jo.jd 16 (some 46) [(some 45, 15)] (Jo.Fact.eq (.bool true)) rfl rfl rfl rfl (fun vs wj hJ hd K hK => ?_) ?_
    · simp only [Jo.putl, Jo.zd, Jo.ze, Act.put, Jo.za, Jo.zb, Jo.zc] at hK ⊢
      rw [show vs 15 = _ from hd 15 (by decide)] at hK ⊢
      clear hd
      go_simp
      exact hK.out _ _ rfl (Below.refl _ _)
    refine Jo.jd 17 (some 47) [(some 46, 16)] (Jo.Fact.eq (.agg #[.bool e1, .int .i64 D1, .bool s1, .int .u64 M1, .int .i64 E1, .int .i64 G1, .bool g1, .int .u64 P1, .int .i64 Q1])) rfl rfl rfl rfl (fun vs wj hJ hd K hK => ?_) ?_
    · simp only [Jo.putl, Jo.zd, Jo.ze, Act.put, Jo.za, Jo.zb, Jo.zc] at hK ⊢
      rw [show vs 16 = _ from hd 16 (by decide)] at hK ⊢
      clear hd
      have xX10 := (X1.below hJ).a 0 (.bool e1) rfl
      have xX11 := (X1.below hJ).a 1 (.int .i64 D1) rfl
      have xX12 := (X1.below hJ).a 2 (.bool s1) rfl
      have xX13 := (X1.below hJ).a 3 (.int .u64 M1) rfl
      have xX14 := (X1.below hJ).a 4 (.int .i64 E1) rfl
      have xX15 := (X1.below hJ).a 5 (.int .i64 G1) rfl
      have xX16 := (X1.below hJ).a 6 (.bool g1) rfl
      have xX17 := (X1.below hJ).a 7 (.int .u64 P1) rfl
      have xX18 := (X1.below hJ).a 8 (.int .i64 Q1) rfl
      go_simp
      exact hK.out _ _ rfl (Below.refl _ _)
    refine Jo.jd 18 (some 48) [(some 46, 16)] (Jo.Fact.eq (.agg #[.bool e21, .int .i64 K21, .bool s21, .int .u64 M21, .int .i64 E21, .int .i64 K21b, .bool s21b, .int .u64 M21b, .int .i64 E21b])) rfl rfl rfl rfl (fun vs wj hJ hd K hK => ?_) ?_
    · simp only [Jo.putl, Jo.zd, Jo.ze, Act.put, Jo.za, Jo.zb, Jo.zc] at hK ⊢
      rw [show vs 16 = _ from hd 16 (by decide)] at hK ⊢
      clear hd
      have xX70 := (X7.below hJ).a 0 (.bool e21) rfl
      have xX71 := (X7.below hJ).a 1 (.int .i64 K21) rfl
      have xX72 := (X7.below hJ).a 2 (.bool s21) rfl
      have xX73 := (X7.below hJ).a 3 (.int .u64 M21) rfl
      have xX74 := (X7.below hJ).a 4 (.int .i64 E21) rfl
      have xX75 := (X7.below hJ).a 5 (.int .i64 K21b) rfl
      have xX76 := (X7.below hJ).a 6 (.bool s21b) rfl
      have xX77 := (X7.below hJ).a 7 (.int .u64 M21b) rfl
      have xX78 := (X7.below hJ).a 8 (.int .i64 E21b) rfl
      go_simp
      exact hK.out _ _ rfl (Below.refl _ _)
    refine Jo.jd 19 (some 49) [(some 46, 16), (some 47, 17), (some 48, 18)] (Jo.Fact.eq (.bool true)) rfl rfl rfl rfl (fun vs wj hJ hd K hK => ?_) ?_
    · simp only [Jo.putl, Jo.zd, Jo.ze, Act.put, Jo.za, Jo.zb, Jo.zc] at hK ⊢
      rw [show vs 16 = _ from hd 16 (by decide), show vs 17 = _ from hd 17 (by decide), show vs 18 = _ from hd 18 (by decide)] at hK ⊢
      clear hd
      go_simp
      refine (kvWithin c1.top.1 c1.top.2 v21.top.1 v21.top.2 c1.rk v21.rk H4.out).mono ?_
      rintro ee wk ⟨rfl, B⟩
      exact hK.out _ _ rfl B
    refine Jo.jd 20 (some 50) [(some 46, 16), (some 49, 19)] (Jo.Fact.eq (.bool true)) rfl rfl rfl rfl (fun vs wj hJ hd K hK => ?_) ?_
    · simp only [Jo.putl, Jo.zd, Jo.ze, Act.put, Jo.za, Jo.zb, Jo.zc] at hK ⊢
      rw [show vs 16 = _ from hd 16 (by decide), show vs 19 = _ from hd 19 (by decide)] at hK ⊢
      clear hd
      go_simp
      exact hK.out _ _ rfl (Below.refl _ _)
    refine Jo.jd 21 (some 51) [(some 50, 20)] (Jo.Fact.eq (.bool true)) rfl rfl rfl rfl (fun vs wj hJ hd K hK => ?_) ?_
    · simp only [Jo.putl, Jo.zd, Jo.ze, Act.put, Jo.za, Jo.zb, Jo.zc] at hK ⊢
      rw [show vs 20 = _ from hd 20 (by decide)] at hK ⊢
      clear hd
      go_simp
      exact hK.out _ _ rfl (Below.refl _ _)
    refine Jo.jd 22 (some 52) [(some 51, 21)] (Jo.Fact.eq (.bool true)) rfl rfl rfl rfl (fun vs wj hJ hd K hK => ?_) ?_
    · simp only [Jo.putl, Jo.zd, Jo.ze, Act.put, Jo.za, Jo.zb, Jo.zc] at hK ⊢
      rw [show vs 21 = _ from hd 21 (by decide)] at hK ⊢
      clear hd
      go_simp
      exact hK.out _ _ rfl (Below.refl _ _)
    refine Jo.jd 23 (some 53) [(some 51, 21)] (Jo.Fact.eq (.agg #[.bool e20, .int .i64 K20, .bool s20, .int .u64 M20, .int .i64 E20, .int .i64 K20b, .bool s20b, .int .u64 M20b, .int .i64 E20b])) rfl rfl rfl rfl (fun vs wj hJ hd K hK => ?_) ?_
    · simp only [Jo.putl, Jo.zd, Jo.ze, Act.put, Jo.za, Jo.zb, Jo.zc] at hK ⊢
      rw [show vs 21 = _ from hd 21 (by decide)] at hK ⊢
      clear hd
      have xX60 := (X6.below hJ).a 0 (.bool e20) rfl
      have xX61 := (X6.below hJ).a 1 (.int .i64 K20) rfl
      have xX62 := (X6.below hJ).a 2 (.bool s20) rfl
      have xX63 := (X6.below hJ).a 3 (.int .u64 M20) rfl
      have xX64 := (X6.below hJ).a 4 (.int .i64 E20) rfl
      have xX65 := (X6.below hJ).a 5 (.int .i64 K20b) rfl
      have xX66 := (X6.below hJ).a 6 (.bool s20b) rfl
      have xX67 := (X6.below hJ).a 7 (.int .u64 M20b) rfl
      have xX68 := (X6.below hJ).a 8 (.int .i64 E20b) rfl
      go_simp
      exact hK.out _ _ rfl (Below.refl _ _)
    refine Jo.jd 24 (some 54) [(some 51, 21)] (Jo.Fact.eq (.agg #[.bool e0, .int .i64 D0, .bool s0, .int .u64 M0, .int .i64 E0, .int .i64 G0, .bool g0, .int .u64 P0, .int .i64 Q0])) rfl rfl rfl rfl (fun vs wj hJ hd K hK => ?_) ?_
    · simp only [Jo.putl, Jo.zd, Jo.ze, Act.put, Jo.za, Jo.zb, Jo.zc] at hK ⊢
      rw [show vs 21 = _ from hd 21 (by decide)] at hK ⊢
      clear hd
      have xX00 := (X0.below hJ).a 0 (.bool e0) rfl
      have xX01 := (X0.below hJ).a 1 (.int .i64 D0) rfl
      have xX02 := (X0.below hJ).a 2 (.bool s0) rfl
      have xX03 := (X0.below hJ).a 3 (.int .u64 M0) rfl
      have xX04 := (X0.below hJ).a 4 (.int .i64 E0) rfl
      have xX05 := (X0.below hJ).a 5 (.int .i64 G0) rfl
      have xX06 := (X0.below hJ).a 6 (.bool g0) rfl
      have xX07 := (X0.below hJ).a 7 (.int .u64 P0) rfl
      have xX08 := (X0.below hJ).a 8 (.int .i64 Q0) rfl
      go_simp
      exact hK.out _ _ rfl (Below.refl _ _)
    refine Jo.jd 25 (some 55) [(some 51, 21), (some 53, 23), (some 54, 24)] (Jo.Fact.eq (.bool true)) rfl rfl rfl rfl (fun vs wj hJ hd K hK => ?_) ?_
    · simp only [Jo.putl, Jo.zd, Jo.ze, Act.put, Jo.za, Jo.zb, Jo.zc] at hK ⊢
      rw [show vs 21 = _ from hd 21 (by decide), show vs 23 = _ from hd 23 (by decide), show vs 24 = _ from hd 24 (by decide)] at hK ⊢
      clear hd
      obtain ⟨rfl, rfl, rfl, rfl, rfl, rfl, rfl, rfl, rfl⟩ := (v20.same c0).2 H6.out
      go_simp
      exact hK.out _ _ (by first | rfl | (show Value.bool _ = Value.bool _; simp)) (Below.refl _ _)
    refine Jo.jd 26 (some 56) [(some 51, 21), (some 52, 22), (some 55, 25)] (Jo.Fact.eq (.bool true)) rfl rfl rfl rfl (fun vs wj hJ hd K hK => ?_) ?_
    · simp only [Jo.putl, Jo.zd, Jo.ze, Act.put, Jo.za, Jo.zb, Jo.zc] at hK ⊢
      rw [show vs 21 = _ from hd 21 (by decide), show vs 22 = _ from hd 22 (by decide), show vs 25 = _ from hd 25 (by decide)] at hK ⊢
      clear hd
      go_simp
      exact hK.out _ _ (by first | rfl | simp) (Below.refl _ _)
    refine Jo.jd 27 (some 57) [(some 51, 21), (some 56, 26)] (Jo.Fact.eq (.bool true)) rfl rfl rfl rfl (fun vs wj hJ hd K hK => ?_) ?_
    · simp only [Jo.putl, Jo.zd, Jo.ze, Act.put, Jo.za, Jo.zb, Jo.zc] at hK ⊢
      rw [show vs 21 = _ from hd 21 (by decide), show vs 26 = _ from hd 26 (by decide)] at hK ⊢
      clear hd
      go_simp
      exact hK.out _ _ rfl (Below.refl _ _)
    refine Jo.jd 28 (some 58) [(some 57, 27)] (Jo.Fact.eq (.bool true)) rfl rfl rfl rfl (fun vs wj hJ hd K hK => ?_) ?_
    · simp only [Jo.putl, Jo.zd, Jo.ze, Act.put, Jo.za, Jo.zb, Jo.zc] at hK ⊢
      rw [show vs 27 = _ from hd 27 (by decide)] at hK ⊢
      clear hd
      go_simp
      exact hK.out _ _ rfl (Below.refl _ _)
    refine Jo.jd 29 (some 59) [(some 58, 28)] (Jo.Fact.eq (.bool true)) rfl rfl rfl rfl (fun vs wj hJ hd K hK => ?_) ?_
    · simp only [Jo.putl, Jo.zd, Jo.ze, Act.put, Jo.za, Jo.zb, Jo.zc] at hK ⊢
      rw [show vs 28 = _ from hd 28 (by decide)] at hK ⊢
      clear hd
      go_simp
      exact hK.out _ _ rfl (Below.refl _ _)
    refine Jo.jd 30 (some 60) [(some 58, 28)] (Jo.Fact.eq (.agg #[.bool e21, .int .i64 K21, .bool s21, .int .u64 M21, .int .i64 E21, .int .i64 K21b, .bool s21b, .int .u64 M21b, .int .i64 E21b])) rfl rfl rfl rfl (fun vs wj hJ hd K hK => ?_) ?_
    · simp only [Jo.putl, Jo.zd, Jo.ze, Act.put, Jo.za, Jo.zb, Jo.zc] at hK ⊢
      rw [show vs 28 = _ from hd 28 (by decide)] at hK ⊢
      clear hd
      have xX70 := (X7.below hJ).a 0 (.bool e21) rfl
      have xX71 := (X7.below hJ).a 1 (.int .i64 K21) rfl
      have xX72 := (X7.below hJ).a 2 (.bool s21) rfl
      have xX73 := (X7.below hJ).a 3 (.int .u64 M21) rfl
      have xX74 := (X7.below hJ).a 4 (.int .i64 E21) rfl
      have xX75 := (X7.below hJ).a 5 (.int .i64 K21b) rfl
      have xX76 := (X7.below hJ).a 6 (.bool s21b) rfl
      have xX77 := (X7.below hJ).a 7 (.int .u64 M21b) rfl
      have xX78 := (X7.below hJ).a 8 (.int .i64 E21b) rfl
      go_simp
      exact hK.out _ _ rfl (Below.refl _ _)
    refine Jo.jd 31 (some 61) [(some 58, 28)] (Jo.Fact.eq (.agg #[.bool e1, .int .i64 D1, .bool s1, .int .u64 M1, .int .i64 E1, .int .i64 G1, .bool g1, .int .u64 P1, .int .i64 Q1])) rfl rfl rfl rfl (fun vs wj hJ hd K hK => ?_) ?_
    · simp only [Jo.putl, Jo.zd, Jo.ze, Act.put, Jo.za, Jo.zb, Jo.zc] at hK ⊢
      rw [show vs 28 = _ from hd 28 (by decide)] at hK ⊢
      clear hd
      have xX10 := (X1.below hJ).a 0 (.bool e1) rfl
      have xX11 := (X1.below hJ).a 1 (.int .i64 D1) rfl
      have xX12 := (X1.below hJ).a 2 (.bool s1) rfl
      have xX13 := (X1.below hJ).a 3 (.int .u64 M1) rfl
      have xX14 := (X1.below hJ).a 4 (.int .i64 E1) rfl
      have xX15 := (X1.below hJ).a 5 (.int .i64 G1) rfl
      have xX16 := (X1.below hJ).a 6 (.bool g1) rfl
      have xX17 := (X1.below hJ).a 7 (.int .u64 P1) rfl
      have xX18 := (X1.below hJ).a 8 (.int .i64 Q1) rfl
      go_simp
      exact hK.out _ _ rfl (Below.refl _ _)
    refine Jo.jd 32 (some 62) [(some 58, 28), (some 60, 30), (some 61, 31)] (Jo.Fact.eq (.bool true)) rfl rfl rfl rfl (fun vs wj hJ hd K hK => ?_) ?_
    · simp only [Jo.putl, Jo.zd, Jo.ze, Act.put, Jo.za, Jo.zb, Jo.zc] at hK ⊢
      rw [show vs 28 = _ from hd 28 (by decide), show vs 30 = _ from hd 30 (by decide), show vs 31 = _ from hd 31 (by decide)] at hK ⊢
      clear hd
      obtain ⟨rfl, rfl, rfl, rfl, rfl, rfl, rfl, rfl, rfl⟩ := (v21.same c1).2 H7.out
      go_simp
      exact hK.out _ _ (by first | rfl | (show Value.bool _ = Value.bool _; simp)) (Below.refl _ _)
    refine Jo.jd 33 (some 63) [(some 58, 28), (some 59, 29), (some 62, 32)] (Jo.Fact.eq (.bool true)) rfl rfl rfl rfl (fun vs wj hJ hd K hK => ?_) ?_
    · simp only [Jo.putl, Jo.zd, Jo.ze, Act.put, Jo.za, Jo.zb, Jo.zc] at hK ⊢
      rw [show vs 28 = _ from hd 28 (by decide), show vs 29 = _ from hd 29 (by decide), show vs 32 = _ from hd 32 (by decide)] at hK ⊢
      clear hd
      go_simp
      exact hK.out _ _ (by first | rfl | simp) (Below.refl _ _)
    refine Jo.jd 34 (some 64) [(some 58, 28), (some 63, 33)] (Jo.Fact.eq (.bool true)) rfl rfl rfl rfl (fun vs wj hJ hd K hK => ?_) ?_
    · simp only [Jo.putl, Jo.zd, Jo.ze, Act.put, Jo.za, Jo.zb, Jo.zc] at hK ⊢
      rw [show vs 28 = _ from hd 28 (by decide), show vs 33 = _ from hd 33 (by decide)] at hK ⊢
      clear hd
      go_simp
      exact hK.out _ _ rfl (Below.refl _ _)
    refine Jo.jd 35 (some 65) [(some 64, 34)] (Jo.Fact.eq (.bool true)) rfl rfl rfl rfl (fun vs wj hJ hd K hK => ?_) ?_
    · simp only [Jo.putl, Jo.zd, Jo.ze, Act.put, Jo.za, Jo.zb, Jo.zc] at hK ⊢
      rw [show vs 34 = _ from hd 34 (by decide)] at hK ⊢
      clear hd
      go_simp
      exact hK.out _ _ rfl (Below.refl _ _)
    refine Jo.jd 36 (some 66) [(some 65, 35)] (Jo.Fact.eq (.agg #[.bool e1, .int .i64 D1, .bool s1, .int .u64 M1, .int .i64 E1, .int .i64 G1, .bool g1, .int .u64 P1, .int .i64 Q1])) rfl rfl rfl rfl (fun vs wj hJ hd K hK => ?_) ?_
    · simp only [Jo.putl, Jo.zd, Jo.ze, Act.put, Jo.za, Jo.zb, Jo.zc] at hK ⊢
      rw [show vs 35 = _ from hd 35 (by decide)] at hK ⊢
      clear hd
      have xX10 := (X1.below hJ).a 0 (.bool e1) rfl
      have xX11 := (X1.below hJ).a 1 (.int .i64 D1) rfl
      have xX12 := (X1.below hJ).a 2 (.bool s1) rfl
      have xX13 := (X1.below hJ).a 3 (.int .u64 M1) rfl
      have xX14 := (X1.below hJ).a 4 (.int .i64 E1) rfl
      have xX15 := (X1.below hJ).a 5 (.int .i64 G1) rfl
      have xX16 := (X1.below hJ).a 6 (.bool g1) rfl
      have xX17 := (X1.below hJ).a 7 (.int .u64 P1) rfl
      have xX18 := (X1.below hJ).a 8 (.int .i64 Q1) rfl
      go_simp
      exact hK.out _ _ rfl (Below.refl _ _)
    refine Jo.jd 37 (some 67) [(some 65, 35)] (Jo.Fact.eq (.agg #[.bool e0, .int .i64 D0, .bool s0, .int .u64 M0, .int .i64 E0, .int .i64 G0, .bool g0, .int .u64 P0, .int .i64 Q0])) rfl rfl rfl rfl (fun vs wj hJ hd K hK => ?_) ?_
    · simp only [Jo.putl, Jo.zd, Jo.ze, Act.put, Jo.za, Jo.zb, Jo.zc] at hK ⊢
      rw [show vs 35 = _ from hd 35 (by decide)] at hK ⊢
      clear hd
      have xX00 := (X0.below hJ).a 0 (.bool e0) rfl
      have xX01 := (X0.below hJ).a 1 (.int .i64 D0) rfl
      have xX02 := (X0.below hJ).a 2 (.bool s0) rfl
      have xX03 := (X0.below hJ).a 3 (.int .u64 M0) rfl
      have xX04 := (X0.below hJ).a 4 (.int .i64 E0) rfl
      have xX05 := (X0.below hJ).a 5 (.int .i64 G0) rfl
      have xX06 := (X0.below hJ).a 6 (.bool g0) rfl
      have xX07 := (X0.below hJ).a 7 (.int .u64 P0) rfl
      have xX08 := (X0.below hJ).a 8 (.int .i64 Q0) rfl
      go_simp
      exact hK.out _ _ rfl (Below.refl _ _)
    refine Jo.jd 38 (some 68) [(some 65, 35), (some 66, 36), (some 67, 37)] (Jo.Fact.il8 2 [y, x]) rfl rfl rfl rfl (fun vs wj hJ hd K hK => ?_) ?_
    · simp only [Jo.putl, Jo.zd, Jo.ze, Act.put, Jo.za, Jo.zb, Jo.zc] at hK ⊢
      rw [show vs 35 = _ from hd 35 (by decide), show vs 36 = _ from hd 36 (by decide), show vs 37 = _ from hd 37 (by decide)] at hK ⊢
      clear hd
      go_simp
      exact hK.out _ _ ⟨_, 2, rfl, Il8.lit2 rfl c1.rw c0.rw⟩ (bel1 _ _)
    refine Jo.jd 39 (some 69) [(some 65, 35), (some 68, 38)] (Jo.Fact.iv m) rfl rfl rfl rfl (fun vs wj hJ hd K hK => ?_) ?_
    · have d38 : (Jo.Fact.il8 2 [y, x]).P (vs 38) wj := hd 38 (by decide)
      simp only [Jo.putl, Jo.zd, Jo.ze, Act.put, Jo.za, Jo.zb, Jo.zc] at hK ⊢
      rw [show vs 35 = _ from hd 35 (by decide)] at hK ⊢
      clear hd
      generalize vs 38 = u38 at hK d38 ⊢
      obtain ⟨A22, c22, rfl, h22⟩ := d38
      go_simp
      refine (kvMeet h22 HM2.out).mono ?_
      rintro ee wk ⟨e23, K23, s23, M23, E23, K23b, s23b, M23b, E23b, rfl, v23, B⟩
      exact hK.out _ _ ⟨e23, K23, s23, M23, E23, K23b, s23b, M23b, E23b, rfl, v23⟩ B
    refine Jo.jd 40 (some 70) [(some 65, 35)] (Jo.Fact.eq (.agg #[.bool e20, .int .i64 K20, .bool s20, .int .u64 M20, .int .i64 E20, .int .i64 K20b, .bool s20b, .int .u64 M20b, .int .i64 E20b])) rfl rfl rfl rfl (fun vs wj hJ hd K hK => ?_) ?_
    · simp only [Jo.putl, Jo.zd, Jo.ze, Act.put, Jo.za, Jo.zb, Jo.zc] at hK ⊢
      rw [show vs 35 = _ from hd 35 (by decide)] at hK ⊢
      clear hd
      have xX60 := (X6.below hJ).a 0 (.bool e20) rfl
      have xX61 := (X6.below hJ).a 1 (.int .i64 K20) rfl
      have xX62 := (X6.below hJ).a 2 (.bool s20) rfl
      have xX63 := (X6.below hJ).a 3 (.int .u64 M20) rfl
      have xX64 := (X6.below hJ).a 4 (.int .i64 E20) rfl
      have xX65 := (X6.below hJ).a 5 (.int .i64 K20b) rfl
      have xX66 := (X6.below hJ).a 6 (.bool s20b) rfl
      have xX67 := (X6.below hJ).a 7 (.int .u64 M20b) rfl
      have xX68 := (X6.below hJ).a 8 (.int .i64 E20b) rfl
      go_simp
      exact hK.out _ _ rfl (Below.refl _ _)
    refine Jo.jd 41 (some 71) [(some 65, 35), (some 69, 39), (some 70, 40)] (Jo.Fact.eq (.bool true)) rfl rfl rfl rfl (fun vs wj hJ hd K hK => ?_) ?_
    · have d39 : (Jo.Fact.iv m).P (vs 39) wj := hd 39 (by decide)
      simp only [Jo.putl, Jo.zd, Jo.ze, Act.put, Jo.za, Jo.zb, Jo.zc] at hK ⊢
      rw [show vs 35 = _ from hd 35 (by decide), show vs 40 = _ from hd 40 (by decide)] at hK ⊢
      clear hd
      generalize vs 39 = u39 at hK d39 ⊢
      obtain ⟨e23, K23, s23, M23, E23, K23b, s23b, M23b, E23b, rfl, v23⟩ := d39
      obtain ⟨rfl, rfl, rfl, rfl, rfl, rfl, rfl, rfl, rfl⟩ := v23.uniq v20
      go_simp
      exact hK.out _ _ (by first | rfl | (show Value.bool _ = Value.bool _; simp)) (Below.refl _ _)
    refine Jo.jd 42 (some 72) [(some 65, 35), (some 71, 41)] (Jo.Fact.eq (.bool true)) rfl rfl rfl rfl (fun vs wj hJ hd K hK => ?_) ?_
    · simp only [Jo.putl, Jo.zd, Jo.ze, Act.put, Jo.za, Jo.zb, Jo.zc] at hK ⊢
      rw [show vs 35 = _ from hd 35 (by decide), show vs 41 = _ from hd 41 (by decide)] at hK ⊢
      clear hd
      go_simp
      exact hK.out _ _ rfl (Below.refl _ _)
    refine Jo.jd 43 (some 4) [(some 72, 42)] (Jo.Fact.eq (.bool true)) rfl rfl rfl rfl (fun vs wj hJ hd K hK => ?_) ?_
    · simp only [Jo.putl, Jo.zd, Jo.ze, Act.put, Jo.za, Jo.zb, Jo.zc] at hK ⊢
      rw [show vs 42 = _ from hd 42 (by decide)] at hK ⊢
      clear hd
      go_simp
      exact hK.out _ _ rfl (Below.refl _ _)
    exact Jo.Steps.nil
  have d38 : (Jo.Fact.il8 2 [y, x]).P (vs 38) wA := hd 38 (by decide)
  have d39 : (Jo.Fact.iv m).P (vs 39) wA := hd 39 (by decide)
  simp only [Jo.putl, Jo.zd, Jo.ze, Act.put, Jo.za, Jo.zb, Jo.zc]
  rw [show vs 0 = _ from hd 0 (by decide), show vs 1 = _ from hd 1 (by decide), show vs 2 = _ from hd 2 (by decide), show vs 3 = _ from hd 3 (by decide), show vs 4 = _ from hd 4 (by decide), show vs 5 = _ from hd 5 (by decide), show vs 6 = _ from hd 6 (by decide), show vs 7 = _ from hd 7 (by decide), show vs 8 = _ from hd 8 (by decide), show vs 9 = _ from hd 9 (by decide), show vs 10 = _ from hd 10 (by decide), show vs 11 = _ from hd 11 (by decide), show vs 12 = _ from hd 12 (by decide), show vs 13 = _ from hd 13 (by decide), show vs 14 = _ from hd 14 (by decide), show vs 15 = _ from hd 15 (by decide), show vs 16 = _ from hd 16 (by decide), show vs 17 = _ from hd 17 (by decide), show vs 18 = _ from hd 18 (by decide), show vs 19 = _ from hd 19 (by decide), show vs 20 = _ from hd 20 (by decide), show vs 21 = _ from hd 21 (by decide), show vs 22 = _ from hd 22 (by decide), show vs 23 = _ from hd 23 (by decide), show vs 24 = _ from hd 24 (by decide), show vs 25 = _ from hd 25 (by decide), show vs 26 = _ from hd 26 (by decide), show vs 27 = _ from hd 27 (by decide), show vs 28 = _ from hd 28 (by decide), show vs 29 = _ from hd 29 (by decide), show vs 30 = _ from hd 30 (by decide), show vs 31 = _ from hd 31 (by decide), show vs 32 = _ from hd 32 (by decide), show vs 33 = _ from hd 33 (by decide), show vs 34 = _ from hd 34 (by decide), show vs 35 = _ from hd 35 (by decide), show vs 36 = _ from hd 36 (by decide), show vs 37 = _ from hd 37 (by decide), show vs 40 = _ from hd 40 (by decide), show vs 41 = _ from hd 41 (by decide), show vs 42 = _ from hd 42 (by decide), show vs 43 = _ from hd 43 (by decide)]
  clear hd
  generalize vs 38 = u38 at d38 ⊢
  generalize vs 39 = u39 at d39 ⊢
  obtain ⟨_, _, rfl, _⟩ := d38
  obtain ⟨e23, K23, s23, M23, E23, K23b, s23b, M23b, E23b, rfl, v23⟩ := d39
  replace X0 := X0.below hJ
  replace X1 := X1.below hJ
  replace X6 := X6.below hJ
  replace X7 := X7.below hJ
  replace HB := Lib.hid (bt HB.out hJ)
  refine Jo.jdone (by kernel_rfl) ?_
  go_wp2
  go_ret
  exact ⟨rfl, HB.out⟩
set_option maxHeartbeats 8000000 in
theorem ivOrder_f (e0 : Bool) (D0 : Int) (s0 : Bool) (M0 E0 G0 : Int) (g0 : Bool) (P0 Q0 : Int) (e1 : Bool) (D1 : Int) (s1 : Bool) (M1 E1 G1 : Int) (g1 : Bool) (P1 Q1 : Int) (w : World) (x y m h : Sp) (c0 : Ci e0 D0 s0 M0 E0 G0 g0 P0 Q0 x) (c1 : Ci e1 D1 s1 M1 E1 G1 g1 P1 Q1 y) (hm : meetL [x, y] = m) (hm2 : meetL [y, x] = m) (hh : hullL [x, y] = h)
    (h1 : witI m x = true) (h2 : witI m y = true) (h3 : witI x h = true) (h4 : witI y h = true) (h5 : witI x y = false) (h6 : m ≠ x) (h7 : h ≠ y) :
    Calls Try.prog 6 #[.agg #[.bool e0, .int .i64 D0, .bool s0, .int .u64 M0, .int .i64 E0, .int .i64 G0, .bool g0, .int .u64 P0, .int .i64 Q0], .agg #[.bool e1, .int .i64 D1, .bool s1, .int .u64 M1, .int .i64 E1, .int .i64 G1, .bool g1, .int .u64 P1, .int .i64 Q1]] w (PB w true) := by
  have HME := Lib.hid hm
  have HM2 := Lib.hid hm2
  have HHU := Lib.hid hh
  have H1 := Lib.hid h1
  have H2 := Lib.hid h2
  have H3 := Lib.hid h3
  have H4 := Lib.hid h4
  have H5 := Lib.hid h5
  have H6 := Lib.hid h6
  have H7 := Lib.hid h7
  clear hm hm2 hh h1 h2 h3 h4 h5 h6 h7
  go_enter Try.func6, Try.ntmps6
  go_upto_region 1 with (fail)
  have X0 := (Bo.newAt w (g := w.heap.size) (by simp) #[.bool e0, .int .i64 D0, .bool s0, .int .u64 M0, .int .i64 E0, .int .i64 G0, .bool g0, .int .u64 P0, .int .i64 Q0] 26).below (bel1 _ (.cells #[.bool e1, .int .i64 D1, .bool s1, .int .u64 M1, .int .i64 E1, .int .i64 G1, .bool g1, .int .u64 P1, .int .i64 Q1] 26))
  have X1 := (Bo.newAt (w.alloc (.cells #[.bool e0, .int .i64 D0, .bool s0, .int .u64 M0, .int .i64 E0, .int .i64 G0, .bool g0, .int .u64 P0, .int .i64 Q0] 26)) (g := w.heap.size + 1) (by simp) #[.bool e1, .int .i64 D1, .bool s1, .int .u64 M1, .int .i64 E1, .int .i64 G1, .bool g1, .int .u64 P1, .int .i64 Q1] 26)
  have HB := Lib.hid (bel2 w (.cells #[.bool e0, .int .i64 D0, .bool s0, .int .u64 M0, .int .i64 E0, .int .i64 G0, .bool g0, .int .u64 P0, .int .i64 Q0] 26) (.cells #[.bool e1, .int .i64 D1, .bool s1, .int .u64 M1, .int .i64 E1, .int .i64 G1, .bool g1, .int .u64 P1, .int .i64 Q1] 26))
  generalize hW1 : ((w.alloc (.cells #[.bool e0, .int .i64 D0, .bool s0, .int .u64 M0, .int .i64 E0, .int .i64 G0, .bool g0, .int .u64 P0, .int .i64 Q0] 26)).alloc (.cells #[.bool e1, .int .i64 D1, .bool s1, .int .u64 M1, .int .i64 E1, .int .i64 G1, .bool g1, .int .u64 P1, .int .i64 Q1] 26)) = w1 at *
  clear hW1
  go_wp2_with fail
  refine (awake8).mono ?_
  rintro ee w2 ⟨rfl, B⟩
  replace X0 := X0.below B
  replace X1 := X1.below B
  replace HB := Lib.hid (bt HB.out B)
  clear B
  obtain ⟨xX00, xX01, xX02, xX03, xX04, xX05, xX06, xX07, xX08⟩ := X0.ce9 rfl rfl rfl rfl rfl rfl rfl rfl rfl
  go_wp2_with fail
  refine (kvMay c0.top.1 c0.top.2 c0.may).mono ?_
  rintro ee w3 ⟨rfl, B⟩
  clear xX00 xX01 xX02 xX03 xX04 xX05 xX06 xX07 xX08
  replace X0 := X0.below B
  replace X1 := X1.below B
  replace HB := Lib.hid (bt HB.out B)
  clear B
  obtain ⟨xX10, xX11, xX12, xX13, xX14, xX15, xX16, xX17, xX18⟩ := X1.ce9 rfl rfl rfl rfl rfl rfl rfl rfl rfl
  go_wp2_with fail
  refine (kvMay c1.top.1 c1.top.2 c1.may).mono ?_
  rintro ee w4 ⟨rfl, B⟩
  clear xX10 xX11 xX12 xX13 xX14 xX15 xX16 xX17 xX18
  replace X0 := X0.below B
  replace X1 := X1.below B
  replace HB := Lib.hid (bt HB.out B)
  clear B
  obtain ⟨xX00, xX01, xX02, xX03, xX04, xX05, xX06, xX07, xX08⟩ := X0.ce9 rfl rfl rfl rfl rfl rfl rfl rfl rfl
  obtain ⟨xX10, xX11, xX12, xX13, xX14, xX15, xX16, xX17, xX18⟩ := X1.ce9 rfl rfl rfl rfl rfl rfl rfl rfl rfl
  go_wp2_with fail
  refine (kvMeet (Il8.lit2 rfl c0.rw c1.rw) HME.out).mono ?_
  rintro ee w5 ⟨e20, K20, s20, M20, E20, K20b, s20b, M20b, E20b, rfl, v20, B⟩
  clear xX00 xX01 xX02 xX03 xX04 xX05 xX06 xX07 xX08 xX10 xX11 xX12 xX13 xX14 xX15 xX16 xX17 xX18
  replace B := bt (bel1 _ _) B
  replace X0 := X0.below B
  replace X1 := X1.below B
  replace HB := Lib.hid (bt HB.out B)
  clear B
  go_upto_region 5 with (fail)
  have lX6 := Nat.le_refl (World.heap w5).size
  have nX6X0 := X0.lt
  have nX6X1 := X1.lt
  replace X0 := X0.below (bel1 _ (.cells #[.bool e20, .int .i64 K20, .bool s20, .int .u64 M20, .int .i64 E20, .int .i64 K20b, .bool s20b, .int .u64 M20b, .int .i64 E20b] 26))
  replace X1 := X1.below (bel1 _ (.cells #[.bool e20, .int .i64 K20, .bool s20, .int .u64 M20, .int .i64 E20, .int .i64 K20b, .bool s20b, .int .u64 M20b, .int .i64 E20b] 26))
  replace HB := Lib.hid (bt HB.out (bel1 _ (.cells #[.bool e20, .int .i64 K20, .bool s20, .int .u64 M20, .int .i64 E20, .int .i64 K20b, .bool s20b, .int .u64 M20b, .int .i64 E20b] 26)))
  have X6 := Bo.new w5 #[.bool e20, .int .i64 K20, .bool s20, .int .u64 M20, .int .i64 E20, .int .i64 K20b, .bool s20b, .int .u64 M20b, .int .i64 E20b] 26
  generalize hWn : World.alloc w5 (.cells #[.bool e20, .int .i64 K20, .bool s20, .int .u64 M20, .int .i64 E20, .int .i64 K20b, .bool s20b, .int .u64 M20b, .int .i64 E20b] 26) = w6 at *
  clear hWn
  clear lX6
  obtain ⟨xX00, xX01, xX02, xX03, xX04, xX05, xX06, xX07, xX08⟩ := X0.ce9 rfl rfl rfl rfl rfl rfl rfl rfl rfl
  obtain ⟨xX10, xX11, xX12, xX13, xX14, xX15, xX16, xX17, xX18⟩ := X1.ce9 rfl rfl rfl rfl rfl rfl rfl rfl rfl
  go_wp2_with fail
  refine (kvHull (Il8.lit2 rfl c0.rw c1.rw) HHU.out).mono ?_
  rintro ee w7 ⟨e21, K21, s21, M21, E21, K21b, s21b, M21b, E21b, rfl, v21, B⟩
  clear xX00 xX01 xX02 xX03 xX04 xX05 xX06 xX07 xX08 xX10 xX11 xX12 xX13 xX14 xX15 xX16 xX17 xX18
  replace B := bt (bel1 _ _) B
  replace X0 := X0.below B
  replace X1 := X1.below B
  replace X6 := X6.below B
  replace HB := Lib.hid (bt HB.out B)
  clear B
  go_upto_region 6 with (fail)
  have lX7 := Nat.le_refl (World.heap w7).size
  have nX7X0 := X0.lt
  have nX7X1 := X1.lt
  have nX7X6 := X6.lt
  replace X0 := X0.below (bel1 _ (.cells #[.bool e21, .int .i64 K21, .bool s21, .int .u64 M21, .int .i64 E21, .int .i64 K21b, .bool s21b, .int .u64 M21b, .int .i64 E21b] 26))
  replace X1 := X1.below (bel1 _ (.cells #[.bool e21, .int .i64 K21, .bool s21, .int .u64 M21, .int .i64 E21, .int .i64 K21b, .bool s21b, .int .u64 M21b, .int .i64 E21b] 26))
  replace X6 := X6.below (bel1 _ (.cells #[.bool e21, .int .i64 K21, .bool s21, .int .u64 M21, .int .i64 E21, .int .i64 K21b, .bool s21b, .int .u64 M21b, .int .i64 E21b] 26))
  replace HB := Lib.hid (bt HB.out (bel1 _ (.cells #[.bool e21, .int .i64 K21, .bool s21, .int .u64 M21, .int .i64 E21, .int .i64 K21b, .bool s21b, .int .u64 M21b, .int .i64 E21b] 26)))
  have X7 := Bo.new w7 #[.bool e21, .int .i64 K21, .bool s21, .int .u64 M21, .int .i64 E21, .int .i64 K21b, .bool s21b, .int .u64 M21b, .int .i64 E21b] 26
  generalize hWn : World.alloc w7 (.cells #[.bool e21, .int .i64 K21, .bool s21, .int .u64 M21, .int .i64 E21, .int .i64 K21b, .bool s21b, .int .u64 M21b, .int .i64 E21b] 26) = w8 at *
  clear hWn
  clear lX7
  obtain ⟨xX00, xX01, xX02, xX03, xX04, xX05, xX06, xX07, xX08⟩ := X0.ce9 rfl rfl rfl rfl rfl rfl rfl rfl rfl
  obtain ⟨xX10, xX11, xX12, xX13, xX14, xX15, xX16, xX17, xX18⟩ := X1.ce9 rfl rfl rfl rfl rfl rfl rfl rfl rfl
  go_wp2_with fail
  refine (kvWithin c0.top.1 c0.top.2 c1.top.1 c1.top.2 c0.rk c1.rk H5.out).mono ?_
  rintro ee w9 ⟨rfl, B⟩
  clear xX00 xX01 xX02 xX03 xX04 xX05 xX06 xX07 xX08 xX10 xX11 xX12 xX13 xX14 xX15 xX16 xX17 xX18
  replace X0 := X0.below B
  replace X1 := X1.below B
  replace X6 := X6.below B
  replace X7 := X7.below B
  replace HB := Lib.hid (bt HB.out B)
  clear B
  go_upto_region 7 with (fail)
  refine Jo.region_joint (T := [0, 1, 2, 3, 4, 5, 6, 7, 8, 9, 10, 11, 12, 13, 14, 15, 16, 17, 18, 19, 20, 21, 22, 23, 24, 25, 26, 27, 28, 29, 30, 31, 32, 33, 34, 35, 36, 37, 38, 39, 40, 41, 42, 43]) (ds := [some 30, some 31, some 32, some 33, some 34, some 35, some 36, some 37, some 38, some 39, some 40, some 41, some 42, some 43, some 44, some 45, some 46, some 47, some 48, some 49, some 50, some 51, some 52, some 53, some 54, some 55, some 56, some 57, some 58, some 59, some 60, some 61, some 62, some 63, some 64, some 65, some 66, some 67, some 68, some 69, some 70, some 71, some 72, some 4]) (ls := [[], [0], [1], [1], [1, 2, 3], [1, 4], [5], [6], [6], [6, 7, 8], [6, 9], [10], [11], [11], [11, 12, 13], [11, 14], [15], [16], [16], [16, 17, 18], [16, 19], [20], [21], [21], [21], [21, 23, 24], [21, 22, 25], [21, 26], [27], [28], [28], [28], [28, 30, 31], [28, 29, 32], [28, 33], [34], [35], [35], [35, 36, 37], [35, 38], [35], [35, 39, 40], [35, 41], [42]]) (k := 44) (L := [(some 30, 0), (some 31, 1), (some 32, 2), (some 33, 3), (some 34, 4), (some 35, 5), (some 36, 6), (some 37, 7), (some 38, 8), (some 39, 9), (some 40, 10), (some 41, 11), (some 42, 12), (some 43, 13), (some 44, 14), (some 45, 15), (some 46, 16), (some 47, 17), (some 48, 18), (some 49, 19), (some 50, 20), (some 51, 21), (some 52, 22), (some 53, 23), (some 54, 24), (some 55, 25), (some 56, 26), (some 57, 27), (some 58, 28), (some 59, 29), (some 60, 30), (some 61, 31), (some 62, 32), (some 63, 33), (some 64, 34), (some 65, 35), (some 66, 36), (some 67, 37), (some 68, 38), (some 69, 39), (some 70, 40), (some 71, 41), (some 72, 42), (some 4, 43)]) (fuel := 0) (J := fun wj => Below (World.heap w9).size w9 wj)
    (F := [Jo.Fact.eq (.bool true), Jo.Fact.eq (.bool true), Jo.Fact.eq (.agg #[.bool e20, .int .i64 K20, .bool s20, .int .u64 M20, .int .i64 E20, .int .i64 K20b, .bool s20b, .int .u64 M20b, .int .i64 E20b]), Jo.Fact.eq (.agg #[.bool e0, .int .i64 D0, .bool s0, .int .u64 M0, .int .i64 E0, .int .i64 G0, .bool g0, .int .u64 P0, .int .i64 Q0]), Jo.Fact.eq (.bool true), Jo.Fact.eq (.bool true), Jo.Fact.eq (.bool true), Jo.Fact.eq (.agg #[.bool e20, .int .i64 K20, .bool s20, .int .u64 M20, .int .i64 E20, .int .i64 K20b, .bool s20b, .int .u64 M20b, .int .i64 E20b]), Jo.Fact.eq (.agg #[.bool e1, .int .i64 D1, .bool s1, .int .u64 M1, .int .i64 E1, .int .i64 G1, .bool g1, .int .u64 P1, .int .i64 Q1]), Jo.Fact.eq (.bool true), Jo.Fact.eq (.bool true), Jo.Fact.eq (.bool true), Jo.Fact.eq (.agg #[.bool e0, .int .i64 D0, .bool s0, .int .u64 M0, .int .i64 E0, .int .i64 G0, .bool g0, .int .u64 P0, .int .i64 Q0]), Jo.Fact.eq (.agg #[.bool e21, .int .i64 K21, .bool s21, .int .u64 M21, .int .i64 E21, .int .i64 K21b, .bool s21b, .int .u64 M21b, .int .i64 E21b]), Jo.Fact.eq (.bool true), Jo.Fact.eq (.bool true), Jo.Fact.eq (.bool true), Jo.Fact.eq (.agg #[.bool e1, .int .i64 D1, .bool s1, .int .u64 M1, .int .i64 E1, .int .i64 G1, .bool g1, .int .u64 P1, .int .i64 Q1]), Jo.Fact.eq (.agg #[.bool e21, .int .i64 K21, .bool s21, .int .u64 M21, .int .i64 E21, .int .i64 K21b, .bool s21b, .int .u64 M21b, .int .i64 E21b]), Jo.Fact.eq (.bool true), Jo.Fact.eq (.bool true), Jo.Fact.eq (.bool true), Jo.Fact.eq (.bool false), Jo.Fact.eq (.agg #[.bool e20, .int .i64 K20, .bool s20, .int .u64 M20, .int .i64 E20, .int .i64 K20b, .bool s20b, .int .u64 M20b, .int .i64 E20b]), Jo.Fact.eq (.agg #[.bool e0, .int .i64 D0, .bool s0, .int .u64 M0, .int .i64 E0, .int .i64 G0, .bool g0, .int .u64 P0, .int .i64 Q0]), Jo.Fact.eq (.bool false), Jo.Fact.eq (.bool true), Jo.Fact.eq (.bool true), Jo.Fact.eq (.bool true), Jo.Fact.eq (.bool false), Jo.Fact.eq (.agg #[.bool e21, .int .i64 K21, .bool s21, .int .u64 M21, .int .i64 E21, .int .i64 K21b, .bool s21b, .int .u64 M21b, .int .i64 E21b]), Jo.Fact.eq (.agg #[.bool e1, .int .i64 D1, .bool s1, .int .u64 M1, .int .i64 E1, .int .i64 G1, .bool g1, .int .u64 P1, .int .i64 Q1]), Jo.Fact.eq (.bool false), Jo.Fact.eq (.bool true), Jo.Fact.eq (.bool true), Jo.Fact.eq (.bool true), Jo.Fact.eq (.agg #[.bool e1, .int .i64 D1, .bool s1, .int .u64 M1, .int .i64 E1, .int .i64 G1, .bool g1, .int .u64 P1, .int .i64 Q1]), Jo.Fact.eq (.agg #[.bool e0, .int .i64 D0, .bool s0, .int .u64 M0, .int .i64 E0, .int .i64 G0, .bool g0, .int .u64 P0, .int .i64 Q0]), Jo.Fact.il8 2 [y, x], Jo.Fact.iv m, Jo.Fact.eq (.agg #[.bool e20, .int .i64 K20, .bool s20, .int .u64 M20, .int .i64 E20, .int .i64 K20b, .bool s20b, .int .u64 M20b, .int .i64 E20b]), Jo.Fact.eq (.bool true), Jo.Fact.eq (.bool true), Jo.Fact.eq (.bool true)])
    (by kernel_rfl) (by kernel_rfl) (by decide) rfl rfl (fun _ _ h b => bt h b) ((Below.refl _ _).drew) ?_ (fun vs wA hJ hd => ?_)
  · refine Jo.jd 0 (some 30) [] (Jo.Fact.eq (.bool true)) rfl rfl rfl rfl (fun vs wj hJ hd K hK => ?_) ?_
    · simp only [Jo.putl, Jo.ze, Act.put, Jo.za, Jo.zb, Jo.zc] at hK ⊢
      clear hd
      go_simp
      exact hK.out _ _ rfl (Below.refl _ _)
    refine Jo.jd 1 (some 31) [(some 30, 0)] (Jo.Fact.eq (.bool true)) rfl rfl rfl rfl (fun vs wj hJ hd K hK => ?_) ?_
    · simp only [Jo.putl, Jo.zd, Jo.ze, Act.put, Jo.za, Jo.zb, Jo.zc] at hK ⊢
      rw [show vs 0 = _ from hd 0 (by decide)] at hK ⊢
      clear hd
      go_simp
      exact hK.out _ _ rfl (Below.refl _ _)
    refine Jo.jd 2 (some 32) [(some 31, 1)] (Jo.Fact.eq (.agg #[.bool e20, .int .i64 K20, .bool s20, .int .u64 M20, .int .i64 E20, .int .i64 K20b, .bool s20b, .int .u64 M20b, .int .i64 E20b])) rfl rfl rfl rfl (fun vs wj hJ hd K hK => ?_) ?_
    · simp only [Jo.putl, Jo.zd, Jo.ze, Act.put, Jo.za, Jo.zb, Jo.zc] at hK ⊢
      rw [show vs 1 = _ from hd 1 (by decide)] at hK ⊢
      clear hd
      have xX60 := (X6.below hJ).a 0 (.bool e20) rfl
      have xX61 := (X6.below hJ).a 1 (.int .i64 K20) rfl
      have xX62 := (X6.below hJ).a 2 (.bool s20) rfl
      have xX63 := (X6.below hJ).a 3 (.int .u64 M20) rfl
      have xX64 := (X6.below hJ).a 4 (.int .i64 E20) rfl
      have xX65 := (X6.below hJ).a 5 (.int .i64 K20b) rfl
      have xX66 := (X6.below hJ).a 6 (.bool s20b) rfl
      have xX67 := (X6.below hJ).a 7 (.int .u64 M20b) rfl
      have xX68 := (X6.below hJ).a 8 (.int .i64 E20b) rfl
      go_simp
      exact hK.out _ _ rfl (Below.refl _ _)
    refine Jo.jd 3 (some 33) [(some 31, 1)] (Jo.Fact.eq (.agg #[.bool e0, .int .i64 D0, .bool s0, .int .u64 M0, .int .i64 E0, .int .i64 G0, .bool g0, .int .u64 P0, .int .i64 Q0])) rfl rfl rfl rfl (fun vs wj hJ hd K hK => ?_) ?_
    · simp only [Jo.putl, Jo.zd, Jo.ze, Act.put, Jo.za, Jo.zb, Jo.zc] at hK ⊢
      rw [show vs 1 = _ from hd 1 (by decide)] at hK ⊢
      clear hd
      have xX00 := (X0.below hJ).a 0 (.bool e0) rfl
      have xX01 := (X0.below hJ).a 1 (.int .i64 D0) rfl
      have xX02 := (X0.below hJ).a 2 (.bool s0) rfl
      have xX03 := (X0.below hJ).a 3 (.int .u64 M0) rfl
      have xX04 := (X0.below hJ).a 4 (.int .i64 E0) rfl
      have xX05 := (X0.below hJ).a 5 (.int .i64 G0) rfl
      have xX06 := (X0.below hJ).a 6 (.bool g0) rfl
      have xX07 := (X0.below hJ).a 7 (.int .u64 P0) rfl
      have xX08 := (X0.below hJ).a 8 (.int .i64 Q0) rfl
      go_simp
      exact hK.out _ _ rfl (Below.refl _ _)
    refine Jo.jd 4 (some 34) [(some 31, 1), (some 32, 2), (some 33, 3)] (Jo.Fact.eq (.bool true)) rfl rfl rfl rfl (fun vs wj hJ hd K hK => ?_) ?_
    · simp only [Jo.putl, Jo.zd, Jo.ze, Act.put, Jo.za, Jo.zb, Jo.zc] at hK ⊢
      rw [show vs 1 = _ from hd 1 (by decide), show vs 2 = _ from hd 2 (by decide), show vs 3 = _ from hd 3 (by decide)] at hK ⊢
      clear hd
      go_simp
      refine (kvWithin v20.top.1 v20.top.2 c0.top.1 c0.top.2 v20.rk c0.rk H1.out).mono ?_
      rintro ee wk ⟨rfl, B⟩
      exact hK.out _ _ rfl B
    refine Jo.jd 5 (some 35) [(some 31, 1), (some 34, 4)] (Jo.Fact.eq (.bool true)) rfl rfl rfl rfl (fun vs wj hJ hd K hK => ?_) ?_
    · simp only [Jo.putl, Jo.zd, Jo.ze, Act.put, Jo.za, Jo.zb, Jo.zc] at hK ⊢
      rw [show vs 1 = _ from hd 1 (by decide), show vs 4 = _ from hd 4 (by decide)] at hK ⊢
      clear hd
      go_simp
      exact hK.out _ _ rfl (Below.refl _ _)
    refine Jo.jd 6 (some 36) [(some 35, 5)] (Jo.Fact.eq (.bool true)) rfl rfl rfl rfl (fun vs wj hJ hd K hK => ?_) ?_
    · simp only [Jo.putl, Jo.zd, Jo.ze, Act.put, Jo.za, Jo.zb, Jo.zc] at hK ⊢
      rw [show vs 5 = _ from hd 5 (by decide)] at hK ⊢
      clear hd
      go_simp
      exact hK.out _ _ rfl (Below.refl _ _)
    refine Jo.jd 7 (some 37) [(some 36, 6)] (Jo.Fact.eq (.agg #[.bool e20, .int .i64 K20, .bool s20, .int .u64 M20, .int .i64 E20, .int .i64 K20b, .bool s20b, .int .u64 M20b, .int .i64 E20b])) rfl rfl rfl rfl (fun vs wj hJ hd K hK => ?_) ?_
    · simp only [Jo.putl, Jo.zd, Jo.ze, Act.put, Jo.za, Jo.zb, Jo.zc] at hK ⊢
      rw [show vs 6 = _ from hd 6 (by decide)] at hK ⊢
      clear hd
      have xX60 := (X6.below hJ).a 0 (.bool e20) rfl
      have xX61 := (X6.below hJ).a 1 (.int .i64 K20) rfl
      have xX62 := (X6.below hJ).a 2 (.bool s20) rfl
      have xX63 := (X6.below hJ).a 3 (.int .u64 M20) rfl
      have xX64 := (X6.below hJ).a 4 (.int .i64 E20) rfl
      have xX65 := (X6.below hJ).a 5 (.int .i64 K20b) rfl
      have xX66 := (X6.below hJ).a 6 (.bool s20b) rfl
      have xX67 := (X6.below hJ).a 7 (.int .u64 M20b) rfl
      have xX68 := (X6.below hJ).a 8 (.int .i64 E20b) rfl
      go_simp
      exact hK.out _ _ rfl (Below.refl _ _)
    refine Jo.jd 8 (some 38) [(some 36, 6)] (Jo.Fact.eq (.agg #[.bool e1, .int .i64 D1, .bool s1, .int .u64 M1, .int .i64 E1, .int .i64 G1, .bool g1, .int .u64 P1, .int .i64 Q1])) rfl rfl rfl rfl (fun vs wj hJ hd K hK => ?_) ?_
    · simp only [Jo.putl, Jo.zd, Jo.ze, Act.put, Jo.za, Jo.zb, Jo.zc] at hK ⊢
      rw [show vs 6 = _ from hd 6 (by decide)] at hK ⊢
      clear hd
      have xX10 := (X1.below hJ).a 0 (.bool e1) rfl
      have xX11 := (X1.below hJ).a 1 (.int .i64 D1) rfl
      have xX12 := (X1.below hJ).a 2 (.bool s1) rfl
      have xX13 := (X1.below hJ).a 3 (.int .u64 M1) rfl
      have xX14 := (X1.below hJ).a 4 (.int .i64 E1) rfl
      have xX15 := (X1.below hJ).a 5 (.int .i64 G1) rfl
      have xX16 := (X1.below hJ).a 6 (.bool g1) rfl
      have xX17 := (X1.below hJ).a 7 (.int .u64 P1) rfl
      have xX18 := (X1.below hJ).a 8 (.int .i64 Q1) rfl
      go_simp
      exact hK.out _ _ rfl (Below.refl _ _)
    refine Jo.jd 9 (some 39) [(some 36, 6), (some 37, 7), (some 38, 8)] (Jo.Fact.eq (.bool true)) rfl rfl rfl rfl (fun vs wj hJ hd K hK => ?_) ?_
    · simp only [Jo.putl, Jo.zd, Jo.ze, Act.put, Jo.za, Jo.zb, Jo.zc] at hK ⊢
      rw [show vs 6 = _ from hd 6 (by decide), show vs 7 = _ from hd 7 (by decide), show vs 8 = _ from hd 8 (by decide)] at hK ⊢
      clear hd
      go_simp
      refine (kvWithin v20.top.1 v20.top.2 c1.top.1 c1.top.2 v20.rk c1.rk H2.out).mono ?_
      rintro ee wk ⟨rfl, B⟩
      exact hK.out _ _ rfl B
    refine Jo.jd 10 (some 40) [(some 36, 6), (some 39, 9)] (Jo.Fact.eq (.bool true)) rfl rfl rfl rfl (fun vs wj hJ hd K hK => ?_) ?_
    · simp only [Jo.putl, Jo.zd, Jo.ze, Act.put, Jo.za, Jo.zb, Jo.zc] at hK ⊢
      rw [show vs 6 = _ from hd 6 (by decide), show vs 9 = _ from hd 9 (by decide)] at hK ⊢
      clear hd
      go_simp
      exact hK.out _ _ rfl (Below.refl _ _)
    refine Jo.jd 11 (some 41) [(some 40, 10)] (Jo.Fact.eq (.bool true)) rfl rfl rfl rfl (fun vs wj hJ hd K hK => ?_) ?_
    · simp only [Jo.putl, Jo.zd, Jo.ze, Act.put, Jo.za, Jo.zb, Jo.zc] at hK ⊢
      rw [show vs 10 = _ from hd 10 (by decide)] at hK ⊢
      clear hd
      go_simp
      exact hK.out _ _ rfl (Below.refl _ _)
    refine Jo.jd 12 (some 42) [(some 41, 11)] (Jo.Fact.eq (.agg #[.bool e0, .int .i64 D0, .bool s0, .int .u64 M0, .int .i64 E0, .int .i64 G0, .bool g0, .int .u64 P0, .int .i64 Q0])) rfl rfl rfl rfl (fun vs wj hJ hd K hK => ?_) ?_
    · simp only [Jo.putl, Jo.zd, Jo.ze, Act.put, Jo.za, Jo.zb, Jo.zc] at hK ⊢
      rw [show vs 11 = _ from hd 11 (by decide)] at hK ⊢
      clear hd
      have xX00 := (X0.below hJ).a 0 (.bool e0) rfl
      have xX01 := (X0.below hJ).a 1 (.int .i64 D0) rfl
      have xX02 := (X0.below hJ).a 2 (.bool s0) rfl
      have xX03 := (X0.below hJ).a 3 (.int .u64 M0) rfl
      have xX04 := (X0.below hJ).a 4 (.int .i64 E0) rfl
      have xX05 := (X0.below hJ).a 5 (.int .i64 G0) rfl
      have xX06 := (X0.below hJ).a 6 (.bool g0) rfl
      have xX07 := (X0.below hJ).a 7 (.int .u64 P0) rfl
      have xX08 := (X0.below hJ).a 8 (.int .i64 Q0) rfl
      go_simp
      exact hK.out _ _ rfl (Below.refl _ _)
    refine Jo.jd 13 (some 43) [(some 41, 11)] (Jo.Fact.eq (.agg #[.bool e21, .int .i64 K21, .bool s21, .int .u64 M21, .int .i64 E21, .int .i64 K21b, .bool s21b, .int .u64 M21b, .int .i64 E21b])) rfl rfl rfl rfl (fun vs wj hJ hd K hK => ?_) ?_
    · simp only [Jo.putl, Jo.zd, Jo.ze, Act.put, Jo.za, Jo.zb, Jo.zc] at hK ⊢
      rw [show vs 11 = _ from hd 11 (by decide)] at hK ⊢
      clear hd
      have xX70 := (X7.below hJ).a 0 (.bool e21) rfl
      have xX71 := (X7.below hJ).a 1 (.int .i64 K21) rfl
      have xX72 := (X7.below hJ).a 2 (.bool s21) rfl
      have xX73 := (X7.below hJ).a 3 (.int .u64 M21) rfl
      have xX74 := (X7.below hJ).a 4 (.int .i64 E21) rfl
      have xX75 := (X7.below hJ).a 5 (.int .i64 K21b) rfl
      have xX76 := (X7.below hJ).a 6 (.bool s21b) rfl
      have xX77 := (X7.below hJ).a 7 (.int .u64 M21b) rfl
      have xX78 := (X7.below hJ).a 8 (.int .i64 E21b) rfl
      go_simp
      exact hK.out _ _ rfl (Below.refl _ _)
    refine Jo.jd 14 (some 44) [(some 41, 11), (some 42, 12), (some 43, 13)] (Jo.Fact.eq (.bool true)) rfl rfl rfl rfl (fun vs wj hJ hd K hK => ?_) ?_
    · simp only [Jo.putl, Jo.zd, Jo.ze, Act.put, Jo.za, Jo.zb, Jo.zc] at hK ⊢
      rw [show vs 11 = _ from hd 11 (by decide), show vs 12 = _ from hd 12 (by decide), show vs 13 = _ from hd 13 (by decide)] at hK ⊢
      clear hd
      go_simp
      refine (kvWithin c0.top.1 c0.top.2 v21.top.1 v21.top.2 c0.rk v21.rk H3.out).mono ?_
      rintro ee wk ⟨rfl, B⟩
      exact hK.out _ _ rfl B
    refine Jo.jd 15 (some 45) [(some 41, 11), (some 44, 14)] (Jo.Fact.eq (.bool true)) rfl rfl rfl rfl (fun vs wj hJ hd K hK => ?_) ?_
    · simp only [Jo.putl, Jo.zd, Jo.ze, Act.put, Jo.za, Jo.zb, Jo.zc] at hK ⊢
      rw [show vs 11 = _ from hd 11 (by decide), show vs 14 = _ from hd 14 (by decide)] at hK ⊢
      clear hd
      go_simp
      exact hK.out _ _ rfl (Below.refl _ _)
    refine Jo.jd 16 (some 46) [(some 45, 15)] (Jo.Fact.eq (.bool true)) rfl rfl rfl rfl (fun vs wj hJ hd K hK => ?_) ?_
    · simp only [Jo.putl, Jo.zd, Jo.ze, Act.put, Jo.za, Jo.zb, Jo.zc] at hK ⊢
      rw [show vs 15 = _ from hd 15 (by decide)] at hK ⊢
      clear hd
      go_simp
      exact hK.out _ _ rfl (Below.refl _ _)
    refine Jo.jd 17 (some 47) [(some 46, 16)] (Jo.Fact.eq (.agg #[.bool e1, .int .i64 D1, .bool s1, .int .u64 M1, .int .i64 E1, .int .i64 G1, .bool g1, .int .u64 P1, .int .i64 Q1])) rfl rfl rfl rfl (fun vs wj hJ hd K hK => ?_) ?_
    · simp only [Jo.putl, Jo.zd, Jo.ze, Act.put, Jo.za, Jo.zb, Jo.zc] at hK ⊢
      rw [show vs 16 = _ from hd 16 (by decide)] at hK ⊢
      clear hd
      have xX10 := (X1.below hJ).a 0 (.bool e1) rfl
      have xX11 := (X1.below hJ).a 1 (.int .i64 D1) rfl
      have xX12 := (X1.below hJ).a 2 (.bool s1) rfl
      have xX13 := (X1.below hJ).a 3 (.int .u64 M1) rfl
      have xX14 := (X1.below hJ).a 4 (.int .i64 E1) rfl
      have xX15 := (X1.below hJ).a 5 (.int .i64 G1) rfl
      have xX16 := (X1.below hJ).a 6 (.bool g1) rfl
      have xX17 := (X1.below hJ).a 7 (.int .u64 P1) rfl
      have xX18 := (X1.below hJ).a 8 (.int .i64 Q1) rfl
      go_simp
      exact hK.out _ _ rfl (Below.refl _ _)
    refine Jo.jd 18 (some 48) [(some 46, 16)] (Jo.Fact.eq (.agg #[.bool e21, .int .i64 K21, .bool s21, .int .u64 M21, .int .i64 E21, .int .i64 K21b, .bool s21b, .int .u64 M21b, .int .i64 E21b])) rfl rfl rfl rfl (fun vs wj hJ hd K hK => ?_) ?_
    · simp only [Jo.putl, Jo.zd, Jo.ze, Act.put, Jo.za, Jo.zb, Jo.zc] at hK ⊢
      rw [show vs 16 = _ from hd 16 (by decide)] at hK ⊢
      clear hd
      have xX70 := (X7.below hJ).a 0 (.bool e21) rfl
      have xX71 := (X7.below hJ).a 1 (.int .i64 K21) rfl
      have xX72 := (X7.below hJ).a 2 (.bool s21) rfl
      have xX73 := (X7.below hJ).a 3 (.int .u64 M21) rfl
      have xX74 := (X7.below hJ).a 4 (.int .i64 E21) rfl
      have xX75 := (X7.below hJ).a 5 (.int .i64 K21b) rfl
      have xX76 := (X7.below hJ).a 6 (.bool s21b) rfl
      have xX77 := (X7.below hJ).a 7 (.int .u64 M21b) rfl
      have xX78 := (X7.below hJ).a 8 (.int .i64 E21b) rfl
      go_simp
      exact hK.out _ _ rfl (Below.refl _ _)
    refine Jo.jd 19 (some 49) [(some 46, 16), (some 47, 17), (some 48, 18)] (Jo.Fact.eq (.bool true)) rfl rfl rfl rfl (fun vs wj hJ hd K hK => ?_) ?_
    · simp only [Jo.putl, Jo.zd, Jo.ze, Act.put, Jo.za, Jo.zb, Jo.zc] at hK ⊢
      rw [show vs 16 = _ from hd 16 (by decide), show vs 17 = _ from hd 17 (by decide), show vs 18 = _ from hd 18 (by decide)] at hK ⊢
      clear hd
      go_simp
      refine (kvWithin c1.top.1 c1.top.2 v21.top.1 v21.top.2 c1.rk v21.rk H4.out).mono ?_
      rintro ee wk ⟨rfl, B⟩
      exact hK.out _ _ rfl B
    refine Jo.jd 20 (some 50) [(some 46, 16), (some 49, 19)] (Jo.Fact.eq (.bool true)) rfl rfl rfl rfl (fun vs wj hJ hd K hK => ?_) ?_
    · simp only [Jo.putl, Jo.zd, Jo.ze, Act.put, Jo.za, Jo.zb, Jo.zc] at hK ⊢
      rw [show vs 16 = _ from hd 16 (by decide), show vs 19 = _ from hd 19 (by decide)] at hK ⊢
      clear hd
      go_simp
      exact hK.out _ _ rfl (Below.refl _ _)
    refine Jo.jd 21 (some 51) [(some 50, 20)] (Jo.Fact.eq (.bool true)) rfl rfl rfl rfl (fun vs wj hJ hd K hK => ?_) ?_
    · simp only [Jo.putl, Jo.zd, Jo.ze, Act.put, Jo.za, Jo.zb, Jo.zc] at hK ⊢
      rw [show vs 20 = _ from hd 20 (by decide)] at hK ⊢
      clear hd
      go_simp
      exact hK.out _ _ rfl (Below.refl _ _)
    refine Jo.jd 22 (some 52) [(some 51, 21)] (Jo.Fact.eq (.bool false)) rfl rfl rfl rfl (fun vs wj hJ hd K hK => ?_) ?_
    · simp only [Jo.putl, Jo.zd, Jo.ze, Act.put, Jo.za, Jo.zb, Jo.zc] at hK ⊢
      rw [show vs 21 = _ from hd 21 (by decide)] at hK ⊢
      clear hd
      go_simp
      exact hK.out _ _ rfl (Below.refl _ _)
    refine Jo.jd 23 (some 53) [(some 51, 21)] (Jo.Fact.eq (.agg #[.bool e20, .int .i64 K20, .bool s20, .int .u64 M20, .int .i64 E20, .int .i64 K20b, .bool s20b, .int .u64 M20b, .int .i64 E20b])) rfl rfl rfl rfl (fun vs wj hJ hd K hK => ?_) ?_
    · simp only [Jo.putl, Jo.zd, Jo.ze, Act.put, Jo.za, Jo.zb, Jo.zc] at hK ⊢
      rw [show vs 21 = _ from hd 21 (by decide)] at hK ⊢
      clear hd
      have xX60 := (X6.below hJ).a 0 (.bool e20) rfl
      have xX61 := (X6.below hJ).a 1 (.int .i64 K20) rfl
      have xX62 := (X6.below hJ).a 2 (.bool s20) rfl
      have xX63 := (X6.below hJ).a 3 (.int .u64 M20) rfl
      have xX64 := (X6.below hJ).a 4 (.int .i64 E20) rfl
      have xX65 := (X6.below hJ).a 5 (.int .i64 K20b) rfl
      have xX66 := (X6.below hJ).a 6 (.bool s20b) rfl
      have xX67 := (X6.below hJ).a 7 (.int .u64 M20b) rfl
      have xX68 := (X6.below hJ).a 8 (.int .i64 E20b) rfl
      go_simp
      exact hK.out _ _ rfl (Below.refl _ _)
    refine Jo.jd 24 (some 54) [(some 51, 21)] (Jo.Fact.eq (.agg #[.bool e0, .int .i64 D0, .bool s0, .int .u64 M0, .int .i64 E0, .int .i64 G0, .bool g0, .int .u64 P0, .int .i64 Q0])) rfl rfl rfl rfl (fun vs wj hJ hd K hK => ?_) ?_
    · simp only [Jo.putl, Jo.zd, Jo.ze, Act.put, Jo.za, Jo.zb, Jo.zc] at hK ⊢
      rw [show vs 21 = _ from hd 21 (by decide)] at hK ⊢
      clear hd
      have xX00 := (X0.below hJ).a 0 (.bool e0) rfl
      have xX01 := (X0.below hJ).a 1 (.int .i64 D0) rfl
      have xX02 := (X0.below hJ).a 2 (.bool s0) rfl
      have xX03 := (X0.below hJ).a 3 (.int .u64 M0) rfl
      have xX04 := (X0.below hJ).a 4 (.int .i64 E0) rfl
      have xX05 := (X0.below hJ).a 5 (.int .i64 G0) rfl
      have xX06 := (X0.below hJ).a 6 (.bool g0) rfl
      have xX07 := (X0.below hJ).a 7 (.int .u64 P0) rfl
      have xX08 := (X0.below hJ).a 8 (.int .i64 Q0) rfl
      go_simp
      exact hK.out _ _ rfl (Below.refl _ _)
    refine Jo.jd 25 (some 55) [(some 51, 21), (some 53, 23), (some 54, 24)] (Jo.Fact.eq (.bool false)) rfl rfl rfl rfl (fun vs wj hJ hd K hK => ?_) ?_
    · simp only [Jo.putl, Jo.zd, Jo.ze, Act.put, Jo.za, Jo.zb, Jo.zc] at hK ⊢
      rw [show vs 21 = _ from hd 21 (by decide), show vs 23 = _ from hd 23 (by decide), show vs 24 = _ from hd 24 (by decide)] at hK ⊢
      clear hd
      have hne := fun c => H6.out ((v20.same c0).1 c)
      go_simp
      repeat' split
      all_goals exact hK.out _ _ (congrArg Value.bool (by first | rfl | (exfalso; exact hne (by simp_all)))) (Below.refl _ _)
    refine Jo.jd 26 (some 56) [(some 51, 21), (some 52, 22), (some 55, 25)] (Jo.Fact.eq (.bool true)) rfl rfl rfl rfl (fun vs wj hJ hd K hK => ?_) ?_
    · simp only [Jo.putl, Jo.zd, Jo.ze, Act.put, Jo.za, Jo.zb, Jo.zc] at hK ⊢
      rw [show vs 21 = _ from hd 21 (by decide), show vs 22 = _ from hd 22 (by decide), show vs 25 = _ from hd 25 (by decide)] at hK ⊢
      clear hd
      go_simp
      exact hK.out _ _ (by first | rfl | simp) (Below.refl _ _)
    refine Jo.jd 27 (some 57) [(some 51, 21), (some 56, 26)] (Jo.Fact.eq (.bool true)) rfl rfl rfl rfl (fun vs wj hJ hd K hK => ?_) ?_
    · simp only [Jo.putl, Jo.zd, Jo.ze, Act.put, Jo.za, Jo.zb, Jo.zc] at hK ⊢
      rw [show vs 21 = _ from hd 21 (by decide), show vs 26 = _ from hd 26 (by decide)] at hK ⊢
      clear hd
      go_simp
      exact hK.out _ _ rfl (Below.refl _ _)
    refine Jo.jd 28 (some 58) [(some 57, 27)] (Jo.Fact.eq (.bool true)) rfl rfl rfl rfl (fun vs wj hJ hd K hK => ?_) ?_
    · simp only [Jo.putl, Jo.zd, Jo.ze, Act.put, Jo.za, Jo.zb, Jo.zc] at hK ⊢
      rw [show vs 27 = _ from hd 27 (by decide)] at hK ⊢
      clear hd
      go_simp
      exact hK.out _ _ rfl (Below.refl _ _)
    refine Jo.jd 29 (some 59) [(some 58, 28)] (Jo.Fact.eq (.bool false)) rfl rfl rfl rfl (fun vs wj hJ hd K hK => ?_) ?_
    · simp only [Jo.putl, Jo.zd, Jo.ze, Act.put, Jo.za, Jo.zb, Jo.zc] at hK ⊢
      rw [show vs 28 = _ from hd 28 (by decide)] at hK ⊢
      clear hd
      go_simp
      exact hK.out _ _ rfl (Below.refl _ _)
    refine Jo.jd 30 (some 60) [(some 58, 28)] (Jo.Fact.eq (.agg #[.bool e21, .int .i64 K21, .bool s21, .int .u64 M21, .int .i64 E21, .int .i64 K21b, .bool s21b, .int .u64 M21b, .int .i64 E21b])) rfl rfl rfl rfl (fun vs wj hJ hd K hK => ?_) ?_
    · simp only [Jo.putl, Jo.zd, Jo.ze, Act.put, Jo.za, Jo.zb, Jo.zc] at hK ⊢
      rw [show vs 28 = _ from hd 28 (by decide)] at hK ⊢
      clear hd
      have xX70 := (X7.below hJ).a 0 (.bool e21) rfl
      have xX71 := (X7.below hJ).a 1 (.int .i64 K21) rfl
      have xX72 := (X7.below hJ).a 2 (.bool s21) rfl
      have xX73 := (X7.below hJ).a 3 (.int .u64 M21) rfl
      have xX74 := (X7.below hJ).a 4 (.int .i64 E21) rfl
      have xX75 := (X7.below hJ).a 5 (.int .i64 K21b) rfl
      have xX76 := (X7.below hJ).a 6 (.bool s21b) rfl
      have xX77 := (X7.below hJ).a 7 (.int .u64 M21b) rfl
      have xX78 := (X7.below hJ).a 8 (.int .i64 E21b) rfl
      go_simp
      exact hK.out _ _ rfl (Below.refl _ _)
    refine Jo.jd 31 (some 61) [(some 58, 28)] (Jo.Fact.eq (.agg #[.bool e1, .int .i64 D1, .bool s1, .int .u64 M1, .int .i64 E1, .int .i64 G1, .bool g1, .int .u64 P1, .int .i64 Q1])) rfl rfl rfl rfl (fun vs wj hJ hd K hK => ?_) ?_
    · simp only [Jo.putl, Jo.zd, Jo.ze, Act.put, Jo.za, Jo.zb, Jo.zc] at hK ⊢
      rw [show vs 28 = _ from hd 28 (by decide)] at hK ⊢
      clear hd
      have xX10 := (X1.below hJ).a 0 (.bool e1) rfl
      have xX11 := (X1.below hJ).a 1 (.int .i64 D1) rfl
      have xX12 := (X1.below hJ).a 2 (.bool s1) rfl
      have xX13 := (X1.below hJ).a 3 (.int .u64 M1) rfl
      have xX14 := (X1.below hJ).a 4 (.int .i64 E1) rfl
      have xX15 := (X1.below hJ).a 5 (.int .i64 G1) rfl
      have xX16 := (X1.below hJ).a 6 (.bool g1) rfl
      have xX17 := (X1.below hJ).a 7 (.int .u64 P1) rfl
      have xX18 := (X1.below hJ).a 8 (.int .i64 Q1) rfl
      go_simp
      exact hK.out _ _ rfl (Below.refl _ _)
    refine Jo.jd 32 (some 62) [(some 58, 28), (some 60, 30), (some 61, 31)] (Jo.Fact.eq (.bool false)) rfl rfl rfl rfl (fun vs wj hJ hd K hK => ?_) ?_
    · simp only [Jo.putl, Jo.zd, Jo.ze, Act.put, Jo.za, Jo.zb, Jo.zc] at hK ⊢
      rw [show vs 28 = _ from hd 28 (by decide), show vs 30 = _ from hd 30 (by decide), show vs 31 = _ from hd 31 (by decide)] at hK ⊢
      clear hd
      have hne := fun c => H7.out ((v21.same c1).1 c)
      go_simp
      repeat' split
      all_goals exact hK.out _ _ (congrArg Value.bool (by first | rfl | (exfalso; exact hne (by simp_all)))) (Below.refl _ _)
    refine Jo.jd 33 (some 63) [(some 58, 28), (some 59, 29), (some 62, 32)] (Jo.Fact.eq (.bool true)) rfl rfl rfl rfl (fun vs wj hJ hd K hK => ?_) ?_
    · simp only [Jo.putl, Jo.zd, Jo.ze, Act.put, Jo.za, Jo.zb, Jo.zc] at hK ⊢
      rw [show vs 28 = _ from hd 28 (by decide), show vs 29 = _ from hd 29 (by decide), show vs 32 = _ from hd 32 (by decide)] at hK ⊢
      clear hd
      go_simp
      exact hK.out _ _ (by first | rfl | simp) (Below.refl _ _)
    refine Jo.jd 34 (some 64) [(some 58, 28), (some 63, 33)] (Jo.Fact.eq (.bool true)) rfl rfl rfl rfl (fun vs wj hJ hd K hK => ?_) ?_
    · simp only [Jo.putl, Jo.zd, Jo.ze, Act.put, Jo.za, Jo.zb, Jo.zc] at hK ⊢
      rw [show vs 28 = _ from hd 28 (by decide), show vs 33 = _ from hd 33 (by decide)] at hK ⊢
      clear hd
      go_simp
      exact hK.out _ _ rfl (Below.refl _ _)
    refine Jo.jd 35 (some 65) [(some 64, 34)] (Jo.Fact.eq (.bool true)) rfl rfl rfl rfl (fun vs wj hJ hd K hK => ?_) ?_
    · simp only [Jo.putl, Jo.zd, Jo.ze, Act.put, Jo.za, Jo.zb, Jo.zc] at hK ⊢
      rw [show vs 34 = _ from hd 34 (by decide)] at hK ⊢
      clear hd
      go_simp
      exact hK.out _ _ rfl (Below.refl _ _)
    refine Jo.jd 36 (some 66) [(some 65, 35)] (Jo.Fact.eq (.agg #[.bool e1, .int .i64 D1, .bool s1, .int .u64 M1, .int .i64 E1, .int .i64 G1, .bool g1, .int .u64 P1, .int .i64 Q1])) rfl rfl rfl rfl (fun vs wj hJ hd K hK => ?_) ?_
    · simp only [Jo.putl, Jo.zd, Jo.ze, Act.put, Jo.za, Jo.zb, Jo.zc] at hK ⊢
      rw [show vs 35 = _ from hd 35 (by decide)] at hK ⊢
      clear hd
      have xX10 := (X1.below hJ).a 0 (.bool e1) rfl
      have xX11 := (X1.below hJ).a 1 (.int .i64 D1) rfl
      have xX12 := (X1.below hJ).a 2 (.bool s1) rfl
      have xX13 := (X1.below hJ).a 3 (.int .u64 M1) rfl
      have xX14 := (X1.below hJ).a 4 (.int .i64 E1) rfl
      have xX15 := (X1.below hJ).a 5 (.int .i64 G1) rfl
      have xX16 := (X1.below hJ).a 6 (.bool g1) rfl
      have xX17 := (X1.below hJ).a 7 (.int .u64 P1) rfl
      have xX18 := (X1.below hJ).a 8 (.int .i64 Q1) rfl
      go_simp
      exact hK.out _ _ rfl (Below.refl _ _)
    refine Jo.jd 37 (some 67) [(some 65, 35)] (Jo.Fact.eq (.agg #[.bool e0, .int .i64 D0, .bool s0, .int .u64 M0, .int .i64 E0, .int .i64 G0, .bool g0, .int .u64 P0, .int .i64 Q0])) rfl rfl rfl rfl (fun vs wj hJ hd K hK => ?_) ?_
    · simp only [Jo.putl, Jo.zd, Jo.ze, Act.put, Jo.za, Jo.zb, Jo.zc] at hK ⊢
      rw [show vs 35 = _ from hd 35 (by decide)] at hK ⊢
      clear hd
      have xX00 := (X0.below hJ).a 0 (.bool e0) rfl
      have xX01 := (X0.below hJ).a 1 (.int .i64 D0) rfl
      have xX02 := (X0.below hJ).a 2 (.bool s0) rfl
      have xX03 := (X0.below hJ).a 3 (.int .u64 M0) rfl
      have xX04 := (X0.below hJ).a 4 (.int .i64 E0) rfl
      have xX05 := (X0.below hJ).a 5 (.int .i64 G0) rfl
      have xX06 := (X0.below hJ).a 6 (.bool g0) rfl
      have xX07 := (X0.below hJ).a 7 (.int .u64 P0) rfl
      have xX08 := (X0.below hJ).a 8 (.int .i64 Q0) rfl
      go_simp
      exact hK.out _ _ rfl (Below.refl _ _)
    refine Jo.jd 38 (some 68) [(some 65, 35), (some 66, 36), (some 67, 37)] (Jo.Fact.il8 2 [y, x]) rfl rfl rfl rfl (fun vs wj hJ hd K hK => ?_) ?_
    · simp only [Jo.putl, Jo.zd, Jo.ze, Act.put, Jo.za, Jo.zb, Jo.zc] at hK ⊢
      rw [show vs 35 = _ from hd 35 (by decide), show vs 36 = _ from hd 36 (by decide), show vs 37 = _ from hd 37 (by decide)] at hK ⊢
      clear hd
      go_simp
      exact hK.out _ _ ⟨_, 2, rfl, Il8.lit2 rfl c1.rw c0.rw⟩ (bel1 _ _)
    refine Jo.jd 39 (some 69) [(some 65, 35), (some 68, 38)] (Jo.Fact.iv m) rfl rfl rfl rfl (fun vs wj hJ hd K hK => ?_) ?_
    · have d38 : (Jo.Fact.il8 2 [y, x]).P (vs 38) wj := hd 38 (by decide)
      simp only [Jo.putl, Jo.zd, Jo.ze, Act.put, Jo.za, Jo.zb, Jo.zc] at hK ⊢
      rw [show vs 35 = _ from hd 35 (by decide)] at hK ⊢
      clear hd
      generalize vs 38 = u38 at hK d38 ⊢
      obtain ⟨A22, c22, rfl, h22⟩ := d38
      go_simp
      refine (kvMeet h22 HM2.out).mono ?_
      rintro ee wk ⟨e23, K23, s23, M23, E23, K23b, s23b, M23b, E23b, rfl, v23, B⟩
      exact hK.out _ _ ⟨e23, K23, s23, M23, E23, K23b, s23b, M23b, E23b, rfl, v23⟩ B
    refine Jo.jd 40 (some 70) [(some 65, 35)] (Jo.Fact.eq (.agg #[.bool e20, .int .i64 K20, .bool s20, .int .u64 M20, .int .i64 E20, .int .i64 K20b, .bool s20b, .int .u64 M20b, .int .i64 E20b])) rfl rfl rfl rfl (fun vs wj hJ hd K hK => ?_) ?_
    · simp only [Jo.putl, Jo.zd, Jo.ze, Act.put, Jo.za, Jo.zb, Jo.zc] at hK ⊢
      rw [show vs 35 = _ from hd 35 (by decide)] at hK ⊢
      clear hd
      have xX60 := (X6.below hJ).a 0 (.bool e20) rfl
      have xX61 := (X6.below hJ).a 1 (.int .i64 K20) rfl
      have xX62 := (X6.below hJ).a 2 (.bool s20) rfl
      have xX63 := (X6.below hJ).a 3 (.int .u64 M20) rfl
      have xX64 := (X6.below hJ).a 4 (.int .i64 E20) rfl
      have xX65 := (X6.below hJ).a 5 (.int .i64 K20b) rfl
      have xX66 := (X6.below hJ).a 6 (.bool s20b) rfl
      have xX67 := (X6.below hJ).a 7 (.int .u64 M20b) rfl
      have xX68 := (X6.below hJ).a 8 (.int .i64 E20b) rfl
      go_simp
      exact hK.out _ _ rfl (Below.refl _ _)
    refine Jo.jd 41 (some 71) [(some 65, 35), (some 69, 39), (some 70, 40)] (Jo.Fact.eq (.bool true)) rfl rfl rfl rfl (fun vs wj hJ hd K hK => ?_) ?_
    · have d39 : (Jo.Fact.iv m).P (vs 39) wj := hd 39 (by decide)
      simp only [Jo.putl, Jo.zd, Jo.ze, Act.put, Jo.za, Jo.zb, Jo.zc] at hK ⊢
      rw [show vs 35 = _ from hd 35 (by decide), show vs 40 = _ from hd 40 (by decide)] at hK ⊢
      clear hd
      generalize vs 39 = u39 at hK d39 ⊢
      obtain ⟨e23, K23, s23, M23, E23, K23b, s23b, M23b, E23b, rfl, v23⟩ := d39
      obtain ⟨rfl, rfl, rfl, rfl, rfl, rfl, rfl, rfl, rfl⟩ := v23.uniq v20
      go_simp
      exact hK.out _ _ (by first | rfl | (show Value.bool _ = Value.bool _; simp)) (Below.refl _ _)
    refine Jo.jd 42 (some 72) [(some 65, 35), (some 71, 41)] (Jo.Fact.eq (.bool true)) rfl rfl rfl rfl (fun vs wj hJ hd K hK => ?_) ?_
    · simp only [Jo.putl, Jo.zd, Jo.ze, Act.put, Jo.za, Jo.zb, Jo.zc] at hK ⊢
      rw [show vs 35 = _ from hd 35 (by decide), show vs 41 = _ from hd 41 (by decide)] at hK ⊢
      clear hd
      go_simp
      exact hK.out _ _ rfl (Below.refl _ _)
    refine Jo.jd 43 (some 4) [(some 72, 42)] (Jo.Fact.eq (.bool true)) rfl rfl rfl rfl (fun vs wj hJ hd K hK => ?_) ?_
    · simp only [Jo.putl, Jo.zd, Jo.ze, Act.put, Jo.za, Jo.zb, Jo.zc] at hK ⊢
      rw [show vs 42 = _ from hd 42 (by decide)] at hK ⊢
      clear hd
      go_simp
      exact hK.out _ _ rfl (Below.refl _ _)
    exact Jo.Steps.nil
  have d38 : (Jo.Fact.il8 2 [y, x]).P (vs 38) wA := hd 38 (by decide)
  have d39 : (Jo.Fact.iv m).P (vs 39) wA := hd 39 (by decide)
  simp only [Jo.putl, Jo.zd, Jo.ze, Act.put, Jo.za, Jo.zb, Jo.zc]
  rw [show vs 0 = _ from hd 0 (by decide), show vs 1 = _ from hd 1 (by decide), show vs 2 = _ from hd 2 (by decide), show vs 3 = _ from hd 3 (by decide), show vs 4 = _ from hd 4 (by decide), show vs 5 = _ from hd 5 (by decide), show vs 6 = _ from hd 6 (by decide), show vs 7 = _ from hd 7 (by decide), show vs 8 = _ from hd 8 (by decide), show vs 9 = _ from hd 9 (by decide), show vs 10 = _ from hd 10 (by decide), show vs 11 = _ from hd 11 (by decide), show vs 12 = _ from hd 12 (by decide), show vs 13 = _ from hd 13 (by decide), show vs 14 = _ from hd 14 (by decide), show vs 15 = _ from hd 15 (by decide), show vs 16 = _ from hd 16 (by decide), show vs 17 = _ from hd 17 (by decide), show vs 18 = _ from hd 18 (by decide), show vs 19 = _ from hd 19 (by decide), show vs 20 = _ from hd 20 (by decide), show vs 21 = _ from hd 21 (by decide), show vs 22 = _ from hd 22 (by decide), show vs 23 = _ from hd 23 (by decide), show vs 24 = _ from hd 24 (by decide), show vs 25 = _ from hd 25 (by decide), show vs 26 = _ from hd 26 (by decide), show vs 27 = _ from hd 27 (by decide), show vs 28 = _ from hd 28 (by decide), show vs 29 = _ from hd 29 (by decide), show vs 30 = _ from hd 30 (by decide), show vs 31 = _ from hd 31 (by decide), show vs 32 = _ from hd 32 (by decide), show vs 33 = _ from hd 33 (by decide), show vs 34 = _ from hd 34 (by decide), show vs 35 = _ from hd 35 (by decide), show vs 36 = _ from hd 36 (by decide), show vs 37 = _ from hd 37 (by decide), show vs 40 = _ from hd 40 (by decide), show vs 41 = _ from hd 41 (by decide), show vs 42 = _ from hd 42 (by decide), show vs 43 = _ from hd 43 (by decide)]
  clear hd
  generalize vs 38 = u38 at d38 ⊢
  generalize vs 39 = u39 at d39 ⊢
  obtain ⟨_, _, rfl, _⟩ := d38
  obtain ⟨e23, K23, s23, M23, E23, K23b, s23b, M23b, E23b, rfl, v23⟩ := d39
  replace X0 := X0.below hJ
  replace X1 := X1.below hJ
  replace X6 := X6.below hJ
  replace X7 := X7.below hJ
  replace HB := Lib.hid (bt HB.out hJ)
  refine Jo.jdone (by kernel_rfl) ?_
  go_wp2
  go_ret
  exact ⟨rfl, HB.out⟩

theorem ivOrder_walk (e0 : Bool) (D0 : Int) (s0 : Bool) (M0 E0 G0 : Int) (g0 : Bool) (P0 Q0 : Int) (e1 : Bool) (D1 : Int) (s1 : Bool) (M1 E1 G1 : Int) (g1 : Bool) (P1 Q1 : Int) (w : World) (u0 : M0 < 18446744073709551616) (v0 : P0 < 18446744073709551616) (u1 : M1 < 18446744073709551616) (v1 : P1 < 18446744073709551616) :
    Calls Try.prog 6 #[.agg #[.bool e0, .int .i64 D0, .bool s0, .int .u64 M0, .int .i64 E0, .int .i64 G0, .bool g0, .int .u64 P0, .int .i64 Q0], .agg #[.bool e1, .int .i64 D1, .bool s1, .int .u64 M1, .int .i64 E1, .int .i64 G1, .bool g1, .int .u64 P1, .int .i64 Q1]] w fun e w' => e = .returned (.bool true) ∧ Below w.heap.size w w' := by
  cases h0 : mayI e0 D0 s0 M0 E0 G0 g0 P0 Q0
  · exact ivOrder_no0 e0 D0 s0 M0 E0 G0 g0 P0 Q0 e1 D1 s1 M1 E1 G1 g1 P1 Q1 w u0 v0 h0
  · cases h1 : mayI e1 D1 s1 M1 E1 G1 g1 P1 Q1
    · exact ivOrder_no1 e0 D0 s0 M0 E0 G0 g0 P0 Q0 e1 D1 s1 M1 E1 G1 g1 P1 Q1 w u0 v0 u1 v1 h0 h1
    · have c0 := mayI_ci u0 v0 h0
      have c1 := mayI_ci u1 v1 h1
      obtain ⟨x, hx⟩ : ∃ x, rkI e0 D0 s0 M0 E0 G0 g0 P0 Q0 = x := ⟨_, rfl⟩
      obtain ⟨y, hy⟩ : ∃ y, rkI e1 D1 s1 M1 E1 G1 g1 P1 Q1 = y := ⟨_, rfl⟩
      rw [hx] at c0
      rw [hy] at c1
      have j1 := meet2 (y := y) c0.ok
      have j2 := meet2 (y := x) c1.ok
      have j3 : hullL [x, y] = hullI x y := rfl
      have k2 : witI (meetI x y) y = true := by rw [meet_comm]; exact wit_meet
      have k4 : witI y (hullI x y) = true := by rw [hull_comm]; exact wit_hull c1.ok c0.ok
      cases h5 : witI x y
      · exact ivOrder_f e0 D0 s0 M0 E0 G0 g0 P0 Q0 e1 D1 s1 M1 E1 G1 g1 P1 Q1 w x y _ _ c0 c1 j1 (j2.trans (meet_comm y x)) j3 wit_meet k2 (wit_hull c0.ok c1.ok) k4 h5 (fun c => by rw [(wit_is_meet c0.ok c1.ok).2 c] at h5; cases h5) (fun c => by rw [(wit_is_hull c0.ok c1.ok).2 c] at h5; cases h5)
      · exact ivOrder_t e0 D0 s0 M0 E0 G0 g0 P0 Q0 e1 D1 s1 M1 E1 G1 g1 P1 Q1 w x y _ _ c0 c1 j1 (j2.trans (meet_comm y x)) j3 wit_meet k2 (wit_hull c0.ok c1.ok) k4 h5 ((wit_is_meet c0.ok c1.ok).1 h5) ((wit_is_hull c0.ok c1.ok).1 h5)
end Go.Proofs.Ythhlccdmflgbbaa

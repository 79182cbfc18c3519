/-
  The walk of IvMany: for all arguments the call answers true, and nothing that was there has turned.
-/
import Derived.Test.YthhlccdmflgbbaaYAar
namespace Go.Proofs.Ythhlccdmflgbbaa
open Go.RowKit
set_option linter.unusedVariables false
set_option linter.unusedSimpArgs false
set_option maxRecDepth 100000

set_option maxHeartbeats 8000000 in
theorem ivMany_no0 (e0 : Bool) (D0 : Int) (s0 : Bool) (M0 E0 G0 : Int) (g0 : Bool) (P0 Q0 : Int) (e1 : Bool) (D1 : Int) (s1 : Bool) (M1 E1 G1 : Int) (g1 : Bool) (P1 Q1 : Int) (e2 : Bool) (D2 : Int) (s2 : Bool) (M2 E2 G2 : Int) (g2 : Bool) (P2 Q2 : Int) (w : World) (u0 : M0 < 18446744073709551616) (v0 : P0 < 18446744073709551616) (h0 : mayI e0 D0 s0 M0 E0 G0 g0 P0 Q0 = false) :
    Calls Try.prog 7 #[.agg #[.bool e0, .int .i64 D0, .bool s0, .int .u64 M0, .int .i64 E0, .int .i64 G0, .bool g0, .int .u64 P0, .int .i64 Q0], .agg #[.bool e1, .int .i64 D1, .bool s1, .int .u64 M1, .int .i64 E1, .int .i64 G1, .bool g1, .int .u64 P1, .int .i64 Q1], .agg #[.bool e2, .int .i64 D2, .bool s2, .int .u64 M2, .int .i64 E2, .int .i64 G2, .bool g2, .int .u64 P2, .int .i64 Q2]] w (PB w true) := by
  have H0 := Lib.hid h0
  clear h0
  go_enter Try.func7, Try.ntmps7
  go_upto_region 1 with (fail)
  have X0 := (Bo.newAt w (g := w.heap.size) (by simp) #[.bool e0, .int .i64 D0, .bool s0, .int .u64 M0, .int .i64 E0, .int .i64 G0, .bool g0, .int .u64 P0, .int .i64 Q0] 26).below (bel2 _ (.cells #[.bool e1, .int .i64 D1, .bool s1, .int .u64 M1, .int .i64 E1, .int .i64 G1, .bool g1, .int .u64 P1, .int .i64 Q1] 26) (.cells #[.bool e2, .int .i64 D2, .bool s2, .int .u64 M2, .int .i64 E2, .int .i64 G2, .bool g2, .int .u64 P2, .int .i64 Q2] 26))
  have X1 := (Bo.newAt (w.alloc (.cells #[.bool e0, .int .i64 D0, .bool s0, .int .u64 M0, .int .i64 E0, .int .i64 G0, .bool g0, .int .u64 P0, .int .i64 Q0] 26)) (g := w.heap.size + 1) (by simp) #[.bool e1, .int .i64 D1, .bool s1, .int .u64 M1, .int .i64 E1, .int .i64 G1, .bool g1, .int .u64 P1, .int .i64 Q1] 26).below (bel1 _ (.cells #[.bool e2, .int .i64 D2, .bool s2, .int .u64 M2, .int .i64 E2, .int .i64 G2, .bool g2, .int .u64 P2, .int .i64 Q2] 26))
  have X2 := (Bo.newAt ((w.alloc (.cells #[.bool e0, .int .i64 D0, .bool s0, .int .u64 M0, .int .i64 E0, .int .i64 G0, .bool g0, .int .u64 P0, .int .i64 Q0] 26)).alloc (.cells #[.bool e1, .int .i64 D1, .bool s1, .int .u64 M1, .int .i64 E1, .int .i64 G1, .bool g1, .int .u64 P1, .int .i64 Q1] 26)) (g := w.heap.size + 1 + 1) (by simp) #[.bool e2, .int .i64 D2, .bool s2, .int .u64 M2, .int .i64 E2, .int .i64 G2, .bool g2, .int .u64 P2, .int .i64 Q2] 26)
  have HB := Lib.hid (bel3 w (.cells #[.bool e0, .int .i64 D0, .bool s0, .int .u64 M0, .int .i64 E0, .int .i64 G0, .bool g0, .int .u64 P0, .int .i64 Q0] 26) (.cells #[.bool e1, .int .i64 D1, .bool s1, .int .u64 M1, .int .i64 E1, .int .i64 G1, .bool g1, .int .u64 P1, .int .i64 Q1] 26) (.cells #[.bool e2, .int .i64 D2, .bool s2, .int .u64 M2, .int .i64 E2, .int .i64 G2, .bool g2, .int .u64 P2, .int .i64 Q2] 26))
  generalize hW1 : (((w.alloc (.cells #[.bool e0, .int .i64 D0, .bool s0, .int .u64 M0, .int .i64 E0, .int .i64 G0, .bool g0, .int .u64 P0, .int .i64 Q0] 26)).alloc (.cells #[.bool e1, .int .i64 D1, .bool s1, .int .u64 M1, .int .i64 E1, .int .i64 G1, .bool g1, .int .u64 P1, .int .i64 Q1] 26)).alloc (.cells #[.bool e2, .int .i64 D2, .bool s2, .int .u64 M2, .int .i64 E2, .int .i64 G2, .bool g2, .int .u64 P2, .int .i64 Q2] 26)) = w1 at *
  clear hW1
  go_wp2_with fail
  refine (awake8).mono ?_
  rintro ee w2 ⟨rfl, B⟩
  replace X0 := X0.below B
  replace X1 := X1.below B
  replace X2 := X2.below B
  replace HB := Lib.hid (bt HB.out B)
  clear B
  obtain ⟨xX00, xX01, xX02, xX03, xX04, xX05, xX06, xX07, xX08⟩ := X0.ce9 rfl rfl rfl rfl rfl rfl rfl rfl rfl
  go_wp2_with fail
  refine (kvMay u0 v0 H0.out).mono ?_
  rintro ee w3 ⟨rfl, B⟩
  clear xX00 xX01 xX02 xX03 xX04 xX05 xX06 xX07 xX08
  replace X0 := X0.below B
  replace X1 := X1.below B
  replace X2 := X2.below B
  replace HB := Lib.hid (bt HB.out B)
  clear B
  go_wp2
  go_ret
  exact ⟨rfl, HB.out⟩
set_option maxHeartbeats 8000000 in
theorem ivMany_no1 (e0 : Bool) (D0 : Int) (s0 : Bool) (M0 E0 G0 : Int) (g0 : Bool) (P0 Q0 : Int) (e1 : Bool) (D1 : Int) (s1 : Bool) (M1 E1 G1 : Int) (g1 : Bool) (P1 Q1 : Int) (e2 : Bool) (D2 : Int) (s2 : Bool) (M2 E2 G2 : Int) (g2 : Bool) (P2 Q2 : Int) (w : World) (u0 : M0 < 18446744073709551616) (v0 : P0 < 18446744073709551616) (u1 : M1 < 18446744073709551616) (v1 : P1 < 18446744073709551616) (h0 : mayI e0 D0 s0 M0 E0 G0 g0 P0 Q0 = true) (h1 : mayI e1 D1 s1 M1 E1 G1 g1 P1 Q1 = false) :
    Calls Try.prog 7 #[.agg #[.bool e0, .int .i64 D0, .bool s0, .int .u64 M0, .int .i64 E0, .int .i64 G0, .bool g0, .int .u64 P0, .int .i64 Q0], .agg #[.bool e1, .int .i64 D1, .bool s1, .int .u64 M1, .int .i64 E1, .int .i64 G1, .bool g1, .int .u64 P1, .int .i64 Q1], .agg #[.bool e2, .int .i64 D2, .bool s2, .int .u64 M2, .int .i64 E2, .int .i64 G2, .bool g2, .int .u64 P2, .int .i64 Q2]] w (PB w true) := by
  have H0 := Lib.hid h0
  have H1 := Lib.hid h1
  clear h0 h1
  go_enter Try.func7, Try.ntmps7
  go_upto_region 1 with (fail)
  have X0 := (Bo.newAt w (g := w.heap.size) (by simp) #[.bool e0, .int .i64 D0, .bool s0, .int .u64 M0, .int .i64 E0, .int .i64 G0, .bool g0, .int .u64 P0, .int .i64 Q0] 26).below (bel2 _ (.cells #[.bool e1, .int .i64 D1, .bool s1, .int .u64 M1, .int .i64 E1, .int .i64 G1, .bool g1, .int .u64 P1, .int .i64 Q1] 26) (.cells #[.bool e2, .int .i64 D2, .bool s2, .int .u64 M2, .int .i64 E2, .int .i64 G2, .bool g2, .int .u64 P2, .int .i64 Q2] 26))
  have X1 := (Bo.newAt (w.alloc (.cells #[.bool e0, .int .i64 D0, .bool s0, .int .u64 M0, .int .i64 E0, .int .i64 G0, .bool g0, .int .u64 P0, .int .i64 Q0] 26)) (g := w.heap.size + 1) (by simp) #[.bool e1, .int .i64 D1, .bool s1, .int .u64 M1, .int .i64 E1, .int .i64 G1, .bool g1, .int .u64 P1, .int .i64 Q1] 26).below (bel1 _ (.cells #[.bool e2, .int .i64 D2, .bool s2, .int .u64 M2, .int .i64 E2, .int .i64 G2, .bool g2, .int .u64 P2, .int .i64 Q2] 26))
  have X2 := (Bo.newAt ((w.alloc (.cells #[.bool e0, .int .i64 D0, .bool s0, .int .u64 M0, .int .i64 E0, .int .i64 G0, .bool g0, .int .u64 P0, .int .i64 Q0] 26)).alloc (.cells #[.bool e1, .int .i64 D1, .bool s1, .int .u64 M1, .int .i64 E1, .int .i64 G1, .bool g1, .int .u64 P1, .int .i64 Q1] 26)) (g := w.heap.size + 1 + 1) (by simp) #[.bool e2, .int .i64 D2, .bool s2, .int .u64 M2, .int .i64 E2, .int .i64 G2, .bool g2, .int .u64 P2, .int .i64 Q2] 26)
  have HB := Lib.hid (bel3 w (.cells #[.bool e0, .int .i64 D0, .bool s0, .int .u64 M0, .int .i64 E0, .int .i64 G0, .bool g0, .int .u64 P0, .int .i64 Q0] 26) (.cells #[.bool e1, .int .i64 D1, .bool s1, .int .u64 M1, .int .i64 E1, .int .i64 G1, .bool g1, .int .u64 P1, .int .i64 Q1] 26) (.cells #[.bool e2, .int .i64 D2, .bool s2, .int .u64 M2, .int .i64 E2, .int .i64 G2, .bool g2, .int .u64 P2, .int .i64 Q2] 26))
  generalize hW1 : (((w.alloc (.cells #[.bool e0, .int .i64 D0, .bool s0, .int .u64 M0, .int .i64 E0, .int .i64 G0, .bool g0, .int .u64 P0, .int .i64 Q0] 26)).alloc (.cells #[.bool e1, .int .i64 D1, .bool s1, .int .u64 M1, .int .i64 E1, .int .i64 G1, .bool g1, .int .u64 P1, .int .i64 Q1] 26)).alloc (.cells #[.bool e2, .int .i64 D2, .bool s2, .int .u64 M2, .int .i64 E2, .int .i64 G2, .bool g2, .int .u64 P2, .int .i64 Q2] 26)) = w1 at *
  clear hW1
  go_wp2_with fail
  refine (awake8).mono ?_
  rintro ee w2 ⟨rfl, B⟩
  replace X0 := X0.below B
  replace X1 := X1.below B
  replace X2 := X2.below B
  replace HB := Lib.hid (bt HB.out B)
  clear B
  obtain ⟨xX00, xX01, xX02, xX03, xX04, xX05, xX06, xX07, xX08⟩ := X0.ce9 rfl rfl rfl rfl rfl rfl rfl rfl rfl
  go_wp2_with fail
  refine (kvMay u0 v0 H0.out).mono ?_
  rintro ee w3 ⟨rfl, B⟩
  clear xX00 xX01 xX02 xX03 xX04 xX05 xX06 xX07 xX08
  replace X0 := X0.below B
  replace X1 := X1.below B
  replace X2 := X2.below B
  replace HB := Lib.hid (bt HB.out B)
  clear B
  obtain ⟨xX10, xX11, xX12, xX13, xX14, xX15, xX16, xX17, xX18⟩ := X1.ce9 rfl rfl rfl rfl rfl rfl rfl rfl rfl
  go_wp2_with fail
  refine (kvMay u1 v1 H1.out).mono ?_
  rintro ee w4 ⟨rfl, B⟩
  clear xX10 xX11 xX12 xX13 xX14 xX15 xX16 xX17 xX18
  replace X0 := X0.below B
  replace X1 := X1.below B
  replace X2 := X2.below B
  replace HB := Lib.hid (bt HB.out B)
  clear B
  go_wp2
  go_ret
  exact ⟨rfl, HB.out⟩
set_option maxHeartbeats 8000000 in
theorem ivMany_no2 (e0 : Bool) (D0 : Int) (s0 : Bool) (M0 E0 G0 : Int) (g0 : Bool) (P0 Q0 : Int) (e1 : Bool) (D1 : Int) (s1 : Bool) (M1 E1 G1 : Int) (g1 : Bool) (P1 Q1 : Int) (e2 : Bool) (D2 : Int) (s2 : Bool) (M2 E2 G2 : Int) (g2 : Bool) (P2 Q2 : Int) (w : World) (u0 : M0 < 18446744073709551616) (v0 : P0 < 18446744073709551616) (u1 : M1 < 18446744073709551616) (v1 : P1 < 18446744073709551616) (u2 : M2 < 18446744073709551616) (v2 : P2 < 18446744073709551616) (h0 : mayI e0 D0 s0 M0 E0 G0 g0 P0 Q0 = true) (h1 : mayI e1 D1 s1 M1 E1 G1 g1 P1 Q1 = true) (h2 : mayI e2 D2 s2 M2 E2 G2 g2 P2 Q2 = false) :
    Calls Try.prog 7 #[.agg #[.bool e0, .int .i64 D0, .bool s0, .int .u64 M0, .int .i64 E0, .int .i64 G0, .bool g0, .int .u64 P0, .int .i64 Q0], .agg #[.bool e1, .int .i64 D1, .bool s1, .int .u64 M1, .int .i64 E1, .int .i64 G1, .bool g1, .int .u64 P1, .int .i64 Q1], .agg #[.bool e2, .int .i64 D2, .bool s2, .int .u64 M2, .int .i64 E2, .int .i64 G2, .bool g2, .int .u64 P2, .int .i64 Q2]] w (PB w true) := by
  have H0 := Lib.hid h0
  have H1 := Lib.hid h1
  have H2 := Lib.hid h2
  clear h0 h1 h2
  go_enter Try.func7, Try.ntmps7
  go_upto_region 1 with (fail)
  have X0 := (Bo.newAt w (g := w.heap.size) (by simp) #[.bool e0, .int .i64 D0, .bool s0, .int .u64 M0, .int .i64 E0, .int .i64 G0, .bool g0, .int .u64 P0, .int .i64 Q0] 26).below (bel2 _ (.cells #[.bool e1, .int .i64 D1, .bool s1, .int .u64 M1, .int .i64 E1, .int .i64 G1, .bool g1, .int .u64 P1, .int .i64 Q1] 26) (.cells #[.bool e2, .int .i64 D2, .bool s2, .int .u64 M2, .int .i64 E2, .int .i64 G2, .bool g2, .int .u64 P2, .int .i64 Q2] 26))
  have X1 := (Bo.newAt (w.alloc (.cells #[.bool e0, .int .i64 D0, .bool s0, .int .u64 M0, .int .i64 E0, .int .i64 G0, .bool g0, .int .u64 P0, .int .i64 Q0] 26)) (g := w.heap.size + 1) (by simp) #[.bool e1, .int .i64 D1, .bool s1, .int .u64 M1, .int .i64 E1, .int .i64 G1, .bool g1, .int .u64 P1, .int .i64 Q1] 26).below (bel1 _ (.cells #[.bool e2, .int .i64 D2, .bool s2, .int .u64 M2, .int .i64 E2, .int .i64 G2, .bool g2, .int .u64 P2, .int .i64 Q2] 26))
  have X2 := (Bo.newAt ((w.alloc (.cells #[.bool e0, .int .i64 D0, .bool s0, .int .u64 M0, .int .i64 E0, .int .i64 G0, .bool g0, .int .u64 P0, .int .i64 Q0] 26)).alloc (.cells #[.bool e1, .int .i64 D1, .bool s1, .int .u64 M1, .int .i64 E1, .int .i64 G1, .bool g1, .int .u64 P1, .int .i64 Q1] 26)) (g := w.heap.size + 1 + 1) (by simp) #[.bool e2, .int .i64 D2, .bool s2, .int .u64 M2, .int .i64 E2, .int .i64 G2, .bool g2, .int .u64 P2, .int .i64 Q2] 26)
  have HB := Lib.hid (bel3 w (.cells #[.bool e0, .int .i64 D0, .bool s0, .int .u64 M0, .int .i64 E0, .int .i64 G0, .bool g0, .int .u64 P0, .int .i64 Q0] 26) (.cells #[.bool e1, .int .i64 D1, .bool s1, .int .u64 M1, .int .i64 E1, .int .i64 G1, .bool g1, .int .u64 P1, .int .i64 Q1] 26) (.cells #[.bool e2, .int .i64 D2, .bool s2, .int .u64 M2, .int .i64 E2, .int .i64 G2, .bool g2, .int .u64 P2, .int .i64 Q2] 26))
  generalize hW1 : (((w.alloc (.cells #[.bool e0, .int .i64 D0, .bool s0, .int .u64 M0, .int .i64 E0, .int .i64 G0, .bool g0, .int .u64 P0, .int .i64 Q0] 26)).alloc (.cells #[.bool e1, .int .i64 D1, .bool s1, .int .u64 M1, .int .i64 E1, .int .i64 G1, .bool g1, .int .u64 P1, .int .i64 Q1] 26)).alloc (.cells #[.bool e2, .int .i64 D2, .bool s2, .int .u64 M2, .int .i64 E2, .int .i64 G2, .bool g2, .int .u64 P2, .int .i64 Q2] 26)) = w1 at *
  clear hW1
  go_wp2_with fail
  refine (awake8).mono ?_
  rintro ee w2 ⟨rfl, B⟩
  replace X0 := X0.below B
  replace X1 := X1.below B
  replace X2 := X2.below B
  replace HB := Lib.hid (bt HB.out B)
  clear B
  obtain ⟨xX00, xX01, xX02, xX03, xX04, xX05, xX06, xX07, xX08⟩ := X0.ce9 rfl rfl rfl rfl rfl rfl rfl rfl rfl
  go_wp2_with fail
  refine (kvMay u0 v0 H0.out).mono ?_
  rintro ee w3 ⟨rfl, B⟩
  clear xX00 xX01 xX02 xX03 xX04 xX05 xX06 xX07 xX08
  replace X0 := X0.below B
  replace X1 := X1.below B
  replace X2 := X2.below B
  replace HB := Lib.hid (bt HB.out B)
  clear B
  obtain ⟨xX10, xX11, xX12, xX13, xX14, xX15, xX16, xX17, xX18⟩ := X1.ce9 rfl rfl rfl rfl rfl rfl rfl rfl rfl
  go_wp2_with fail
  refine (kvMay u1 v1 H1.out).mono ?_
  rintro ee w4 ⟨rfl, B⟩
  clear xX10 xX11 xX12 xX13 xX14 xX15 xX16 xX17 xX18
  replace X0 := X0.below B
  replace X1 := X1.below B
  replace X2 := X2.below B
  replace HB := Lib.hid (bt HB.out B)
  clear B
  obtain ⟨xX20, xX21, xX22, xX23, xX24, xX25, xX26, xX27, xX28⟩ := X2.ce9 rfl rfl rfl rfl rfl rfl rfl rfl rfl
  go_wp2_with fail
  refine (kvMay u2 v2 H2.out).mono ?_
  rintro ee w5 ⟨rfl, B⟩
  clear xX20 xX21 xX22 xX23 xX24 xX25 xX26 xX27 xX28
  replace X0 := X0.below B
  replace X1 := X1.below B
  replace X2 := X2.below B
  replace HB := Lib.hid (bt HB.out B)
  clear B
  go_wp2
  go_ret
  exact ⟨rfl, HB.out⟩
theorem il8_nil {w : World} : Il8 w none 0 0 [] := ⟨rfl, Nat.le_refl _, by decide, fun h => absurd h (by decide)⟩
set_option maxHeartbeats 8000000 in
theorem ivMany_main (e0 : Bool) (D0 : Int) (s0 : Bool) (M0 E0 G0 : Int) (g0 : Bool) (P0 Q0 : Int) (e1 : Bool) (D1 : Int) (s1 : Bool) (M1 E1 G1 : Int) (g1 : Bool) (P1 Q1 : Int) (e2 : Bool) (D2 : Int) (s2 : Bool) (M2 E2 G2 : Int) (g2 : Bool) (P2 Q2 : Int) (w : World) (x y z m h p q : Sp) (c0 : Ci e0 D0 s0 M0 E0 G0 g0 P0 Q0 x) (c1 : Ci e1 D1 s1 M1 E1 G1 g1 P1 Q1 y) (c2 : Ci e2 D2 s2 M2 E2 G2 g2 P2 Q2 z) (hm : meetL [x, y, z] = m) (hh : hullL [x, y, z] = h) (hp : meetL [z, x] = p) (hm2 : meetL [p, y] = m) (hq : hullL [x, z] = q) (hh2 : hullL [y, q] = h)
    (h1 : meetL [x] = x) (h2 : hullL [x] = x) (h3 : hullL [x, x] = x) (h4 : meetL [x, x] = x) :
    Calls Try.prog 7 #[.agg #[.bool e0, .int .i64 D0, .bool s0, .int .u64 M0, .int .i64 E0, .int .i64 G0, .bool g0, .int .u64 P0, .int .i64 Q0], .agg #[.bool e1, .int .i64 D1, .bool s1, .int .u64 M1, .int .i64 E1, .int .i64 G1, .bool g1, .int .u64 P1, .int .i64 Q1], .agg #[.bool e2, .int .i64 D2, .bool s2, .int .u64 M2, .int .i64 E2, .int .i64 G2, .bool g2, .int .u64 P2, .int .i64 Q2]] w (PB w true) := by
  have HME := Lib.hid hm
  have HHU := Lib.hid hh
  have HP := Lib.hid hp
  have HM2 := Lib.hid hm2
  have HQ := Lib.hid hq
  have HH2 := Lib.hid hh2
  have H1 := Lib.hid h1
  have H2 := Lib.hid h2
  have H3 := Lib.hid h3
  have H4 := Lib.hid h4
  clear hm hh hp hm2 hq hh2 h1 h2 h3 h4
  go_enter Try.func7, Try.ntmps7
  go_upto_region 1 with (fail)
  have X0 := (Bo.newAt w (g := w.heap.size) (by simp) #[.bool e0, .int .i64 D0, .bool s0, .int .u64 M0, .int .i64 E0, .int .i64 G0, .bool g0, .int .u64 P0, .int .i64 Q0] 26).below (bel2 _ (.cells #[.bool e1, .int .i64 D1, .bool s1, .int .u64 M1, .int .i64 E1, .int .i64 G1, .bool g1, .int .u64 P1, .int .i64 Q1] 26) (.cells #[.bool e2, .int .i64 D2, .bool s2, .int .u64 M2, .int .i64 E2, .int .i64 G2, .bool g2, .int .u64 P2, .int .i64 Q2] 26))
  have X1 := (Bo.newAt (w.alloc (.cells #[.bool e0, .int .i64 D0, .bool s0, .int .u64 M0, .int .i64 E0, .int .i64 G0, .bool g0, .int .u64 P0, .int .i64 Q0] 26)) (g := w.heap.size + 1) (by simp) #[.bool e1, .int .i64 D1, .bool s1, .int .u64 M1, .int .i64 E1, .int .i64 G1, .bool g1, .int .u64 P1, .int .i64 Q1] 26).below (bel1 _ (.cells #[.bool e2, .int .i64 D2, .bool s2, .int .u64 M2, .int .i64 E2, .int .i64 G2, .bool g2, .int .u64 P2, .int .i64 Q2] 26))
  have X2 := (Bo.newAt ((w.alloc (.cells #[.bool e0, .int .i64 D0, .bool s0, .int .u64 M0, .int .i64 E0, .int .i64 G0, .bool g0, .int .u64 P0, .int .i64 Q0] 26)).alloc (.cells #[.bool e1, .int .i64 D1, .bool s1, .int .u64 M1, .int .i64 E1, .int .i64 G1, .bool g1, .int .u64 P1, .int .i64 Q1] 26)) (g := w.heap.size + 1 + 1) (by simp) #[.bool e2, .int .i64 D2, .bool s2, .int .u64 M2, .int .i64 E2, .int .i64 G2, .bool g2, .int .u64 P2, .int .i64 Q2] 26)
  have HB := Lib.hid (bel3 w (.cells #[.bool e0, .int .i64 D0, .bool s0, .int .u64 M0, .int .i64 E0, .int .i64 G0, .bool g0, .int .u64 P0, .int .i64 Q0] 26) (.cells #[.bool e1, .int .i64 D1, .bool s1, .int .u64 M1, .int .i64 E1, .int .i64 G1, .bool g1, .int .u64 P1, .int .i64 Q1] 26) (.cells #[.bool e2, .int .i64 D2, .bool s2, .int .u64 M2, .int .i64 E2, .int .i64 G2, .bool g2, .int .u64 P2, .int .i64 Q2] 26))
  generalize hW1 : (((w.alloc (.cells #[.bool e0, .int .i64 D0, .bool s0, .int .u64 M0, .int .i64 E0, .int .i64 G0, .bool g0, .int .u64 P0, .int .i64 Q0] 26)).alloc (.cells #[.bool e1, .int .i64 D1, .bool s1, .int .u64 M1, .int .i64 E1, .int .i64 G1, .bool g1, .int .u64 P1, .int .i64 Q1] 26)).alloc (.cells #[.bool e2, .int .i64 D2, .bool s2, .int .u64 M2, .int .i64 E2, .int .i64 G2, .bool g2, .int .u64 P2, .int .i64 Q2] 26)) = w1 at *
  clear hW1
  go_wp2_with fail
  refine (awake8).mono ?_
  rintro ee w2 ⟨rfl, B⟩
  replace X0 := X0.below B
  replace X1 := X1.below B
  replace X2 := X2.below B
  replace HB := Lib.hid (bt HB.out B)
  clear B
  obtain ⟨xX00, xX01, xX02, xX03, xX04, xX05, xX06, xX07, xX08⟩ := X0.ce9 rfl rfl rfl rfl rfl rfl rfl rfl rfl
  go_wp2_with fail
  refine (kvMay c0.top.1 c0.top.2 c0.may).mono ?_
  rintro ee w3 ⟨rfl, B⟩
  clear xX00 xX01 xX02 xX03 xX04 xX05 xX06 xX07 xX08
  replace X0 := X0.below B
  replace X1 := X1.below B
  replace X2 := X2.below B
  replace HB := Lib.hid (bt HB.out B)
  clear B
  obtain ⟨xX10, xX11, xX12, xX13, xX14, xX15, xX16, xX17, xX18⟩ := X1.ce9 rfl rfl rfl rfl rfl rfl rfl rfl rfl
  go_wp2_with fail
  refine (kvMay c1.top.1 c1.top.2 c1.may).mono ?_
  rintro ee w4 ⟨rfl, B⟩
  clear xX10 xX11 xX12 xX13 xX14 xX15 xX16 xX17 xX18
  replace X0 := X0.below B
  replace X1 := X1.below B
  replace X2 := X2.below B
  replace HB := Lib.hid (bt HB.out B)
  clear B
  obtain ⟨xX20, xX21, xX22, xX23, xX24, xX25, xX26, xX27, xX28⟩ := X2.ce9 rfl rfl rfl rfl rfl rfl rfl rfl rfl
  go_wp2_with fail
  refine (kvMay c2.top.1 c2.top.2 c2.may).mono ?_
  rintro ee w5 ⟨rfl, B⟩
  clear xX20 xX21 xX22 xX23 xX24 xX25 xX26 xX27 xX28
  replace X0 := X0.below B
  replace X1 := X1.below B
  replace X2 := X2.below B
  replace HB := Lib.hid (bt HB.out B)
  clear B
  obtain ⟨xX00, xX01, xX02, xX03, xX04, xX05, xX06, xX07, xX08⟩ := X0.ce9 rfl rfl rfl rfl rfl rfl rfl rfl rfl
  obtain ⟨xX10, xX11, xX12, xX13, xX14, xX15, xX16, xX17, xX18⟩ := X1.ce9 rfl rfl rfl rfl rfl rfl rfl rfl rfl
  obtain ⟨xX20, xX21, xX22, xX23, xX24, xX25, xX26, xX27, xX28⟩ := X2.ce9 rfl rfl rfl rfl rfl rfl rfl rfl rfl
  go_wp2_with fail
  refine (kvMeet (Il8.lit3 rfl c0.rw c1.rw c2.rw) HME.out).mono ?_
  rintro ee w6 ⟨e20, K20, s20, M20, E20, K20b, s20b, M20b, E20b, rfl, v20, B⟩
  clear xX00 xX01 xX02 xX03 xX04 xX05 xX06 xX07 xX08 xX10 xX11 xX12 xX13 xX14 xX15 xX16 xX17 xX18 xX20 xX21 xX22 xX23 xX24 xX25 xX26 xX27 xX28
  replace B := bt (bel1 _ _) B
  replace X0 := X0.below B
  replace X1 := X1.below B
  replace X2 := X2.below B
  replace HB := Lib.hid (bt HB.out B)
  clear B
  go_upto_region 5 with (fail)
  have lX8 := Nat.le_refl (World.heap w6).size
  have nX8X0 := X0.lt
  have nX8X1 := X1.lt
  have nX8X2 := X2.lt
  replace X0 := X0.below (bel1 _ (.cells #[.bool e20, .int .i64 K20, .bool s20, .int .u64 M20, .int .i64 E20, .int .i64 K20b, .bool s20b, .int .u64 M20b, .int .i64 E20b] 26))
  replace X1 := X1.below (bel1 _ (.cells #[.bool e20, .int .i64 K20, .bool s20, .int .u64 M20, .int .i64 E20, .int .i64 K20b, .bool s20b, .int .u64 M20b, .int .i64 E20b] 26))
  replace X2 := X2.below (bel1 _ (.cells #[.bool e20, .int .i64 K20, .bool s20, .int .u64 M20, .int .i64 E20, .int .i64 K20b, .bool s20b, .int .u64 M20b, .int .i64 E20b] 26))
  replace HB := Lib.hid (bt HB.out (bel1 _ (.cells #[.bool e20, .int .i64 K20, .bool s20, .int .u64 M20, .int .i64 E20, .int .i64 K20b, .bool s20b, .int .u64 M20b, .int .i64 E20b] 26)))
  have X8 := Bo.new w6 #[.bool e20, .int .i64 K20, .bool s20, .int .u64 M20, .int .i64 E20, .int .i64 K20b, .bool s20b, .int .u64 M20b, .int .i64 E20b] 26
  generalize hWn : World.alloc w6 (.cells #[.bool e20, .int .i64 K20, .bool s20, .int .u64 M20, .int .i64 E20, .int .i64 K20b, .bool s20b, .int .u64 M20b, .int .i64 E20b] 26) = w7 at *
  clear hWn
  clear lX8
  obtain ⟨xX00, xX01, xX02, xX03, xX04, xX05, xX06, xX07, xX08⟩ := X0.ce9 rfl rfl rfl rfl rfl rfl rfl rfl rfl
  obtain ⟨xX10, xX11, xX12, xX13, xX14, xX15, xX16, xX17, xX18⟩ := X1.ce9 rfl rfl rfl rfl rfl rfl rfl rfl rfl
  obtain ⟨xX20, xX21, xX22, xX23, xX24, xX25, xX26, xX27, xX28⟩ := X2.ce9 rfl rfl rfl rfl rfl rfl rfl rfl rfl
  go_wp2_with fail
  refine (kvHull (Il8.lit3 rfl c0.rw c1.rw c2.rw) HHU.out).mono ?_
  rintro ee w8 ⟨e21, K21, s21, M21, E21, K21b, s21b, M21b, E21b, rfl, v21, B⟩
  clear xX00 xX01 xX02 xX03 xX04 xX05 xX06 xX07 xX08 xX10 xX11 xX12 xX13 xX14 xX15 xX16 xX17 xX18 xX20 xX21 xX22 xX23 xX24 xX25 xX26 xX27 xX28
  replace B := bt (bel1 _ _) B
  replace X0 := X0.below B
  replace X1 := X1.below B
  replace X2 := X2.below B
  replace X8 := X8.below B
  replace HB := Lib.hid (bt HB.out B)
  clear B
  go_upto_region 6 with (fail)
  have lX9 := Nat.le_refl (World.heap w8).size
  have nX9X0 := X0.lt
  have nX9X1 := X1.lt
  have nX9X2 := X2.lt
  have nX9X8 := X8.lt
  replace X0 := X0.below (bel1 _ (.cells #[.bool e21, .int .i64 K21, .bool s21, .int .u64 M21, .int .i64 E21, .int .i64 K21b, .bool s21b, .int .u64 M21b, .int .i64 E21b] 26))
  replace X1 := X1.below (bel1 _ (.cells #[.bool e21, .int .i64 K21, .bool s21, .int .u64 M21, .int .i64 E21, .int .i64 K21b, .bool s21b, .int .u64 M21b, .int .i64 E21b] 26))
  replace X2 := X2.below (bel1 _ (.cells #[.bool e21, .int .i64 K21, .bool s21, .int .u64 M21, .int .i64 E21, .int .i64 K21b, .bool s21b, .int .u64 M21b, .int .i64 E21b] 26))
  replace X8 := X8.below (bel1 _ (.cells #[.bool e21, .int .i64 K21, .bool s21, .int .u64 M21, .int .i64 E21, .int .i64 K21b, .bool s21b, .int .u64 M21b, .int .i64 E21b] 26))
  replace HB := Lib.hid (bt HB.out (bel1 _ (.cells #[.bool e21, .int .i64 K21, .bool s21, .int .u64 M21, .int .i64 E21, .int .i64 K21b, .bool s21b, .int .u64 M21b, .int .i64 E21b] 26)))
  have X9 := Bo.new w8 #[.bool e21, .int .i64 K21, .bool s21, .int .u64 M21, .int .i64 E21, .int .i64 K21b, .bool s21b, .int .u64 M21b, .int .i64 E21b] 26
  generalize hWn : World.alloc w8 (.cells #[.bool e21, .int .i64 K21, .bool s21, .int .u64 M21, .int .i64 E21, .int .i64 K21b, .bool s21b, .int .u64 M21b, .int .i64 E21b] 26) = w9 at *
  clear hWn
  clear lX9
  refine Jo.region_joint (T := [0, 1, 2, 3, 4, 5, 6, 7, 8, 9, 10, 11, 12, 13, 14, 15, 16, 17, 18, 19, 20, 21, 22, 23, 24, 25, 26, 27, 28, 29, 30, 31, 32, 33, 34, 35, 36, 37, 38, 39, 40, 41, 42, 43, 44, 45, 46, 47, 48, 49, 50, 51, 52, 53, 54, 55, 56, 57, 58, 59, 60, 61, 62, 63]) (ds := [some 35, some 36, some 37, some 38, some 39, some 40, some 41, some 42, some 43, some 44, some 45, some 46, some 47, some 48, some 49, some 50, some 51, some 52, some 53, some 54, some 55, some 56, some 57, some 58, some 59, some 60, some 61, some 62, some 63, some 64, some 65, some 66, some 67, some 68, some 69, some 70, some 71, some 72, some 73, some 74, some 75, some 76, some 77, some 78, some 79, some 80, some 81, some 82, some 83, some 84, some 85, some 86, some 87, some 88, some 89, some 90, some 91, some 92, some 93, some 94, some 95, some 96, some 97, some 6]) (ls := [[], [0], [1], [1], [1], [1, 3, 4], [1, 5], [1], [1, 6, 7], [1, 8], [1, 2, 9], [1, 10], [11], [12], [12], [12], [12], [12, 15, 16], [12, 17], [12, 14, 18], [12, 19], [12, 13, 20], [12, 21], [22], [23], [23, 24], [23, 25], [23], [23, 26, 27], [23, 28], [29], [30], [30, 31], [30, 32], [30], [30, 33, 34], [30, 35], [36], [37], [37], [37, 38, 39], [37, 40], [41], [42], [42], [42, 43, 44], [42, 45], [46], [47], [47], [47, 48, 49], [47, 50], [47], [47, 51, 52], [47, 53], [54], [55], [55], [55, 56, 57], [55, 58], [55], [55, 59, 60], [55, 61], [62]]) (k := 64) (L := [(some 35, 0), (some 36, 1), (some 37, 2), (some 38, 3), (some 39, 4), (some 40, 5), (some 41, 6), (some 42, 7), (some 43, 8), (some 44, 9), (some 45, 10), (some 46, 11), (some 47, 12), (some 48, 13), (some 49, 14), (some 50, 15), (some 51, 16), (some 52, 17), (some 53, 18), (some 54, 19), (some 55, 20), (some 56, 21), (some 57, 22), (some 58, 23), (some 59, 24), (some 60, 25), (some 61, 26), (some 62, 27), (some 63, 28), (some 64, 29), (some 65, 30), (some 66, 31), (some 67, 32), (some 68, 33), (some 69, 34), (some 70, 35), (some 71, 36), (some 72, 37), (some 73, 38), (some 74, 39), (some 75, 40), (some 76, 41), (some 77, 42), (some 78, 43), (some 79, 44), (some 80, 45), (some 81, 46), (some 82, 47), (some 83, 48), (some 84, 49), (some 85, 50), (some 86, 51), (some 87, 52), (some 88, 53), (some 89, 54), (some 90, 55), (some 91, 56), (some 92, 57), (some 93, 58), (some 94, 59), (some 95, 60), (some 96, 61), (some 97, 62), (some 6, 63)]) (fuel := 0) (J := fun wj => Below (World.heap w9).size w9 wj)
    (F := [Jo.Fact.eq (.bool true), Jo.Fact.eq (.bool true), Jo.Fact.eq (.agg #[.bool e20, .int .i64 K20, .bool s20, .int .u64 M20, .int .i64 E20, .int .i64 K20b, .bool s20b, .int .u64 M20b, .int .i64 E20b]), Jo.Fact.eq (.agg #[.bool e2, .int .i64 D2, .bool s2, .int .u64 M2, .int .i64 E2, .int .i64 G2, .bool g2, .int .u64 P2, .int .i64 Q2]), Jo.Fact.eq (.agg #[.bool e0, .int .i64 D0, .bool s0, .int .u64 M0, .int .i64 E0, .int .i64 G0, .bool g0, .int .u64 P0, .int .i64 Q0]), Jo.Fact.il8 2 [z, x], Jo.Fact.iv p, Jo.Fact.eq (.agg #[.bool e1, .int .i64 D1, .bool s1, .int .u64 M1, .int .i64 E1, .int .i64 G1, .bool g1, .int .u64 P1, .int .i64 Q1]), Jo.Fact.il8 2 [p, y], Jo.Fact.iv m, Jo.Fact.eq (.bool true), Jo.Fact.eq (.bool true), Jo.Fact.eq (.bool true), Jo.Fact.eq (.agg #[.bool e21, .int .i64 K21, .bool s21, .int .u64 M21, .int .i64 E21, .int .i64 K21b, .bool s21b, .int .u64 M21b, .int .i64 E21b]), Jo.Fact.eq (.agg #[.bool e1, .int .i64 D1, .bool s1, .int .u64 M1, .int .i64 E1, .int .i64 G1, .bool g1, .int .u64 P1, .int .i64 Q1]), Jo.Fact.eq (.agg #[.bool e0, .int .i64 D0, .bool s0, .int .u64 M0, .int .i64 E0, .int .i64 G0, .bool g0, .int .u64 P0, .int .i64 Q0]), Jo.Fact.eq (.agg #[.bool e2, .int .i64 D2, .bool s2, .int .u64 M2, .int .i64 E2, .int .i64 G2, .bool g2, .int .u64 P2, .int .i64 Q2]), Jo.Fact.il8 2 [x, z], Jo.Fact.iv q, Jo.Fact.il8 2 [y, q], Jo.Fact.iv h, Jo.Fact.eq (.bool true), Jo.Fact.eq (.bool true), Jo.Fact.eq (.bool true), Jo.Fact.eq (.agg #[.bool e0, .int .i64 D0, .bool s0, .int .u64 M0, .int .i64 E0, .int .i64 G0, .bool g0, .int .u64 P0, .int .i64 Q0]), Jo.Fact.il8 1 [x], Jo.Fact.iv x, Jo.Fact.eq (.agg #[.bool e0, .int .i64 D0, .bool s0, .int .u64 M0, .int .i64 E0, .int .i64 G0, .bool g0, .int .u64 P0, .int .i64 Q0]), Jo.Fact.eq (.bool true), Jo.Fact.eq (.bool true), Jo.Fact.eq (.bool true), Jo.Fact.eq (.agg #[.bool e0, .int .i64 D0, .bool s0, .int .u64 M0, .int .i64 E0, .int .i64 G0, .bool g0, .int .u64 P0, .int .i64 Q0]), Jo.Fact.il8 1 [x], Jo.Fact.iv x, Jo.Fact.eq (.agg #[.bool e0, .int .i64 D0, .bool s0, .int .u64 M0, .int .i64 E0, .int .i64 G0, .bool g0, .int .u64 P0, .int .i64 Q0]), Jo.Fact.eq (.bool true), Jo.Fact.eq (.bool true), Jo.Fact.eq (.bool true), Jo.Fact.iv allI, Jo.Fact.iv allI, Jo.Fact.eq (.bool true), Jo.Fact.eq (.bool true), Jo.Fact.eq (.bool true), Jo.Fact.iv none, Jo.Fact.iv none, Jo.Fact.eq (.bool true), Jo.Fact.eq (.bool true), Jo.Fact.eq (.bool true), Jo.Fact.eq (.agg #[.bool e0, .int .i64 D0, .bool s0, .int .u64 M0, .int .i64 E0, .int .i64 G0, .bool g0, .int .u64 P0, .int .i64 Q0]), Jo.Fact.eq (.agg #[.bool e0, .int .i64 D0, .bool s0, .int .u64 M0, .int .i64 E0, .int .i64 G0, .bool g0, .int .u64 P0, .int .i64 Q0]), Jo.Fact.il8 2 [x, x], Jo.Fact.iv x, Jo.Fact.eq (.agg #[.bool e0, .int .i64 D0, .bool s0, .int .u64 M0, .int .i64 E0, .int .i64 G0, .bool g0, .int .u64 P0, .int .i64 Q0]), Jo.Fact.eq (.bool true), Jo.Fact.eq (.bool true), Jo.Fact.eq (.bool true), Jo.Fact.eq (.agg #[.bool e0, .int .i64 D0, .bool s0, .int .u64 M0, .int .i64 E0, .int .i64 G0, .bool g0, .int .u64 P0, .int .i64 Q0]), Jo.Fact.eq (.agg #[.bool e0, .int .i64 D0, .bool s0, .int .u64 M0, .int .i64 E0, .int .i64 G0, .bool g0, .int .u64 P0, .int .i64 Q0]), Jo.Fact.il8 2 [x, x], Jo.Fact.iv x, Jo.Fact.eq (.agg #[.bool e0, .int .i64 D0, .bool s0, .int .u64 M0, .int .i64 E0, .int .i64 G0, .bool g0, .int .u64 P0, .int .i64 Q0]), Jo.Fact.eq (.bool true), Jo.Fact.eq (.bool true), Jo.Fact.eq (.bool true)])
    (by kernel_rfl) (by kernel_rfl) (by decide) rfl rfl (fun _ _ h b => bt h b) ((Below.refl _ _).drew) ?_ (fun vs wA hJ hd => ?_)
  · refine Jo.jd 0 (some 35) [] (Jo.Fact.eq (.bool true)) rfl rfl rfl rfl (fun vs wj hJ hd K hK => ?_) ?_
    · simp only [Jo.putl, Jo.ze, Act.put, Jo.za, Jo.zb, Jo.zc] at hK ⊢
      clear hd
      go_simp
      exact hK.out _ _ rfl (Below.refl _ _)
    refine Jo.jd 1 (some 36) [(some 35, 0)] (Jo.Fact.eq (.bool true)) rfl rfl rfl rfl (fun vs wj hJ hd K hK => ?_) ?_
    · simp only [Jo.putl, Jo.zd, Jo.ze, Act.put, Jo.za, Jo.zb, Jo.zc] at hK ⊢
      rw [show vs 0 = _ from hd 0 (by decide)] at hK ⊢
      clear hd
      go_simp
      exact hK.out _ _ rfl (Below.refl _ _)
    refine Jo.jd 2 (some 37) [(some 36, 1)] (Jo.Fact.eq (.agg #[.bool e20, .int .i64 K20, .bool s20, .int .u64 M20, .int .i64 E20, .int .i64 K20b, .bool s20b, .int .u64 M20b, .int .i64 E20b])) rfl rfl rfl rfl (fun vs wj hJ hd K hK => ?_) ?_
    · simp only [Jo.putl, Jo.zd, Jo.ze, Act.put, Jo.za, Jo.zb, Jo.zc] at hK ⊢
      rw [show vs 1 = _ from hd 1 (by decide)] at hK ⊢
      clear hd
      have xX80 := (X8.below hJ).a 0 (.bool e20) rfl
      have xX81 := (X8.below hJ).a 1 (.int .i64 K20) rfl
      have xX82 := (X8.below hJ).a 2 (.bool s20) rfl
      have xX83 := (X8.below hJ).a 3 (.int .u64 M20) rfl
      have xX84 := (X8.below hJ).a 4 (.int .i64 E20) rfl
      have xX85 := (X8.below hJ).a 5 (.int .i64 K20b) rfl
      have xX86 := (X8.below hJ).a 6 (.bool s20b) rfl
      have xX87 := (X8.below hJ).a 7 (.int .u64 M20b) rfl
      have xX88 := (X8.below hJ).a 8 (.int .i64 E20b) rfl
      go_simp
      exact hK.out _ _ rfl (Below.refl _ _)
    refine Jo.jd 3 (some 38) [(some 36, 1)] (Jo.Fact.eq (.agg #[.bool e2, .int .i64 D2, .bool s2, .int .u64 M2, .int .i64 E2, .int .i64 G2, .bool g2, .int .u64 P2, .int .i64 Q2])) rfl rfl rfl rfl (fun vs wj hJ hd K hK => ?_) ?_
    · simp only [Jo.putl, Jo.zd, Jo.ze, Act.put, Jo.za, Jo.zb, Jo.zc] at hK ⊢
      rw [show vs 1 = _ from hd 1 (by decide)] at hK ⊢
      clear hd
      have xX20 := (X2.below hJ).a 0 (.bool e2) rfl
      have xX21 := (X2.below hJ).a 1 (.int .i64 D2) rfl
      have xX22 := (X2.below hJ).a 2 (.bool s2) rfl
      have xX23 := (X2.below hJ).a 3 (.int .u64 M2) rfl
      have xX24 := (X2.below hJ).a 4 (.int .i64 E2) rfl
      have xX25 := (X2.below hJ).a 5 (.int .i64 G2) rfl
      have xX26 := (X2.below hJ).a 6 (.bool g2) rfl
      have xX27 := (X2.below hJ).a 7 (.int .u64 P2) rfl
      have xX28 := (X2.below hJ).a 8 (.int .i64 Q2) rfl
      go_simp
      exact hK.out _ _ rfl (Below.refl _ _)
    refine Jo.jd 4 (some 39) [(some 36, 1)] (Jo.Fact.eq (.agg #[.bool e0, .int .i64 D0, .bool s0, .int .u64 M0, .int .i64 E0, .int .i64 G0, .bool g0, .int .u64 P0, .int .i64 Q0])) rfl rfl rfl rfl (fun vs wj hJ hd K hK => ?_) ?_
    · simp only [Jo.putl, Jo.zd, Jo.ze, Act.put, Jo.za, Jo.zb, Jo.zc] at hK ⊢
      rw [show vs 1 = _ from hd 1 (by decide)] at hK ⊢
      clear hd
      have xX00 := (X0.below hJ).a 0 (.bool e0) rfl
      have xX01 := (X0.below hJ).a 1 (.int .i64 D0) rfl
      have xX02 := (X0.below hJ).a 2 (.bool s0) rfl
      have xX03 := (X0.below hJ).a 3 (.int .u64 M0) rfl
      have xX04 := (X0.below hJ).a 4 (.int .i64 E0) rfl
      have xX05 := (X0.below hJ).a 5 (.int .i64 G0) rfl
      have xX06 := (X0.below hJ).a 6 (.bool g0) rfl
      have xX07 := (X0.below hJ).a 7 (.int .u64 P0) rfl
      have xX08 := (X0.below hJ).a 8 (.int .i64 Q0) rfl
      go_simp
      exact hK.out _ _ rfl (Below.refl _ _)
    refine Jo.jd 5 (some 40) [(some 36, 1), (some 38, 3), (some 39, 4)] (Jo.Fact.il8 2 [z, x]) rfl rfl rfl rfl (fun vs wj hJ hd K hK => ?_) ?_
    · simp only [Jo.putl, Jo.zd, Jo.ze, Act.put, Jo.za, Jo.zb, Jo.zc] at hK ⊢
      rw [show vs 1 = _ from hd 1 (by decide), show vs 3 = _ from hd 3 (by decide), show vs 4 = _ from hd 4 (by decide)] at hK ⊢
      clear hd
      go_simp
      exact hK.out _ _ ⟨_, 2, rfl, Il8.lit2 rfl c2.rw c0.rw⟩ (bel1 _ _)
    refine Jo.jd 6 (some 41) [(some 36, 1), (some 40, 5)] (Jo.Fact.iv p) rfl rfl rfl rfl (fun vs wj hJ hd K hK => ?_) ?_
    · have d5 : (Jo.Fact.il8 2 [z, x]).P (vs 5) wj := hd 5 (by decide)
      simp only [Jo.putl, Jo.zd, Jo.ze, Act.put, Jo.za, Jo.zb, Jo.zc] at hK ⊢
      rw [show vs 1 = _ from hd 1 (by decide)] at hK ⊢
      clear hd
      generalize vs 5 = u5 at hK d5 ⊢
      obtain ⟨A30, c30, rfl, h30⟩ := d5
      go_simp
      refine (kvMeet h30 HP.out).mono ?_
      rintro ee wk ⟨e31, K31, s31, M31, E31, K31b, s31b, M31b, E31b, rfl, v31, B⟩
      exact hK.out _ _ ⟨e31, K31, s31, M31, E31, K31b, s31b, M31b, E31b, rfl, v31⟩ B
    refine Jo.jd 7 (some 42) [(some 36, 1)] (Jo.Fact.eq (.agg #[.bool e1, .int .i64 D1, .bool s1, .int .u64 M1, .int .i64 E1, .int .i64 G1, .bool g1, .int .u64 P1, .int .i64 Q1])) rfl rfl rfl rfl (fun vs wj hJ hd K hK => ?_) ?_
    · simp only [Jo.putl, Jo.zd, Jo.ze, Act.put, Jo.za, Jo.zb, Jo.zc] at hK ⊢
      rw [show vs 1 = _ from hd 1 (by decide)] at hK ⊢
      clear hd
      have xX10 := (X1.below hJ).a 0 (.bool e1) rfl
      have xX11 := (X1.below hJ).a 1 (.int .i64 D1) rfl
      have xX12 := (X1.below hJ).a 2 (.bool s1) rfl
      have xX13 := (X1.below hJ).a 3 (.int .u64 M1) rfl
      have xX14 := (X1.below hJ).a 4 (.int .i64 E1) rfl
      have xX15 := (X1.below hJ).a 5 (.int .i64 G1) rfl
      have xX16 := (X1.below hJ).a 6 (.bool g1) rfl
      have xX17 := (X1.below hJ).a 7 (.int .u64 P1) rfl
      have xX18 := (X1.below hJ).a 8 (.int .i64 Q1) rfl
      go_simp
      exact hK.out _ _ rfl (Below.refl _ _)
    refine Jo.jd 8 (some 43) [(some 36, 1), (some 41, 6), (some 42, 7)] (Jo.Fact.il8 2 [p, y]) rfl rfl rfl rfl (fun vs wj hJ hd K hK => ?_) ?_
    · have d6 : (Jo.Fact.iv p).P (vs 6) wj := hd 6 (by decide)
      simp only [Jo.putl, Jo.zd, Jo.ze, Act.put, Jo.za, Jo.zb, Jo.zc] at hK ⊢
      rw [show vs 1 = _ from hd 1 (by decide), show vs 7 = _ from hd 7 (by decide)] at hK ⊢
      clear hd
      generalize vs 6 = u6 at hK d6 ⊢
      obtain ⟨e31, K31, s31, M31, E31, K31b, s31b, M31b, E31b, rfl, v31⟩ := d6
      go_simp
      exact hK.out _ _ ⟨_, 2, rfl, Il8.lit2 rfl v31.rw c1.rw⟩ (bel1 _ _)
    refine Jo.jd 9 (some 44) [(some 36, 1), (some 43, 8)] (Jo.Fact.iv m) rfl rfl rfl rfl (fun vs wj hJ hd K hK => ?_) ?_
    · have d8 : (Jo.Fact.il8 2 [p, y]).P (vs 8) wj := hd 8 (by decide)
      simp only [Jo.putl, Jo.zd, Jo.ze, Act.put, Jo.za, Jo.zb, Jo.zc] at hK ⊢
      rw [show vs 1 = _ from hd 1 (by decide)] at hK ⊢
      clear hd
      generalize vs 8 = u8 at hK d8 ⊢
      obtain ⟨A32, c32, rfl, h32⟩ := d8
      go_simp
      refine (kvMeet h32 HM2.out).mono ?_
      rintro ee wk ⟨e33, K33, s33, M33, E33, K33b, s33b, M33b, E33b, rfl, v33, B⟩
      exact hK.out _ _ ⟨e33, K33, s33, M33, E33, K33b, s33b, M33b, E33b, rfl, v33⟩ B
    refine Jo.jd 10 (some 45) [(some 36, 1), (some 37, 2), (some 44, 9)] (Jo.Fact.eq (.bool true)) rfl rfl rfl rfl (fun vs wj hJ hd K hK => ?_) ?_
    · have d9 : (Jo.Fact.iv m).P (vs 9) wj := hd 9 (by decide)
      simp only [Jo.putl, Jo.zd, Jo.ze, Act.put, Jo.za, Jo.zb, Jo.zc] at hK ⊢
      rw [show vs 1 = _ from hd 1 (by decide), show vs 2 = _ from hd 2 (by decide)] at hK ⊢
      clear hd
      generalize vs 9 = u9 at hK d9 ⊢
      obtain ⟨e33, K33, s33, M33, E33, K33b, s33b, M33b, E33b, rfl, v33⟩ := d9
      obtain ⟨rfl, rfl, rfl, rfl, rfl, rfl, rfl, rfl, rfl⟩ := v20.uniq v33
      go_simp
      exact hK.out _ _ (by first | rfl | (show Value.bool _ = Value.bool _; simp)) (Below.refl _ _)
    refine Jo.jd 11 (some 46) [(some 36, 1), (some 45, 10)] (Jo.Fact.eq (.bool true)) rfl rfl rfl rfl (fun vs wj hJ hd K hK => ?_) ?_
    · simp only [Jo.putl, Jo.zd, Jo.ze, Act.put, Jo.za, Jo.zb, Jo.zc] at hK ⊢
      rw [show vs 1 = _ from hd 1 (by decide), show vs 10 = _ from hd 10 (by decide)] at hK ⊢
      clear hd
      go_simp
      exact hK.out _ _ rfl (Below.refl _ _)
    refine Jo.jd 12 (some 47) [(some 46, 11)] (Jo.Fact.eq (.bool true)) rfl rfl rfl rfl (fun vs wj hJ hd K hK => ?_) ?_
    · simp only [Jo.putl, Jo.zd, Jo.ze, Act.put, Jo.za, Jo.zb, Jo.zc] at hK ⊢
      rw [show vs 11 = _ from hd 11 (by decide)] at hK ⊢
      clear hd
      go_simp
      exact hK.out _ _ rfl (Below.refl _ _)
    refine Jo.jd 13 (some 48) [(some 47, 12)] (Jo.Fact.eq (.agg #[.bool e21, .int .i64 K21, .bool s21, .int .u64 M21, .int .i64 E21, .int .i64 K21b, .bool s21b, .int .u64 M21b, .int .i64 E21b])) rfl rfl rfl rfl (fun vs wj hJ hd K hK => ?_) ?_
    · simp only [Jo.putl, Jo.zd, Jo.ze, Act.put, Jo.za, Jo.zb, Jo.zc] at hK ⊢
      rw [show vs 12 = _ from hd 12 (by decide)] at hK ⊢
      clear hd
      have xX90 := (X9.below hJ).a 0 (.bool e21) rfl
      have xX91 := (X9.below hJ).a 1 (.int .i64 K21) rfl
      have xX92 := (X9.below hJ).a 2 (.bool s21) rfl
      have xX93 := (X9.below hJ).a 3 (.int .u64 M21) rfl
      have xX94 := (X9.below hJ).a 4 (.int .i64 E21) rfl
      have xX95 := (X9.below hJ).a 5 (.int .i64 K21b) rfl
      have xX96 := (X9.below hJ).a 6 (.bool s21b) rfl
      have xX97 := (X9.below hJ).a 7 (.int .u64 M21b) rfl
      have xX98 := (X9.below hJ).a 8 (.int .i64 E21b) rfl
      go_simp
      exact hK.out _ _ rfl (Below.refl _ _)
    refine Jo.jd 14 (some 49) [(some 47, 12)] (Jo.Fact.eq (.agg #[.bool e1, .int .i64 D1, .bool s1, .int .u64 M1, .int .i64 E1, .int .i64 G1, .bool g1, .int .u64 P1, .int .i64 Q1])) rfl rfl rfl rfl (fun vs wj hJ hd K hK => ?_) ?_
    · simp only [Jo.putl, Jo.zd, Jo.ze, Act.put, Jo.za, Jo.zb, Jo.zc] at hK ⊢
      rw [show vs 12 = _ from hd 12 (by decide)] at hK ⊢
      clear hd
      have xX10 := (X1.below hJ).a 0 (.bool e1) rfl
      have xX11 := (X1.below hJ).a 1 (.int .i64 D1) rfl
      have xX12 := (X1.below hJ).a 2 (.bool s1) rfl
      have xX13 := (X1.below hJ).a 3 (.int .u64 M1) rfl
      have xX14 := (X1.below hJ).a 4 (.int .i64 E1) rfl
      have xX15 := (X1.below hJ).a 5 (.int .i64 G1) rfl
      have xX16 := (X1.below hJ).a 6 (.bool g1) rfl
      have xX17 := (X1.below hJ).a 7 (.int .u64 P1) rfl
      have xX18 := (X1.below hJ).a 8 (.int .i64 Q1) rfl
      go_simp
      exact hK.out _ _ rfl (Below.refl _ _)
    refine Jo.jd 15 (some 50) [(some 47, 12)] (Jo.Fact.eq (.agg #[.bool e0, .int .i64 D0, .bool s0, .int .u64 M0, .int .i64 E0, .int .i64 G0, .bool g0, .int .u64 P0, .int .i64 Q0])) rfl rfl rfl rfl (fun vs wj hJ hd K hK => ?_) ?_
    · simp only [Jo.putl, Jo.zd, Jo.ze, Act.put, Jo.za, Jo.zb, Jo.zc] at hK ⊢
      rw [show vs 12 = _ from hd 12 (by decide)] at hK ⊢
      clear hd
      have xX00 := (X0.below hJ).a 0 (.bool e0) rfl
      have xX01 := (X0.below hJ).a 1 (.int .i64 D0) rfl
      have xX02 := (X0.below hJ).a 2 (.bool s0) rfl
      have xX03 := (X0.below hJ).a 3 (.int .u64 M0) rfl
      have xX04 := (X0.below hJ).a 4 (.int .i64 E0) rfl
      have xX05 := (X0.below hJ).a 5 (.int .i64 G0) rfl
      have xX06 := (X0.below hJ).a 6 (.bool g0) rfl
      have xX07 := (X0.below hJ).a 7 (.int .u64 P0) rfl
      have xX08 := (X0.below hJ).a 8 (.int .i64 Q0) rfl
      go_simp
      exact hK.out _ _ rfl (Below.refl _ _)
    refine Jo.jd 16 (some 51) [(some 47, 12)] (Jo.Fact.eq (.agg #[.bool e2, .int .i64 D2, .bool s2, .int .u64 M2, .int .i64 E2, .int .i64 G2, .bool g2, .int .u64 P2, .int .i64 Q2])) rfl rfl rfl rfl (fun vs wj hJ hd K hK => ?_) ?_
    · simp only [Jo.putl, Jo.zd, Jo.ze, Act.put, Jo.za, Jo.zb, Jo.zc] at hK ⊢
      rw [show vs 12 = _ from hd 12 (by decide)] at hK ⊢
      clear hd
      have xX20 := (X2.below hJ).a 0 (.bool e2) rfl
      have xX21 := (X2.below hJ).a 1 (.int .i64 D2) rfl
      have xX22 := (X2.below hJ).a 2 (.bool s2) rfl
      have xX23 := (X2.below hJ).a 3 (.int .u64 M2) rfl
      have xX24 := (X2.below hJ).a 4 (.int .i64 E2) rfl
      have xX25 := (X2.below hJ).a 5 (.int .i64 G2) rfl
      have xX26 := (X2.below hJ).a 6 (.bool g2) rfl
      have xX27 := (X2.below hJ).a 7 (.int .u64 P2) rfl
      have xX28 := (X2.below hJ).a 8 (.int .i64 Q2) rfl
      go_simp
      exact hK.out _ _ rfl (Below.refl _ _)
    refine Jo.jd 17 (some 52) [(some 47, 12), (some 50, 15), (some 51, 16)] (Jo.Fact.il8 2 [x, z]) rfl rfl rfl rfl (fun vs wj hJ hd K hK => ?_) ?_
    · simp only [Jo.putl, Jo.zd, Jo.ze, Act.put, Jo.za, Jo.zb, Jo.zc] at hK ⊢
      rw [show vs 12 = _ from hd 12 (by decide), show vs 15 = _ from hd 15 (by decide), show vs 16 = _ from hd 16 (by decide)] at hK ⊢
      clear hd
      go_simp
      exact hK.out _ _ ⟨_, 2, rfl, Il8.lit2 rfl c0.rw c2.rw⟩ (bel1 _ _)
    refine Jo.jd 18 (some 53) [(some 47, 12), (some 52, 17)] (Jo.Fact.iv q) rfl rfl rfl rfl (fun vs wj hJ hd K hK => ?_) ?_
    · have d17 : (Jo.Fact.il8 2 [x, z]).P (vs 17) wj := hd 17 (by decide)
      simp only [Jo.putl, Jo.zd, Jo.ze, Act.put, Jo.za, Jo.zb, Jo.zc] at hK ⊢
      rw [show vs 12 = _ from hd 12 (by decide)] at hK ⊢
      clear hd
      generalize vs 17 = u17 at hK d17 ⊢
      obtain ⟨A34, c34, rfl, h34⟩ := d17
      go_simp
      refine (kvHull h34 HQ.out).mono ?_
      rintro ee wk ⟨e35, K35, s35, M35, E35, K35b, s35b, M35b, E35b, rfl, v35, B⟩
      exact hK.out _ _ ⟨e35, K35, s35, M35, E35, K35b, s35b, M35b, E35b, rfl, v35⟩ B
    refine Jo.jd 19 (some 54) [(some 47, 12), (some 49, 14), (some 53, 18)] (Jo.Fact.il8 2 [y, q]) rfl rfl rfl rfl (fun vs wj hJ hd K hK => ?_) ?_
    · have d18 : (Jo.Fact.iv q).P (vs 18) wj := hd 18 (by decide)
      simp only [Jo.putl, Jo.zd, Jo.ze, Act.put, Jo.za, Jo.zb, Jo.zc] at hK ⊢
      rw [show vs 12 = _ from hd 12 (by decide), show vs 14 = _ from hd 14 (by decide)] at hK ⊢
      clear hd
      generalize vs 18 = u18 at hK d18 ⊢
      obtain ⟨e35, K35, s35, M35, E35, K35b, s35b, M35b, E35b, rfl, v35⟩ := d18
      go_simp
      exact hK.out _ _ ⟨_, 2, rfl, Il8.lit2 rfl c1.rw v35.rw⟩ (bel1 _ _)
    refine Jo.jd 20 (some 55) [(some 47, 12), (some 54, 19)] (Jo.Fact.iv h) rfl rfl rfl rfl (fun vs wj hJ hd K hK => ?_) ?_
    · have d19 : (Jo.Fact.il8 2 [y, q]).P (vs 19) wj := hd 19 (by decide)
      simp only [Jo.putl, Jo.zd, Jo.ze, Act.put, Jo.za, Jo.zb, Jo.zc] at hK ⊢
      rw [show vs 12 = _ from hd 12 (by decide)] at hK ⊢
      clear hd
      generalize vs 19 = u19 at hK d19 ⊢
      obtain ⟨A36, c36, rfl, h36⟩ := d19
      go_simp
      refine (kvHull h36 HH2.out).mono ?_
      rintro ee wk ⟨e37, K37, s37, M37, E37, K37b, s37b, M37b, E37b, rfl, v37, B⟩
      exact hK.out _ _ ⟨e37, K37, s37, M37, E37, K37b, s37b, M37b, E37b, rfl, v37⟩ B
    refine Jo.jd 21 (some 56) [(some 47, 12), (some 48, 13), (some 55, 20)] (Jo.Fact.eq (.bool true)) rfl rfl rfl rfl (fun vs wj hJ hd K hK => ?_) ?_
    · have d20 : (Jo.Fact.iv h).P (vs 20) wj := hd 20 (by decide)
      simp only [Jo.putl, Jo.zd, Jo.ze, Act.put, Jo.za, Jo.zb, Jo.zc] at hK ⊢
      rw [show vs 12 = _ from hd 12 (by decide), show vs 13 = _ from hd 13 (by decide)] at hK ⊢
      clear hd
      generalize vs 20 = u20 at hK d20 ⊢
      obtain ⟨e37, K37, s37, M37, E37, K37b, s37b, M37b, E37b, rfl, v37⟩ := d20
      obtain ⟨rfl, rfl, rfl, rfl, rfl, rfl, rfl, rfl, rfl⟩ := v21.uniq v37
      go_simp
      exact hK.out _ _ (by first | rfl | (show Value.bool _ = Value.bool _; simp)) (Below.refl _ _)
    refine Jo.jd 22 (some 57) [(some 47, 12), (some 56, 21)] (Jo.Fact.eq (.bool true)) rfl rfl rfl rfl (fun vs wj hJ hd K hK => ?_) ?_
    · simp only [Jo.putl, Jo.zd, Jo.ze, Act.put, Jo.za, Jo.zb, Jo.zc] at hK ⊢
      rw [show vs 12 = _ from hd 12 (by decide), show vs 21 = _ from hd 21 (by decide)] at hK ⊢
      clear hd
      go_simp
      exact hK.out _ _ rfl (Below.refl _ _)
    refine Jo.jd 23 (some 58) [(some 57, 22)] (Jo.Fact.eq (.bool true)) rfl rfl rfl rfl (fun vs wj hJ hd K hK => ?_) ?_
    · simp only [Jo.putl, Jo.zd, Jo.ze, Act.put, Jo.za, Jo.zb, Jo.zc] at hK ⊢
      rw [show vs 22 = _ from hd 22 (by decide)] at hK ⊢
      clear hd
      go_simp
      exact hK.out _ _ rfl (Below.refl _ _)
    refine Jo.jd 24 (some 59) [(some 58, 23)] (Jo.Fact.eq (.agg #[.bool e0, .int .i64 D0, .bool s0, .int .u64 M0, .int .i64 E0, .int .i64 G0, .bool g0, .int .u64 P0, .int .i64 Q0])) rfl rfl rfl rfl (fun vs wj hJ hd K hK => ?_) ?_
    · simp only [Jo.putl, Jo.zd, Jo.ze, Act.put, Jo.za, Jo.zb, Jo.zc] at hK ⊢
      rw [show vs 23 = _ from hd 23 (by decide)] at hK ⊢
      clear hd
      have xX00 := (X0.below hJ).a 0 (.bool e0) rfl
      have xX01 := (X0.below hJ).a 1 (.int .i64 D0) rfl
      have xX02 := (X0.below hJ).a 2 (.bool s0) rfl
      have xX03 := (X0.below hJ).a 3 (.int .u64 M0) rfl
      have xX04 := (X0.below hJ).a 4 (.int .i64 E0) rfl
      have xX05 := (X0.below hJ).a 5 (.int .i64 G0) rfl
      have xX06 := (X0.below hJ).a 6 (.bool g0) rfl
      have xX07 := (X0.below hJ).a 7 (.int .u64 P0) rfl
      have xX08 := (X0.below hJ).a 8 (.int .i64 Q0) rfl
      go_simp
      exact hK.out _ _ rfl (Below.refl _ _)
    refine Jo.jd 25 (some 60) [(some 58, 23), (some 59, 24)] (Jo.Fact.il8 1 [x]) rfl rfl rfl rfl (fun vs wj hJ hd K hK => ?_) ?_
    · simp only [Jo.putl, Jo.zd, Jo.ze, Act.put, Jo.za, Jo.zb, Jo.zc] at hK ⊢
      rw [show vs 23 = _ from hd 23 (by decide), show vs 24 = _ from hd 24 (by decide)] at hK ⊢
      clear hd
      go_simp
      exact hK.out _ _ ⟨_, 1, rfl, Il8.lit1 rfl c0.rw⟩ (bel1 _ _)
    refine Jo.jd 26 (some 61) [(some 58, 23), (some 60, 25)] (Jo.Fact.iv x) rfl rfl rfl rfl (fun vs wj hJ hd K hK => ?_) ?_
    · have d25 : (Jo.Fact.il8 1 [x]).P (vs 25) wj := hd 25 (by decide)
      simp only [Jo.putl, Jo.zd, Jo.ze, Act.put, Jo.za, Jo.zb, Jo.zc] at hK ⊢
      rw [show vs 23 = _ from hd 23 (by decide)] at hK ⊢
      clear hd
      generalize vs 25 = u25 at hK d25 ⊢
      obtain ⟨A38, c38, rfl, h38⟩ := d25
      go_simp
      refine (kvMeet h38 H1.out).mono ?_
      rintro ee wk ⟨e39, K39, s39, M39, E39, K39b, s39b, M39b, E39b, rfl, v39, B⟩
      exact hK.out _ _ ⟨e39, K39, s39, M39, E39, K39b, s39b, M39b, E39b, rfl, v39⟩ B
    refine Jo.jd 27 (some 62) [(some 58, 23)] (Jo.Fact.eq (.agg #[.bool e0, .int .i64 D0, .bool s0, .int .u64 M0, .int .i64 E0, .int .i64 G0, .bool g0, .int .u64 P0, .int .i64 Q0])) rfl rfl rfl rfl (fun vs wj hJ hd K hK => ?_) ?_
    · simp only [Jo.putl, Jo.zd, Jo.ze, Act.put, Jo.za, Jo.zb, Jo.zc] at hK ⊢
      rw [show vs 23 = _ from hd 23 (by decide)] at hK ⊢
      clear hd
      have xX00 := (X0.below hJ).a 0 (.bool e0) rfl
      have xX01 := (X0.below hJ).a 1 (.int .i64 D0) rfl
      have xX02 := (X0.below hJ).a 2 (.bool s0) rfl
      have xX03 := (X0.below hJ).a 3 (.int .u64 M0) rfl
      have xX04 := (X0.below hJ).a 4 (.int .i64 E0) rfl
      have xX05 := (X0.below hJ).a 5 (.int .i64 G0) rfl
      have xX06 := (X0.below hJ).a 6 (.bool g0) rfl
      have xX07 := (X0.below hJ).a 7 (.int .u64 P0) rfl
      have xX08 := (X0.below hJ).a 8 (.int .i64 Q0) rfl
      go_simp
      exact hK.out _ _ rfl (Below.refl _ _)
    refine Jo.jd 28 (some 63) [(some 58, 23), (some 61, 26), (some 62, 27)] (Jo.Fact.eq (.bool true)) rfl rfl rfl rfl (fun vs wj hJ hd K hK => ?_) ?_
    · have d26 : (Jo.Fact.iv x).P (vs 26) wj := hd 26 (by decide)
      simp only [Jo.putl, Jo.zd, Jo.ze, Act.put, Jo.za, Jo.zb, Jo.zc] at hK ⊢
      rw [show vs 23 = _ from hd 23 (by decide), show vs 27 = _ from hd 27 (by decide)] at hK ⊢
      clear hd
      generalize vs 26 = u26 at hK d26 ⊢
      obtain ⟨e39, K39, s39, M39, E39, K39b, s39b, M39b, E39b, rfl, v39⟩ := d26
      obtain ⟨rfl, rfl, rfl, rfl, rfl, rfl, rfl, rfl, rfl⟩ := v39.uniq c0
      go_simp
      exact hK.out _ _ (by first | rfl | (show Value.bool _ = Value.bool _; simp)) (Below.refl _ _)
    refine Jo.jd 29 (some 64) [(some 58, 23), (some 63, 28)] (Jo.Fact.eq (.bool true)) rfl rfl rfl rfl (fun vs wj hJ hd K hK => ?_) ?_
    · simp only [Jo.putl, Jo.zd, Jo.ze, Act.put, Jo.za, Jo.zb, Jo.zc] at hK ⊢
      rw [show vs 23 = _ from hd 23 (by decide), show vs 28 = _ from hd 28 (by decide)] at hK ⊢
      clear hd
      go_simp
      exact hK.out _ _ rfl (Below.refl _ _)
    refine Jo.jd 30 (some 65) [(some 64, 29)] (Jo.Fact.eq (.bool true)) rfl rfl rfl rfl (fun vs wj hJ hd K hK => ?_) ?_
    · simp only [Jo.putl, Jo.zd, Jo.ze, Act.put, Jo.za, Jo.zb, Jo.zc] at hK ⊢
      rw [show vs 29 = _ from hd 29 (by decide)] at hK ⊢
      clear hd
      go_simp
      exact hK.out _ _ rfl (Below.refl _ _)
    refine Jo.jd 31 (some 66) [(some 65, 30)] (Jo.Fact.eq (.agg #[.bool e0, .int .i64 D0, .bool s0, .int .u64 M0, .int .i64 E0, .int .i64 G0, .bool g0, .int .u64 P0, .int .i64 Q0])) rfl rfl rfl rfl (fun vs wj hJ hd K hK => ?_) ?_
    · simp only [Jo.putl, Jo.zd, Jo.ze, Act.put, Jo.za, Jo.zb, Jo.zc] at hK ⊢
      rw [show vs 30 = _ from hd 30 (by decide)] at hK ⊢
      clear hd
      have xX00 := (X0.below hJ).a 0 (.bool e0) rfl
      have xX01 := (X0.below hJ).a 1 (.int .i64 D0) rfl
      have xX02 := (X0.below hJ).a 2 (.bool s0) rfl
      have xX03 := (X0.below hJ).a 3 (.int .u64 M0) rfl
      have xX04 := (X0.below hJ).a 4 (.int .i64 E0) rfl
      have xX05 := (X0.below hJ).a 5 (.int .i64 G0) rfl
      have xX06 := (X0.below hJ).a 6 (.bool g0) rfl
      have xX07 := (X0.below hJ).a 7 (.int .u64 P0) rfl
      have xX08 := (X0.below hJ).a 8 (.int .i64 Q0) rfl
      go_simp
      exact hK.out _ _ rfl (Below.refl _ _)
    refine Jo.jd 32 (some 67) [(some 65, 30), (some 66, 31)] (Jo.Fact.il8 1 [x]) rfl rfl rfl rfl (fun vs wj hJ hd K hK => ?_) ?_
    · simp only [Jo.putl, Jo.zd, Jo.ze, Act.put, Jo.za, Jo.zb, Jo.zc] at hK ⊢
      rw [show vs 30 = _ from hd 30 (by decide), show vs 31 = _ from hd 31 (by decide)] at hK ⊢
      clear hd
      go_simp
      exact hK.out _ _ ⟨_, 1, rfl, Il8.lit1 rfl c0.rw⟩ (bel1 _ _)
    refine Jo.jd 33 (some 68) [(some 65, 30), (some 67, 32)] (Jo.Fact.iv x) rfl rfl rfl rfl (fun vs wj hJ hd K hK => ?_) ?_
    · have d32 : (Jo.Fact.il8 1 [x]).P (vs 32) wj := hd 32 (by decide)
      simp only [Jo.putl, Jo.zd, Jo.ze, Act.put, Jo.za, Jo.zb, Jo.zc] at hK ⊢
      rw [show vs 30 = _ from hd 30 (by decide)] at hK ⊢
      clear hd
      generalize vs 32 = u32 at hK d32 ⊢
      obtain ⟨A40, c40, rfl, h40⟩ := d32
      go_simp
      refine (kvHull h40 H2.out).mono ?_
      rintro ee wk ⟨e41, K41, s41, M41, E41, K41b, s41b, M41b, E41b, rfl, v41, B⟩
      exact hK.out _ _ ⟨e41, K41, s41, M41, E41, K41b, s41b, M41b, E41b, rfl, v41⟩ B
    refine Jo.jd 34 (some 69) [(some 65, 30)] (Jo.Fact.eq (.agg #[.bool e0, .int .i64 D0, .bool s0, .int .u64 M0, .int .i64 E0, .int .i64 G0, .bool g0, .int .u64 P0, .int .i64 Q0])) rfl rfl rfl rfl (fun vs wj hJ hd K hK => ?_) ?_
    · simp only [Jo.putl, Jo.zd, Jo.ze, Act.put, Jo.za, Jo.zb, Jo.zc] at hK ⊢
      rw [show vs 30 = _ from hd 30 (by decide)] at hK ⊢
      clear hd
      have xX00 := (X0.below hJ).a 0 (.bool e0) rfl
      have xX01 := (X0.below hJ).a 1 (.int .i64 D0) rfl
      have xX02 := (X0.below hJ).a 2 (.bool s0) rfl
      have xX03 := (X0.below hJ).a 3 (.int .u64 M0) rfl
      have xX04 := (X0.below hJ).a 4 (.int .i64 E0) rfl
      have xX05 := (X0.below hJ).a 5 (.int .i64 G0) rfl
      have xX06 := (X0.below hJ).a 6 (.bool g0) rfl
      have xX07 := (X0.below hJ).a 7 (.int .u64 P0) rfl
      have xX08 := (X0.below hJ).a 8 (.int .i64 Q0) rfl
      go_simp
      exact hK.out _ _ rfl (Below.refl _ _)
    refine Jo.jd 35 (some 70) [(some 65, 30), (some 68, 33), (some 69, 34)] (Jo.Fact.eq (.bool true)) rfl rfl rfl rfl (fun vs wj hJ hd K hK => ?_) ?_
    · have d33 : (Jo.Fact.iv x).P (vs 33) wj := hd 33 (by decide)
      simp only [Jo.putl, Jo.zd, Jo.ze, Act.put, Jo.za, Jo.zb, Jo.zc] at hK ⊢
      rw [show vs 30 = _ from hd 30 (by decide), show vs 34 = _ from hd 34 (by decide)] at hK ⊢
      clear hd
      generalize vs 33 = u33 at hK d33 ⊢
      obtain ⟨e41, K41, s41, M41, E41, K41b, s41b, M41b, E41b, rfl, v41⟩ := d33
      obtain ⟨rfl, rfl, rfl, rfl, rfl, rfl, rfl, rfl, rfl⟩ := v41.uniq c0
      go_simp
      exact hK.out _ _ (by first | rfl | (show Value.bool _ = Value.bool _; simp)) (Below.refl _ _)
    refine Jo.jd 36 (some 71) [(some 65, 30), (some 70, 35)] (Jo.Fact.eq (.bool true)) rfl rfl rfl rfl (fun vs wj hJ hd K hK => ?_) ?_
    · simp only [Jo.putl, Jo.zd, Jo.ze, Act.put, Jo.za, Jo.zb, Jo.zc] at hK ⊢
      rw [show vs 30 = _ from hd 30 (by decide), show vs 35 = _ from hd 35 (by decide)] at hK ⊢
      clear hd
      go_simp
      exact hK.out _ _ rfl (Below.refl _ _)
    refine Jo.jd 37 (some 72) [(some 71, 36)] (Jo.Fact.eq (.bool true)) rfl rfl rfl rfl (fun vs wj hJ hd K hK => ?_) ?_
    · simp only [Jo.putl, Jo.zd, Jo.ze, Act.put, Jo.za, Jo.zb, Jo.zc] at hK ⊢
      rw [show vs 36 = _ from hd 36 (by decide)] at hK ⊢
      clear hd
      go_simp
      exact hK.out _ _ rfl (Below.refl _ _)
    refine Jo.jd 38 (some 73) [(some 72, 37)] (Jo.Fact.iv allI) rfl rfl rfl rfl (fun vs wj hJ hd K hK => ?_) ?_
    · simp only [Jo.putl, Jo.zd, Jo.ze, Act.put, Jo.za, Jo.zb, Jo.zc] at hK ⊢
      rw [show vs 37 = _ from hd 37 (by decide)] at hK ⊢
      clear hd
      go_simp
      refine (kvMeet il8_nil rfl).mono ?_
      rintro ee wk ⟨e42, K42, s42, M42, E42, K42b, s42b, M42b, E42b, rfl, v42, B⟩
      exact hK.out _ _ ⟨e42, K42, s42, M42, E42, K42b, s42b, M42b, E42b, rfl, v42⟩ B
    refine Jo.jd 39 (some 74) [(some 72, 37)] (Jo.Fact.iv allI) rfl rfl rfl rfl (fun vs wj hJ hd K hK => ?_) ?_
    · simp only [Jo.putl, Jo.zd, Jo.ze, Act.put, Jo.za, Jo.zb, Jo.zc] at hK ⊢
      rw [show vs 37 = _ from hd 37 (by decide)] at hK ⊢
      clear hd
      go_simp
      refine (kvAll).mono ?_
      rintro ee wk ⟨e43, K43, s43, M43, E43, K43b, s43b, M43b, E43b, rfl, v43, B⟩
      exact hK.out _ _ ⟨e43, K43, s43, M43, E43, K43b, s43b, M43b, E43b, rfl, v43⟩ B
    refine Jo.jd 40 (some 75) [(some 72, 37), (some 73, 38), (some 74, 39)] (Jo.Fact.eq (.bool true)) rfl rfl rfl rfl (fun vs wj hJ hd K hK => ?_) ?_
    · have d38 : (Jo.Fact.iv allI).P (vs 38) wj := hd 38 (by decide)
      have d39 : (Jo.Fact.iv allI).P (vs 39) wj := hd 39 (by decide)
      simp only [Jo.putl, Jo.zd, Jo.ze, Act.put, Jo.za, Jo.zb, Jo.zc] at hK ⊢
      rw [show vs 37 = _ from hd 37 (by decide)] at hK ⊢
      clear hd
      generalize vs 38 = u38 at hK d38 ⊢
      generalize vs 39 = u39 at hK d39 ⊢
      obtain ⟨e42, K42, s42, M42, E42, K42b, s42b, M42b, E42b, rfl, v42⟩ := d38
      obtain ⟨e43, K43, s43, M43, E43, K43b, s43b, M43b, E43b, rfl, v43⟩ := d39
      obtain ⟨rfl, rfl, rfl, rfl, rfl, rfl, rfl, rfl, rfl⟩ := v42.uniq v43
      go_simp
      exact hK.out _ _ (by first | rfl | (show Value.bool _ = Value.bool _; simp)) (Below.refl _ _)
    refine Jo.jd 41 (some 76) [(some 72, 37), (some 75, 40)] (Jo.Fact.eq (.bool true)) rfl rfl rfl rfl (fun vs wj hJ hd K hK => ?_) ?_
    · simp only [Jo.putl, Jo.zd, Jo.ze, Act.put, Jo.za, Jo.zb, Jo.zc] at hK ⊢
      rw [show vs 37 = _ from hd 37 (by decide), show vs 40 = _ from hd 40 (by decide)] at hK ⊢
      clear hd
      go_simp
      exact hK.out _ _ rfl (Below.refl _ _)
    refine Jo.jd 42 (some 77) [(some 76, 41)] (Jo.Fact.eq (.bool true)) rfl rfl rfl rfl (fun vs wj hJ hd K hK => ?_) ?_
    · simp only [Jo.putl, Jo.zd, Jo.ze, Act.put, Jo.za, Jo.zb, Jo.zc] at hK ⊢
      rw [show vs 41 = _ from hd 41 (by decide)] at hK ⊢
      clear hd
      go_simp
      exact hK.out _ _ rfl (Below.refl _ _)
    refine Jo.jd 43 (some 78) [(some 77, 42)] (Jo.Fact.iv none) rfl rfl rfl rfl (fun vs wj hJ hd K hK => ?_) ?_
    · simp only [Jo.putl, Jo.zd, Jo.ze, Act.put, Jo.za, Jo.zb, Jo.zc] at hK ⊢
      rw [show vs 42 = _ from hd 42 (by decide)] at hK ⊢
      clear hd
      go_simp
      refine (kvHull il8_nil rfl).mono ?_
      rintro ee wk ⟨e44, K44, s44, M44, E44, K44b, s44b, M44b, E44b, rfl, v44, B⟩
      exact hK.out _ _ ⟨e44, K44, s44, M44, E44, K44b, s44b, M44b, E44b, rfl, v44⟩ B
    refine Jo.jd 44 (some 79) [(some 77, 42)] (Jo.Fact.iv none) rfl rfl rfl rfl (fun vs wj hJ hd K hK => ?_) ?_
    · simp only [Jo.putl, Jo.zd, Jo.ze, Act.put, Jo.za, Jo.zb, Jo.zc] at hK ⊢
      rw [show vs 42 = _ from hd 42 (by decide)] at hK ⊢
      clear hd
      go_simp
      refine (kvNone).mono ?_
      rintro ee wk ⟨e45, K45, s45, M45, E45, K45b, s45b, M45b, E45b, rfl, v45, B⟩
      exact hK.out _ _ ⟨e45, K45, s45, M45, E45, K45b, s45b, M45b, E45b, rfl, v45⟩ B
    refine Jo.jd 45 (some 80) [(some 77, 42), (some 78, 43), (some 79, 44)] (Jo.Fact.eq (.bool true)) rfl rfl rfl rfl (fun vs wj hJ hd K hK => ?_) ?_
    · have d43 : (Jo.Fact.iv none).P (vs 43) wj := hd 43 (by decide)
      have d44 : (Jo.Fact.iv none).P (vs 44) wj := hd 44 (by decide)
      simp only [Jo.putl, Jo.zd, Jo.ze, Act.put, Jo.za, Jo.zb, Jo.zc] at hK ⊢
      rw [show vs 42 = _ from hd 42 (by decide)] at hK ⊢
      clear hd
      generalize vs 43 = u43 at hK d43 ⊢
      generalize vs 44 = u44 at hK d44 ⊢
      obtain ⟨e44, K44, s44, M44, E44, K44b, s44b, M44b, E44b, rfl, v44⟩ := d43
      obtain ⟨e45, K45, s45, M45, E45, K45b, s45b, M45b, E45b, rfl, v45⟩ := d44
      obtain ⟨rfl, rfl, rfl, rfl, rfl, rfl, rfl, rfl, rfl⟩ := v44.uniq v45
      go_simp
      exact hK.out _ _ (by first | rfl | (show Value.bool _ = Value.bool _; simp)) (Below.refl _ _)
    refine Jo.jd 46 (some 81) [(some 77, 42), (some 80, 45)] (Jo.Fact.eq (.bool true)) rfl rfl rfl rfl (fun vs wj hJ hd K hK => ?_) ?_
    · simp only [Jo.putl, Jo.zd, Jo.ze, Act.put, Jo.za, Jo.zb, Jo.zc] at hK ⊢
      rw [show vs 42 = _ from hd 42 (by decide), show vs 45 = _ from hd 45 (by decide)] at hK ⊢
      clear hd
      go_simp
      exact hK.out _ _ rfl (Below.refl _ _)
    refine Jo.jd 47 (some 82) [(some 81, 46)] (Jo.Fact.eq (.bool true)) rfl rfl rfl rfl (fun vs wj hJ hd K hK => ?_) ?_
    · simp only [Jo.putl, Jo.zd, Jo.ze, Act.put, Jo.za, Jo.zb, Jo.zc] at hK ⊢
      rw [show vs 46 = _ from hd 46 (by decide)] at hK ⊢
      clear hd
      go_simp
      exact hK.out _ _ rfl (Below.refl _ _)
    refine Jo.jd 48 (some 83) [(some 82, 47)] (Jo.Fact.eq (.agg #[.bool e0, .int .i64 D0, .bool s0, .int .u64 M0, .int .i64 E0, .int .i64 G0, .bool g0, .int .u64 P0, .int .i64 Q0])) rfl rfl rfl rfl (fun vs wj hJ hd K hK => ?_) ?_
    · simp only [Jo.putl, Jo.zd, Jo.ze, Act.put, Jo.za, Jo.zb, Jo.zc] at hK ⊢
      rw [show vs 47 = _ from hd 47 (by decide)] at hK ⊢
      clear hd
      have xX00 := (X0.below hJ).a 0 (.bool e0) rfl
      have xX01 := (X0.below hJ).a 1 (.int .i64 D0) rfl
      have xX02 := (X0.below hJ).a 2 (.bool s0) rfl
      have xX03 := (X0.below hJ).a 3 (.int .u64 M0) rfl
      have xX04 := (X0.below hJ).a 4 (.int .i64 E0) rfl
      have xX05 := (X0.below hJ).a 5 (.int .i64 G0) rfl
      have xX06 := (X0.below hJ).a 6 (.bool g0) rfl
      have xX07 := (X0.below hJ).a 7 (.int .u64 P0) rfl
      have xX08 := (X0.below hJ).a 8 (.int .i64 Q0) rfl
      go_simp
      exact hK.out _ _ rfl (Below.refl _ _)
    refine Jo.jd 49 (some 84) [(some 82, 47)] (Jo.Fact.eq (.agg #[.bool e0, .int .i64 D0, .bool s0, .int .u64 M0, .int .i64 E0, .int .i64 G0, .bool g0, .int .u64 P0, .int .i64 Q0])) rfl rfl rfl rfl (fun vs wj hJ hd K hK => ?_) ?_
    · simp only [Jo.putl, Jo.zd, Jo.ze, Act.put, Jo.za, Jo.zb, Jo.zc] at hK ⊢
      rw [show vs 47 = _ from hd 47 (by decide)] at hK ⊢
      clear hd
      have xX00 := (X0.below hJ).a 0 (.bool e0) rfl
      have xX01 := (X0.below hJ).a 1 (.int .i64 D0) rfl
      have xX02 := (X0.below hJ).a 2 (.bool s0) rfl
      have xX03 := (X0.below hJ).a 3 (.int .u64 M0) rfl
      have xX04 := (X0.below hJ).a 4 (.int .i64 E0) rfl
      have xX05 := (X0.below hJ).a 5 (.int .i64 G0) rfl
      have xX06 := (X0.below hJ).a 6 (.bool g0) rfl
      have xX07 := (X0.below hJ).a 7 (.int .u64 P0) rfl
      have xX08 := (X0.below hJ).a 8 (.int .i64 Q0) rfl
      go_simp
      exact hK.out _ _ rfl (Below.refl _ _)
    refine Jo.jd 50 (some 85) [(some 82, 47), (some 83, 48), (some 84, 49)] (Jo.Fact.il8 2 [x, x]) rfl rfl rfl rfl (fun vs wj hJ hd K hK => ?_) ?_
    · simp only [Jo.putl, Jo.zd, Jo.ze, Act.put, Jo.za, Jo.zb, Jo.zc] at hK ⊢
      rw [show vs 47 = _ from hd 47 (by decide), show vs 48 = _ from hd 48 (by decide), show vs 49 = _ from hd 49 (by decide)] at hK ⊢
      clear hd
      go_simp
      exact hK.out _ _ ⟨_, 2, rfl, Il8.lit2 rfl c0.rw c0.rw⟩ (bel1 _ _)
    refine Jo.jd 51 (some 86) [(some 82, 47), (some 85, 50)] (Jo.Fact.iv x) rfl rfl rfl rfl (fun vs wj hJ hd K hK => ?_) ?_
    · have d50 : (Jo.Fact.il8 2 [x, x]).P (vs 50) wj := hd 50 (by decide)
      simp only [Jo.putl, Jo.zd, Jo.ze, Act.put, Jo.za, Jo.zb, Jo.zc] at hK ⊢
      rw [show vs 47 = _ from hd 47 (by decide)] at hK ⊢
      clear hd
      generalize vs 50 = u50 at hK d50 ⊢
      obtain ⟨A46, c46, rfl, h46⟩ := d50
      go_simp
      refine (kvHull h46 H3.out).mono ?_
      rintro ee wk ⟨e47, K47, s47, M47, E47, K47b, s47b, M47b, E47b, rfl, v47, B⟩
      exact hK.out _ _ ⟨e47, K47, s47, M47, E47, K47b, s47b, M47b, E47b, rfl, v47⟩ B
    refine Jo.jd 52 (some 87) [(some 82, 47)] (Jo.Fact.eq (.agg #[.bool e0, .int .i64 D0, .bool s0, .int .u64 M0, .int .i64 E0, .int .i64 G0, .bool g0, .int .u64 P0, .int .i64 Q0])) rfl rfl rfl rfl (fun vs wj hJ hd K hK => ?_) ?_
    · simp only [Jo.putl, Jo.zd, Jo.ze, Act.put, Jo.za, Jo.zb, Jo.zc] at hK ⊢
      rw [show vs 47 = _ from hd 47 (by decide)] at hK ⊢
      clear hd
      have xX00 := (X0.below hJ).a 0 (.bool e0) rfl
      have xX01 := (X0.below hJ).a 1 (.int .i64 D0) rfl
      have xX02 := (X0.below hJ).a 2 (.bool s0) rfl
      have xX03 := (X0.below hJ).a 3 (.int .u64 M0) rfl
      have xX04 := (X0.below hJ).a 4 (.int .i64 E0) rfl
      have xX05 := (X0.below hJ).a 5 (.int .i64 G0) rfl
      have xX06 := (X0.below hJ).a 6 (.bool g0) rfl
      have xX07 := (X0.below hJ).a 7 (.int .u64 P0) rfl
      have xX08 := (X0.below hJ).a 8 (.int .i64 Q0) rfl
      go_simp
      exact hK.out _ _ rfl (Below.refl _ _)
    refine Jo.jd 53 (some 88) [(some 82, 47), (some 86, 51), (some 87, 52)] (Jo.Fact.eq (.bool true)) rfl rfl rfl rfl (fun vs wj hJ hd K hK => ?_) ?_
    · have d51 : (Jo.Fact.iv x).P (vs 51) wj := hd 51 (by decide)
      simp only [Jo.putl, Jo.zd, Jo.ze, Act.put, Jo.za, Jo.zb, Jo.zc] at hK ⊢
      rw [show vs 47 = _ from hd 47 (by decide), show vs 52 = _ from hd 52 (by decide)] at hK ⊢
      clear hd
      generalize vs 51 = u51 at hK d51 ⊢
      obtain ⟨e47, K47, s47, M47, E47, K47b, s47b, M47b, E47b, rfl, v47⟩ := d51
      obtain ⟨rfl, rfl, rfl, rfl, rfl, rfl, rfl, rfl, rfl⟩ := v47.uniq c0
      go_simp
      exact hK.out _ _ (by first | rfl | (show Value.bool _ = Value.bool _; simp)) (Below.refl _ _)
    refine Jo.jd 54 (some 89) [(some 82, 47), (some 88, 53)] (Jo.Fact.eq (.bool true)) rfl rfl rfl rfl (fun vs wj hJ hd K hK => ?_) ?_
    · simp only [Jo.putl, Jo.zd, Jo.ze, Act.put, Jo.za, Jo.zb, Jo.zc] at hK ⊢
      rw [show vs 47 = _ from hd 47 (by decide), show vs 53 = _ from hd 53 (by decide)] at hK ⊢
      clear hd
      go_simp
      exact hK.out _ _ rfl (Below.refl _ _)
    refine Jo.jd 55 (some 90) [(some 89, 54)] (Jo.Fact.eq (.bool true)) rfl rfl rfl rfl (fun vs wj hJ hd K hK => ?_) ?_
    · simp only [Jo.putl, Jo.zd, Jo.ze, Act.put, Jo.za, Jo.zb, Jo.zc] at hK ⊢
      rw [show vs 54 = _ from hd 54 (by decide)] at hK ⊢
      clear hd
      go_simp
      exact hK.out _ _ rfl (Below.refl _ _)
    refine Jo.jd 56 (some 91) [(some 90, 55)] (Jo.Fact.eq (.agg #[.bool e0, .int .i64 D0, .bool s0, .int .u64 M0, .int .i64 E0, .int .i64 G0, .bool g0, .int .u64 P0, .int .i64 Q0])) rfl rfl rfl rfl (fun vs wj hJ hd K hK => ?_) ?_
    · simp only [Jo.putl, Jo.zd, Jo.ze, Act.put, Jo.za, Jo.zb, Jo.zc] at hK ⊢
      rw [show vs 55 = _ from hd 55 (by decide)] at hK ⊢
      clear hd
      have xX00 := (X0.below hJ).a 0 (.bool e0) rfl
      have xX01 := (X0.below hJ).a 1 (.int .i64 D0) rfl
      have xX02 := (X0.below hJ).a 2 (.bool s0) rfl
      have xX03 := (X0.below hJ).a 3 (.int .u64 M0) rfl
      have xX04 := (X0.below hJ).a 4 (.int .i64 E0) rfl
      have xX05 := (X0.below hJ).a 5 (.int .i64 G0) rfl
      have xX06 := (X0.below hJ).a 6 (.bool g0) rfl
      have xX07 := (X0.below hJ).a 7 (.int .u64 P0) rfl
      have xX08 := (X0.below hJ).a 8 (.int .i64 Q0) rfl
      go_simp
      exact hK.out _ _ rfl (Below.refl _ _)
    refine Jo.jd 57 (some 92) [(some 90, 55)] (Jo.Fact.eq (.agg #[.bool e0, .int .i64 D0, .bool s0, .int .u64 M0, .int .i64 E0, .int .i64 G0, .bool g0, .int .u64 P0, .int .i64 Q0])) rfl rfl rfl rfl (fun vs wj hJ hd K hK => ?_) ?_
    · simp only [Jo.putl, Jo.zd, Jo.ze, Act.put, Jo.za, Jo.zb, Jo.zc] at hK ⊢
      rw [show vs 55 = _ from hd 55 (by decide)] at hK ⊢
      clear hd
      have xX00 := (X0.below hJ).a 0 (.bool e0) rfl
      have xX01 := (X0.below hJ).a 1 (.int .i64 D0) rfl
      have xX02 := (X0.below hJ).a 2 (.bool s0) rfl
      have xX03 := (X0.below hJ).a 3 (.int .u64 M0) rfl
      have xX04 := (X0.below hJ).a 4 (.int .i64 E0) rfl
      have xX05 := (X0.below hJ).a 5 (.int .i64 G0) rfl
      have xX06 := (X0.below hJ).a 6 (.bool g0) rfl
      have xX07 := (X0.below hJ).a 7 (.int .u64 P0) rfl
      have xX08 := (X0.below hJ).a 8 (.int .i64 Q0) rfl
      go_simp
      exact hK.out _ _ rfl (Below.refl _ _)
    refine Jo.jd 58 (some 93) [(some 90, 55), (some 91, 56), (some 92, 57)] (Jo.Fact.il8 2 [x, x]) rfl rfl rfl rfl (fun vs wj hJ hd K hK => ?_) ?_
    · simp only [Jo.putl, Jo.zd, Jo.ze, Act.put, Jo.za, Jo.zb, Jo.zc] at hK ⊢
      rw [show vs 55 = _ from hd 55 (by decide), show vs 56 = _ from hd 56 (by decide), show vs 57 = _ from hd 57 (by decide)] at hK ⊢
      clear hd
      go_simp
      exact hK.out _ _ ⟨_, 2, rfl, Il8.lit2 rfl c0.rw c0.rw⟩ (bel1 _ _)
    refine Jo.jd 59 (some 94) [(some 90, 55), (some 93, 58)] (Jo.Fact.iv x) rfl rfl rfl rfl (fun vs wj hJ hd K hK => ?_) ?_
    · have d58 : (Jo.Fact.il8 2 [x, x]).P (vs 58) wj := hd 58 (by decide)
      simp only [Jo.putl, Jo.zd, Jo.ze, Act.put, Jo.za, Jo.zb, Jo.zc] at hK ⊢
      rw [show vs 55 = _ from hd 55 (by decide)] at hK ⊢
      clear hd
      generalize vs 58 = u58 at hK d58 ⊢
      obtain ⟨A48, c48, rfl, h48⟩ := d58
      go_simp
      refine (kvMeet h48 H4.out).mono ?_
      rintro ee wk ⟨e49, K49, s49, M49, E49, K49b, s49b, M49b, E49b, rfl, v49, B⟩
      exact hK.out _ _ ⟨e49, K49, s49, M49, E49, K49b, s49b, M49b, E49b, rfl, v49⟩ B
    refine Jo.jd 60 (some 95) [(some 90, 55)] (Jo.Fact.eq (.agg #[.bool e0, .int .i64 D0, .bool s0, .int .u64 M0, .int .i64 E0, .int .i64 G0, .bool g0, .int .u64 P0, .int .i64 Q0])) rfl rfl rfl rfl (fun vs wj hJ hd K hK => ?_) ?_
    · simp only [Jo.putl, Jo.zd, Jo.ze, Act.put, Jo.za, Jo.zb, Jo.zc] at hK ⊢
      rw [show vs 55 = _ from hd 55 (by decide)] at hK ⊢
      clear hd
      have xX00 := (X0.below hJ).a 0 (.bool e0) rfl
      have xX01 := (X0.below hJ).a 1 (.int .i64 D0) rfl
      have xX02 := (X0.below hJ).a 2 (.bool s0) rfl
      have xX03 := (X0.below hJ).a 3 (.int .u64 M0) rfl
      have xX04 := (X0.below hJ).a 4 (.int .i64 E0) rfl
      have xX05 := (X0.below hJ).a 5 (.int .i64 G0) rfl
      have xX06 := (X0.below hJ).a 6 (.bool g0) rfl
      have xX07 := (X0.below hJ).a 7 (.int .u64 P0) rfl
      have xX08 := (X0.below hJ).a 8 (.int .i64 Q0) rfl
      go_simp
      exact hK.out _ _ rfl (Below.refl _ _)
    refine Jo.jd 61 (some 96) [(some 90, 55), (some 94, 59), (some 95, 60)] (Jo.Fact.eq (.bool true)) rfl rfl rfl rfl (fun vs wj hJ hd K hK => ?_) ?_
    · have d59 : (Jo.Fact.iv x).P (vs 59) wj := hd 59 (by decide)
      simp only [Jo.putl, Jo.zd, Jo.ze, Act.put, Jo.za, Jo.zb, Jo.zc] at hK ⊢
      rw [show vs 55 = _ from hd 55 (by decide), show vs 60 = _ from hd 60 (by decide)] at hK ⊢
      clear hd
      generalize vs 59 = u59 at hK d59 ⊢
      obtain ⟨e49, K49, s49, M49, E49, K49b, s49b, M49b, E49b, rfl, v49⟩ := d59
      obtain ⟨rfl, rfl, rfl, rfl, rfl, rfl, rfl, rfl, rfl⟩ := v49.uniq c0
      go_simp
      exact hK.out _ _ (by first | rfl | (show Value.bool _ = Value.bool _; simp)) (Below.refl _ _)
    refine Jo.jd 62 (some 97) [(some 90, 55), (some 96, 61)] (Jo.Fact.eq (.bool true)) rfl rfl rfl rfl (fun vs wj hJ hd K hK => ?_) ?_
    · simp only [Jo.putl, Jo.zd, Jo.ze, Act.put, Jo.za, Jo.zb, Jo.zc] at hK ⊢
      rw [show vs 55 = _ from hd 55 (by decide), show vs 61 = _ from hd 61 (by decide)] at hK ⊢
      clear hd
      go_simp
      exact hK.out _ _ rfl (Below.refl _ _)
    refine Jo.jd 63 (some 6) [(some 97, 62)] (Jo.Fact.eq (.bool true)) rfl rfl rfl rfl (fun vs wj hJ hd K hK => ?_) ?_
    · simp only [Jo.putl, Jo.zd, Jo.ze, Act.put, Jo.za, Jo.zb, Jo.zc] at hK ⊢
      rw [show vs 62 = _ from hd 62 (by decide)] at hK ⊢
      clear hd
      go_simp
      exact hK.out _ _ rfl (Below.refl _ _)
    exact Jo.Steps.nil
  have d5 : (Jo.Fact.il8 2 [z, x]).P (vs 5) wA := hd 5 (by decide)
  have d6 : (Jo.Fact.iv p).P (vs 6) wA := hd 6 (by decide)
  have d8 : (Jo.Fact.il8 2 [p, y]).P (vs 8) wA := hd 8 (by decide)
  have d9 : (Jo.Fact.iv m).P (vs 9) wA := hd 9 (by decide)
  have d17 : (Jo.Fact.il8 2 [x, z]).P (vs 17) wA := hd 17 (by decide)
  have d18 : (Jo.Fact.iv q).P (vs 18) wA := hd 18 (by decide)
  have d19 : (Jo.Fact.il8 2 [y, q]).P (vs 19) wA := hd 19 (by decide)
  have d20 : (Jo.Fact.iv h).P (vs 20) wA := hd 20 (by decide)
  have d25 : (Jo.Fact.il8 1 [x]).P (vs 25) wA := hd 25 (by decide)
  have d26 : (Jo.Fact.iv x).P (vs 26) wA := hd 26 (by decide)
  have d32 : (Jo.Fact.il8 1 [x]).P (vs 32) wA := hd 32 (by decide)
  have d33 : (Jo.Fact.iv x).P (vs 33) wA := hd 33 (by decide)
  have d38 : (Jo.Fact.iv allI).P (vs 38) wA := hd 38 (by decide)
  have d39 : (Jo.Fact.iv allI).P (vs 39) wA := hd 39 (by decide)
  have d43 : (Jo.Fact.iv none).P (vs 43) wA := hd 43 (by decide)
  have d44 : (Jo.Fact.iv none).P (vs 44) wA := hd 44 (by decide)
  have d50 : (Jo.Fact.il8 2 [x, x]).P (vs 50) wA := hd 50 (by decide)
  have d51 : (Jo.Fact.iv x).P (vs 51) wA := hd 51 (by decide)
  have d58 : (Jo.Fact.il8 2 [x, x]).P (vs 58) wA := hd 58 (by decide)
  have d59 : (Jo.Fact.iv x).P (vs 59) wA := hd 59 (by decide)
  simp only [Jo.putl, Jo.zd, Jo.ze, Act.put, Jo.za, Jo.zb, Jo.zc]
  rw [show vs 0 = _ from hd 0 (by decide), show vs 1 = _ from hd 1 (by decide), show vs 2 = _ from hd 2 (by decide), show vs 3 = _ from hd 3 (by decide), show vs 4 = _ from hd 4 (by decide), show vs 7 = _ from hd 7 (by decide), show vs 10 = _ from hd 10 (by decide), show vs 11 = _ from hd 11 (by decide), show vs 12 = _ from hd 12 (by decide), show vs 13 = _ from hd 13 (by decide), show vs 14 = _ from hd 14 (by decide), show vs 15 = _ from hd 15 (by decide), show vs 16 = _ from hd 16 (by decide), show vs 21 = _ from hd 21 (by decide), show vs 22 = _ from hd 22 (by decide), show vs 23 = _ from hd 23 (by decide), show vs 24 = _ from hd 24 (by decide), show vs 27 = _ from hd 27 (by decide), show vs 28 = _ from hd 28 (by decide), show vs 29 = _ from hd 29 (by decide), show vs 30 = _ from hd 30 (by decide), show vs 31 = _ from hd 31 (by decide), show vs 34 = _ from hd 34 (by decide), show vs 35 = _ from hd 35 (by decide), show vs 36 = _ from hd 36 (by decide), show vs 37 = _ from hd 37 (by decide), show vs 40 = _ from hd 40 (by decide), show vs 41 = _ from hd 41 (by decide), show vs 42 = _ from hd 42 (by decide), show vs 45 = _ from hd 45 (by decide), show vs 46 = _ from hd 46 (by decide), show vs 47 = _ from hd 47 (by decide), show vs 48 = _ from hd 48 (by decide), show vs 49 = _ from hd 49 (by decide), show vs 52 = _ from hd 52 (by decide), show vs 53 = _ from hd 53 (by decide), show vs 54 = _ from hd 54 (by decide), show vs 55 = _ from hd 55 (by decide), show vs 56 = _ from hd 56 (by decide), show vs 57 = _ from hd 57 (by decide), show vs 60 = _ from hd 60 (by decide), show vs 61 = _ from hd 61 (by decide), show vs 62 = _ from hd 62 (by decide), show vs 63 = _ from hd 63 (by decide)]
  clear hd
  generalize vs 5 = u5 at d5 ⊢
  generalize vs 6 = u6 at d6 ⊢
  generalize vs 8 = u8 at d8 ⊢
  generalize vs 9 = u9 at d9 ⊢
  generalize vs 17 = u17 at d17 ⊢
  generalize vs 18 = u18 at d18 ⊢
  generalize vs 19 = u19 at d19 ⊢
  generalize vs 20 = u20 at d20 ⊢
  generalize vs 25 = u25 at d25 ⊢
  generalize vs 26 = u26 at d26 ⊢
  generalize vs 32 = u32 at d32 ⊢
  generalize vs 33 = u33 at d33 ⊢
  generalize vs 38 = u38 at d38 ⊢
  generalize vs 39 = u39 at d39 ⊢
  generalize vs 43 = u43 at d43 ⊢
  generalize vs 44 = u44 at d44 ⊢
  generalize vs 50 = u50 at d50 ⊢
  generalize vs 51 = u51 at d51 ⊢
  generalize vs 58 = u58 at d58 ⊢
  generalize vs 59 = u59 at d59 ⊢
  obtain ⟨_, _, rfl, _⟩ := d5
  obtain ⟨e31, K31, s31, M31, E31, K31b, s31b, M31b, E31b, rfl, v31⟩ := d6
  obtain ⟨_, _, rfl, _⟩ := d8
  obtain ⟨e33, K33, s33, M33, E33, K33b, s33b, M33b, E33b, rfl, v33⟩ := d9
  obtain ⟨_, _, rfl, _⟩ := d17
  obtain ⟨e35, K35, s35, M35, E35, K35b, s35b, M35b, E35b, rfl, v35⟩ := d18
  obtain ⟨_, _, rfl, _⟩ := d19
  obtain ⟨e37, K37, s37, M37, E37, K37b, s37b, M37b, E37b, rfl, v37⟩ := d20
  obtain ⟨_, _, rfl, _⟩ := d25
  obtain ⟨e39, K39, s39, M39, E39, K39b, s39b, M39b, E39b, rfl, v39⟩ := d26
  obtain ⟨_, _, rfl, _⟩ := d32
  obtain ⟨e41, K41, s41, M41, E41, K41b, s41b, M41b, E41b, rfl, v41⟩ := d33
  obtain ⟨e42, K42, s42, M42, E42, K42b, s42b, M42b, E42b, rfl, v42⟩ := d38
  obtain ⟨e43, K43, s43, M43, E43, K43b, s43b, M43b, E43b, rfl, v43⟩ := d39
  obtain ⟨e44, K44, s44, M44, E44, K44b, s44b, M44b, E44b, rfl, v44⟩ := d43
  obtain ⟨e45, K45, s45, M45, E45, K45b, s45b, M45b, E45b, rfl, v45⟩ := d44
  obtain ⟨_, _, rfl, _⟩ := d50
  obtain ⟨e47, K47, s47, M47, E47, K47b, s47b, M47b, E47b, rfl, v47⟩ := d51
  obtain ⟨_, _, rfl, _⟩ := d58
  obtain ⟨e49, K49, s49, M49, E49, K49b, s49b, M49b, E49b, rfl, v49⟩ := d59
  replace X0 := X0.below hJ
  replace X1 := X1.below hJ
  replace X2 := X2.below hJ
  replace X8 := X8.below hJ
  replace X9 := X9.below hJ
  replace HB := Lib.hid (bt HB.out hJ)
  refine Jo.jdone (by kernel_rfl) ?_
  go_wp2
  go_ret
  exact ⟨rfl, HB.out⟩

theorem ivMany_walk (e0 : Bool) (D0 : Int) (s0 : Bool) (M0 E0 G0 : Int) (g0 : Bool) (P0 Q0 : Int) (e1 : Bool) (D1 : Int) (s1 : Bool) (M1 E1 G1 : Int) (g1 : Bool) (P1 Q1 : Int) (e2 : Bool) (D2 : Int) (s2 : Bool) (M2 E2 G2 : Int) (g2 : Bool) (P2 Q2 : Int) (w : World) (u0 : M0 < 18446744073709551616) (v0 : P0 < 18446744073709551616) (u1 : M1 < 18446744073709551616) (v1 : P1 < 18446744073709551616) (u2 : M2 < 18446744073709551616) (v2 : P2 < 18446744073709551616) :
    Calls Try.prog 7 #[.agg #[.bool e0, .int .i64 D0, .bool s0, .int .u64 M0, .int .i64 E0, .int .i64 G0, .bool g0, .int .u64 P0, .int .i64 Q0], .agg #[.bool e1, .int .i64 D1, .bool s1, .int .u64 M1, .int .i64 E1, .int .i64 G1, .bool g1, .int .u64 P1, .int .i64 Q1], .agg #[.bool e2, .int .i64 D2, .bool s2, .int .u64 M2, .int .i64 E2, .int .i64 G2, .bool g2, .int .u64 P2, .int .i64 Q2]] w fun e w' => e = .returned (.bool true) ∧ Below w.heap.size w w' := by
  cases h0 : mayI e0 D0 s0 M0 E0 G0 g0 P0 Q0
  · exact ivMany_no0 e0 D0 s0 M0 E0 G0 g0 P0 Q0 e1 D1 s1 M1 E1 G1 g1 P1 Q1 e2 D2 s2 M2 E2 G2 g2 P2 Q2 w u0 v0 h0
  · cases h1 : mayI e1 D1 s1 M1 E1 G1 g1 P1 Q1
    · exact ivMany_no1 e0 D0 s0 M0 E0 G0 g0 P0 Q0 e1 D1 s1 M1 E1 G1 g1 P1 Q1 e2 D2 s2 M2 E2 G2 g2 P2 Q2 w u0 v0 u1 v1 h0 h1
    · cases h2 : mayI e2 D2 s2 M2 E2 G2 g2 P2 Q2
      · exact ivMany_no2 e0 D0 s0 M0 E0 G0 g0 P0 Q0 e1 D1 s1 M1 E1 G1 g1 P1 Q1 e2 D2 s2 M2 E2 G2 g2 P2 Q2 w u0 v0 u1 v1 u2 v2 h0 h1 h2
      · have c0 := mayI_ci u0 v0 h0
        have c1 := mayI_ci u1 v1 h1
        have c2 := mayI_ci u2 v2 h2
        obtain ⟨k1, k2, k3, k4, k5, k6⟩ := many c0.ok c1.ok c2.ok
        exact ivMany_main e0 D0 s0 M0 E0 G0 g0 P0 Q0 e1 D1 s1 M1 E1 G1 g1 P1 Q1 e2 D2 s2 M2 E2 G2 g2 P2 Q2 w _ _ _ _ _ _ _ c0 c1 c2 rfl rfl rfl k1 rfl k2 k3 k4 k5 k6
end Go.Proofs.Ythhlccdmflgbbaa

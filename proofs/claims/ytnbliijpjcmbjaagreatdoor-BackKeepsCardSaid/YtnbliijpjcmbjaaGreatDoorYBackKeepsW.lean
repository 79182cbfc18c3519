/-
  The walk of BackKeeps: for all arguments the call answers true, and nothing that was there has turned.
-/
import Derived.Test.YtnbliijpjcmbjaaGreatDoorYAbk
namespace Go.Proofs.YtnbliijpjcmbjaaGreatDoor
open Go.RowKit
set_option linter.unusedVariables false
set_option linter.unusedSimpArgs false
set_option maxRecDepth 100000

set_option maxHeartbeats 8000000 in
theorem backKeeps_main (e0 : Bool) (D0 : Int) (s0 : Bool) (M0 E0 G0 : Int) (g0 : Bool) (P0 Q0 : Int) (e1 : Bool) (D1 : Int) (s1 : Bool) (M1 E1 G1 : Int) (g1 : Bool) (P1 Q1 : Int) (e2 : Bool) (D2 : Int) (s2 : Bool) (M2 E2 G2 : Int) (g2 : Bool) (P2 Q2 : Int) (D3 : Int) (s3 : Bool) (M3 E3 : Int) (D4 : Int) (s4 : Bool) (M4 E4 : Int) (w : World) (z x y pm pn pa pb ma mb ta tb sq sA sB sC sD : Sp) (m n : Int) (p p2 tA tB tC tD : Bool) {q : Bool → Int → Int → Int} (hq : QF q) {r : Bool → Int → Int} (hr : RF r) (hT : Tab w) (hT2 : Tb w) (u0 : M0 < 18446744073709551616) (v0 : P0 < 18446744073709551616) (u1 : M1 < 18446744073709551616) (v1 : P1 < 18446744073709551616) (u2 : M2 < 18446744073709551616) (v2 : P2 < 18446744073709551616) (u3 : M3 < 18446744073709551616) (u4 : M4 < 18446744073709551616) (hz : rkI e0 D0 s0 M0 E0 G0 g0 P0 Q0 = z) (hx : rkI e1 D1 s1 M1 E1 G1 g1 P1 Q1 = x) (hy : rkI e2 D2 s2 M2 E2 G2 g2 P2 Q2 = y) (hm : rk D3 s3 M3 E3 = m) (hn : rk D4 s4 M4 E4 = n)
    (h0 : hasI x m = p) (h1 : hasI y n = p2) (hpm : mkI m m = pm) (hpn : mkI n n = pn)
    (h2 : meetI x (subI z y) = pa) (h3 : meetI y (subI z pa) = pb) (h4 : meetI x (addI z y) = ma) (h5 : meetI y (subI ma z) = mb) (h6 : timesB q z x y = (ta, tb)) (h7 : sqrB r z x = sq)
    (hsA : addL [pm, pn] = sA) (hsB : subI pm pn = sB) (hsC : mulI pm pn = sC) (hsD : sqrI pm = sD) (htA : witI sA z = tA) (htB : witI sB z = tB) (htC : witI sC z = tC) (htD : witI sD z = tD)
    (kA : p = true → p2 = true → tA = true → hasI pa m = true ∧ hasI pb n = true) (kB : p = true → p2 = true → tB = true → hasI ma m = true ∧ hasI mb n = true) (kC : p = true → p2 = true → tC = true → hasI ta m = true ∧ hasI tb n = true) (kD : p = true → p2 = true → tD = true → hasI sq m = true) :
    Calls Tryz.prog 7 #[.agg #[.bool e0, .int .i64 D0, .bool s0, .int .u64 M0, .int .i64 E0, .int .i64 G0, .bool g0, .int .u64 P0, .int .i64 Q0], .agg #[.bool e1, .int .i64 D1, .bool s1, .int .u64 M1, .int .i64 E1, .int .i64 G1, .bool g1, .int .u64 P1, .int .i64 Q1], .agg #[.bool e2, .int .i64 D2, .bool s2, .int .u64 M2, .int .i64 E2, .int .i64 G2, .bool g2, .int .u64 P2, .int .i64 Q2], .agg #[.int .i64 D3, .bool s3, .int .u64 M3, .int .i64 E3], .agg #[.int .i64 D4, .bool s4, .int .u64 M4, .int .i64 E4]] w (PB w true) := by
  have HT0 := Lib.hid hT2
  have HZ := Lib.hid hz
  have HX := Lib.hid hx
  have HY := Lib.hid hy
  have HM := Lib.hid hm
  have HN := Lib.hid hn
  have H0 := Lib.hid h0
  have H1 := Lib.hid h1
  have HPM := Lib.hid hpm
  have HPN := Lib.hid hpn
  have H2 := Lib.hid h2
  have H3 := Lib.hid h3
  have H4 := Lib.hid h4
  have H5 := Lib.hid h5
  have H6 := Lib.hid h6
  have H7 := Lib.hid h7
  have HSA := Lib.hid hsA
  have HSB := Lib.hid hsB
  have HSC := Lib.hid hsC
  have HSD := Lib.hid hsD
  have HTA := Lib.hid htA
  have HTB := Lib.hid htB
  have HTC := Lib.hid htC
  have HTD := Lib.hid htD
  have HKA := Lib.hid kA
  have HKB := Lib.hid kB
  have HKC := Lib.hid kC
  have HKD := Lib.hid kD
  have HQ := Lib.hid hq
  have HRR := Lib.hid hr
  clear hz hx hy hm hn h0 h1 hpm hpn h2 h3 h4 h5 h6 h7 hsA hsB hsC hsD htA htB htC htD kA kB kC kD hq hr
  go_enter Tryz.func7, Tryz.ntmps7
  go_upto_region 1 with (fail)
  have X0 := (Bo.newAt w (g := w.heap.size) (by simp) #[.bool e0, .int .i64 D0, .bool s0, .int .u64 M0, .int .i64 E0, .int .i64 G0, .bool g0, .int .u64 P0, .int .i64 Q0] 26).below (bel4 _ (.cells #[.bool e1, .int .i64 D1, .bool s1, .int .u64 M1, .int .i64 E1, .int .i64 G1, .bool g1, .int .u64 P1, .int .i64 Q1] 26) (.cells #[.bool e2, .int .i64 D2, .bool s2, .int .u64 M2, .int .i64 E2, .int .i64 G2, .bool g2, .int .u64 P2, .int .i64 Q2] 26) (.cells #[.int .i64 D3, .bool s3, .int .u64 M3, .int .i64 E3] 24) (.cells #[.int .i64 D4, .bool s4, .int .u64 M4, .int .i64 E4] 24))
  have X1 := (Bo.newAt (w.alloc (.cells #[.bool e0, .int .i64 D0, .bool s0, .int .u64 M0, .int .i64 E0, .int .i64 G0, .bool g0, .int .u64 P0, .int .i64 Q0] 26)) (g := w.heap.size + 1) (by simp) #[.bool e1, .int .i64 D1, .bool s1, .int .u64 M1, .int .i64 E1, .int .i64 G1, .bool g1, .int .u64 P1, .int .i64 Q1] 26).below (bel3 _ (.cells #[.bool e2, .int .i64 D2, .bool s2, .int .u64 M2, .int .i64 E2, .int .i64 G2, .bool g2, .int .u64 P2, .int .i64 Q2] 26) (.cells #[.int .i64 D3, .bool s3, .int .u64 M3, .int .i64 E3] 24) (.cells #[.int .i64 D4, .bool s4, .int .u64 M4, .int .i64 E4] 24))
  have X2 := (Bo.newAt ((w.alloc (.cells #[.bool e0, .int .i64 D0, .bool s0, .int .u64 M0, .int .i64 E0, .int .i64 G0, .bool g0, .int .u64 P0, .int .i64 Q0] 26)).alloc (.cells #[.bool e1, .int .i64 D1, .bool s1, .int .u64 M1, .int .i64 E1, .int .i64 G1, .bool g1, .int .u64 P1, .int .i64 Q1] 26)) (g := w.heap.size + 1 + 1) (by simp) #[.bool e2, .int .i64 D2, .bool s2, .int .u64 M2, .int .i64 E2, .int .i64 G2, .bool g2, .int .u64 P2, .int .i64 Q2] 26).below (bel2 _ (.cells #[.int .i64 D3, .bool s3, .int .u64 M3, .int .i64 E3] 24) (.cells #[.int .i64 D4, .bool s4, .int .u64 M4, .int .i64 E4] 24))
  have X3 := (Bo.newAt (((w.alloc (.cells #[.bool e0, .int .i64 D0, .bool s0, .int .u64 M0, .int .i64 E0, .int .i64 G0, .bool g0, .int .u64 P0, .int .i64 Q0] 26)).alloc (.cells #[.bool e1, .int .i64 D1, .bool s1, .int .u64 M1, .int .i64 E1, .int .i64 G1, .bool g1, .int .u64 P1, .int .i64 Q1] 26)).alloc (.cells #[.bool e2, .int .i64 D2, .bool s2, .int .u64 M2, .int .i64 E2, .int .i64 G2, .bool g2, .int .u64 P2, .int .i64 Q2] 26)) (g := w.heap.size + 1 + 1 + 1) (by simp) #[.int .i64 D3, .bool s3, .int .u64 M3, .int .i64 E3] 24).below (bel1 _ (.cells #[.int .i64 D4, .bool s4, .int .u64 M4, .int .i64 E4] 24))
  have X4 := (Bo.newAt ((((w.alloc (.cells #[.bool e0, .int .i64 D0, .bool s0, .int .u64 M0, .int .i64 E0, .int .i64 G0, .bool g0, .int .u64 P0, .int .i64 Q0] 26)).alloc (.cells #[.bool e1, .int .i64 D1, .bool s1, .int .u64 M1, .int .i64 E1, .int .i64 G1, .bool g1, .int .u64 P1, .int .i64 Q1] 26)).alloc (.cells #[.bool e2, .int .i64 D2, .bool s2, .int .u64 M2, .int .i64 E2, .int .i64 G2, .bool g2, .int .u64 P2, .int .i64 Q2] 26)).alloc (.cells #[.int .i64 D3, .bool s3, .int .u64 M3, .int .i64 E3] 24)) (g := w.heap.size + 1 + 1 + 1 + 1) (by simp) #[.int .i64 D4, .bool s4, .int .u64 M4, .int .i64 E4] 24)
  have HB := Lib.hid (bel5 w (.cells #[.bool e0, .int .i64 D0, .bool s0, .int .u64 M0, .int .i64 E0, .int .i64 G0, .bool g0, .int .u64 P0, .int .i64 Q0] 26) (.cells #[.bool e1, .int .i64 D1, .bool s1, .int .u64 M1, .int .i64 E1, .int .i64 G1, .bool g1, .int .u64 P1, .int .i64 Q1] 26) (.cells #[.bool e2, .int .i64 D2, .bool s2, .int .u64 M2, .int .i64 E2, .int .i64 G2, .bool g2, .int .u64 P2, .int .i64 Q2] 26) (.cells #[.int .i64 D3, .bool s3, .int .u64 M3, .int .i64 E3] 24) (.cells #[.int .i64 D4, .bool s4, .int .u64 M4, .int .i64 E4] 24))
  replace hT := hT.below HB.out
  replace hT2 := hT2.below HB.out
  generalize hW1 : (((((w.alloc (.cells #[.bool e0, .int .i64 D0, .bool s0, .int .u64 M0, .int .i64 E0, .int .i64 G0, .bool g0, .int .u64 P0, .int .i64 Q0] 26)).alloc (.cells #[.bool e1, .int .i64 D1, .bool s1, .int .u64 M1, .int .i64 E1, .int .i64 G1, .bool g1, .int .u64 P1, .int .i64 Q1] 26)).alloc (.cells #[.bool e2, .int .i64 D2, .bool s2, .int .u64 M2, .int .i64 E2, .int .i64 G2, .bool g2, .int .u64 P2, .int .i64 Q2] 26)).alloc (.cells #[.int .i64 D3, .bool s3, .int .u64 M3, .int .i64 E3] 24)).alloc (.cells #[.int .i64 D4, .bool s4, .int .u64 M4, .int .i64 E4] 24)) = w1 at *
  clear hW1
  go_wp2_with fail
  refine (awake10 hT hT2 HRR.out).mono ?_
  rintro ee w2 ⟨rfl, B⟩
  replace X0 := X0.below B
  replace X1 := X1.below B
  replace X2 := X2.below B
  replace X3 := X3.below B
  replace X4 := X4.below B
  replace hT := hT.below B
  replace hT2 := hT2.below B
  replace HB := Lib.hid (bt HB.out B)
  clear B
  have xX10 := X1.at (i := 0) (v := .bool e1) rfl
  have xX11 := X1.at (i := 1) (v := .int .i64 D1) rfl
  have xX12 := X1.at (i := 2) (v := .bool s1) rfl
  have xX13 := X1.at (i := 3) (v := .int .u64 M1) rfl
  have xX14 := X1.at (i := 4) (v := .int .i64 E1) rfl
  have xX15 := X1.at (i := 5) (v := .int .i64 G1) rfl
  have xX16 := X1.at (i := 6) (v := .bool g1) rfl
  have xX17 := X1.at (i := 7) (v := .int .u64 P1) rfl
  have xX18 := X1.at (i := 8) (v := .int .i64 Q1) rfl
  have xX30 := X3.at (i := 0) (v := .int .i64 D3) rfl
  have xX31 := X3.at (i := 1) (v := .bool s3) rfl
  have xX32 := X3.at (i := 2) (v := .int .u64 M3) rfl
  have xX33 := X3.at (i := 3) (v := .int .i64 E3) rfl
  go_wp2_with fail
  refine (kvHas u1 v1 u3 HX.out HM.out H0.out).mono ?_
  rintro ee w3 ⟨rfl, B⟩
  clear xX10 xX11 xX12 xX13 xX14 xX15 xX16 xX17 xX18 xX30 xX31 xX32 xX33
  replace X0 := X0.below B
  replace X1 := X1.below B
  replace X2 := X2.below B
  replace X3 := X3.below B
  replace X4 := X4.below B
  replace hT := hT.below B
  replace hT2 := hT2.below B
  replace HB := Lib.hid (bt HB.out B)
  clear B
  cases p
  · go_wp2
    go_ret
    exact ⟨rfl, HB.out⟩
  · have xX20 := X2.at (i := 0) (v := .bool e2) rfl
    have xX21 := X2.at (i := 1) (v := .int .i64 D2) rfl
    have xX22 := X2.at (i := 2) (v := .bool s2) rfl
    have xX23 := X2.at (i := 3) (v := .int .u64 M2) rfl
    have xX24 := X2.at (i := 4) (v := .int .i64 E2) rfl
    have xX25 := X2.at (i := 5) (v := .int .i64 G2) rfl
    have xX26 := X2.at (i := 6) (v := .bool g2) rfl
    have xX27 := X2.at (i := 7) (v := .int .u64 P2) rfl
    have xX28 := X2.at (i := 8) (v := .int .i64 Q2) rfl
    have xX40 := X4.at (i := 0) (v := .int .i64 D4) rfl
    have xX41 := X4.at (i := 1) (v := .bool s4) rfl
    have xX42 := X4.at (i := 2) (v := .int .u64 M4) rfl
    have xX43 := X4.at (i := 3) (v := .int .i64 E4) rfl
    go_wp2_with fail
    refine (kvHas u2 v2 u4 HY.out HN.out H1.out).mono ?_
    rintro ee w4 ⟨rfl, B⟩
    clear xX20 xX21 xX22 xX23 xX24 xX25 xX26 xX27 xX28 xX40 xX41 xX42 xX43
    replace X0 := X0.below B
    replace X1 := X1.below B
    replace X2 := X2.below B
    replace X3 := X3.below B
    replace X4 := X4.below B
    replace hT := hT.below B
    replace hT2 := hT2.below B
    replace HB := Lib.hid (bt HB.out B)
    clear B
    cases p2
    · go_wp2
      go_ret
      exact ⟨rfl, HB.out⟩
    · have xX30 := X3.at (i := 0) (v := .int .i64 D3) rfl
      have xX31 := X3.at (i := 1) (v := .bool s3) rfl
      have xX32 := X3.at (i := 2) (v := .int .u64 M3) rfl
      have xX33 := X3.at (i := 3) (v := .int .i64 E3) rfl
      go_wp2_with fail
      refine (kvPoint u3 HM.out HPM.out).mono ?_
      rintro ee w5 ⟨e12, K12, s12, M12, E12, K12b, s12b, M12b, E12b, rfl, v12, B⟩
      clear xX30 xX31 xX32 xX33
      replace X0 := X0.below B
      replace X1 := X1.below B
      replace X2 := X2.below B
      replace X3 := X3.below B
      replace X4 := X4.below B
      replace hT := hT.below B
      replace hT2 := hT2.below B
      replace HB := Lib.hid (bt HB.out B)
      clear B
      go_upto_region 5 with (fail)
      have lX12 := Nat.le_refl (World.heap w5).size
      have nX12X0 := X0.lt
      have nX12X1 := X1.lt
      have nX12X2 := X2.lt
      have nX12X3 := X3.lt
      have nX12X4 := X4.lt
      replace X0 := X0.below (bel1 _ (.cells #[.bool e12, .int .i64 K12, .bool s12, .int .u64 M12, .int .i64 E12, .int .i64 K12b, .bool s12b, .int .u64 M12b, .int .i64 E12b] 26))
      replace X1 := X1.below (bel1 _ (.cells #[.bool e12, .int .i64 K12, .bool s12, .int .u64 M12, .int .i64 E12, .int .i64 K12b, .bool s12b, .int .u64 M12b, .int .i64 E12b] 26))
      replace X2 := X2.below (bel1 _ (.cells #[.bool e12, .int .i64 K12, .bool s12, .int .u64 M12, .int .i64 E12, .int .i64 K12b, .bool s12b, .int .u64 M12b, .int .i64 E12b] 26))
      replace X3 := X3.below (bel1 _ (.cells #[.bool e12, .int .i64 K12, .bool s12, .int .u64 M12, .int .i64 E12, .int .i64 K12b, .bool s12b, .int .u64 M12b, .int .i64 E12b] 26))
      replace X4 := X4.below (bel1 _ (.cells #[.bool e12, .int .i64 K12, .bool s12, .int .u64 M12, .int .i64 E12, .int .i64 K12b, .bool s12b, .int .u64 M12b, .int .i64 E12b] 26))
      replace hT := hT.below (bel1 _ (.cells #[.bool e12, .int .i64 K12, .bool s12, .int .u64 M12, .int .i64 E12, .int .i64 K12b, .bool s12b, .int .u64 M12b, .int .i64 E12b] 26))
      replace hT2 := hT2.below (bel1 _ (.cells #[.bool e12, .int .i64 K12, .bool s12, .int .u64 M12, .int .i64 E12, .int .i64 K12b, .bool s12b, .int .u64 M12b, .int .i64 E12b] 26))
      replace HB := Lib.hid (bt HB.out (bel1 _ (.cells #[.bool e12, .int .i64 K12, .bool s12, .int .u64 M12, .int .i64 E12, .int .i64 K12b, .bool s12b, .int .u64 M12b, .int .i64 E12b] 26)))
      have X12 := Bo.new w5 #[.bool e12, .int .i64 K12, .bool s12, .int .u64 M12, .int .i64 E12, .int .i64 K12b, .bool s12b, .int .u64 M12b, .int .i64 E12b] 26
      generalize hWn : World.alloc w5 (.cells #[.bool e12, .int .i64 K12, .bool s12, .int .u64 M12, .int .i64 E12, .int .i64 K12b, .bool s12b, .int .u64 M12b, .int .i64 E12b] 26) = w6 at *
      clear hWn
      clear lX12
      have xX40 := X4.at (i := 0) (v := .int .i64 D4) rfl
      have xX41 := X4.at (i := 1) (v := .bool s4) rfl
      have xX42 := X4.at (i := 2) (v := .int .u64 M4) rfl
      have xX43 := X4.at (i := 3) (v := .int .i64 E4) rfl
      go_wp2_with fail
      refine (kvPoint u4 HN.out HPN.out).mono ?_
      rintro ee w7 ⟨e13, K13, s13, M13, E13, K13b, s13b, M13b, E13b, rfl, v13, B⟩
      clear xX40 xX41 xX42 xX43
      replace X0 := X0.below B
      replace X1 := X1.below B
      replace X2 := X2.below B
      replace X3 := X3.below B
      replace X4 := X4.below B
      replace X12 := X12.below B
      replace hT := hT.below B
      replace hT2 := hT2.below B
      replace HB := Lib.hid (bt HB.out B)
      clear B
      go_upto_region 6 with (fail)
      have lX13 := Nat.le_refl (World.heap w7).size
      have nX13X0 := X0.lt
      have nX13X1 := X1.lt
      have nX13X2 := X2.lt
      have nX13X3 := X3.lt
      have nX13X4 := X4.lt
      have nX13X12 := X12.lt
      replace X0 := X0.below (bel1 _ (.cells #[.bool e13, .int .i64 K13, .bool s13, .int .u64 M13, .int .i64 E13, .int .i64 K13b, .bool s13b, .int .u64 M13b, .int .i64 E13b] 26))
      replace X1 := X1.below (bel1 _ (.cells #[.bool e13, .int .i64 K13, .bool s13, .int .u64 M13, .int .i64 E13, .int .i64 K13b, .bool s13b, .int .u64 M13b, .int .i64 E13b] 26))
      replace X2 := X2.below (bel1 _ (.cells #[.bool e13, .int .i64 K13, .bool s13, .int .u64 M13, .int .i64 E13, .int .i64 K13b, .bool s13b, .int .u64 M13b, .int .i64 E13b] 26))
      replace X3 := X3.below (bel1 _ (.cells #[.bool e13, .int .i64 K13, .bool s13, .int .u64 M13, .int .i64 E13, .int .i64 K13b, .bool s13b, .int .u64 M13b, .int .i64 E13b] 26))
      replace X4 := X4.below (bel1 _ (.cells #[.bool e13, .int .i64 K13, .bool s13, .int .u64 M13, .int .i64 E13, .int .i64 K13b, .bool s13b, .int .u64 M13b, .int .i64 E13b] 26))
      replace X12 := X12.below (bel1 _ (.cells #[.bool e13, .int .i64 K13, .bool s13, .int .u64 M13, .int .i64 E13, .int .i64 K13b, .bool s13b, .int .u64 M13b, .int .i64 E13b] 26))
      replace hT := hT.below (bel1 _ (.cells #[.bool e13, .int .i64 K13, .bool s13, .int .u64 M13, .int .i64 E13, .int .i64 K13b, .bool s13b, .int .u64 M13b, .int .i64 E13b] 26))
      replace hT2 := hT2.below (bel1 _ (.cells #[.bool e13, .int .i64 K13, .bool s13, .int .u64 M13, .int .i64 E13, .int .i64 K13b, .bool s13b, .int .u64 M13b, .int .i64 E13b] 26))
      replace HB := Lib.hid (bt HB.out (bel1 _ (.cells #[.bool e13, .int .i64 K13, .bool s13, .int .u64 M13, .int .i64 E13, .int .i64 K13b, .bool s13b, .int .u64 M13b, .int .i64 E13b] 26)))
      have X13 := Bo.new w7 #[.bool e13, .int .i64 K13, .bool s13, .int .u64 M13, .int .i64 E13, .int .i64 K13b, .bool s13b, .int .u64 M13b, .int .i64 E13b] 26
      generalize hWn : World.alloc w7 (.cells #[.bool e13, .int .i64 K13, .bool s13, .int .u64 M13, .int .i64 E13, .int .i64 K13b, .bool s13b, .int .u64 M13b, .int .i64 E13b] 26) = w8 at *
      clear hWn
      clear lX13
      have xX00 := X0.at (i := 0) (v := .bool e0) rfl
      have xX01 := X0.at (i := 1) (v := .int .i64 D0) rfl
      have xX02 := X0.at (i := 2) (v := .bool s0) rfl
      have xX03 := X0.at (i := 3) (v := .int .u64 M0) rfl
      have xX04 := X0.at (i := 4) (v := .int .i64 E0) rfl
      have xX05 := X0.at (i := 5) (v := .int .i64 G0) rfl
      have xX06 := X0.at (i := 6) (v := .bool g0) rfl
      have xX07 := X0.at (i := 7) (v := .int .u64 P0) rfl
      have xX08 := X0.at (i := 8) (v := .int .i64 Q0) rfl
      have xX10 := X1.at (i := 0) (v := .bool e1) rfl
      have xX11 := X1.at (i := 1) (v := .int .i64 D1) rfl
      have xX12 := X1.at (i := 2) (v := .bool s1) rfl
      have xX13 := X1.at (i := 3) (v := .int .u64 M1) rfl
      have xX14 := X1.at (i := 4) (v := .int .i64 E1) rfl
      have xX15 := X1.at (i := 5) (v := .int .i64 G1) rfl
      have xX16 := X1.at (i := 6) (v := .bool g1) rfl
      have xX17 := X1.at (i := 7) (v := .int .u64 P1) rfl
      have xX18 := X1.at (i := 8) (v := .int .i64 Q1) rfl
      have xX20 := X2.at (i := 0) (v := .bool e2) rfl
      have xX21 := X2.at (i := 1) (v := .int .i64 D2) rfl
      have xX22 := X2.at (i := 2) (v := .bool s2) rfl
      have xX23 := X2.at (i := 3) (v := .int .u64 M2) rfl
      have xX24 := X2.at (i := 4) (v := .int .i64 E2) rfl
      have xX25 := X2.at (i := 5) (v := .int .i64 G2) rfl
      have xX26 := X2.at (i := 6) (v := .bool g2) rfl
      have xX27 := X2.at (i := 7) (v := .int .u64 P2) rfl
      have xX28 := X2.at (i := 8) (v := .int .i64 Q2) rfl
      go_wp2_with fail
      refine (bkPlus hT2 u0 v0 u1 v1 u2 v2 HZ.out HX.out HY.out H2.out H3.out).mono ?_
      rintro ee w9 ⟨e21, K21, s21, M21, E21, K21b, s21b, M21b, E21b, e22, K22, s22, M22, E22, K22b, s22b, M22b, E22b, rfl, v21, v22, B⟩
      clear xX00 xX01 xX02 xX03 xX04 xX05 xX06 xX07 xX08 xX10 xX11 xX12 xX13 xX14 xX15 xX16 xX17 xX18 xX20 xX21 xX22 xX23 xX24 xX25 xX26 xX27 xX28
      replace X0 := X0.below B
      replace X1 := X1.below B
      replace X2 := X2.below B
      replace X3 := X3.below B
      replace X4 := X4.below B
      replace X12 := X12.below B
      replace X13 := X13.below B
      replace hT := hT.below B
      replace hT2 := hT2.below B
      replace HB := Lib.hid (bt HB.out B)
      clear B
      go_upto_region 7 with (fail)
      have e4X15 : (World.alloc w9 (.cells #[.bool e21, .int .i64 K21, .bool s21, .int .u64 M21, .int .i64 E21, .int .i64 K21b, .bool s21b, .int .u64 M21b, .int .i64 E21b] 26)).heap.size = w9.heap.size + 1 := by simp
      have lX14 := Nat.le_refl (World.heap w9).size
      have nX14X0 := X0.lt
      have nX14X1 := X1.lt
      have nX14X2 := X2.lt
      have nX14X3 := X3.lt
      have nX14X4 := X4.lt
      have nX14X12 := X12.lt
      have nX14X13 := X13.lt
      replace X0 := X0.below (bel1 _ (.cells #[.bool e21, .int .i64 K21, .bool s21, .int .u64 M21, .int .i64 E21, .int .i64 K21b, .bool s21b, .int .u64 M21b, .int .i64 E21b] 26))
      replace X1 := X1.below (bel1 _ (.cells #[.bool e21, .int .i64 K21, .bool s21, .int .u64 M21, .int .i64 E21, .int .i64 K21b, .bool s21b, .int .u64 M21b, .int .i64 E21b] 26))
      replace X2 := X2.below (bel1 _ (.cells #[.bool e21, .int .i64 K21, .bool s21, .int .u64 M21, .int .i64 E21, .int .i64 K21b, .bool s21b, .int .u64 M21b, .int .i64 E21b] 26))
      replace X3 := X3.below (bel1 _ (.cells #[.bool e21, .int .i64 K21, .bool s21, .int .u64 M21, .int .i64 E21, .int .i64 K21b, .bool s21b, .int .u64 M21b, .int .i64 E21b] 26))
      replace X4 := X4.below (bel1 _ (.cells #[.bool e21, .int .i64 K21, .bool s21, .int .u64 M21, .int .i64 E21, .int .i64 K21b, .bool s21b, .int .u64 M21b, .int .i64 E21b] 26))
      replace X12 := X12.below (bel1 _ (.cells #[.bool e21, .int .i64 K21, .bool s21, .int .u64 M21, .int .i64 E21, .int .i64 K21b, .bool s21b, .int .u64 M21b, .int .i64 E21b] 26))
      replace X13 := X13.below (bel1 _ (.cells #[.bool e21, .int .i64 K21, .bool s21, .int .u64 M21, .int .i64 E21, .int .i64 K21b, .bool s21b, .int .u64 M21b, .int .i64 E21b] 26))
      replace hT := hT.below (bel1 _ (.cells #[.bool e21, .int .i64 K21, .bool s21, .int .u64 M21, .int .i64 E21, .int .i64 K21b, .bool s21b, .int .u64 M21b, .int .i64 E21b] 26))
      replace hT2 := hT2.below (bel1 _ (.cells #[.bool e21, .int .i64 K21, .bool s21, .int .u64 M21, .int .i64 E21, .int .i64 K21b, .bool s21b, .int .u64 M21b, .int .i64 E21b] 26))
      replace HB := Lib.hid (bt HB.out (bel1 _ (.cells #[.bool e21, .int .i64 K21, .bool s21, .int .u64 M21, .int .i64 E21, .int .i64 K21b, .bool s21b, .int .u64 M21b, .int .i64 E21b] 26)))
      have X14 := Bo.new w9 #[.bool e21, .int .i64 K21, .bool s21, .int .u64 M21, .int .i64 E21, .int .i64 K21b, .bool s21b, .int .u64 M21b, .int .i64 E21b] 26
      generalize hWn : World.alloc w9 (.cells #[.bool e21, .int .i64 K21, .bool s21, .int .u64 M21, .int .i64 E21, .int .i64 K21b, .bool s21b, .int .u64 M21b, .int .i64 E21b] 26) = wA at *
      clear hWn
      have lX15 := Nat.le_refl (World.heap wA).size
      have nX15X0 := X0.lt
      have nX15X1 := X1.lt
      have nX15X2 := X2.lt
      have nX15X3 := X3.lt
      have nX15X4 := X4.lt
      have nX15X12 := X12.lt
      have nX15X13 := X13.lt
      have nX15X14 := X14.lt
      replace X0 := X0.below (bel1 _ (.cells #[.bool e22, .int .i64 K22, .bool s22, .int .u64 M22, .int .i64 E22, .int .i64 K22b, .bool s22b, .int .u64 M22b, .int .i64 E22b] 26))
      replace X1 := X1.below (bel1 _ (.cells #[.bool e22, .int .i64 K22, .bool s22, .int .u64 M22, .int .i64 E22, .int .i64 K22b, .bool s22b, .int .u64 M22b, .int .i64 E22b] 26))
      replace X2 := X2.below (bel1 _ (.cells #[.bool e22, .int .i64 K22, .bool s22, .int .u64 M22, .int .i64 E22, .int .i64 K22b, .bool s22b, .int .u64 M22b, .int .i64 E22b] 26))
      replace X3 := X3.below (bel1 _ (.cells #[.bool e22, .int .i64 K22, .bool s22, .int .u64 M22, .int .i64 E22, .int .i64 K22b, .bool s22b, .int .u64 M22b, .int .i64 E22b] 26))
      replace X4 := X4.below (bel1 _ (.cells #[.bool e22, .int .i64 K22, .bool s22, .int .u64 M22, .int .i64 E22, .int .i64 K22b, .bool s22b, .int .u64 M22b, .int .i64 E22b] 26))
      replace X12 := X12.below (bel1 _ (.cells #[.bool e22, .int .i64 K22, .bool s22, .int .u64 M22, .int .i64 E22, .int .i64 K22b, .bool s22b, .int .u64 M22b, .int .i64 E22b] 26))
      replace X13 := X13.below (bel1 _ (.cells #[.bool e22, .int .i64 K22, .bool s22, .int .u64 M22, .int .i64 E22, .int .i64 K22b, .bool s22b, .int .u64 M22b, .int .i64 E22b] 26))
      replace X14 := X14.below (bel1 _ (.cells #[.bool e22, .int .i64 K22, .bool s22, .int .u64 M22, .int .i64 E22, .int .i64 K22b, .bool s22b, .int .u64 M22b, .int .i64 E22b] 26))
      replace hT := hT.below (bel1 _ (.cells #[.bool e22, .int .i64 K22, .bool s22, .int .u64 M22, .int .i64 E22, .int .i64 K22b, .bool s22b, .int .u64 M22b, .int .i64 E22b] 26))
      replace hT2 := hT2.below (bel1 _ (.cells #[.bool e22, .int .i64 K22, .bool s22, .int .u64 M22, .int .i64 E22, .int .i64 K22b, .bool s22b, .int .u64 M22b, .int .i64 E22b] 26))
      replace HB := Lib.hid (bt HB.out (bel1 _ (.cells #[.bool e22, .int .i64 K22, .bool s22, .int .u64 M22, .int .i64 E22, .int .i64 K22b, .bool s22b, .int .u64 M22b, .int .i64 E22b] 26)))
      have X15 := Bo.new wA #[.bool e22, .int .i64 K22, .bool s22, .int .u64 M22, .int .i64 E22, .int .i64 K22b, .bool s22b, .int .u64 M22b, .int .i64 E22b] 26
      generalize hWn : World.alloc wA (.cells #[.bool e22, .int .i64 K22, .bool s22, .int .u64 M22, .int .i64 E22, .int .i64 K22b, .bool s22b, .int .u64 M22b, .int .i64 E22b] 26) = wB at *
      clear hWn
      rw [e4X15] at X15
      clear lX14 lX15 e4X15
      have xX00 := X0.at (i := 0) (v := .bool e0) rfl
      have xX01 := X0.at (i := 1) (v := .int .i64 D0) rfl
      have xX02 := X0.at (i := 2) (v := .bool s0) rfl
      have xX03 := X0.at (i := 3) (v := .int .u64 M0) rfl
      have xX04 := X0.at (i := 4) (v := .int .i64 E0) rfl
      have xX05 := X0.at (i := 5) (v := .int .i64 G0) rfl
      have xX06 := X0.at (i := 6) (v := .bool g0) rfl
      have xX07 := X0.at (i := 7) (v := .int .u64 P0) rfl
      have xX08 := X0.at (i := 8) (v := .int .i64 Q0) rfl
      have xX10 := X1.at (i := 0) (v := .bool e1) rfl
      have xX11 := X1.at (i := 1) (v := .int .i64 D1) rfl
      have xX12 := X1.at (i := 2) (v := .bool s1) rfl
      have xX13 := X1.at (i := 3) (v := .int .u64 M1) rfl
      have xX14 := X1.at (i := 4) (v := .int .i64 E1) rfl
      have xX15 := X1.at (i := 5) (v := .int .i64 G1) rfl
      have xX16 := X1.at (i := 6) (v := .bool g1) rfl
      have xX17 := X1.at (i := 7) (v := .int .u64 P1) rfl
      have xX18 := X1.at (i := 8) (v := .int .i64 Q1) rfl
      have xX20 := X2.at (i := 0) (v := .bool e2) rfl
      have xX21 := X2.at (i := 1) (v := .int .i64 D2) rfl
      have xX22 := X2.at (i := 2) (v := .bool s2) rfl
      have xX23 := X2.at (i := 3) (v := .int .u64 M2) rfl
      have xX24 := X2.at (i := 4) (v := .int .i64 E2) rfl
      have xX25 := X2.at (i := 5) (v := .int .i64 G2) rfl
      have xX26 := X2.at (i := 6) (v := .bool g2) rfl
      have xX27 := X2.at (i := 7) (v := .int .u64 P2) rfl
      have xX28 := X2.at (i := 8) (v := .int .i64 Q2) rfl
      go_wp2_with fail
      refine (bkMinus hT2 u0 v0 u1 v1 u2 v2 HZ.out HX.out HY.out H4.out H5.out).mono ?_
      rintro ee wC ⟨e23, K23, s23, M23, E23, K23b, s23b, M23b, E23b, e24, K24, s24, M24, E24, K24b, s24b, M24b, E24b, rfl, v23, v24, B⟩
      clear xX00 xX01 xX02 xX03 xX04 xX05 xX06 xX07 xX08 xX10 xX11 xX12 xX13 xX14 xX15 xX16 xX17 xX18 xX20 xX21 xX22 xX23 xX24 xX25 xX26 xX27 xX28
      replace X0 := X0.below B
      replace X1 := X1.below B
      replace X2 := X2.below B
      replace X3 := X3.below B
      replace X4 := X4.below B
      replace X12 := X12.below B
      replace X13 := X13.below B
      replace X14 := X14.below B
      replace X15 := X15.below B
      replace hT := hT.below B
      replace hT2 := hT2.below B
      replace HB := Lib.hid (bt HB.out B)
      clear B
      go_upto_region 8 with (fail)
      have e4X17 : (World.alloc wC (.cells #[.bool e23, .int .i64 K23, .bool s23, .int .u64 M23, .int .i64 E23, .int .i64 K23b, .bool s23b, .int .u64 M23b, .int .i64 E23b] 26)).heap.size = wC.heap.size + 1 := by simp
      have lX16 := Nat.le_refl (World.heap wC).size
      have nX16X0 := X0.lt
      have nX16X1 := X1.lt
      have nX16X2 := X2.lt
      have nX16X3 := X3.lt
      have nX16X4 := X4.lt
      have nX16X12 := X12.lt
      have nX16X13 := X13.lt
      have nX16X14 := X14.lt
      have nX16X15 := X15.lt
      replace X0 := X0.below (bel1 _ (.cells #[.bool e23, .int .i64 K23, .bool s23, .int .u64 M23, .int .i64 E23, .int .i64 K23b, .bool s23b, .int .u64 M23b, .int .i64 E23b] 26))
      replace X1 := X1.below (bel1 _ (.cells #[.bool e23, .int .i64 K23, .bool s23, .int .u64 M23, .int .i64 E23, .int .i64 K23b, .bool s23b, .int .u64 M23b, .int .i64 E23b] 26))
      replace X2 := X2.below (bel1 _ (.cells #[.bool e23, .int .i64 K23, .bool s23, .int .u64 M23, .int .i64 E23, .int .i64 K23b, .bool s23b, .int .u64 M23b, .int .i64 E23b] 26))
      replace X3 := X3.below (bel1 _ (.cells #[.bool e23, .int .i64 K23, .bool s23, .int .u64 M23, .int .i64 E23, .int .i64 K23b, .bool s23b, .int .u64 M23b, .int .i64 E23b] 26))
      replace X4 := X4.below (bel1 _ (.cells #[.bool e23, .int .i64 K23, .bool s23, .int .u64 M23, .int .i64 E23, .int .i64 K23b, .bool s23b, .int .u64 M23b, .int .i64 E23b] 26))
      replace X12 := X12.below (bel1 _ (.cells #[.bool e23, .int .i64 K23, .bool s23, .int .u64 M23, .int .i64 E23, .int .i64 K23b, .bool s23b, .int .u64 M23b, .int .i64 E23b] 26))
      replace X13 := X13.below (bel1 _ (.cells #[.bool e23, .int .i64 K23, .bool s23, .int .u64 M23, .int .i64 E23, .int .i64 K23b, .bool s23b, .int .u64 M23b, .int .i64 E23b] 26))
      replace X14 := X14.below (bel1 _ (.cells #[.bool e23, .int .i64 K23, .bool s23, .int .u64 M23, .int .i64 E23, .int .i64 K23b, .bool s23b, .int .u64 M23b, .int .i64 E23b] 26))
      replace X15 := X15.below (bel1 _ (.cells #[.bool e23, .int .i64 K23, .bool s23, .int .u64 M23, .int .i64 E23, .int .i64 K23b, .bool s23b, .int .u64 M23b, .int .i64 E23b] 26))
      replace hT := hT.below (bel1 _ (.cells #[.bool e23, .int .i64 K23, .bool s23, .int .u64 M23, .int .i64 E23, .int .i64 K23b, .bool s23b, .int .u64 M23b, .int .i64 E23b] 26))
      replace hT2 := hT2.below (bel1 _ (.cells #[.bool e23, .int .i64 K23, .bool s23, .int .u64 M23, .int .i64 E23, .int .i64 K23b, .bool s23b, .int .u64 M23b, .int .i64 E23b] 26))
      replace HB := Lib.hid (bt HB.out (bel1 _ (.cells #[.bool e23, .int .i64 K23, .bool s23, .int .u64 M23, .int .i64 E23, .int .i64 K23b, .bool s23b, .int .u64 M23b, .int .i64 E23b] 26)))
      have X16 := Bo.new wC #[.bool e23, .int .i64 K23, .bool s23, .int .u64 M23, .int .i64 E23, .int .i64 K23b, .bool s23b, .int .u64 M23b, .int .i64 E23b] 26
      generalize hWn : World.alloc wC (.cells #[.bool e23, .int .i64 K23, .bool s23, .int .u64 M23, .int .i64 E23, .int .i64 K23b, .bool s23b, .int .u64 M23b, .int .i64 E23b] 26) = wD at *
      clear hWn
      have lX17 := Nat.le_refl (World.heap wD).size
      have nX17X0 := X0.lt
      have nX17X1 := X1.lt
      have nX17X2 := X2.lt
      have nX17X3 := X3.lt
      have nX17X4 := X4.lt
      have nX17X12 := X12.lt
      have nX17X13 := X13.lt
      have nX17X14 := X14.lt
      have nX17X15 := X15.lt
      have nX17X16 := X16.lt
      replace X0 := X0.below (bel1 _ (.cells #[.bool e24, .int .i64 K24, .bool s24, .int .u64 M24, .int .i64 E24, .int .i64 K24b, .bool s24b, .int .u64 M24b, .int .i64 E24b] 26))
      replace X1 := X1.below (bel1 _ (.cells #[.bool e24, .int .i64 K24, .bool s24, .int .u64 M24, .int .i64 E24, .int .i64 K24b, .bool s24b, .int .u64 M24b, .int .i64 E24b] 26))
      replace X2 := X2.below (bel1 _ (.cells #[.bool e24, .int .i64 K24, .bool s24, .int .u64 M24, .int .i64 E24, .int .i64 K24b, .bool s24b, .int .u64 M24b, .int .i64 E24b] 26))
      replace X3 := X3.below (bel1 _ (.cells #[.bool e24, .int .i64 K24, .bool s24, .int .u64 M24, .int .i64 E24, .int .i64 K24b, .bool s24b, .int .u64 M24b, .int .i64 E24b] 26))
      replace X4 := X4.below (bel1 _ (.cells #[.bool e24, .int .i64 K24, .bool s24, .int .u64 M24, .int .i64 E24, .int .i64 K24b, .bool s24b, .int .u64 M24b, .int .i64 E24b] 26))
      replace X12 := X12.below (bel1 _ (.cells #[.bool e24, .int .i64 K24, .bool s24, .int .u64 M24, .int .i64 E24, .int .i64 K24b, .bool s24b, .int .u64 M24b, .int .i64 E24b] 26))
      replace X13 := X13.below (bel1 _ (.cells #[.bool e24, .int .i64 K24, .bool s24, .int .u64 M24, .int .i64 E24, .int .i64 K24b, .bool s24b, .int .u64 M24b, .int .i64 E24b] 26))
      replace X14 := X14.below (bel1 _ (.cells #[.bool e24, .int .i64 K24, .bool s24, .int .u64 M24, .int .i64 E24, .int .i64 K24b, .bool s24b, .int .u64 M24b, .int .i64 E24b] 26))
      replace X15 := X15.below (bel1 _ (.cells #[.bool e24, .int .i64 K24, .bool s24, .int .u64 M24, .int .i64 E24, .int .i64 K24b, .bool s24b, .int .u64 M24b, .int .i64 E24b] 26))
      replace X16 := X16.below (bel1 _ (.cells #[.bool e24, .int .i64 K24, .bool s24, .int .u64 M24, .int .i64 E24, .int .i64 K24b, .bool s24b, .int .u64 M24b, .int .i64 E24b] 26))
      replace hT := hT.below (bel1 _ (.cells #[.bool e24, .int .i64 K24, .bool s24, .int .u64 M24, .int .i64 E24, .int .i64 K24b, .bool s24b, .int .u64 M24b, .int .i64 E24b] 26))
      replace hT2 := hT2.below (bel1 _ (.cells #[.bool e24, .int .i64 K24, .bool s24, .int .u64 M24, .int .i64 E24, .int .i64 K24b, .bool s24b, .int .u64 M24b, .int .i64 E24b] 26))
      replace HB := Lib.hid (bt HB.out (bel1 _ (.cells #[.bool e24, .int .i64 K24, .bool s24, .int .u64 M24, .int .i64 E24, .int .i64 K24b, .bool s24b, .int .u64 M24b, .int .i64 E24b] 26)))
      have X17 := Bo.new wD #[.bool e24, .int .i64 K24, .bool s24, .int .u64 M24, .int .i64 E24, .int .i64 K24b, .bool s24b, .int .u64 M24b, .int .i64 E24b] 26
      generalize hWn : World.alloc wD (.cells #[.bool e24, .int .i64 K24, .bool s24, .int .u64 M24, .int .i64 E24, .int .i64 K24b, .bool s24b, .int .u64 M24b, .int .i64 E24b] 26) = wE at *
      clear hWn
      rw [e4X17] at X17
      clear lX16 lX17 e4X17
      have xX00 := X0.at (i := 0) (v := .bool e0) rfl
      have xX01 := X0.at (i := 1) (v := .int .i64 D0) rfl
      have xX02 := X0.at (i := 2) (v := .bool s0) rfl
      have xX03 := X0.at (i := 3) (v := .int .u64 M0) rfl
      have xX04 := X0.at (i := 4) (v := .int .i64 E0) rfl
      have xX05 := X0.at (i := 5) (v := .int .i64 G0) rfl
      have xX06 := X0.at (i := 6) (v := .bool g0) rfl
      have xX07 := X0.at (i := 7) (v := .int .u64 P0) rfl
      have xX08 := X0.at (i := 8) (v := .int .i64 Q0) rfl
      have xX10 := X1.at (i := 0) (v := .bool e1) rfl
      have xX11 := X1.at (i := 1) (v := .int .i64 D1) rfl
      have xX12 := X1.at (i := 2) (v := .bool s1) rfl
      have xX13 := X1.at (i := 3) (v := .int .u64 M1) rfl
      have xX14 := X1.at (i := 4) (v := .int .i64 E1) rfl
      have xX15 := X1.at (i := 5) (v := .int .i64 G1) rfl
      have xX16 := X1.at (i := 6) (v := .bool g1) rfl
      have xX17 := X1.at (i := 7) (v := .int .u64 P1) rfl
      have xX18 := X1.at (i := 8) (v := .int .i64 Q1) rfl
      have xX20 := X2.at (i := 0) (v := .bool e2) rfl
      have xX21 := X2.at (i := 1) (v := .int .i64 D2) rfl
      have xX22 := X2.at (i := 2) (v := .bool s2) rfl
      have xX23 := X2.at (i := 3) (v := .int .u64 M2) rfl
      have xX24 := X2.at (i := 4) (v := .int .i64 E2) rfl
      have xX25 := X2.at (i := 5) (v := .int .i64 G2) rfl
      have xX26 := X2.at (i := 6) (v := .bool g2) rfl
      have xX27 := X2.at (i := 7) (v := .int .u64 P2) rfl
      have xX28 := X2.at (i := 8) (v := .int .i64 Q2) rfl
      go_wp2_with fail
      refine (bkTimes hT HQ.out u0 v0 u1 v1 u2 v2 HZ.out HX.out HY.out H6.out).mono ?_
      rintro ee wF ⟨e25, K25, s25, M25, E25, K25b, s25b, M25b, E25b, e26, K26, s26, M26, E26, K26b, s26b, M26b, E26b, rfl, v25, v26, B⟩
      clear xX00 xX01 xX02 xX03 xX04 xX05 xX06 xX07 xX08 xX10 xX11 xX12 xX13 xX14 xX15 xX16 xX17 xX18 xX20 xX21 xX22 xX23 xX24 xX25 xX26 xX27 xX28
      replace X0 := X0.below B
      replace X1 := X1.below B
      replace X2 := X2.below B
      replace X3 := X3.below B
      replace X4 := X4.below B
      replace X12 := X12.below B
      replace X13 := X13.below B
      replace X14 := X14.below B
      replace X15 := X15.below B
      replace X16 := X16.below B
      replace X17 := X17.below B
      replace hT := hT.below B
      replace hT2 := hT2.below B
      replace HB := Lib.hid (bt HB.out B)
      clear B
      go_upto_region 9 with (fail)
      have e4X19 : (World.alloc wF (.cells #[.bool e25, .int .i64 K25, .bool s25, .int .u64 M25, .int .i64 E25, .int .i64 K25b, .bool s25b, .int .u64 M25b, .int .i64 E25b] 26)).heap.size = wF.heap.size + 1 := by simp
      have lX18 := Nat.le_refl (World.heap wF).size
      have nX18X0 := X0.lt
      have nX18X1 := X1.lt
      have nX18X2 := X2.lt
      have nX18X3 := X3.lt
      have nX18X4 := X4.lt
      have nX18X12 := X12.lt
      have nX18X13 := X13.lt
      have nX18X14 := X14.lt
      have nX18X15 := X15.lt
      have nX18X16 := X16.lt
      have nX18X17 := X17.lt
      replace X0 := X0.below (bel1 _ (.cells #[.bool e25, .int .i64 K25, .bool s25, .int .u64 M25, .int .i64 E25, .int .i64 K25b, .bool s25b, .int .u64 M25b, .int .i64 E25b] 26))
      replace X1 := X1.below (bel1 _ (.cells #[.bool e25, .int .i64 K25, .bool s25, .int .u64 M25, .int .i64 E25, .int .i64 K25b, .bool s25b, .int .u64 M25b, .int .i64 E25b] 26))
      replace X2 := X2.below (bel1 _ (.cells #[.bool e25, .int .i64 K25, .bool s25, .int .u64 M25, .int .i64 E25, .int .i64 K25b, .bool s25b, .int .u64 M25b, .int .i64 E25b] 26))
      replace X3 := X3.below (bel1 _ (.cells #[.bool e25, .int .i64 K25, .bool s25, .int .u64 M25, .int .i64 E25, .int .i64 K25b, .bool s25b, .int .u64 M25b, .int .i64 E25b] 26))
      replace X4 := X4.below (bel1 _ (.cells #[.bool e25, .int .i64 K25, .bool s25, .int .u64 M25, .int .i64 E25, .int .i64 K25b, .bool s25b, .int .u64 M25b, .int .i64 E25b] 26))
      replace X12 := X12.below (bel1 _ (.cells #[.bool e25, .int .i64 K25, .bool s25, .int .u64 M25, .int .i64 E25, .int .i64 K25b, .bool s25b, .int .u64 M25b, .int .i64 E25b] 26))
      replace X13 := X13.below (bel1 _ (.cells #[.bool e25, .int .i64 K25, .bool s25, .int .u64 M25, .int .i64 E25, .int .i64 K25b, .bool s25b, .int .u64 M25b, .int .i64 E25b] 26))
      replace X14 := X14.below (bel1 _ (.cells #[.bool e25, .int .i64 K25, .bool s25, .int .u64 M25, .int .i64 E25, .int .i64 K25b, .bool s25b, .int .u64 M25b, .int .i64 E25b] 26))
      replace X15 := X15.below (bel1 _ (.cells #[.bool e25, .int .i64 K25, .bool s25, .int .u64 M25, .int .i64 E25, .int .i64 K25b, .bool s25b, .int .u64 M25b, .int .i64 E25b] 26))
      replace X16 := X16.below (bel1 _ (.cells #[.bool e25, .int .i64 K25, .bool s25, .int .u64 M25, .int .i64 E25, .int .i64 K25b, .bool s25b, .int .u64 M25b, .int .i64 E25b] 26))
      replace X17 := X17.below (bel1 _ (.cells #[.bool e25, .int .i64 K25, .bool s25, .int .u64 M25, .int .i64 E25, .int .i64 K25b, .bool s25b, .int .u64 M25b, .int .i64 E25b] 26))
      replace hT := hT.below (bel1 _ (.cells #[.bool e25, .int .i64 K25, .bool s25, .int .u64 M25, .int .i64 E25, .int .i64 K25b, .bool s25b, .int .u64 M25b, .int .i64 E25b] 26))
      replace hT2 := hT2.below (bel1 _ (.cells #[.bool e25, .int .i64 K25, .bool s25, .int .u64 M25, .int .i64 E25, .int .i64 K25b, .bool s25b, .int .u64 M25b, .int .i64 E25b] 26))
      replace HB := Lib.hid (bt HB.out (bel1 _ (.cells #[.bool e25, .int .i64 K25, .bool s25, .int .u64 M25, .int .i64 E25, .int .i64 K25b, .bool s25b, .int .u64 M25b, .int .i64 E25b] 26)))
      have X18 := Bo.new wF #[.bool e25, .int .i64 K25, .bool s25, .int .u64 M25, .int .i64 E25, .int .i64 K25b, .bool s25b, .int .u64 M25b, .int .i64 E25b] 26
      generalize hWn : World.alloc wF (.cells #[.bool e25, .int .i64 K25, .bool s25, .int .u64 M25, .int .i64 E25, .int .i64 K25b, .bool s25b, .int .u64 M25b, .int .i64 E25b] 26) = wG at *
      clear hWn
      have lX19 := Nat.le_refl (World.heap wG).size
      have nX19X0 := X0.lt
      have nX19X1 := X1.lt
      have nX19X2 := X2.lt
      have nX19X3 := X3.lt
      have nX19X4 := X4.lt
      have nX19X12 := X12.lt
      have nX19X13 := X13.lt
      have nX19X14 := X14.lt
      have nX19X15 := X15.lt
      have nX19X16 := X16.lt
      have nX19X17 := X17.lt
      have nX19X18 := X18.lt
      replace X0 := X0.below (bel1 _ (.cells #[.bool e26, .int .i64 K26, .bool s26, .int .u64 M26, .int .i64 E26, .int .i64 K26b, .bool s26b, .int .u64 M26b, .int .i64 E26b] 26))
      replace X1 := X1.below (bel1 _ (.cells #[.bool e26, .int .i64 K26, .bool s26, .int .u64 M26, .int .i64 E26, .int .i64 K26b, .bool s26b, .int .u64 M26b, .int .i64 E26b] 26))
      replace X2 := X2.below (bel1 _ (.cells #[.bool e26, .int .i64 K26, .bool s26, .int .u64 M26, .int .i64 E26, .int .i64 K26b, .bool s26b, .int .u64 M26b, .int .i64 E26b] 26))
      replace X3 := X3.below (bel1 _ (.cells #[.bool e26, .int .i64 K26, .bool s26, .int .u64 M26, .int .i64 E26, .int .i64 K26b, .bool s26b, .int .u64 M26b, .int .i64 E26b] 26))
      replace X4 := X4.below (bel1 _ (.cells #[.bool e26, .int .i64 K26, .bool s26, .int .u64 M26, .int .i64 E26, .int .i64 K26b, .bool s26b, .int .u64 M26b, .int .i64 E26b] 26))
      replace X12 := X12.below (bel1 _ (.cells #[.bool e26, .int .i64 K26, .bool s26, .int .u64 M26, .int .i64 E26, .int .i64 K26b, .bool s26b, .int .u64 M26b, .int .i64 E26b] 26))
      replace X13 := X13.below (bel1 _ (.cells #[.bool e26, .int .i64 K26, .bool s26, .int .u64 M26, .int .i64 E26, .int .i64 K26b, .bool s26b, .int .u64 M26b, .int .i64 E26b] 26))
      replace X14 := X14.below (bel1 _ (.cells #[.bool e26, .int .i64 K26, .bool s26, .int .u64 M26, .int .i64 E26, .int .i64 K26b, .bool s26b, .int .u64 M26b, .int .i64 E26b] 26))
      replace X15 := X15.below (bel1 _ (.cells #[.bool e26, .int .i64 K26, .bool s26, .int .u64 M26, .int .i64 E26, .int .i64 K26b, .bool s26b, .int .u64 M26b, .int .i64 E26b] 26))
      replace X16 := X16.below (bel1 _ (.cells #[.bool e26, .int .i64 K26, .bool s26, .int .u64 M26, .int .i64 E26, .int .i64 K26b, .bool s26b, .int .u64 M26b, .int .i64 E26b] 26))
      replace X17 := X17.below (bel1 _ (.cells #[.bool e26, .int .i64 K26, .bool s26, .int .u64 M26, .int .i64 E26, .int .i64 K26b, .bool s26b, .int .u64 M26b, .int .i64 E26b] 26))
      replace X18 := X18.below (bel1 _ (.cells #[.bool e26, .int .i64 K26, .bool s26, .int .u64 M26, .int .i64 E26, .int .i64 K26b, .bool s26b, .int .u64 M26b, .int .i64 E26b] 26))
      replace hT := hT.below (bel1 _ (.cells #[.bool e26, .int .i64 K26, .bool s26, .int .u64 M26, .int .i64 E26, .int .i64 K26b, .bool s26b, .int .u64 M26b, .int .i64 E26b] 26))
      replace hT2 := hT2.below (bel1 _ (.cells #[.bool e26, .int .i64 K26, .bool s26, .int .u64 M26, .int .i64 E26, .int .i64 K26b, .bool s26b, .int .u64 M26b, .int .i64 E26b] 26))
      replace HB := Lib.hid (bt HB.out (bel1 _ (.cells #[.bool e26, .int .i64 K26, .bool s26, .int .u64 M26, .int .i64 E26, .int .i64 K26b, .bool s26b, .int .u64 M26b, .int .i64 E26b] 26)))
      have X19 := Bo.new wG #[.bool e26, .int .i64 K26, .bool s26, .int .u64 M26, .int .i64 E26, .int .i64 K26b, .bool s26b, .int .u64 M26b, .int .i64 E26b] 26
      generalize hWn : World.alloc wG (.cells #[.bool e26, .int .i64 K26, .bool s26, .int .u64 M26, .int .i64 E26, .int .i64 K26b, .bool s26b, .int .u64 M26b, .int .i64 E26b] 26) = wH at *
      clear hWn
      rw [e4X19] at X19
      clear lX18 lX19 e4X19
      have xX00 := X0.at (i := 0) (v := .bool e0) rfl
      have xX01 := X0.at (i := 1) (v := .int .i64 D0) rfl
      have xX02 := X0.at (i := 2) (v := .bool s0) rfl
      have xX03 := X0.at (i := 3) (v := .int .u64 M0) rfl
      have xX04 := X0.at (i := 4) (v := .int .i64 E0) rfl
      have xX05 := X0.at (i := 5) (v := .int .i64 G0) rfl
      have xX06 := X0.at (i := 6) (v := .bool g0) rfl
      have xX07 := X0.at (i := 7) (v := .int .u64 P0) rfl
      have xX08 := X0.at (i := 8) (v := .int .i64 Q0) rfl
      have xX10 := X1.at (i := 0) (v := .bool e1) rfl
      have xX11 := X1.at (i := 1) (v := .int .i64 D1) rfl
      have xX12 := X1.at (i := 2) (v := .bool s1) rfl
      have xX13 := X1.at (i := 3) (v := .int .u64 M1) rfl
      have xX14 := X1.at (i := 4) (v := .int .i64 E1) rfl
      have xX15 := X1.at (i := 5) (v := .int .i64 G1) rfl
      have xX16 := X1.at (i := 6) (v := .bool g1) rfl
      have xX17 := X1.at (i := 7) (v := .int .u64 P1) rfl
      have xX18 := X1.at (i := 8) (v := .int .i64 Q1) rfl
      go_wp2_with fail
      refine (bkSqr hT HRR.out u0 v0 u1 v1 HZ.out HX.out H7.out).mono ?_
      rintro ee wI ⟨e27, K27, s27, M27, E27, K27b, s27b, M27b, E27b, rfl, v27, B⟩
      clear xX00 xX01 xX02 xX03 xX04 xX05 xX06 xX07 xX08 xX10 xX11 xX12 xX13 xX14 xX15 xX16 xX17 xX18
      replace X0 := X0.below B
      replace X1 := X1.below B
      replace X2 := X2.below B
      replace X3 := X3.below B
      replace X4 := X4.below B
      replace X12 := X12.below B
      replace X13 := X13.below B
      replace X14 := X14.below B
      replace X15 := X15.below B
      replace X16 := X16.below B
      replace X17 := X17.below B
      replace X18 := X18.below B
      replace X19 := X19.below B
      replace hT := hT.below B
      replace hT2 := hT2.below B
      replace HB := Lib.hid (bt HB.out B)
      clear B
      go_upto_region 10 with (fail)
      have lX20 := Nat.le_refl (World.heap wI).size
      have nX20X0 := X0.lt
      have nX20X1 := X1.lt
      have nX20X2 := X2.lt
      have nX20X3 := X3.lt
      have nX20X4 := X4.lt
      have nX20X12 := X12.lt
      have nX20X13 := X13.lt
      have nX20X14 := X14.lt
      have nX20X15 := X15.lt
      have nX20X16 := X16.lt
      have nX20X17 := X17.lt
      have nX20X18 := X18.lt
      have nX20X19 := X19.lt
      replace X0 := X0.below (bel1 _ (.cells #[.bool e27, .int .i64 K27, .bool s27, .int .u64 M27, .int .i64 E27, .int .i64 K27b, .bool s27b, .int .u64 M27b, .int .i64 E27b] 26))
      replace X1 := X1.below (bel1 _ (.cells #[.bool e27, .int .i64 K27, .bool s27, .int .u64 M27, .int .i64 E27, .int .i64 K27b, .bool s27b, .int .u64 M27b, .int .i64 E27b] 26))
      replace X2 := X2.below (bel1 _ (.cells #[.bool e27, .int .i64 K27, .bool s27, .int .u64 M27, .int .i64 E27, .int .i64 K27b, .bool s27b, .int .u64 M27b, .int .i64 E27b] 26))
      replace X3 := X3.below (bel1 _ (.cells #[.bool e27, .int .i64 K27, .bool s27, .int .u64 M27, .int .i64 E27, .int .i64 K27b, .bool s27b, .int .u64 M27b, .int .i64 E27b] 26))
      replace X4 := X4.below (bel1 _ (.cells #[.bool e27, .int .i64 K27, .bool s27, .int .u64 M27, .int .i64 E27, .int .i64 K27b, .bool s27b, .int .u64 M27b, .int .i64 E27b] 26))
      replace X12 := X12.below (bel1 _ (.cells #[.bool e27, .int .i64 K27, .bool s27, .int .u64 M27, .int .i64 E27, .int .i64 K27b, .bool s27b, .int .u64 M27b, .int .i64 E27b] 26))
      replace X13 := X13.below (bel1 _ (.cells #[.bool e27, .int .i64 K27, .bool s27, .int .u64 M27, .int .i64 E27, .int .i64 K27b, .bool s27b, .int .u64 M27b, .int .i64 E27b] 26))
      replace X14 := X14.below (bel1 _ (.cells #[.bool e27, .int .i64 K27, .bool s27, .int .u64 M27, .int .i64 E27, .int .i64 K27b, .bool s27b, .int .u64 M27b, .int .i64 E27b] 26))
      replace X15 := X15.below (bel1 _ (.cells #[.bool e27, .int .i64 K27, .bool s27, .int .u64 M27, .int .i64 E27, .int .i64 K27b, .bool s27b, .int .u64 M27b, .int .i64 E27b] 26))
      replace X16 := X16.below (bel1 _ (.cells #[.bool e27, .int .i64 K27, .bool s27, .int .u64 M27, .int .i64 E27, .int .i64 K27b, .bool s27b, .int .u64 M27b, .int .i64 E27b] 26))
      replace X17 := X17.below (bel1 _ (.cells #[.bool e27, .int .i64 K27, .bool s27, .int .u64 M27, .int .i64 E27, .int .i64 K27b, .bool s27b, .int .u64 M27b, .int .i64 E27b] 26))
      replace X18 := X18.below (bel1 _ (.cells #[.bool e27, .int .i64 K27, .bool s27, .int .u64 M27, .int .i64 E27, .int .i64 K27b, .bool s27b, .int .u64 M27b, .int .i64 E27b] 26))
      replace X19 := X19.below (bel1 _ (.cells #[.bool e27, .int .i64 K27, .bool s27, .int .u64 M27, .int .i64 E27, .int .i64 K27b, .bool s27b, .int .u64 M27b, .int .i64 E27b] 26))
      replace hT := hT.below (bel1 _ (.cells #[.bool e27, .int .i64 K27, .bool s27, .int .u64 M27, .int .i64 E27, .int .i64 K27b, .bool s27b, .int .u64 M27b, .int .i64 E27b] 26))
      replace hT2 := hT2.below (bel1 _ (.cells #[.bool e27, .int .i64 K27, .bool s27, .int .u64 M27, .int .i64 E27, .int .i64 K27b, .bool s27b, .int .u64 M27b, .int .i64 E27b] 26))
      replace HB := Lib.hid (bt HB.out (bel1 _ (.cells #[.bool e27, .int .i64 K27, .bool s27, .int .u64 M27, .int .i64 E27, .int .i64 K27b, .bool s27b, .int .u64 M27b, .int .i64 E27b] 26)))
      have X20 := Bo.new wI #[.bool e27, .int .i64 K27, .bool s27, .int .u64 M27, .int .i64 E27, .int .i64 K27b, .bool s27b, .int .u64 M27b, .int .i64 E27b] 26
      generalize hWn : World.alloc wI (.cells #[.bool e27, .int .i64 K27, .bool s27, .int .u64 M27, .int .i64 E27, .int .i64 K27b, .bool s27b, .int .u64 M27b, .int .i64 E27b] 26) = wJ at *
      clear hWn
      clear lX20 hT
      go_cut [21] (fun v wx => v = .bool true ∧ Bo wx (w.heap.size) #[.bool e0, .int .i64 D0, .bool s0, .int .u64 M0, .int .i64 E0, .int .i64 G0, .bool g0, .int .u64 P0, .int .i64 Q0] 26 ∧ Bo wx (w.heap.size + 1 + 1 + 1) #[.int .i64 D3, .bool s3, .int .u64 M3, .int .i64 E3] 24 ∧ Bo wx (w.heap.size + 1 + 1 + 1 + 1) #[.int .i64 D4, .bool s4, .int .u64 M4, .int .i64 E4] 24 ∧ Bo wx (w5.heap.size) #[.bool e12, .int .i64 K12, .bool s12, .int .u64 M12, .int .i64 E12, .int .i64 K12b, .bool s12b, .int .u64 M12b, .int .i64 E12b] 26 ∧ Bo wx (w7.heap.size) #[.bool e13, .int .i64 K13, .bool s13, .int .u64 M13, .int .i64 E13, .int .i64 K13b, .bool s13b, .int .u64 M13b, .int .i64 E13b] 26 ∧ Bo wx (wC.heap.size) #[.bool e23, .int .i64 K23, .bool s23, .int .u64 M23, .int .i64 E23, .int .i64 K23b, .bool s23b, .int .u64 M23b, .int .i64 E23b] 26 ∧ Bo wx (wC.heap.size + 1) #[.bool e24, .int .i64 K24, .bool s24, .int .u64 M24, .int .i64 E24, .int .i64 K24b, .bool s24b, .int .u64 M24b, .int .i64 E24b] 26 ∧ Bo wx (wF.heap.size) #[.bool e25, .int .i64 K25, .bool s25, .int .u64 M25, .int .i64 E25, .int .i64 K25b, .bool s25b, .int .u64 M25b, .int .i64 E25b] 26 ∧ Bo wx (wF.heap.size + 1) #[.bool e26, .int .i64 K26, .bool s26, .int .u64 M26, .int .i64 E26, .int .i64 K26b, .bool s26b, .int .u64 M26b, .int .i64 E26b] 26 ∧ Bo wx (wI.heap.size) #[.bool e27, .int .i64 K27, .bool s27, .int .u64 M27, .int .i64 E27, .int .i64 K27b, .bool s27b, .int .u64 M27b, .int .i64 E27b] 26 ∧ Below w.heap.size w wx)
      case first =>
        cases tA
        · refine Jo.region_joint (T := [0, 1, 2, 3, 4, 5, 6, 7, 8, 9, 10, 11, 12, 13, 14, 15, 16, 17]) (ds := [some 65, some 66, some 67, some 68, some 69, some 70, some 71, some 72, some 73, some 74, some 75, some 76, some 77, some 78, some 79, some 80, some 81, some 21]) (ls := [[], [], [0, 1], [2], [], [3, 4], [5], [6], [7], [7], [7, 8, 9], [7, 10], [11], [11], [11, 12, 13], [7, 11, 14], [7, 15], [16]]) (k := 18) (L := [(some 65, 0), (some 66, 1), (some 67, 2), (some 68, 3), (some 69, 4), (some 70, 5), (some 71, 6), (some 72, 7), (some 73, 8), (some 74, 9), (some 75, 10), (some 76, 11), (some 77, 12), (some 78, 13), (some 79, 14), (some 80, 15), (some 81, 16), (some 21, 17)]) (fuel := 0) (J := fun wj => Below (World.heap wJ).size wJ wj)
            (F := [Jo.Fact.eq (.agg #[.bool e12, .int .i64 K12, .bool s12, .int .u64 M12, .int .i64 E12, .int .i64 K12b, .bool s12b, .int .u64 M12b, .int .i64 E12b]), Jo.Fact.eq (.agg #[.bool e13, .int .i64 K13, .bool s13, .int .u64 M13, .int .i64 E13, .int .i64 K13b, .bool s13b, .int .u64 M13b, .int .i64 E13b]), Jo.Fact.il8 2 [pm, pn], Jo.Fact.iv sA, Jo.Fact.eq (.agg #[.bool e0, .int .i64 D0, .bool s0, .int .u64 M0, .int .i64 E0, .int .i64 G0, .bool g0, .int .u64 P0, .int .i64 Q0]), Jo.Fact.eq (.bool false), Jo.Fact.eq (.bool true), Jo.Fact.eq (.bool true), Jo.Fact.eq undef, Jo.Fact.eq undef, Jo.Fact.eq undef, Jo.Fact.eq undef, Jo.Fact.eq undef, Jo.Fact.eq undef, Jo.Fact.eq undef, Jo.Fact.eq undef, Jo.Fact.eq (.bool true), Jo.Fact.eq (.bool true)])
            (by kernel_rfl) (by kernel_rfl) (by decide) rfl rfl (fun _ _ h b => bt h b) ((Below.refl _ _).drew) ?_ (fun vs wK hJ hd => ?_)
          · refine Jo.jcons (i := 0) (o := ⟨some 65, _, _, _, _, _⟩) (di := some 65) (L := []) (f := Jo.Fact.eq (.agg #[.bool e12, .int .i64 K12, .bool s12, .int .u64 M12, .int .i64 E12, .int .i64 K12b, .bool s12b, .int .u64 M12b, .int .i64 E12b])) rfl rfl rfl rfl (fun vs wj hJ hd K hK => ?_) ?_
            · clear hd
              simp only [Jo.putl, List.foldl_nil, Act.put, List.setIfInBounds_toArray, List.set_cons_zero, List.set_cons_succ] at hK ⊢
              have xX120 : World.cell? wj ⟨w5.heap.size, 0, none⟩ = some (.bool e12) := (X12.below hJ).cell 0
              have xX121 : World.cell? wj ⟨w5.heap.size, 1, none⟩ = some (.int .i64 K12) := (X12.below hJ).cell 1
              have xX122 : World.cell? wj ⟨w5.heap.size, 2, none⟩ = some (.bool s12) := (X12.below hJ).cell 2
              have xX123 : World.cell? wj ⟨w5.heap.size, 3, none⟩ = some (.int .u64 M12) := (X12.below hJ).cell 3
              have xX124 : World.cell? wj ⟨w5.heap.size, 4, none⟩ = some (.int .i64 E12) := (X12.below hJ).cell 4
              have xX125 : World.cell? wj ⟨w5.heap.size, 5, none⟩ = some (.int .i64 K12b) := (X12.below hJ).cell 5
              have xX126 : World.cell? wj ⟨w5.heap.size, 6, none⟩ = some (.bool s12b) := (X12.below hJ).cell 6
              have xX127 : World.cell? wj ⟨w5.heap.size, 7, none⟩ = some (.int .u64 M12b) := (X12.below hJ).cell 7
              have xX128 : World.cell? wj ⟨w5.heap.size, 8, none⟩ = some (.int .i64 E12b) := (X12.below hJ).cell 8
              go_simp
              exact hK.out _ _ rfl (Below.refl _ _)
            refine Jo.jcons (i := 1) (o := ⟨some 66, _, _, _, _, _⟩) (di := some 66) (L := []) (f := Jo.Fact.eq (.agg #[.bool e13, .int .i64 K13, .bool s13, .int .u64 M13, .int .i64 E13, .int .i64 K13b, .bool s13b, .int .u64 M13b, .int .i64 E13b])) rfl rfl rfl rfl (fun vs wj hJ hd K hK => ?_) ?_
            · clear hd
              simp only [Jo.putl, List.foldl_nil, Act.put, List.setIfInBounds_toArray, List.set_cons_zero, List.set_cons_succ] at hK ⊢
              have xX130 : World.cell? wj ⟨w7.heap.size, 0, none⟩ = some (.bool e13) := (X13.below hJ).cell 0
              have xX131 : World.cell? wj ⟨w7.heap.size, 1, none⟩ = some (.int .i64 K13) := (X13.below hJ).cell 1
              have xX132 : World.cell? wj ⟨w7.heap.size, 2, none⟩ = some (.bool s13) := (X13.below hJ).cell 2
              have xX133 : World.cell? wj ⟨w7.heap.size, 3, none⟩ = some (.int .u64 M13) := (X13.below hJ).cell 3
              have xX134 : World.cell? wj ⟨w7.heap.size, 4, none⟩ = some (.int .i64 E13) := (X13.below hJ).cell 4
              have xX135 : World.cell? wj ⟨w7.heap.size, 5, none⟩ = some (.int .i64 K13b) := (X13.below hJ).cell 5
              have xX136 : World.cell? wj ⟨w7.heap.size, 6, none⟩ = some (.bool s13b) := (X13.below hJ).cell 6
              have xX137 : World.cell? wj ⟨w7.heap.size, 7, none⟩ = some (.int .u64 M13b) := (X13.below hJ).cell 7
              have xX138 : World.cell? wj ⟨w7.heap.size, 8, none⟩ = some (.int .i64 E13b) := (X13.below hJ).cell 8
              go_simp
              exact hK.out _ _ rfl (Below.refl _ _)
            refine Jo.jcons (i := 2) (o := ⟨some 67, _, _, _, _, _⟩) (di := some 67) (L := [(some 65, 0), (some 66, 1)]) (f := Jo.Fact.il8 2 [pm, pn]) rfl rfl rfl rfl (fun vs wj hJ hd K hK => ?_) ?_
            · have d0 : (Jo.Fact.eq (.agg #[.bool e12, .int .i64 K12, .bool s12, .int .u64 M12, .int .i64 E12, .int .i64 K12b, .bool s12b, .int .u64 M12b, .int .i64 E12b])).P (vs 0) wj := hd 0 (by decide)
              have d1 : (Jo.Fact.eq (.agg #[.bool e13, .int .i64 K13, .bool s13, .int .u64 M13, .int .i64 E13, .int .i64 K13b, .bool s13b, .int .u64 M13b, .int .i64 E13b])).P (vs 1) wj := hd 1 (by decide)
              clear hd
              simp only [Jo.putl, List.foldl_cons, List.foldl_nil, Act.put, List.setIfInBounds_toArray, List.set_cons_zero, List.set_cons_succ] at hK ⊢
              generalize vs 0 = u0 at hK d0 ⊢
              generalize vs 1 = u1 at hK d1 ⊢
              replace d0 : u0 = _ := d0
              subst d0
              replace d1 : u1 = _ := d1
              subst d1
              go_simp
              exact hK.out _ _ ⟨_, 2, rfl, Il8.lit2 rfl v12.rw v13.rw⟩ (bel1 _ _)
            refine Jo.jcons (i := 3) (o := ⟨some 68, _, _, _, _, _⟩) (di := some 68) (L := [(some 67, 2)]) (f := Jo.Fact.iv sA) rfl rfl rfl rfl (fun vs wj hJ hd K hK => ?_) ?_
            · have d2 : (Jo.Fact.il8 2 [pm, pn]).P (vs 2) wj := hd 2 (by decide)
              clear hd
              simp only [Jo.putl, List.foldl_cons, List.foldl_nil, Act.put, List.setIfInBounds_toArray, List.set_cons_zero, List.set_cons_succ] at hK ⊢
              generalize vs 2 = u2 at hK d2 ⊢
              obtain ⟨A30, c30, rfl, h30⟩ := d2
              go_simp
              refine (fkAdd (hT2.below hJ) h30 HSA.out).mono ?_
              rintro ee wk ⟨e31, K31, s31, M31, E31, K31b, s31b, M31b, E31b, rfl, v31, B⟩
              exact hK.out _ _ ⟨e31, K31, s31, M31, E31, K31b, s31b, M31b, E31b, rfl, v31⟩ B
            refine Jo.jcons (i := 4) (o := ⟨some 69, _, _, _, _, _⟩) (di := some 69) (L := []) (f := Jo.Fact.eq (.agg #[.bool e0, .int .i64 D0, .bool s0, .int .u64 M0, .int .i64 E0, .int .i64 G0, .bool g0, .int .u64 P0, .int .i64 Q0])) rfl rfl rfl rfl (fun vs wj hJ hd K hK => ?_) ?_
            · clear hd
              simp only [Jo.putl, List.foldl_nil, Act.put, List.setIfInBounds_toArray, List.set_cons_zero, List.set_cons_succ] at hK ⊢
              have xX00 : World.cell? wj ⟨w.heap.size, 0, none⟩ = some (.bool e0) := (X0.below hJ).cell 0
              have xX01 : World.cell? wj ⟨w.heap.size, 1, none⟩ = some (.int .i64 D0) := (X0.below hJ).cell 1
              have xX02 : World.cell? wj ⟨w.heap.size, 2, none⟩ = some (.bool s0) := (X0.below hJ).cell 2
              have xX03 : World.cell? wj ⟨w.heap.size, 3, none⟩ = some (.int .u64 M0) := (X0.below hJ).cell 3
              have xX04 : World.cell? wj ⟨w.heap.size, 4, none⟩ = some (.int .i64 E0) := (X0.below hJ).cell 4
              have xX05 : World.cell? wj ⟨w.heap.size, 5, none⟩ = some (.int .i64 G0) := (X0.below hJ).cell 5
              have xX06 : World.cell? wj ⟨w.heap.size, 6, none⟩ = some (.bool g0) := (X0.below hJ).cell 6
              have xX07 : World.cell? wj ⟨w.heap.size, 7, none⟩ = some (.int .u64 P0) := (X0.below hJ).cell 7
              have xX08 : World.cell? wj ⟨w.heap.size, 8, none⟩ = some (.int .i64 Q0) := (X0.below hJ).cell 8
              go_simp
              exact hK.out _ _ rfl (Below.refl _ _)
            refine Jo.jcons (i := 5) (o := ⟨some 70, _, _, _, _, _⟩) (di := some 70) (L := [(some 68, 3), (some 69, 4)]) (f := Jo.Fact.eq (.bool false)) rfl rfl rfl rfl (fun vs wj hJ hd K hK => ?_) ?_
            · have d3 : (Jo.Fact.iv sA).P (vs 3) wj := hd 3 (by decide)
              have d4 : (Jo.Fact.eq (.agg #[.bool e0, .int .i64 D0, .bool s0, .int .u64 M0, .int .i64 E0, .int .i64 G0, .bool g0, .int .u64 P0, .int .i64 Q0])).P (vs 4) wj := hd 4 (by decide)
              clear hd
              simp only [Jo.putl, List.foldl_cons, List.foldl_nil, Act.put, List.setIfInBounds_toArray, List.set_cons_zero, List.set_cons_succ] at hK ⊢
              generalize vs 3 = u3 at hK d3 ⊢
              generalize vs 4 = u4 at hK d4 ⊢
              obtain ⟨e31, K31, s31, M31, E31, K31b, s31b, M31b, E31b, rfl, v31⟩ := d3
              replace d4 : u4 = _ := d4
              subst d4
              go_simp
              refine (kvWithin v31.top.1 v31.top.2 u0 v0 v31.rk HZ.out HTA.out).mono ?_
              rintro ee wk ⟨rfl, B⟩
              exact hK.out _ _ rfl B
            refine Jo.jcons (i := 6) (o := ⟨some 71, _, _, _, _, _⟩) (di := some 71) (L := [(some 70, 5)]) (f := Jo.Fact.eq (.bool true)) rfl rfl rfl rfl (fun vs wj hJ hd K hK => ?_) ?_
            · have d5 : (Jo.Fact.eq (.bool false)).P (vs 5) wj := hd 5 (by decide)
              clear hd
              simp only [Jo.putl, List.foldl_cons, List.foldl_nil, Act.put, List.setIfInBounds_toArray, List.set_cons_zero, List.set_cons_succ] at hK ⊢
              generalize vs 5 = u5 at hK d5 ⊢
              replace d5 : u5 = _ := d5
              subst d5
              go_simp
              exact hK.out _ _ rfl (Below.refl _ _)
            refine Jo.jcons (i := 7) (o := ⟨some 72, _, _, _, _, _⟩) (di := some 72) (L := [(some 71, 6)]) (f := Jo.Fact.eq (.bool true)) rfl rfl rfl rfl (fun vs wj hJ hd K hK => ?_) ?_
            · have d6 : (Jo.Fact.eq (.bool true)).P (vs 6) wj := hd 6 (by decide)
              clear hd
              simp only [Jo.putl, List.foldl_cons, List.foldl_nil, Act.put, List.setIfInBounds_toArray, List.set_cons_zero, List.set_cons_succ] at hK ⊢
              generalize vs 6 = u6 at hK d6 ⊢
              replace d6 : u6 = _ := d6
              subst d6
              go_simp
              exact hK.out _ _ rfl (Below.refl _ _)
            refine Jo.jcons (i := 8) (o := ⟨some 73, _, _, _, _, _⟩) (di := some 73) (L := [(some 72, 7)]) (f := Jo.Fact.eq undef) rfl rfl rfl rfl (fun vs wj hJ hd K hK => ?_) ?_
            · have d7 : (Jo.Fact.eq (.bool true)).P (vs 7) wj := hd 7 (by decide)
              clear hd
              simp only [Jo.putl, List.foldl_cons, List.foldl_nil, Act.put, List.setIfInBounds_toArray, List.set_cons_zero, List.set_cons_succ] at hK ⊢
              generalize vs 7 = u7 at hK d7 ⊢
              replace d7 : u7 = _ := d7
              subst d7
              go_simp
              exact hK.out _ _ rfl (Below.refl _ _)
            refine Jo.jcons (i := 9) (o := ⟨some 74, _, _, _, _, _⟩) (di := some 74) (L := [(some 72, 7)]) (f := Jo.Fact.eq undef) rfl rfl rfl rfl (fun vs wj hJ hd K hK => ?_) ?_
            · have d7 : (Jo.Fact.eq (.bool true)).P (vs 7) wj := hd 7 (by decide)
              clear hd
              simp only [Jo.putl, List.foldl_cons, List.foldl_nil, Act.put, List.setIfInBounds_toArray, List.set_cons_zero, List.set_cons_succ] at hK ⊢
              generalize vs 7 = u7 at hK d7 ⊢
              replace d7 : u7 = _ := d7
              subst d7
              go_simp
              exact hK.out _ _ rfl (Below.refl _ _)
            refine Jo.jcons (i := 10) (o := ⟨some 75, _, _, _, _, _⟩) (di := some 75) (L := [(some 72, 7), (some 73, 8), (some 74, 9)]) (f := Jo.Fact.eq undef) rfl rfl rfl rfl (fun vs wj hJ hd K hK => ?_) ?_
            · have d7 : (Jo.Fact.eq (.bool true)).P (vs 7) wj := hd 7 (by decide)
              have d8 : (Jo.Fact.eq undef).P (vs 8) wj := hd 8 (by decide)
              have d9 : (Jo.Fact.eq undef).P (vs 9) wj := hd 9 (by decide)
              clear hd
              simp only [Jo.putl, List.foldl_cons, List.foldl_nil, Act.put, List.setIfInBounds_toArray, List.set_cons_zero, List.set_cons_succ] at hK ⊢
              generalize vs 7 = u7 at hK d7 ⊢
              generalize vs 8 = u8 at hK d8 ⊢
              generalize vs 9 = u9 at hK d9 ⊢
              replace d7 : u7 = _ := d7
              subst d7
              replace d8 : u8 = _ := d8
              subst d8
              replace d9 : u9 = _ := d9
              subst d9
              go_simp
              exact hK.out _ _ rfl (Below.refl _ _)
            refine Jo.jcons (i := 11) (o := ⟨some 76, _, _, _, _, _⟩) (di := some 76) (L := [(some 72, 7), (some 75, 10)]) (f := Jo.Fact.eq undef) rfl rfl rfl rfl (fun vs wj hJ hd K hK => ?_) ?_
            · have d7 : (Jo.Fact.eq (.bool true)).P (vs 7) wj := hd 7 (by decide)
              have d10 : (Jo.Fact.eq undef).P (vs 10) wj := hd 10 (by decide)
              clear hd
              simp only [Jo.putl, List.foldl_cons, List.foldl_nil, Act.put, List.setIfInBounds_toArray, List.set_cons_zero, List.set_cons_succ] at hK ⊢
              generalize vs 7 = u7 at hK d7 ⊢
              generalize vs 10 = u10 at hK d10 ⊢
              replace d7 : u7 = _ := d7
              subst d7
              replace d10 : u10 = _ := d10
              subst d10
              go_simp
              exact hK.out _ _ rfl (Below.refl _ _)
            refine Jo.jcons (i := 12) (o := ⟨some 77, _, _, _, _, _⟩) (di := some 77) (L := [(some 76, 11)]) (f := Jo.Fact.eq undef) rfl rfl rfl rfl (fun vs wj hJ hd K hK => ?_) ?_
            · have d11 : (Jo.Fact.eq undef).P (vs 11) wj := hd 11 (by decide)
              clear hd
              simp only [Jo.putl, List.foldl_cons, List.foldl_nil, Act.put, List.setIfInBounds_toArray, List.set_cons_zero, List.set_cons_succ] at hK ⊢
              generalize vs 11 = u11 at hK d11 ⊢
              replace d11 : u11 = _ := d11
              subst d11
              go_simp
              exact hK.out _ _ rfl (Below.refl _ _)
            refine Jo.jcons (i := 13) (o := ⟨some 78, _, _, _, _, _⟩) (di := some 78) (L := [(some 76, 11)]) (f := Jo.Fact.eq undef) rfl rfl rfl rfl (fun vs wj hJ hd K hK => ?_) ?_
            · have d11 : (Jo.Fact.eq undef).P (vs 11) wj := hd 11 (by decide)
              clear hd
              simp only [Jo.putl, List.foldl_cons, List.foldl_nil, Act.put, List.setIfInBounds_toArray, List.set_cons_zero, List.set_cons_succ] at hK ⊢
              generalize vs 11 = u11 at hK d11 ⊢
              replace d11 : u11 = _ := d11
              subst d11
              go_simp
              exact hK.out _ _ rfl (Below.refl _ _)
            refine Jo.jcons (i := 14) (o := ⟨some 79, _, _, _, _, _⟩) (di := some 79) (L := [(some 76, 11), (some 77, 12), (some 78, 13)]) (f := Jo.Fact.eq undef) rfl rfl rfl rfl (fun vs wj hJ hd K hK => ?_) ?_
            · have d11 : (Jo.Fact.eq undef).P (vs 11) wj := hd 11 (by decide)
              have d12 : (Jo.Fact.eq undef).P (vs 12) wj := hd 12 (by decide)
              have d13 : (Jo.Fact.eq undef).P (vs 13) wj := hd 13 (by decide)
              clear hd
              simp only [Jo.putl, List.foldl_cons, List.foldl_nil, Act.put, List.setIfInBounds_toArray, List.set_cons_zero, List.set_cons_succ] at hK ⊢
              generalize vs 11 = u11 at hK d11 ⊢
              generalize vs 12 = u12 at hK d12 ⊢
              generalize vs 13 = u13 at hK d13 ⊢
              replace d11 : u11 = _ := d11
              subst d11
              replace d12 : u12 = _ := d12
              subst d12
              replace d13 : u13 = _ := d13
              subst d13
              go_simp
              exact hK.out _ _ rfl (Below.refl _ _)
            refine Jo.jcons (i := 15) (o := ⟨some 80, _, _, _, _, _⟩) (di := some 80) (L := [(some 72, 7), (some 76, 11), (some 79, 14)]) (f := Jo.Fact.eq undef) rfl rfl rfl rfl (fun vs wj hJ hd K hK => ?_) ?_
            · have d7 : (Jo.Fact.eq (.bool true)).P (vs 7) wj := hd 7 (by decide)
              have d11 : (Jo.Fact.eq undef).P (vs 11) wj := hd 11 (by decide)
              have d14 : (Jo.Fact.eq undef).P (vs 14) wj := hd 14 (by decide)
              clear hd
              simp only [Jo.putl, List.foldl_cons, List.foldl_nil, Act.put, List.setIfInBounds_toArray, List.set_cons_zero, List.set_cons_succ] at hK ⊢
              generalize vs 7 = u7 at hK d7 ⊢
              generalize vs 11 = u11 at hK d11 ⊢
              generalize vs 14 = u14 at hK d14 ⊢
              replace d7 : u7 = _ := d7
              subst d7
              replace d11 : u11 = _ := d11
              subst d11
              replace d14 : u14 = _ := d14
              subst d14
              go_simp
              exact hK.out _ _ rfl (Below.refl _ _)
            refine Jo.jcons (i := 16) (o := ⟨some 81, _, _, _, _, _⟩) (di := some 81) (L := [(some 72, 7), (some 80, 15)]) (f := Jo.Fact.eq (.bool true)) rfl rfl rfl rfl (fun vs wj hJ hd K hK => ?_) ?_
            · have d7 : (Jo.Fact.eq (.bool true)).P (vs 7) wj := hd 7 (by decide)
              have d15 : (Jo.Fact.eq undef).P (vs 15) wj := hd 15 (by decide)
              clear hd
              simp only [Jo.putl, List.foldl_cons, List.foldl_nil, Act.put, List.setIfInBounds_toArray, List.set_cons_zero, List.set_cons_succ] at hK ⊢
              generalize vs 7 = u7 at hK d7 ⊢
              generalize vs 15 = u15 at hK d15 ⊢
              replace d7 : u7 = _ := d7
              subst d7
              replace d15 : u15 = _ := d15
              subst d15
              go_simp
              exact hK.out _ _ rfl (Below.refl _ _)
            refine Jo.jcons (i := 17) (o := ⟨some 21, _, _, _, _, _⟩) (di := some 21) (L := [(some 81, 16)]) (f := Jo.Fact.eq (.bool true)) rfl rfl rfl rfl (fun vs wj hJ hd K hK => ?_) ?_
            · have d16 : (Jo.Fact.eq (.bool true)).P (vs 16) wj := hd 16 (by decide)
              clear hd
              simp only [Jo.putl, List.foldl_cons, List.foldl_nil, Act.put, List.setIfInBounds_toArray, List.set_cons_zero, List.set_cons_succ] at hK ⊢
              generalize vs 16 = u16 at hK d16 ⊢
              replace d16 : u16 = _ := d16
              subst d16
              go_simp
              exact hK.out _ _ rfl (Below.refl _ _)
            exact Jo.Steps.nil
          have d0 : (Jo.Fact.eq (.agg #[.bool e12, .int .i64 K12, .bool s12, .int .u64 M12, .int .i64 E12, .int .i64 K12b, .bool s12b, .int .u64 M12b, .int .i64 E12b])).P (vs 0) wK := hd 0 (by decide)
          have d1 : (Jo.Fact.eq (.agg #[.bool e13, .int .i64 K13, .bool s13, .int .u64 M13, .int .i64 E13, .int .i64 K13b, .bool s13b, .int .u64 M13b, .int .i64 E13b])).P (vs 1) wK := hd 1 (by decide)
          have d2 : (Jo.Fact.il8 2 [pm, pn]).P (vs 2) wK := hd 2 (by decide)
          have d3 : (Jo.Fact.iv sA).P (vs 3) wK := hd 3 (by decide)
          have d4 : (Jo.Fact.eq (.agg #[.bool e0, .int .i64 D0, .bool s0, .int .u64 M0, .int .i64 E0, .int .i64 G0, .bool g0, .int .u64 P0, .int .i64 Q0])).P (vs 4) wK := hd 4 (by decide)
          have d5 : (Jo.Fact.eq (.bool false)).P (vs 5) wK := hd 5 (by decide)
          have d6 : (Jo.Fact.eq (.bool true)).P (vs 6) wK := hd 6 (by decide)
          have d7 : (Jo.Fact.eq (.bool true)).P (vs 7) wK := hd 7 (by decide)
          have d8 : (Jo.Fact.eq undef).P (vs 8) wK := hd 8 (by decide)
          have d9 : (Jo.Fact.eq undef).P (vs 9) wK := hd 9 (by decide)
          have d10 : (Jo.Fact.eq undef).P (vs 10) wK := hd 10 (by decide)
          have d11 : (Jo.Fact.eq undef).P (vs 11) wK := hd 11 (by decide)
          have d12 : (Jo.Fact.eq undef).P (vs 12) wK := hd 12 (by decide)
          have d13 : (Jo.Fact.eq undef).P (vs 13) wK := hd 13 (by decide)
          have d14 : (Jo.Fact.eq undef).P (vs 14) wK := hd 14 (by decide)
          have d15 : (Jo.Fact.eq undef).P (vs 15) wK := hd 15 (by decide)
          have d16 : (Jo.Fact.eq (.bool true)).P (vs 16) wK := hd 16 (by decide)
          have d17 : (Jo.Fact.eq (.bool true)).P (vs 17) wK := hd 17 (by decide)
          clear hd
          simp only [Jo.putl, List.foldl_cons, List.foldl_nil, Act.put, List.setIfInBounds_toArray, List.set_cons_zero, List.set_cons_succ]
          generalize vs 0 = u0 at d0 ⊢
          generalize vs 1 = u1 at d1 ⊢
          generalize vs 2 = u2 at d2 ⊢
          generalize vs 3 = u3 at d3 ⊢
          generalize vs 4 = u4 at d4 ⊢
          generalize vs 5 = u5 at d5 ⊢
          generalize vs 6 = u6 at d6 ⊢
          generalize vs 7 = u7 at d7 ⊢
          generalize vs 8 = u8 at d8 ⊢
          generalize vs 9 = u9 at d9 ⊢
          generalize vs 10 = u10 at d10 ⊢
          generalize vs 11 = u11 at d11 ⊢
          generalize vs 12 = u12 at d12 ⊢
          generalize vs 13 = u13 at d13 ⊢
          generalize vs 14 = u14 at d14 ⊢
          generalize vs 15 = u15 at d15 ⊢
          generalize vs 16 = u16 at d16 ⊢
          generalize vs 17 = u17 at d17 ⊢
          clear vs
          replace d0 : u0 = _ := d0
          subst d0
          replace d1 : u1 = _ := d1
          subst d1
          obtain ⟨_, _, rfl, _⟩ := d2
          obtain ⟨e31, K31, s31, M31, E31, K31b, s31b, M31b, E31b, rfl, v31⟩ := d3
          replace d4 : u4 = _ := d4
          subst d4
          replace d5 : u5 = _ := d5
          subst d5
          replace d6 : u6 = _ := d6
          subst d6
          replace d7 : u7 = _ := d7
          subst d7
          replace d8 : u8 = _ := d8
          subst d8
          replace d9 : u9 = _ := d9
          subst d9
          replace d10 : u10 = _ := d10
          subst d10
          replace d11 : u11 = _ := d11
          subst d11
          replace d12 : u12 = _ := d12
          subst d12
          replace d13 : u13 = _ := d13
          subst d13
          replace d14 : u14 = _ := d14
          subst d14
          replace d15 : u15 = _ := d15
          subst d15
          replace d16 : u16 = _ := d16
          subst d16
          replace d17 : u17 = _ := d17
          subst d17
          replace X0 := X0.below hJ
          replace X1 := X1.below hJ
          replace X2 := X2.below hJ
          replace X3 := X3.below hJ
          replace X4 := X4.below hJ
          replace X12 := X12.below hJ
          replace X13 := X13.below hJ
          replace X14 := X14.below hJ
          replace X15 := X15.below hJ
          replace X16 := X16.below hJ
          replace X17 := X17.below hJ
          replace X18 := X18.below hJ
          replace X19 := X19.below hJ
          replace X20 := X20.below hJ
          replace hT2 := hT2.below hJ
          replace HB := Lib.hid (bt HB.out hJ)
          refine Jo.jdone (by kernel_rfl) ?_
          go_wp2_with fail
          go_meet
          exact ⟨rfl, X0, X3, X4, X12, X13, X16, X17, X18, X19, X20, HB.out⟩
        · obtain ⟨ka, kb⟩ := HKA.out (by simp) (by simp) (by simp)
          have KA := Lib.hid ka
          have KB := Lib.hid kb
          clear ka kb
          refine Jo.region_joint (T := [0, 1, 2, 3, 4, 5, 6, 7, 8, 9, 10, 11, 12, 13, 14, 15, 16, 17]) (ds := [some 65, some 66, some 67, some 68, some 69, some 70, some 71, some 72, some 73, some 74, some 75, some 76, some 77, some 78, some 79, some 80, some 81, some 21]) (ls := [[], [], [0, 1], [2], [], [3, 4], [5], [6], [7], [7], [7, 8, 9], [7, 10], [11], [11], [11, 12, 13], [7, 11, 14], [7, 15], [16]]) (k := 18) (L := [(some 65, 0), (some 66, 1), (some 67, 2), (some 68, 3), (some 69, 4), (some 70, 5), (some 71, 6), (some 72, 7), (some 73, 8), (some 74, 9), (some 75, 10), (some 76, 11), (some 77, 12), (some 78, 13), (some 79, 14), (some 80, 15), (some 81, 16), (some 21, 17)]) (fuel := 0) (J := fun wj => Below (World.heap wJ).size wJ wj)
            (F := [Jo.Fact.eq (.agg #[.bool e12, .int .i64 K12, .bool s12, .int .u64 M12, .int .i64 E12, .int .i64 K12b, .bool s12b, .int .u64 M12b, .int .i64 E12b]), Jo.Fact.eq (.agg #[.bool e13, .int .i64 K13, .bool s13, .int .u64 M13, .int .i64 E13, .int .i64 K13b, .bool s13b, .int .u64 M13b, .int .i64 E13b]), Jo.Fact.il8 2 [pm, pn], Jo.Fact.iv sA, Jo.Fact.eq (.agg #[.bool e0, .int .i64 D0, .bool s0, .int .u64 M0, .int .i64 E0, .int .i64 G0, .bool g0, .int .u64 P0, .int .i64 Q0]), Jo.Fact.eq (.bool true), Jo.Fact.eq (.bool false), Jo.Fact.eq (.bool false), Jo.Fact.eq (.agg #[.bool e21, .int .i64 K21, .bool s21, .int .u64 M21, .int .i64 E21, .int .i64 K21b, .bool s21b, .int .u64 M21b, .int .i64 E21b]), Jo.Fact.eq (.agg #[.int .i64 D3, .bool s3, .int .u64 M3, .int .i64 E3]), Jo.Fact.eq (.bool true), Jo.Fact.eq (.bool true), Jo.Fact.eq (.agg #[.bool e22, .int .i64 K22, .bool s22, .int .u64 M22, .int .i64 E22, .int .i64 K22b, .bool s22b, .int .u64 M22b, .int .i64 E22b]), Jo.Fact.eq (.agg #[.int .i64 D4, .bool s4, .int .u64 M4, .int .i64 E4]), Jo.Fact.eq (.bool true), Jo.Fact.eq (.bool true), Jo.Fact.eq (.bool true), Jo.Fact.eq (.bool true)])
            (by kernel_rfl) (by kernel_rfl) (by decide) rfl rfl (fun _ _ h b => bt h b) ((Below.refl _ _).drew) ?_ (fun vs wK hJ hd => ?_)
          · refine Jo.jcons (i := 0) (o := ⟨some 65, _, _, _, _, _⟩) (di := some 65) (L := []) (f := Jo.Fact.eq (.agg #[.bool e12, .int .i64 K12, .bool s12, .int .u64 M12, .int .i64 E12, .int .i64 K12b, .bool s12b, .int .u64 M12b, .int .i64 E12b])) rfl rfl rfl rfl (fun vs wj hJ hd K hK => ?_) ?_
            · clear hd
              simp only [Jo.putl, List.foldl_nil, Act.put, List.setIfInBounds_toArray, List.set_cons_zero, List.set_cons_succ] at hK ⊢
              have xX120 : World.cell? wj ⟨w5.heap.size, 0, none⟩ = some (.bool e12) := (X12.below hJ).cell 0
              have xX121 : World.cell? wj ⟨w5.heap.size, 1, none⟩ = some (.int .i64 K12) := (X12.below hJ).cell 1
              have xX122 : World.cell? wj ⟨w5.heap.size, 2, none⟩ = some (.bool s12) := (X12.below hJ).cell 2
              have xX123 : World.cell? wj ⟨w5.heap.size, 3, none⟩ = some (.int .u64 M12) := (X12.below hJ).cell 3
              have xX124 : World.cell? wj ⟨w5.heap.size, 4, none⟩ = some (.int .i64 E12) := (X12.below hJ).cell 4
              have xX125 : World.cell? wj ⟨w5.heap.size, 5, none⟩ = some (.int .i64 K12b) := (X12.below hJ).cell 5
              have xX126 : World.cell? wj ⟨w5.heap.size, 6, none⟩ = some (.bool s12b) := (X12.below hJ).cell 6
              have xX127 : World.cell? wj ⟨w5.heap.size, 7, none⟩ = some (.int .u64 M12b) := (X12.below hJ).cell 7
              have xX128 : World.cell? wj ⟨w5.heap.size, 8, none⟩ = some (.int .i64 E12b) := (X12.below hJ).cell 8
              go_simp
              exact hK.out _ _ rfl (Below.refl _ _)
            refine Jo.jcons (i := 1) (o := ⟨some 66, _, _, _, _, _⟩) (di := some 66) (L := []) (f := Jo.Fact.eq (.agg #[.bool e13, .int .i64 K13, .bool s13, .int .u64 M13, .int .i64 E13, .int .i64 K13b, .bool s13b, .int .u64 M13b, .int .i64 E13b])) rfl rfl rfl rfl (fun vs wj hJ hd K hK => ?_) ?_
            · clear hd
              simp only [Jo.putl, List.foldl_nil, Act.put, List.setIfInBounds_toArray, List.set_cons_zero, List.set_cons_succ] at hK ⊢
              have xX130 : World.cell? wj ⟨w7.heap.size, 0, none⟩ = some (.bool e13) := (X13.below hJ).cell 0
              have xX131 : World.cell? wj ⟨w7.heap.size, 1, none⟩ = some (.int .i64 K13) := (X13.below hJ).cell 1
              have xX132 : World.cell? wj ⟨w7.heap.size, 2, none⟩ = some (.bool s13) := (X13.below hJ).cell 2
              have xX133 : World.cell? wj ⟨w7.heap.size, 3, none⟩ = some (.int .u64 M13) := (X13.below hJ).cell 3
              have xX134 : World.cell? wj ⟨w7.heap.size, 4, none⟩ = some (.int .i64 E13) := (X13.below hJ).cell 4
              have xX135 : World.cell? wj ⟨w7.heap.size, 5, none⟩ = some (.int .i64 K13b) := (X13.below hJ).cell 5
              have xX136 : World.cell? wj ⟨w7.heap.size, 6, none⟩ = some (.bool s13b) := (X13.below hJ).cell 6
              have xX137 : World.cell? wj ⟨w7.heap.size, 7, none⟩ = some (.int .u64 M13b) := (X13.below hJ).cell 7
              have xX138 : World.cell? wj ⟨w7.heap.size, 8, none⟩ = some (.int .i64 E13b) := (X13.below hJ).cell 8
              go_simp
              exact hK.out _ _ rfl (Below.refl _ _)
            refine Jo.jcons (i := 2) (o := ⟨some 67, _, _, _, _, _⟩) (di := some 67) (L := [(some 65, 0), (some 66, 1)]) (f := Jo.Fact.il8 2 [pm, pn]) rfl rfl rfl rfl (fun vs wj hJ hd K hK => ?_) ?_
            · have d0 : (Jo.Fact.eq (.agg #[.bool e12, .int .i64 K12, .bool s12, .int .u64 M12, .int .i64 E12, .int .i64 K12b, .bool s12b, .int .u64 M12b, .int .i64 E12b])).P (vs 0) wj := hd 0 (by decide)
              have d1 : (Jo.Fact.eq (.agg #[.bool e13, .int .i64 K13, .bool s13, .int .u64 M13, .int .i64 E13, .int .i64 K13b, .bool s13b, .int .u64 M13b, .int .i64 E13b])).P (vs 1) wj := hd 1 (by decide)
              clear hd
              simp only [Jo.putl, List.foldl_cons, List.foldl_nil, Act.put, List.setIfInBounds_toArray, List.set_cons_zero, List.set_cons_succ] at hK ⊢
              generalize vs 0 = u0 at hK d0 ⊢
              generalize vs 1 = u1 at hK d1 ⊢
              replace d0 : u0 = _ := d0
              subst d0
              replace d1 : u1 = _ := d1
              subst d1
              go_simp
              exact hK.out _ _ ⟨_, 2, rfl, Il8.lit2 rfl v12.rw v13.rw⟩ (bel1 _ _)
            refine Jo.jcons (i := 3) (o := ⟨some 68, _, _, _, _, _⟩) (di := some 68) (L := [(some 67, 2)]) (f := Jo.Fact.iv sA) rfl rfl rfl rfl (fun vs wj hJ hd K hK => ?_) ?_
            · have d2 : (Jo.Fact.il8 2 [pm, pn]).P (vs 2) wj := hd 2 (by decide)
              clear hd
              simp only [Jo.putl, List.foldl_cons, List.foldl_nil, Act.put, List.setIfInBounds_toArray, List.set_cons_zero, List.set_cons_succ] at hK ⊢
              generalize vs 2 = u2 at hK d2 ⊢
              obtain ⟨A30, c30, rfl, h30⟩ := d2
              go_simp
              refine (fkAdd (hT2.below hJ) h30 HSA.out).mono ?_
              rintro ee wk ⟨e31, K31, s31, M31, E31, K31b, s31b, M31b, E31b, rfl, v31, B⟩
              exact hK.out _ _ ⟨e31, K31, s31, M31, E31, K31b, s31b, M31b, E31b, rfl, v31⟩ B
            refine Jo.jcons (i := 4) (o := ⟨some 69, _, _, _, _, _⟩) (di := some 69) (L := []) (f := Jo.Fact.eq (.agg #[.bool e0, .int .i64 D0, .bool s0, .int .u64 M0, .int .i64 E0, .int .i64 G0, .bool g0, .int .u64 P0, .int .i64 Q0])) rfl rfl rfl rfl (fun vs wj hJ hd K hK => ?_) ?_
            · clear hd
              simp only [Jo.putl, List.foldl_nil, Act.put, List.setIfInBounds_toArray, List.set_cons_zero, List.set_cons_succ] at hK ⊢
              have xX00 : World.cell? wj ⟨w.heap.size, 0, none⟩ = some (.bool e0) := (X0.below hJ).cell 0
              have xX01 : World.cell? wj ⟨w.heap.size, 1, none⟩ = some (.int .i64 D0) := (X0.below hJ).cell 1
              have xX02 : World.cell? wj ⟨w.heap.size, 2, none⟩ = some (.bool s0) := (X0.below hJ).cell 2
              have xX03 : World.cell? wj ⟨w.heap.size, 3, none⟩ = some (.int .u64 M0) := (X0.below hJ).cell 3
              have xX04 : World.cell? wj ⟨w.heap.size, 4, none⟩ = some (.int .i64 E0) := (X0.below hJ).cell 4
              have xX05 : World.cell? wj ⟨w.heap.size, 5, none⟩ = some (.int .i64 G0) := (X0.below hJ).cell 5
              have xX06 : World.cell? wj ⟨w.heap.size, 6, none⟩ = some (.bool g0) := (X0.below hJ).cell 6
              have xX07 : World.cell? wj ⟨w.heap.size, 7, none⟩ = some (.int .u64 P0) := (X0.below hJ).cell 7
              have xX08 : World.cell? wj ⟨w.heap.size, 8, none⟩ = some (.int .i64 Q0) := (X0.below hJ).cell 8
              go_simp
              exact hK.out _ _ rfl (Below.refl _ _)
            refine Jo.jcons (i := 5) (o := ⟨some 70, _, _, _, _, _⟩) (di := some 70) (L := [(some 68, 3), (some 69, 4)]) (f := Jo.Fact.eq (.bool true)) rfl rfl rfl rfl (fun vs wj hJ hd K hK => ?_) ?_
            · have d3 : (Jo.Fact.iv sA).P (vs 3) wj := hd 3 (by decide)
              have d4 : (Jo.Fact.eq (.agg #[.bool e0, .int .i64 D0, .bool s0, .int .u64 M0, .int .i64 E0, .int .i64 G0, .bool g0, .int .u64 P0, .int .i64 Q0])).P (vs 4) wj := hd 4 (by decide)
              clear hd
              simp only [Jo.putl, List.foldl_cons, List.foldl_nil, Act.put, List.setIfInBounds_toArray, List.set_cons_zero, List.set_cons_succ] at hK ⊢
              generalize vs 3 = u3 at hK d3 ⊢
              generalize vs 4 = u4 at hK d4 ⊢
              obtain ⟨e31, K31, s31, M31, E31, K31b, s31b, M31b, E31b, rfl, v31⟩ := d3
              replace d4 : u4 = _ := d4
              subst d4
              go_simp
              refine (kvWithin v31.top.1 v31.top.2 u0 v0 v31.rk HZ.out HTA.out).mono ?_
              rintro ee wk ⟨rfl, B⟩
              exact hK.out _ _ rfl B
            refine Jo.jcons (i := 6) (o := ⟨some 71, _, _, _, _, _⟩) (di := some 71) (L := [(some 70, 5)]) (f := Jo.Fact.eq (.bool false)) rfl rfl rfl rfl (fun vs wj hJ hd K hK => ?_) ?_
            · have d5 : (Jo.Fact.eq (.bool true)).P (vs 5) wj := hd 5 (by decide)
              clear hd
              simp only [Jo.putl, List.foldl_cons, List.foldl_nil, Act.put, List.setIfInBounds_toArray, List.set_cons_zero, List.set_cons_succ] at hK ⊢
              generalize vs 5 = u5 at hK d5 ⊢
              replace d5 : u5 = _ := d5
              subst d5
              go_simp
              exact hK.out _ _ rfl (Below.refl _ _)
            refine Jo.jcons (i := 7) (o := ⟨some 72, _, _, _, _, _⟩) (di := some 72) (L := [(some 71, 6)]) (f := Jo.Fact.eq (.bool false)) rfl rfl rfl rfl (fun vs wj hJ hd K hK => ?_) ?_
            · have d6 : (Jo.Fact.eq (.bool false)).P (vs 6) wj := hd 6 (by decide)
              clear hd
              simp only [Jo.putl, List.foldl_cons, List.foldl_nil, Act.put, List.setIfInBounds_toArray, List.set_cons_zero, List.set_cons_succ] at hK ⊢
              generalize vs 6 = u6 at hK d6 ⊢
              replace d6 : u6 = _ := d6
              subst d6
              go_simp
              exact hK.out _ _ rfl (Below.refl _ _)
            refine Jo.jcons (i := 8) (o := ⟨some 73, _, _, _, _, _⟩) (di := some 73) (L := [(some 72, 7)]) (f := Jo.Fact.eq (.agg #[.bool e21, .int .i64 K21, .bool s21, .int .u64 M21, .int .i64 E21, .int .i64 K21b, .bool s21b, .int .u64 M21b, .int .i64 E21b])) rfl rfl rfl rfl (fun vs wj hJ hd K hK => ?_) ?_
            · have d7 : (Jo.Fact.eq (.bool false)).P (vs 7) wj := hd 7 (by decide)
              clear hd
              simp only [Jo.putl, List.foldl_cons, List.foldl_nil, Act.put, List.setIfInBounds_toArray, List.set_cons_zero, List.set_cons_succ] at hK ⊢
              generalize vs 7 = u7 at hK d7 ⊢
              replace d7 : u7 = _ := d7
              subst d7
              have xX140 : World.cell? wj ⟨w9.heap.size, 0, none⟩ = some (.bool e21) := (X14.below hJ).cell 0
              have xX141 : World.cell? wj ⟨w9.heap.size, 1, none⟩ = some (.int .i64 K21) := (X14.below hJ).cell 1
              have xX142 : World.cell? wj ⟨w9.heap.size, 2, none⟩ = some (.bool s21) := (X14.below hJ).cell 2
              have xX143 : World.cell? wj ⟨w9.heap.size, 3, none⟩ = some (.int .u64 M21) := (X14.below hJ).cell 3
              have xX144 : World.cell? wj ⟨w9.heap.size, 4, none⟩ = some (.int .i64 E21) := (X14.below hJ).cell 4
              have xX145 : World.cell? wj ⟨w9.heap.size, 5, none⟩ = some (.int .i64 K21b) := (X14.below hJ).cell 5
              have xX146 : World.cell? wj ⟨w9.heap.size, 6, none⟩ = some (.bool s21b) := (X14.below hJ).cell 6
              have xX147 : World.cell? wj ⟨w9.heap.size, 7, none⟩ = some (.int .u64 M21b) := (X14.below hJ).cell 7
              have xX148 : World.cell? wj ⟨w9.heap.size, 8, none⟩ = some (.int .i64 E21b) := (X14.below hJ).cell 8
              go_simp
              exact hK.out _ _ rfl (Below.refl _ _)
            refine Jo.jcons (i := 9) (o := ⟨some 74, _, _, _, _, _⟩) (di := some 74) (L := [(some 72, 7)]) (f := Jo.Fact.eq (.agg #[.int .i64 D3, .bool s3, .int .u64 M3, .int .i64 E3])) rfl rfl rfl rfl (fun vs wj hJ hd K hK => ?_) ?_
            · have d7 : (Jo.Fact.eq (.bool false)).P (vs 7) wj := hd 7 (by decide)
              clear hd
              simp only [Jo.putl, List.foldl_cons, List.foldl_nil, Act.put, List.setIfInBounds_toArray, List.set_cons_zero, List.set_cons_succ] at hK ⊢
              generalize vs 7 = u7 at hK d7 ⊢
              replace d7 : u7 = _ := d7
              subst d7
              have xX30 : World.cell? wj ⟨w.heap.size + 1 + 1 + 1, 0, none⟩ = some (.int .i64 D3) := (X3.below hJ).cell 0
              have xX31 : World.cell? wj ⟨w.heap.size + 1 + 1 + 1, 1, none⟩ = some (.bool s3) := (X3.below hJ).cell 1
              have xX32 : World.cell? wj ⟨w.heap.size + 1 + 1 + 1, 2, none⟩ = some (.int .u64 M3) := (X3.below hJ).cell 2
              have xX33 : World.cell? wj ⟨w.heap.size + 1 + 1 + 1, 3, none⟩ = some (.int .i64 E3) := (X3.below hJ).cell 3
              go_simp
              exact hK.out _ _ rfl (Below.refl _ _)
            refine Jo.jcons (i := 10) (o := ⟨some 75, _, _, _, _, _⟩) (di := some 75) (L := [(some 72, 7), (some 73, 8), (some 74, 9)]) (f := Jo.Fact.eq (.bool true)) rfl rfl rfl rfl (fun vs wj hJ hd K hK => ?_) ?_
            · have d7 : (Jo.Fact.eq (.bool false)).P (vs 7) wj := hd 7 (by decide)
              have d8 : (Jo.Fact.eq (.agg #[.bool e21, .int .i64 K21, .bool s21, .int .u64 M21, .int .i64 E21, .int .i64 K21b, .bool s21b, .int .u64 M21b, .int .i64 E21b])).P (vs 8) wj := hd 8 (by decide)
              have d9 : (Jo.Fact.eq (.agg #[.int .i64 D3, .bool s3, .int .u64 M3, .int .i64 E3])).P (vs 9) wj := hd 9 (by decide)
              clear hd
              simp only [Jo.putl, List.foldl_cons, List.foldl_nil, Act.put, List.setIfInBounds_toArray, List.set_cons_zero, List.set_cons_succ] at hK ⊢
              generalize vs 7 = u7 at hK d7 ⊢
              generalize vs 8 = u8 at hK d8 ⊢
              generalize vs 9 = u9 at hK d9 ⊢
              replace d7 : u7 = _ := d7
              subst d7
              replace d8 : u8 = _ := d8
              subst d8
              replace d9 : u9 = _ := d9
              subst d9
              go_simp
              refine (kvHas v21.top.1 v21.top.2 u3 v21.rk HM.out KA.out).mono ?_
              rintro ee wk ⟨rfl, B⟩
              exact hK.out _ _ rfl B
            refine Jo.jcons (i := 11) (o := ⟨some 76, _, _, _, _, _⟩) (di := some 76) (L := [(some 72, 7), (some 75, 10)]) (f := Jo.Fact.eq (.bool true)) rfl rfl rfl rfl (fun vs wj hJ hd K hK => ?_) ?_
            · have d7 : (Jo.Fact.eq (.bool false)).P (vs 7) wj := hd 7 (by decide)
              have d10 : (Jo.Fact.eq (.bool true)).P (vs 10) wj := hd 10 (by decide)
              clear hd
              simp only [Jo.putl, List.foldl_cons, List.foldl_nil, Act.put, List.setIfInBounds_toArray, List.set_cons_zero, List.set_cons_succ] at hK ⊢
              generalize vs 7 = u7 at hK d7 ⊢
              generalize vs 10 = u10 at hK d10 ⊢
              replace d7 : u7 = _ := d7
              subst d7
              replace d10 : u10 = _ := d10
              subst d10
              go_simp
              exact hK.out _ _ rfl (Below.refl _ _)
            refine Jo.jcons (i := 12) (o := ⟨some 77, _, _, _, _, _⟩) (di := some 77) (L := [(some 76, 11)]) (f := Jo.Fact.eq (.agg #[.bool e22, .int .i64 K22, .bool s22, .int .u64 M22, .int .i64 E22, .int .i64 K22b, .bool s22b, .int .u64 M22b, .int .i64 E22b])) rfl rfl rfl rfl (fun vs wj hJ hd K hK => ?_) ?_
            · have d11 : (Jo.Fact.eq (.bool true)).P (vs 11) wj := hd 11 (by decide)
              clear hd
              simp only [Jo.putl, List.foldl_cons, List.foldl_nil, Act.put, List.setIfInBounds_toArray, List.set_cons_zero, List.set_cons_succ] at hK ⊢
              generalize vs 11 = u11 at hK d11 ⊢
              replace d11 : u11 = _ := d11
              subst d11
              have xX150 : World.cell? wj ⟨w9.heap.size + 1, 0, none⟩ = some (.bool e22) := (X15.below hJ).cell 0
              have xX151 : World.cell? wj ⟨w9.heap.size + 1, 1, none⟩ = some (.int .i64 K22) := (X15.below hJ).cell 1
              have xX152 : World.cell? wj ⟨w9.heap.size + 1, 2, none⟩ = some (.bool s22) := (X15.below hJ).cell 2
              have xX153 : World.cell? wj ⟨w9.heap.size + 1, 3, none⟩ = some (.int .u64 M22) := (X15.below hJ).cell 3
              have xX154 : World.cell? wj ⟨w9.heap.size + 1, 4, none⟩ = some (.int .i64 E22) := (X15.below hJ).cell 4
              have xX155 : World.cell? wj ⟨w9.heap.size + 1, 5, none⟩ = some (.int .i64 K22b) := (X15.below hJ).cell 5
              have xX156 : World.cell? wj ⟨w9.heap.size + 1, 6, none⟩ = some (.bool s22b) := (X15.below hJ).cell 6
              have xX157 : World.cell? wj ⟨w9.heap.size + 1, 7, none⟩ = some (.int .u64 M22b) := (X15.below hJ).cell 7
              have xX158 : World.cell? wj ⟨w9.heap.size + 1, 8, none⟩ = some (.int .i64 E22b) := (X15.below hJ).cell 8
              go_simp
              exact hK.out _ _ rfl (Below.refl _ _)
            refine Jo.jcons (i := 13) (o := ⟨some 78, _, _, _, _, _⟩) (di := some 78) (L := [(some 76, 11)]) (f := Jo.Fact.eq (.agg #[.int .i64 D4, .bool s4, .int .u64 M4, .int .i64 E4])) rfl rfl rfl rfl (fun vs wj hJ hd K hK => ?_) ?_
            · have d11 : (Jo.Fact.eq (.bool true)).P (vs 11) wj := hd 11 (by decide)
              clear hd
              simp only [Jo.putl, List.foldl_cons, List.foldl_nil, Act.put, List.setIfInBounds_toArray, List.set_cons_zero, List.set_cons_succ] at hK ⊢
              generalize vs 11 = u11 at hK d11 ⊢
              replace d11 : u11 = _ := d11
              subst d11
              have xX40 : World.cell? wj ⟨w.heap.size + 1 + 1 + 1 + 1, 0, none⟩ = some (.int .i64 D4) := (X4.below hJ).cell 0
              have xX41 : World.cell? wj ⟨w.heap.size + 1 + 1 + 1 + 1, 1, none⟩ = some (.bool s4) := (X4.below hJ).cell 1
              have xX42 : World.cell? wj ⟨w.heap.size + 1 + 1 + 1 + 1, 2, none⟩ = some (.int .u64 M4) := (X4.below hJ).cell 2
              have xX43 : World.cell? wj ⟨w.heap.size + 1 + 1 + 1 + 1, 3, none⟩ = some (.int .i64 E4) := (X4.below hJ).cell 3
              go_simp
              exact hK.out _ _ rfl (Below.refl _ _)
            refine Jo.jcons (i := 14) (o := ⟨some 79, _, _, _, _, _⟩) (di := some 79) (L := [(some 76, 11), (some 77, 12), (some 78, 13)]) (f := Jo.Fact.eq (.bool true)) rfl rfl rfl rfl (fun vs wj hJ hd K hK => ?_) ?_
            · have d11 : (Jo.Fact.eq (.bool true)).P (vs 11) wj := hd 11 (by decide)
              have d12 : (Jo.Fact.eq (.agg #[.bool e22, .int .i64 K22, .bool s22, .int .u64 M22, .int .i64 E22, .int .i64 K22b, .bool s22b, .int .u64 M22b, .int .i64 E22b])).P (vs 12) wj := hd 12 (by decide)
              have d13 : (Jo.Fact.eq (.agg #[.int .i64 D4, .bool s4, .int .u64 M4, .int .i64 E4])).P (vs 13) wj := hd 13 (by decide)
              clear hd
              simp only [Jo.putl, List.foldl_cons, List.foldl_nil, Act.put, List.setIfInBounds_toArray, List.set_cons_zero, List.set_cons_succ] at hK ⊢
              generalize vs 11 = u11 at hK d11 ⊢
              generalize vs 12 = u12 at hK d12 ⊢
              generalize vs 13 = u13 at hK d13 ⊢
              replace d11 : u11 = _ := d11
              subst d11
              replace d12 : u12 = _ := d12
              subst d12
              replace d13 : u13 = _ := d13
              subst d13
              go_simp
              refine (kvHas v22.top.1 v22.top.2 u4 v22.rk HN.out KB.out).mono ?_
              rintro ee wk ⟨rfl, B⟩
              exact hK.out _ _ rfl B
            refine Jo.jcons (i := 15) (o := ⟨some 80, _, _, _, _, _⟩) (di := some 80) (L := [(some 72, 7), (some 76, 11), (some 79, 14)]) (f := Jo.Fact.eq (.bool true)) rfl rfl rfl rfl (fun vs wj hJ hd K hK => ?_) ?_
            · have d7 : (Jo.Fact.eq (.bool false)).P (vs 7) wj := hd 7 (by decide)
              have d11 : (Jo.Fact.eq (.bool true)).P (vs 11) wj := hd 11 (by decide)
              have d14 : (Jo.Fact.eq (.bool true)).P (vs 14) wj := hd 14 (by decide)
              clear hd
              simp only [Jo.putl, List.foldl_cons, List.foldl_nil, Act.put, List.setIfInBounds_toArray, List.set_cons_zero, List.set_cons_succ] at hK ⊢
              generalize vs 7 = u7 at hK d7 ⊢
              generalize vs 11 = u11 at hK d11 ⊢
              generalize vs 14 = u14 at hK d14 ⊢
              replace d7 : u7 = _ := d7
              subst d7
              replace d11 : u11 = _ := d11
              subst d11
              replace d14 : u14 = _ := d14
              subst d14
              go_simp
              exact hK.out _ _ rfl (Below.refl _ _)
            refine Jo.jcons (i := 16) (o := ⟨some 81, _, _, _, _, _⟩) (di := some 81) (L := [(some 72, 7), (some 80, 15)]) (f := Jo.Fact.eq (.bool true)) rfl rfl rfl rfl (fun vs wj hJ hd K hK => ?_) ?_
            · have d7 : (Jo.Fact.eq (.bool false)).P (vs 7) wj := hd 7 (by decide)
              have d15 : (Jo.Fact.eq (.bool true)).P (vs 15) wj := hd 15 (by decide)
              clear hd
              simp only [Jo.putl, List.foldl_cons, List.foldl_nil, Act.put, List.setIfInBounds_toArray, List.set_cons_zero, List.set_cons_succ] at hK ⊢
              generalize vs 7 = u7 at hK d7 ⊢
              generalize vs 15 = u15 at hK d15 ⊢
              replace d7 : u7 = _ := d7
              subst d7
              replace d15 : u15 = _ := d15
              subst d15
              go_simp
              exact hK.out _ _ rfl (Below.refl _ _)
            refine Jo.jcons (i := 17) (o := ⟨some 21, _, _, _, _, _⟩) (di := some 21) (L := [(some 81, 16)]) (f := Jo.Fact.eq (.bool true)) rfl rfl rfl rfl (fun vs wj hJ hd K hK => ?_) ?_
            · have d16 : (Jo.Fact.eq (.bool true)).P (vs 16) wj := hd 16 (by decide)
              clear hd
              simp only [Jo.putl, List.foldl_cons, List.foldl_nil, Act.put, List.setIfInBounds_toArray, List.set_cons_zero, List.set_cons_succ] at hK ⊢
              generalize vs 16 = u16 at hK d16 ⊢
              replace d16 : u16 = _ := d16
              subst d16
              go_simp
              exact hK.out _ _ rfl (Below.refl _ _)
            exact Jo.Steps.nil
          have d0 : (Jo.Fact.eq (.agg #[.bool e12, .int .i64 K12, .bool s12, .int .u64 M12, .int .i64 E12, .int .i64 K12b, .bool s12b, .int .u64 M12b, .int .i64 E12b])).P (vs 0) wK := hd 0 (by decide)
          have d1 : (Jo.Fact.eq (.agg #[.bool e13, .int .i64 K13, .bool s13, .int .u64 M13, .int .i64 E13, .int .i64 K13b, .bool s13b, .int .u64 M13b, .int .i64 E13b])).P (vs 1) wK := hd 1 (by decide)
          have d2 : (Jo.Fact.il8 2 [pm, pn]).P (vs 2) wK := hd 2 (by decide)
          have d3 : (Jo.Fact.iv sA).P (vs 3) wK := hd 3 (by decide)
          have d4 : (Jo.Fact.eq (.agg #[.bool e0, .int .i64 D0, .bool s0, .int .u64 M0, .int .i64 E0, .int .i64 G0, .bool g0, .int .u64 P0, .int .i64 Q0])).P (vs 4) wK := hd 4 (by decide)
          have d5 : (Jo.Fact.eq (.bool true)).P (vs 5) wK := hd 5 (by decide)
          have d6 : (Jo.Fact.eq (.bool false)).P (vs 6) wK := hd 6 (by decide)
          have d7 : (Jo.Fact.eq (.bool false)).P (vs 7) wK := hd 7 (by decide)
          have d8 : (Jo.Fact.eq (.agg #[.bool e21, .int .i64 K21, .bool s21, .int .u64 M21, .int .i64 E21, .int .i64 K21b, .bool s21b, .int .u64 M21b, .int .i64 E21b])).P (vs 8) wK := hd 8 (by decide)
          have d9 : (Jo.Fact.eq (.agg #[.int .i64 D3, .bool s3, .int .u64 M3, .int .i64 E3])).P (vs 9) wK := hd 9 (by decide)
          have d10 : (Jo.Fact.eq (.bool true)).P (vs 10) wK := hd 10 (by decide)
          have d11 : (Jo.Fact.eq (.bool true)).P (vs 11) wK := hd 11 (by decide)
          have d12 : (Jo.Fact.eq (.agg #[.bool e22, .int .i64 K22, .bool s22, .int .u64 M22, .int .i64 E22, .int .i64 K22b, .bool s22b, .int .u64 M22b, .int .i64 E22b])).P (vs 12) wK := hd 12 (by decide)
          have d13 : (Jo.Fact.eq (.agg #[.int .i64 D4, .bool s4, .int .u64 M4, .int .i64 E4])).P (vs 13) wK := hd 13 (by decide)
          have d14 : (Jo.Fact.eq (.bool true)).P (vs 14) wK := hd 14 (by decide)
          have d15 : (Jo.Fact.eq (.bool true)).P (vs 15) wK := hd 15 (by decide)
          have d16 : (Jo.Fact.eq (.bool true)).P (vs 16) wK := hd 16 (by decide)
          have d17 : (Jo.Fact.eq (.bool true)).P (vs 17) wK := hd 17 (by decide)
          clear hd
          simp only [Jo.putl, List.foldl_cons, List.foldl_nil, Act.put, List.setIfInBounds_toArray, List.set_cons_zero, List.set_cons_succ]
          generalize vs 0 = u0 at d0 ⊢
          generalize vs 1 = u1 at d1 ⊢
          generalize vs 2 = u2 at d2 ⊢
          generalize vs 3 = u3 at d3 ⊢
          generalize vs 4 = u4 at d4 ⊢
          generalize vs 5 = u5 at d5 ⊢
          generalize vs 6 = u6 at d6 ⊢
          generalize vs 7 = u7 at d7 ⊢
          generalize vs 8 = u8 at d8 ⊢
          generalize vs 9 = u9 at d9 ⊢
          generalize vs 10 = u10 at d10 ⊢
          generalize vs 11 = u11 at d11 ⊢
          generalize vs 12 = u12 at d12 ⊢
          generalize vs 13 = u13 at d13 ⊢
          generalize vs 14 = u14 at d14 ⊢
          generalize vs 15 = u15 at d15 ⊢
          generalize vs 16 = u16 at d16 ⊢
          generalize vs 17 = u17 at d17 ⊢
          clear vs
          replace d0 : u0 = _ := d0
          subst d0
          replace d1 : u1 = _ := d1
          subst d1
          obtain ⟨_, _, rfl, _⟩ := d2
          obtain ⟨e31, K31, s31, M31, E31, K31b, s31b, M31b, E31b, rfl, v31⟩ := d3
          replace d4 : u4 = _ := d4
          subst d4
          replace d5 : u5 = _ := d5
          subst d5
          replace d6 : u6 = _ := d6
          subst d6
          replace d7 : u7 = _ := d7
          subst d7
          replace d8 : u8 = _ := d8
          subst d8
          replace d9 : u9 = _ := d9
          subst d9
          replace d10 : u10 = _ := d10
          subst d10
          replace d11 : u11 = _ := d11
          subst d11
          replace d12 : u12 = _ := d12
          subst d12
          replace d13 : u13 = _ := d13
          subst d13
          replace d14 : u14 = _ := d14
          subst d14
          replace d15 : u15 = _ := d15
          subst d15
          replace d16 : u16 = _ := d16
          subst d16
          replace d17 : u17 = _ := d17
          subst d17
          replace X0 := X0.below hJ
          replace X1 := X1.below hJ
          replace X2 := X2.below hJ
          replace X3 := X3.below hJ
          replace X4 := X4.below hJ
          replace X12 := X12.below hJ
          replace X13 := X13.below hJ
          replace X14 := X14.below hJ
          replace X15 := X15.below hJ
          replace X16 := X16.below hJ
          replace X17 := X17.below hJ
          replace X18 := X18.below hJ
          replace X19 := X19.below hJ
          replace X20 := X20.below hJ
          replace hT2 := hT2.below hJ
          replace HB := Lib.hid (bt HB.out hJ)
          refine Jo.jdone (by kernel_rfl) ?_
          go_wp2_with fail
          go_meet
          exact ⟨rfl, X0, X3, X4, X12, X13, X16, X17, X18, X19, X20, HB.out⟩
      case rest =>
        obtain ⟨rfl, X0, X3, X4, X12, X13, X16, X17, X18, X19, X20, hB⟩ := hcut
        replace HB := Lib.hid hB
        have hT2 := HT0.out.below hB
        clear hB
        go_upto_region 11 with (fail)
        go_cut [22] (fun v wx => v = .bool true ∧ Bo wx (w.heap.size) #[.bool e0, .int .i64 D0, .bool s0, .int .u64 M0, .int .i64 E0, .int .i64 G0, .bool g0, .int .u64 P0, .int .i64 Q0] 26 ∧ Bo wx (w.heap.size + 1 + 1 + 1) #[.int .i64 D3, .bool s3, .int .u64 M3, .int .i64 E3] 24 ∧ Bo wx (w.heap.size + 1 + 1 + 1 + 1) #[.int .i64 D4, .bool s4, .int .u64 M4, .int .i64 E4] 24 ∧ Bo wx (w5.heap.size) #[.bool e12, .int .i64 K12, .bool s12, .int .u64 M12, .int .i64 E12, .int .i64 K12b, .bool s12b, .int .u64 M12b, .int .i64 E12b] 26 ∧ Bo wx (w7.heap.size) #[.bool e13, .int .i64 K13, .bool s13, .int .u64 M13, .int .i64 E13, .int .i64 K13b, .bool s13b, .int .u64 M13b, .int .i64 E13b] 26 ∧ Bo wx (wF.heap.size) #[.bool e25, .int .i64 K25, .bool s25, .int .u64 M25, .int .i64 E25, .int .i64 K25b, .bool s25b, .int .u64 M25b, .int .i64 E25b] 26 ∧ Bo wx (wF.heap.size + 1) #[.bool e26, .int .i64 K26, .bool s26, .int .u64 M26, .int .i64 E26, .int .i64 K26b, .bool s26b, .int .u64 M26b, .int .i64 E26b] 26 ∧ Bo wx (wI.heap.size) #[.bool e27, .int .i64 K27, .bool s27, .int .u64 M27, .int .i64 E27, .int .i64 K27b, .bool s27b, .int .u64 M27b, .int .i64 E27b] 26 ∧ Below w.heap.size w wx)
        case first =>
          cases tB
          · refine Jo.region_joint (T := [0, 1, 2, 3, 4, 5, 6, 7, 8, 9, 10, 11, 12, 13, 14, 15, 16]) (ds := [some 82, some 83, some 84, some 85, some 86, some 87, some 88, some 89, some 90, some 91, some 92, some 93, some 94, some 95, some 96, some 97, some 22]) (ls := [[], [], [0, 1], [], [2, 3], [4], [5], [6], [6], [6, 7, 8], [6, 9], [10], [10], [10, 11, 12], [6, 10, 13], [6, 14], [15]]) (k := 17) (L := [(some 82, 0), (some 83, 1), (some 84, 2), (some 85, 3), (some 86, 4), (some 87, 5), (some 88, 6), (some 89, 7), (some 90, 8), (some 91, 9), (some 92, 10), (some 93, 11), (some 94, 12), (some 95, 13), (some 96, 14), (some 97, 15), (some 22, 16)]) (fuel := 0) (J := fun wj => Below (World.heap wc).size wc wj)
              (F := [Jo.Fact.eq (.agg #[.bool e12, .int .i64 K12, .bool s12, .int .u64 M12, .int .i64 E12, .int .i64 K12b, .bool s12b, .int .u64 M12b, .int .i64 E12b]), Jo.Fact.eq (.agg #[.bool e13, .int .i64 K13, .bool s13, .int .u64 M13, .int .i64 E13, .int .i64 K13b, .bool s13b, .int .u64 M13b, .int .i64 E13b]), Jo.Fact.iv sB, Jo.Fact.eq (.agg #[.bool e0, .int .i64 D0, .bool s0, .int .u64 M0, .int .i64 E0, .int .i64 G0, .bool g0, .int .u64 P0, .int .i64 Q0]), Jo.Fact.eq (.bool false), Jo.Fact.eq (.bool true), Jo.Fact.eq (.bool true), Jo.Fact.eq undef, Jo.Fact.eq undef, Jo.Fact.eq undef, Jo.Fact.eq undef, Jo.Fact.eq undef, Jo.Fact.eq undef, Jo.Fact.eq undef, Jo.Fact.eq undef, Jo.Fact.eq (.bool true), Jo.Fact.eq (.bool true)])
              (by kernel_rfl) (by kernel_rfl) (by decide) rfl rfl (fun _ _ h b => bt h b) ((Below.refl _ _).drew) ?_ (fun vs wK hJ hd => ?_)
            · refine Jo.jcons (i := 0) (o := ⟨some 82, _, _, _, _, _⟩) (di := some 82) (L := []) (f := Jo.Fact.eq (.agg #[.bool e12, .int .i64 K12, .bool s12, .int .u64 M12, .int .i64 E12, .int .i64 K12b, .bool s12b, .int .u64 M12b, .int .i64 E12b])) rfl rfl rfl rfl (fun vs wj hJ hd K hK => ?_) ?_
              · clear hd
                simp only [Jo.putl, List.foldl_nil, Act.put, List.setIfInBounds_toArray, List.set_cons_zero, List.set_cons_succ] at hK ⊢
                have xX120 : World.cell? wj ⟨w5.heap.size, 0, none⟩ = some (.bool e12) := (X12.below hJ).cell 0
                have xX121 : World.cell? wj ⟨w5.heap.size, 1, none⟩ = some (.int .i64 K12) := (X12.below hJ).cell 1
                have xX122 : World.cell? wj ⟨w5.heap.size, 2, none⟩ = some (.bool s12) := (X12.below hJ).cell 2
                have xX123 : World.cell? wj ⟨w5.heap.size, 3, none⟩ = some (.int .u64 M12) := (X12.below hJ).cell 3
                have xX124 : World.cell? wj ⟨w5.heap.size, 4, none⟩ = some (.int .i64 E12) := (X12.below hJ).cell 4
                have xX125 : World.cell? wj ⟨w5.heap.size, 5, none⟩ = some (.int .i64 K12b) := (X12.below hJ).cell 5
                have xX126 : World.cell? wj ⟨w5.heap.size, 6, none⟩ = some (.bool s12b) := (X12.below hJ).cell 6
                have xX127 : World.cell? wj ⟨w5.heap.size, 7, none⟩ = some (.int .u64 M12b) := (X12.below hJ).cell 7
                have xX128 : World.cell? wj ⟨w5.heap.size, 8, none⟩ = some (.int .i64 E12b) := (X12.below hJ).cell 8
                go_simp
                exact hK.out _ _ rfl (Below.refl _ _)
              refine Jo.jcons (i := 1) (o := ⟨some 83, _, _, _, _, _⟩) (di := some 83) (L := []) (f := Jo.Fact.eq (.agg #[.bool e13, .int .i64 K13, .bool s13, .int .u64 M13, .int .i64 E13, .int .i64 K13b, .bool s13b, .int .u64 M13b, .int .i64 E13b])) rfl rfl rfl rfl (fun vs wj hJ hd K hK => ?_) ?_
              · clear hd
                simp only [Jo.putl, List.foldl_nil, Act.put, List.setIfInBounds_toArray, List.set_cons_zero, List.set_cons_succ] at hK ⊢
                have xX130 : World.cell? wj ⟨w7.heap.size, 0, none⟩ = some (.bool e13) := (X13.below hJ).cell 0
                have xX131 : World.cell? wj ⟨w7.heap.size, 1, none⟩ = some (.int .i64 K13) := (X13.below hJ).cell 1
                have xX132 : World.cell? wj ⟨w7.heap.size, 2, none⟩ = some (.bool s13) := (X13.below hJ).cell 2
                have xX133 : World.cell? wj ⟨w7.heap.size, 3, none⟩ = some (.int .u64 M13) := (X13.below hJ).cell 3
                have xX134 : World.cell? wj ⟨w7.heap.size, 4, none⟩ = some (.int .i64 E13) := (X13.below hJ).cell 4
                have xX135 : World.cell? wj ⟨w7.heap.size, 5, none⟩ = some (.int .i64 K13b) := (X13.below hJ).cell 5
                have xX136 : World.cell? wj ⟨w7.heap.size, 6, none⟩ = some (.bool s13b) := (X13.below hJ).cell 6
                have xX137 : World.cell? wj ⟨w7.heap.size, 7, none⟩ = some (.int .u64 M13b) := (X13.below hJ).cell 7
                have xX138 : World.cell? wj ⟨w7.heap.size, 8, none⟩ = some (.int .i64 E13b) := (X13.below hJ).cell 8
                go_simp
                exact hK.out _ _ rfl (Below.refl _ _)
              refine Jo.jcons (i := 2) (o := ⟨some 84, _, _, _, _, _⟩) (di := some 84) (L := [(some 82, 0), (some 83, 1)]) (f := Jo.Fact.iv sB) rfl rfl rfl rfl (fun vs wj hJ hd K hK => ?_) ?_
              · have d0 : (Jo.Fact.eq (.agg #[.bool e12, .int .i64 K12, .bool s12, .int .u64 M12, .int .i64 E12, .int .i64 K12b, .bool s12b, .int .u64 M12b, .int .i64 E12b])).P (vs 0) wj := hd 0 (by decide)
                have d1 : (Jo.Fact.eq (.agg #[.bool e13, .int .i64 K13, .bool s13, .int .u64 M13, .int .i64 E13, .int .i64 K13b, .bool s13b, .int .u64 M13b, .int .i64 E13b])).P (vs 1) wj := hd 1 (by decide)
                clear hd
                simp only [Jo.putl, List.foldl_cons, List.foldl_nil, Act.put, List.setIfInBounds_toArray, List.set_cons_zero, List.set_cons_succ] at hK ⊢
                generalize vs 0 = u0 at hK d0 ⊢
                generalize vs 1 = u1 at hK d1 ⊢
                replace d0 : u0 = _ := d0
                subst d0
                replace d1 : u1 = _ := d1
                subst d1
                go_simp
                refine (fkSub (hT2.below hJ) v12.top.1 v12.top.2 v13.top.1 v13.top.2 v12.rk v13.rk HSB.out).mono ?_
                rintro ee wk ⟨e31, K31, s31, M31, E31, K31b, s31b, M31b, E31b, rfl, v31, B⟩
                exact hK.out _ _ ⟨e31, K31, s31, M31, E31, K31b, s31b, M31b, E31b, rfl, v31⟩ B
              refine Jo.jcons (i := 3) (o := ⟨some 85, _, _, _, _, _⟩) (di := some 85) (L := []) (f := Jo.Fact.eq (.agg #[.bool e0, .int .i64 D0, .bool s0, .int .u64 M0, .int .i64 E0, .int .i64 G0, .bool g0, .int .u64 P0, .int .i64 Q0])) rfl rfl rfl rfl (fun vs wj hJ hd K hK => ?_) ?_
              · clear hd
                simp only [Jo.putl, List.foldl_nil, Act.put, List.setIfInBounds_toArray, List.set_cons_zero, List.set_cons_succ] at hK ⊢
                have xX00 : World.cell? wj ⟨w.heap.size, 0, none⟩ = some (.bool e0) := (X0.below hJ).cell 0
                have xX01 : World.cell? wj ⟨w.heap.size, 1, none⟩ = some (.int .i64 D0) := (X0.below hJ).cell 1
                have xX02 : World.cell? wj ⟨w.heap.size, 2, none⟩ = some (.bool s0) := (X0.below hJ).cell 2
                have xX03 : World.cell? wj ⟨w.heap.size, 3, none⟩ = some (.int .u64 M0) := (X0.below hJ).cell 3
                have xX04 : World.cell? wj ⟨w.heap.size, 4, none⟩ = some (.int .i64 E0) := (X0.below hJ).cell 4
                have xX05 : World.cell? wj ⟨w.heap.size, 5, none⟩ = some (.int .i64 G0) := (X0.below hJ).cell 5
                have xX06 : World.cell? wj ⟨w.heap.size, 6, none⟩ = some (.bool g0) := (X0.below hJ).cell 6
                have xX07 : World.cell? wj ⟨w.heap.size, 7, none⟩ = some (.int .u64 P0) := (X0.below hJ).cell 7
                have xX08 : World.cell? wj ⟨w.heap.size, 8, none⟩ = some (.int .i64 Q0) := (X0.below hJ).cell 8
                go_simp
                exact hK.out _ _ rfl (Below.refl _ _)
              refine Jo.jcons (i := 4) (o := ⟨some 86, _, _, _, _, _⟩) (di := some 86) (L := [(some 84, 2), (some 85, 3)]) (f := Jo.Fact.eq (.bool false)) rfl rfl rfl rfl (fun vs wj hJ hd K hK => ?_) ?_
              · have d2 : (Jo.Fact.iv sB).P (vs 2) wj := hd 2 (by decide)
                have d3 : (Jo.Fact.eq (.agg #[.bool e0, .int .i64 D0, .bool s0, .int .u64 M0, .int .i64 E0, .int .i64 G0, .bool g0, .int .u64 P0, .int .i64 Q0])).P (vs 3) wj := hd 3 (by decide)
                clear hd
                simp only [Jo.putl, List.foldl_cons, List.foldl_nil, Act.put, List.setIfInBounds_toArray, List.set_cons_zero, List.set_cons_succ] at hK ⊢
                generalize vs 2 = u2 at hK d2 ⊢
                generalize vs 3 = u3 at hK d3 ⊢
                obtain ⟨e31, K31, s31, M31, E31, K31b, s31b, M31b, E31b, rfl, v31⟩ := d2
                replace d3 : u3 = _ := d3
                subst d3
                go_simp
                refine (kvWithin v31.top.1 v31.top.2 u0 v0 v31.rk HZ.out HTB.out).mono ?_
                rintro ee wk ⟨rfl, B⟩
                exact hK.out _ _ rfl B
              refine Jo.jcons (i := 5) (o := ⟨some 87, _, _, _, _, _⟩) (di := some 87) (L := [(some 86, 4)]) (f := Jo.Fact.eq (.bool true)) rfl rfl rfl rfl (fun vs wj hJ hd K hK => ?_) ?_
              · have d4 : (Jo.Fact.eq (.bool false)).P (vs 4) wj := hd 4 (by decide)
                clear hd
                simp only [Jo.putl, List.foldl_cons, List.foldl_nil, Act.put, List.setIfInBounds_toArray, List.set_cons_zero, List.set_cons_succ] at hK ⊢
                generalize vs 4 = u4 at hK d4 ⊢
                replace d4 : u4 = _ := d4
                subst d4
                go_simp
                exact hK.out _ _ rfl (Below.refl _ _)
              refine Jo.jcons (i := 6) (o := ⟨some 88, _, _, _, _, _⟩) (di := some 88) (L := [(some 87, 5)]) (f := Jo.Fact.eq (.bool true)) rfl rfl rfl rfl (fun vs wj hJ hd K hK => ?_) ?_
              · have d5 : (Jo.Fact.eq (.bool true)).P (vs 5) wj := hd 5 (by decide)
                clear hd
                simp only [Jo.putl, List.foldl_cons, List.foldl_nil, Act.put, List.setIfInBounds_toArray, List.set_cons_zero, List.set_cons_succ] at hK ⊢
                generalize vs 5 = u5 at hK d5 ⊢
                replace d5 : u5 = _ := d5
                subst d5
                go_simp
                exact hK.out _ _ rfl (Below.refl _ _)
              refine Jo.jcons (i := 7) (o := ⟨some 89, _, _, _, _, _⟩) (di := some 89) (L := [(some 88, 6)]) (f := Jo.Fact.eq undef) rfl rfl rfl rfl (fun vs wj hJ hd K hK => ?_) ?_
              · have d6 : (Jo.Fact.eq (.bool true)).P (vs 6) wj := hd 6 (by decide)
                clear hd
                simp only [Jo.putl, List.foldl_cons, List.foldl_nil, Act.put, List.setIfInBounds_toArray, List.set_cons_zero, List.set_cons_succ] at hK ⊢
                generalize vs 6 = u6 at hK d6 ⊢
                replace d6 : u6 = _ := d6
                subst d6
                go_simp
                exact hK.out _ _ rfl (Below.refl _ _)
              refine Jo.jcons (i := 8) (o := ⟨some 90, _, _, _, _, _⟩) (di := some 90) (L := [(some 88, 6)]) (f := Jo.Fact.eq undef) rfl rfl rfl rfl (fun vs wj hJ hd K hK => ?_) ?_
              · have d6 : (Jo.Fact.eq (.bool true)).P (vs 6) wj := hd 6 (by decide)
                clear hd
                simp only [Jo.putl, List.foldl_cons, List.foldl_nil, Act.put, List.setIfInBounds_toArray, List.set_cons_zero, List.set_cons_succ] at hK ⊢
                generalize vs 6 = u6 at hK d6 ⊢
                replace d6 : u6 = _ := d6
                subst d6
                go_simp
                exact hK.out _ _ rfl (Below.refl _ _)
              refine Jo.jcons (i := 9) (o := ⟨some 91, _, _, _, _, _⟩) (di := some 91) (L := [(some 88, 6), (some 89, 7), (some 90, 8)]) (f := Jo.Fact.eq undef) rfl rfl rfl rfl (fun vs wj hJ hd K hK => ?_) ?_
              · have d6 : (Jo.Fact.eq (.bool true)).P (vs 6) wj := hd 6 (by decide)
                have d7 : (Jo.Fact.eq undef).P (vs 7) wj := hd 7 (by decide)
                have d8 : (Jo.Fact.eq undef).P (vs 8) wj := hd 8 (by decide)
                clear hd
                simp only [Jo.putl, List.foldl_cons, List.foldl_nil, Act.put, List.setIfInBounds_toArray, List.set_cons_zero, List.set_cons_succ] at hK ⊢
                generalize vs 6 = u6 at hK d6 ⊢
                generalize vs 7 = u7 at hK d7 ⊢
                generalize vs 8 = u8 at hK d8 ⊢
                replace d6 : u6 = _ := d6
                subst d6
                replace d7 : u7 = _ := d7
                subst d7
                replace d8 : u8 = _ := d8
                subst d8
                go_simp
                exact hK.out _ _ rfl (Below.refl _ _)
              refine Jo.jcons (i := 10) (o := ⟨some 92, _, _, _, _, _⟩) (di := some 92) (L := [(some 88, 6), (some 91, 9)]) (f := Jo.Fact.eq undef) rfl rfl rfl rfl (fun vs wj hJ hd K hK => ?_) ?_
              · have d6 : (Jo.Fact.eq (.bool true)).P (vs 6) wj := hd 6 (by decide)
                have d9 : (Jo.Fact.eq undef).P (vs 9) wj := hd 9 (by decide)
                clear hd
                simp only [Jo.putl, List.foldl_cons, List.foldl_nil, Act.put, List.setIfInBounds_toArray, List.set_cons_zero, List.set_cons_succ] at hK ⊢
                generalize vs 6 = u6 at hK d6 ⊢
                generalize vs 9 = u9 at hK d9 ⊢
                replace d6 : u6 = _ := d6
                subst d6
                replace d9 : u9 = _ := d9
                subst d9
                go_simp
                exact hK.out _ _ rfl (Below.refl _ _)
              refine Jo.jcons (i := 11) (o := ⟨some 93, _, _, _, _, _⟩) (di := some 93) (L := [(some 92, 10)]) (f := Jo.Fact.eq undef) rfl rfl rfl rfl (fun vs wj hJ hd K hK => ?_) ?_
              · have d10 : (Jo.Fact.eq undef).P (vs 10) wj := hd 10 (by decide)
                clear hd
                simp only [Jo.putl, List.foldl_cons, List.foldl_nil, Act.put, List.setIfInBounds_toArray, List.set_cons_zero, List.set_cons_succ] at hK ⊢
                generalize vs 10 = u10 at hK d10 ⊢
                replace d10 : u10 = _ := d10
                subst d10
                go_simp
                exact hK.out _ _ rfl (Below.refl _ _)
              refine Jo.jcons (i := 12) (o := ⟨some 94, _, _, _, _, _⟩) (di := some 94) (L := [(some 92, 10)]) (f := Jo.Fact.eq undef) rfl rfl rfl rfl (fun vs wj hJ hd K hK => ?_) ?_
              · have d10 : (Jo.Fact.eq undef).P (vs 10) wj := hd 10 (by decide)
                clear hd
                simp only [Jo.putl, List.foldl_cons, List.foldl_nil, Act.put, List.setIfInBounds_toArray, List.set_cons_zero, List.set_cons_succ] at hK ⊢
                generalize vs 10 = u10 at hK d10 ⊢
                replace d10 : u10 = _ := d10
                subst d10
                go_simp
                exact hK.out _ _ rfl (Below.refl _ _)
              refine Jo.jcons (i := 13) (o := ⟨some 95, _, _, _, _, _⟩) (di := some 95) (L := [(some 92, 10), (some 93, 11), (some 94, 12)]) (f := Jo.Fact.eq undef) rfl rfl rfl rfl (fun vs wj hJ hd K hK => ?_) ?_
              · have d10 : (Jo.Fact.eq undef).P (vs 10) wj := hd 10 (by decide)
                have d11 : (Jo.Fact.eq undef).P (vs 11) wj := hd 11 (by decide)
                have d12 : (Jo.Fact.eq undef).P (vs 12) wj := hd 12 (by decide)
                clear hd
                simp only [Jo.putl, List.foldl_cons, List.foldl_nil, Act.put, List.setIfInBounds_toArray, List.set_cons_zero, List.set_cons_succ] at hK ⊢
                generalize vs 10 = u10 at hK d10 ⊢
                generalize vs 11 = u11 at hK d11 ⊢
                generalize vs 12 = u12 at hK d12 ⊢
                replace d10 : u10 = _ := d10
                subst d10
                replace d11 : u11 = _ := d11
                subst d11
                replace d12 : u12 = _ := d12
                subst d12
                go_simp
                exact hK.out _ _ rfl (Below.refl _ _)
              refine Jo.jcons (i := 14) (o := ⟨some 96, _, _, _, _, _⟩) (di := some 96) (L := [(some 88, 6), (some 92, 10), (some 95, 13)]) (f := Jo.Fact.eq undef) rfl rfl rfl rfl (fun vs wj hJ hd K hK => ?_) ?_
              · have d6 : (Jo.Fact.eq (.bool true)).P (vs 6) wj := hd 6 (by decide)
                have d10 : (Jo.Fact.eq undef).P (vs 10) wj := hd 10 (by decide)
                have d13 : (Jo.Fact.eq undef).P (vs 13) wj := hd 13 (by decide)
                clear hd
                simp only [Jo.putl, List.foldl_cons, List.foldl_nil, Act.put, List.setIfInBounds_toArray, List.set_cons_zero, List.set_cons_succ] at hK ⊢
                generalize vs 6 = u6 at hK d6 ⊢
                generalize vs 10 = u10 at hK d10 ⊢
                generalize vs 13 = u13 at hK d13 ⊢
                replace d6 : u6 = _ := d6
                subst d6
                replace d10 : u10 = _ := d10
                subst d10
                replace d13 : u13 = _ := d13
                subst d13
                go_simp
                exact hK.out _ _ rfl (Below.refl _ _)
              refine Jo.jcons (i := 15) (o := ⟨some 97, _, _, _, _, _⟩) (di := some 97) (L := [(some 88, 6), (some 96, 14)]) (f := Jo.Fact.eq (.bool true)) rfl rfl rfl rfl (fun vs wj hJ hd K hK => ?_) ?_
              · have d6 : (Jo.Fact.eq (.bool true)).P (vs 6) wj := hd 6 (by decide)
                have d14 : (Jo.Fact.eq undef).P (vs 14) wj := hd 14 (by decide)
                clear hd
                simp only [Jo.putl, List.foldl_cons, List.foldl_nil, Act.put, List.setIfInBounds_toArray, List.set_cons_zero, List.set_cons_succ] at hK ⊢
                generalize vs 6 = u6 at hK d6 ⊢
                generalize vs 14 = u14 at hK d14 ⊢
                replace d6 : u6 = _ := d6
                subst d6
                replace d14 : u14 = _ := d14
                subst d14
                go_simp
                exact hK.out _ _ rfl (Below.refl _ _)
              refine Jo.jcons (i := 16) (o := ⟨some 22, _, _, _, _, _⟩) (di := some 22) (L := [(some 97, 15)]) (f := Jo.Fact.eq (.bool true)) rfl rfl rfl rfl (fun vs wj hJ hd K hK => ?_) ?_
              · have d15 : (Jo.Fact.eq (.bool true)).P (vs 15) wj := hd 15 (by decide)
                clear hd
                simp only [Jo.putl, List.foldl_cons, List.foldl_nil, Act.put, List.setIfInBounds_toArray, List.set_cons_zero, List.set_cons_succ] at hK ⊢
                generalize vs 15 = u15 at hK d15 ⊢
                replace d15 : u15 = _ := d15
                subst d15
                go_simp
                exact hK.out _ _ rfl (Below.refl _ _)
              exact Jo.Steps.nil
            have d0 : (Jo.Fact.eq (.agg #[.bool e12, .int .i64 K12, .bool s12, .int .u64 M12, .int .i64 E12, .int .i64 K12b, .bool s12b, .int .u64 M12b, .int .i64 E12b])).P (vs 0) wK := hd 0 (by decide)
            have d1 : (Jo.Fact.eq (.agg #[.bool e13, .int .i64 K13, .bool s13, .int .u64 M13, .int .i64 E13, .int .i64 K13b, .bool s13b, .int .u64 M13b, .int .i64 E13b])).P (vs 1) wK := hd 1 (by decide)
            have d2 : (Jo.Fact.iv sB).P (vs 2) wK := hd 2 (by decide)
            have d3 : (Jo.Fact.eq (.agg #[.bool e0, .int .i64 D0, .bool s0, .int .u64 M0, .int .i64 E0, .int .i64 G0, .bool g0, .int .u64 P0, .int .i64 Q0])).P (vs 3) wK := hd 3 (by decide)
            have d4 : (Jo.Fact.eq (.bool false)).P (vs 4) wK := hd 4 (by decide)
            have d5 : (Jo.Fact.eq (.bool true)).P (vs 5) wK := hd 5 (by decide)
            have d6 : (Jo.Fact.eq (.bool true)).P (vs 6) wK := hd 6 (by decide)
            have d7 : (Jo.Fact.eq undef).P (vs 7) wK := hd 7 (by decide)
            have d8 : (Jo.Fact.eq undef).P (vs 8) wK := hd 8 (by decide)
            have d9 : (Jo.Fact.eq undef).P (vs 9) wK := hd 9 (by decide)
            have d10 : (Jo.Fact.eq undef).P (vs 10) wK := hd 10 (by decide)
            have d11 : (Jo.Fact.eq undef).P (vs 11) wK := hd 11 (by decide)
            have d12 : (Jo.Fact.eq undef).P (vs 12) wK := hd 12 (by decide)
            have d13 : (Jo.Fact.eq undef).P (vs 13) wK := hd 13 (by decide)
            have d14 : (Jo.Fact.eq undef).P (vs 14) wK := hd 14 (by decide)
            have d15 : (Jo.Fact.eq (.bool true)).P (vs 15) wK := hd 15 (by decide)
            have d16 : (Jo.Fact.eq (.bool true)).P (vs 16) wK := hd 16 (by decide)
            clear hd
            simp only [Jo.putl, List.foldl_cons, List.foldl_nil, Act.put, List.setIfInBounds_toArray, List.set_cons_zero, List.set_cons_succ]
            generalize vs 0 = u0 at d0 ⊢
            generalize vs 1 = u1 at d1 ⊢
            generalize vs 2 = u2 at d2 ⊢
            generalize vs 3 = u3 at d3 ⊢
            generalize vs 4 = u4 at d4 ⊢
            generalize vs 5 = u5 at d5 ⊢
            generalize vs 6 = u6 at d6 ⊢
            generalize vs 7 = u7 at d7 ⊢
            generalize vs 8 = u8 at d8 ⊢
            generalize vs 9 = u9 at d9 ⊢
            generalize vs 10 = u10 at d10 ⊢
            generalize vs 11 = u11 at d11 ⊢
            generalize vs 12 = u12 at d12 ⊢
            generalize vs 13 = u13 at d13 ⊢
            generalize vs 14 = u14 at d14 ⊢
            generalize vs 15 = u15 at d15 ⊢
            generalize vs 16 = u16 at d16 ⊢
            clear vs
            replace d0 : u0 = _ := d0
            subst d0
            replace d1 : u1 = _ := d1
            subst d1
            obtain ⟨e31, K31, s31, M31, E31, K31b, s31b, M31b, E31b, rfl, v31⟩ := d2
            replace d3 : u3 = _ := d3
            subst d3
            replace d4 : u4 = _ := d4
            subst d4
            replace d5 : u5 = _ := d5
            subst d5
            replace d6 : u6 = _ := d6
            subst d6
            replace d7 : u7 = _ := d7
            subst d7
            replace d8 : u8 = _ := d8
            subst d8
            replace d9 : u9 = _ := d9
            subst d9
            replace d10 : u10 = _ := d10
            subst d10
            replace d11 : u11 = _ := d11
            subst d11
            replace d12 : u12 = _ := d12
            subst d12
            replace d13 : u13 = _ := d13
            subst d13
            replace d14 : u14 = _ := d14
            subst d14
            replace d15 : u15 = _ := d15
            subst d15
            replace d16 : u16 = _ := d16
            subst d16
            replace X0 := X0.below hJ
            replace X3 := X3.below hJ
            replace X4 := X4.below hJ
            replace X12 := X12.below hJ
            replace X13 := X13.below hJ
            replace X16 := X16.below hJ
            replace X17 := X17.below hJ
            replace X18 := X18.below hJ
            replace X19 := X19.below hJ
            replace X20 := X20.below hJ
            replace hT2 := hT2.below hJ
            replace HB := Lib.hid (bt HB.out hJ)
            refine Jo.jdone (by kernel_rfl) ?_
            go_wp2_with fail
            go_meet
            exact ⟨rfl, X0, X3, X4, X12, X13, X18, X19, X20, HB.out⟩
          · obtain ⟨ka, kb⟩ := HKB.out (by simp) (by simp) (by simp)
            have KA := Lib.hid ka
            have KB := Lib.hid kb
            clear ka kb
            refine Jo.region_joint (T := [0, 1, 2, 3, 4, 5, 6, 7, 8, 9, 10, 11, 12, 13, 14, 15, 16]) (ds := [some 82, some 83, some 84, some 85, some 86, some 87, some 88, some 89, some 90, some 91, some 92, some 93, some 94, some 95, some 96, some 97, some 22]) (ls := [[], [], [0, 1], [], [2, 3], [4], [5], [6], [6], [6, 7, 8], [6, 9], [10], [10], [10, 11, 12], [6, 10, 13], [6, 14], [15]]) (k := 17) (L := [(some 82, 0), (some 83, 1), (some 84, 2), (some 85, 3), (some 86, 4), (some 87, 5), (some 88, 6), (some 89, 7), (some 90, 8), (some 91, 9), (some 92, 10), (some 93, 11), (some 94, 12), (some 95, 13), (some 96, 14), (some 97, 15), (some 22, 16)]) (fuel := 0) (J := fun wj => Below (World.heap wc).size wc wj)
              (F := [Jo.Fact.eq (.agg #[.bool e12, .int .i64 K12, .bool s12, .int .u64 M12, .int .i64 E12, .int .i64 K12b, .bool s12b, .int .u64 M12b, .int .i64 E12b]), Jo.Fact.eq (.agg #[.bool e13, .int .i64 K13, .bool s13, .int .u64 M13, .int .i64 E13, .int .i64 K13b, .bool s13b, .int .u64 M13b, .int .i64 E13b]), Jo.Fact.iv sB, Jo.Fact.eq (.agg #[.bool e0, .int .i64 D0, .bool s0, .int .u64 M0, .int .i64 E0, .int .i64 G0, .bool g0, .int .u64 P0, .int .i64 Q0]), Jo.Fact.eq (.bool true), Jo.Fact.eq (.bool false), Jo.Fact.eq (.bool false), Jo.Fact.eq (.agg #[.bool e23, .int .i64 K23, .bool s23, .int .u64 M23, .int .i64 E23, .int .i64 K23b, .bool s23b, .int .u64 M23b, .int .i64 E23b]), Jo.Fact.eq (.agg #[.int .i64 D3, .bool s3, .int .u64 M3, .int .i64 E3]), Jo.Fact.eq (.bool true), Jo.Fact.eq (.bool true), Jo.Fact.eq (.agg #[.bool e24, .int .i64 K24, .bool s24, .int .u64 M24, .int .i64 E24, .int .i64 K24b, .bool s24b, .int .u64 M24b, .int .i64 E24b]), Jo.Fact.eq (.agg #[.int .i64 D4, .bool s4, .int .u64 M4, .int .i64 E4]), Jo.Fact.eq (.bool true), Jo.Fact.eq (.bool true), Jo.Fact.eq (.bool true), Jo.Fact.eq (.bool true)])
              (by kernel_rfl) (by kernel_rfl) (by decide) rfl rfl (fun _ _ h b => bt h b) ((Below.refl _ _).drew) ?_ (fun vs wK hJ hd => ?_)
            · refine Jo.jcons (i := 0) (o := ⟨some 82, _, _, _, _, _⟩) (di := some 82) (L := []) (f := Jo.Fact.eq (.agg #[.bool e12, .int .i64 K12, .bool s12, .int .u64 M12, .int .i64 E12, .int .i64 K12b, .bool s12b, .int .u64 M12b, .int .i64 E12b])) rfl rfl rfl rfl (fun vs wj hJ hd K hK => ?_) ?_
              · clear hd
                simp only [Jo.putl, List.foldl_nil, Act.put, List.setIfInBounds_toArray, List.set_cons_zero, List.set_cons_succ] at hK ⊢
                have xX120 : World.cell? wj ⟨w5.heap.size, 0, none⟩ = some (.bool e12) := (X12.below hJ).cell 0
                have xX121 : World.cell? wj ⟨w5.heap.size, 1, none⟩ = some (.int .i64 K12) := (X12.below hJ).cell 1
                have xX122 : World.cell? wj ⟨w5.heap.size, 2, none⟩ = some (.bool s12) := (X12.below hJ).cell 2
                have xX123 : World.cell? wj ⟨w5.heap.size, 3, none⟩ = some (.int .u64 M12) := (X12.below hJ).cell 3
                have xX124 : World.cell? wj ⟨w5.heap.size, 4, none⟩ = some (.int .i64 E12) := (X12.below hJ).cell 4
                have xX125 : World.cell? wj ⟨w5.heap.size, 5, none⟩ = some (.int .i64 K12b) := (X12.below hJ).cell 5
                have xX126 : World.cell? wj ⟨w5.heap.size, 6, none⟩ = some (.bool s12b) := (X12.below hJ).cell 6
                have xX127 : World.cell? wj ⟨w5.heap.size, 7, none⟩ = some (.int .u64 M12b) := (X12.below hJ).cell 7
                have xX128 : World.cell? wj ⟨w5.heap.size, 8, none⟩ = some (.int .i64 E12b) := (X12.below hJ).cell 8
                go_simp
                exact hK.out _ _ rfl (Below.refl _ _)
              refine Jo.jcons (i := 1) (o := ⟨some 83, _, _, _, _, _⟩) (di := some 83) (L := []) (f := Jo.Fact.eq (.agg #[.bool e13, .int .i64 K13, .bool s13, .int .u64 M13, .int .i64 E13, .int .i64 K13b, .bool s13b, .int .u64 M13b, .int .i64 E13b])) rfl rfl rfl rfl (fun vs wj hJ hd K hK => ?_) ?_
              · clear hd
                simp only [Jo.putl, List.foldl_nil, Act.put, List.setIfInBounds_toArray, List.set_cons_zero, List.set_cons_succ] at hK ⊢
                have xX130 : World.cell? wj ⟨w7.heap.size, 0, none⟩ = some (.bool e13) := (X13.below hJ).cell 0
                have xX131 : World.cell? wj ⟨w7.heap.size, 1, none⟩ = some (.int .i64 K13) := (X13.below hJ).cell 1
                have xX132 : World.cell? wj ⟨w7.heap.size, 2, none⟩ = some (.bool s13) := (X13.below hJ).cell 2
                have xX133 : World.cell? wj ⟨w7.heap.size, 3, none⟩ = some (.int .u64 M13) := (X13.below hJ).cell 3
                have xX134 : World.cell? wj ⟨w7.heap.size, 4, none⟩ = some (.int .i64 E13) := (X13.below hJ).cell 4
                have xX135 : World.cell? wj ⟨w7.heap.size, 5, none⟩ = some (.int .i64 K13b) := (X13.below hJ).cell 5
                have xX136 : World.cell? wj ⟨w7.heap.size, 6, none⟩ = some (.bool s13b) := (X13.below hJ).cell 6
                have xX137 : World.cell? wj ⟨w7.heap.size, 7, none⟩ = some (.int .u64 M13b) := (X13.below hJ).cell 7
                have xX138 : World.cell? wj ⟨w7.heap.size, 8, none⟩ = some (.int .i64 E13b) := (X13.below hJ).cell 8
                go_simp
                exact hK.out _ _ rfl (Below.refl _ _)
              refine Jo.jcons (i := 2) (o := ⟨some 84, _, _, _, _, _⟩) (di := some 84) (L := [(some 82, 0), (some 83, 1)]) (f := Jo.Fact.iv sB) rfl rfl rfl rfl (fun vs wj hJ hd K hK => ?_) ?_
              · have d0 : (Jo.Fact.eq (.agg #[.bool e12, .int .i64 K12, .bool s12, .int .u64 M12, .int .i64 E12, .int .i64 K12b, .bool s12b, .int .u64 M12b, .int .i64 E12b])).P (vs 0) wj := hd 0 (by decide)
                have d1 : (Jo.Fact.eq (.agg #[.bool e13, .int .i64 K13, .bool s13, .int .u64 M13, .int .i64 E13, .int .i64 K13b, .bool s13b, .int .u64 M13b, .int .i64 E13b])).P (vs 1) wj := hd 1 (by decide)
                clear hd
                simp only [Jo.putl, List.foldl_cons, List.foldl_nil, Act.put, List.setIfInBounds_toArray, List.set_cons_zero, List.set_cons_succ] at hK ⊢
                generalize vs 0 = u0 at hK d0 ⊢
                generalize vs 1 = u1 at hK d1 ⊢
                replace d0 : u0 = _ := d0
                subst d0
                replace d1 : u1 = _ := d1
                subst d1
                go_simp
                refine (fkSub (hT2.below hJ) v12.top.1 v12.top.2 v13.top.1 v13.top.2 v12.rk v13.rk HSB.out).mono ?_
                rintro ee wk ⟨e31, K31, s31, M31, E31, K31b, s31b, M31b, E31b, rfl, v31, B⟩
                exact hK.out _ _ ⟨e31, K31, s31, M31, E31, K31b, s31b, M31b, E31b, rfl, v31⟩ B
              refine Jo.jcons (i := 3) (o := ⟨some 85, _, _, _, _, _⟩) (di := some 85) (L := []) (f := Jo.Fact.eq (.agg #[.bool e0, .int .i64 D0, .bool s0, .int .u64 M0, .int .i64 E0, .int .i64 G0, .bool g0, .int .u64 P0, .int .i64 Q0])) rfl rfl rfl rfl (fun vs wj hJ hd K hK => ?_) ?_
              · clear hd
                simp only [Jo.putl, List.foldl_nil, Act.put, List.setIfInBounds_toArray, List.set_cons_zero, List.set_cons_succ] at hK ⊢
                have xX00 : World.cell? wj ⟨w.heap.size, 0, none⟩ = some (.bool e0) := (X0.below hJ).cell 0
                have xX01 : World.cell? wj ⟨w.heap.size, 1, none⟩ = some (.int .i64 D0) := (X0.below hJ).cell 1
                have xX02 : World.cell? wj ⟨w.heap.size, 2, none⟩ = some (.bool s0) := (X0.below hJ).cell 2
                have xX03 : World.cell? wj ⟨w.heap.size, 3, none⟩ = some (.int .u64 M0) := (X0.below hJ).cell 3
                have xX04 : World.cell? wj ⟨w.heap.size, 4, none⟩ = some (.int .i64 E0) := (X0.below hJ).cell 4
                have xX05 : World.cell? wj ⟨w.heap.size, 5, none⟩ = some (.int .i64 G0) := (X0.below hJ).cell 5
                have xX06 : World.cell? wj ⟨w.heap.size, 6, none⟩ = some (.bool g0) := (X0.below hJ).cell 6
                have xX07 : World.cell? wj ⟨w.heap.size, 7, none⟩ = some (.int .u64 P0) := (X0.below hJ).cell 7
                have xX08 : World.cell? wj ⟨w.heap.size, 8, none⟩ = some (.int .i64 Q0) := (X0.below hJ).cell 8
                go_simp
                exact hK.out _ _ rfl (Below.refl _ _)
              refine Jo.jcons (i := 4) (o := ⟨some 86, _, _, _, _, _⟩) (di := some 86) (L := [(some 84, 2), (some 85, 3)]) (f := Jo.Fact.eq (.bool true)) rfl rfl rfl rfl (fun vs wj hJ hd K hK => ?_) ?_
              · have d2 : (Jo.Fact.iv sB).P (vs 2) wj := hd 2 (by decide)
                have d3 : (Jo.Fact.eq (.agg #[.bool e0, .int .i64 D0, .bool s0, .int .u64 M0, .int .i64 E0, .int .i64 G0, .bool g0, .int .u64 P0, .int .i64 Q0])).P (vs 3) wj := hd 3 (by decide)
                clear hd
                simp only [Jo.putl, List.foldl_cons, List.foldl_nil, Act.put, List.setIfInBounds_toArray, List.set_cons_zero, List.set_cons_succ] at hK ⊢
                generalize vs 2 = u2 at hK d2 ⊢
                generalize vs 3 = u3 at hK d3 ⊢
                obtain ⟨e31, K31, s31, M31, E31, K31b, s31b, M31b, E31b, rfl, v31⟩ := d2
                replace d3 : u3 = _ := d3
                subst d3
                go_simp
                refine (kvWithin v31.top.1 v31.top.2 u0 v0 v31.rk HZ.out HTB.out).mono ?_
                rintro ee wk ⟨rfl, B⟩
                exact hK.out _ _ rfl B
              refine Jo.jcons (i := 5) (o := ⟨some 87, _, _, _, _, _⟩) (di := some 87) (L := [(some 86, 4)]) (f := Jo.Fact.eq (.bool false)) rfl rfl rfl rfl (fun vs wj hJ hd K hK => ?_) ?_
              · have d4 : (Jo.Fact.eq (.bool true)).P (vs 4) wj := hd 4 (by decide)
                clear hd
                simp only [Jo.putl, List.foldl_cons, List.foldl_nil, Act.put, List.setIfInBounds_toArray, List.set_cons_zero, List.set_cons_succ] at hK ⊢
                generalize vs 4 = u4 at hK d4 ⊢
                replace d4 : u4 = _ := d4
                subst d4
                go_simp
                exact hK.out _ _ rfl (Below.refl _ _)
              refine Jo.jcons (i := 6) (o := ⟨some 88, _, _, _, _, _⟩) (di := some 88) (L := [(some 87, 5)]) (f := Jo.Fact.eq (.bool false)) rfl rfl rfl rfl (fun vs wj hJ hd K hK => ?_) ?_
              · have d5 : (Jo.Fact.eq (.bool false)).P (vs 5) wj := hd 5 (by decide)
                clear hd
                simp only [Jo.putl, List.foldl_cons, List.foldl_nil, Act.put, List.setIfInBounds_toArray, List.set_cons_zero, List.set_cons_succ] at hK ⊢
                generalize vs 5 = u5 at hK d5 ⊢
                replace d5 : u5 = _ := d5
                subst d5
                go_simp
                exact hK.out _ _ rfl (Below.refl _ _)
              refine Jo.jcons (i := 7) (o := ⟨some 89, _, _, _, _, _⟩) (di := some 89) (L := [(some 88, 6)]) (f := Jo.Fact.eq (.agg #[.bool e23, .int .i64 K23, .bool s23, .int .u64 M23, .int .i64 E23, .int .i64 K23b, .bool s23b, .int .u64 M23b, .int .i64 E23b])) rfl rfl rfl rfl (fun vs wj hJ hd K hK => ?_) ?_
              · have d6 : (Jo.Fact.eq (.bool false)).P (vs 6) wj := hd 6 (by decide)
                clear hd
                simp only [Jo.putl, List.foldl_cons, List.foldl_nil, Act.put, List.setIfInBounds_toArray, List.set_cons_zero, List.set_cons_succ] at hK ⊢
                generalize vs 6 = u6 at hK d6 ⊢
                replace d6 : u6 = _ := d6
                subst d6
                have xX160 : World.cell? wj ⟨wC.heap.size, 0, none⟩ = some (.bool e23) := (X16.below hJ).cell 0
                have xX161 : World.cell? wj ⟨wC.heap.size, 1, none⟩ = some (.int .i64 K23) := (X16.below hJ).cell 1
                have xX162 : World.cell? wj ⟨wC.heap.size, 2, none⟩ = some (.bool s23) := (X16.below hJ).cell 2
                have xX163 : World.cell? wj ⟨wC.heap.size, 3, none⟩ = some (.int .u64 M23) := (X16.below hJ).cell 3
                have xX164 : World.cell? wj ⟨wC.heap.size, 4, none⟩ = some (.int .i64 E23) := (X16.below hJ).cell 4
                have xX165 : World.cell? wj ⟨wC.heap.size, 5, none⟩ = some (.int .i64 K23b) := (X16.below hJ).cell 5
                have xX166 : World.cell? wj ⟨wC.heap.size, 6, none⟩ = some (.bool s23b) := (X16.below hJ).cell 6
                have xX167 : World.cell? wj ⟨wC.heap.size, 7, none⟩ = some (.int .u64 M23b) := (X16.below hJ).cell 7
                have xX168 : World.cell? wj ⟨wC.heap.size, 8, none⟩ = some (.int .i64 E23b) := (X16.below hJ).cell 8
                go_simp
                exact hK.out _ _ rfl (Below.refl _ _)
              refine Jo.jcons (i := 8) (o := ⟨some 90, _, _, _, _, _⟩) (di := some 90) (L := [(some 88, 6)]) (f := Jo.Fact.eq (.agg #[.int .i64 D3, .bool s3, .int .u64 M3, .int .i64 E3])) rfl rfl rfl rfl (fun vs wj hJ hd K hK => ?_) ?_
              · have d6 : (Jo.Fact.eq (.bool false)).P (vs 6) wj := hd 6 (by decide)
                clear hd
                simp only [Jo.putl, List.foldl_cons, List.foldl_nil, Act.put, List.setIfInBounds_toArray, List.set_cons_zero, List.set_cons_succ] at hK ⊢
                generalize vs 6 = u6 at hK d6 ⊢
                replace d6 : u6 = _ := d6
                subst d6
                have xX30 : World.cell? wj ⟨w.heap.size + 1 + 1 + 1, 0, none⟩ = some (.int .i64 D3) := (X3.below hJ).cell 0
                have xX31 : World.cell? wj ⟨w.heap.size + 1 + 1 + 1, 1, none⟩ = some (.bool s3) := (X3.below hJ).cell 1
                have xX32 : World.cell? wj ⟨w.heap.size + 1 + 1 + 1, 2, none⟩ = some (.int .u64 M3) := (X3.below hJ).cell 2
                have xX33 : World.cell? wj ⟨w.heap.size + 1 + 1 + 1, 3, none⟩ = some (.int .i64 E3) := (X3.below hJ).cell 3
                go_simp
                exact hK.out _ _ rfl (Below.refl _ _)
              refine Jo.jcons (i := 9) (o := ⟨some 91, _, _, _, _, _⟩) (di := some 91) (L := [(some 88, 6), (some 89, 7), (some 90, 8)]) (f := Jo.Fact.eq (.bool true)) rfl rfl rfl rfl (fun vs wj hJ hd K hK => ?_) ?_
              · have d6 : (Jo.Fact.eq (.bool false)).P (vs 6) wj := hd 6 (by decide)
                have d7 : (Jo.Fact.eq (.agg #[.bool e23, .int .i64 K23, .bool s23, .int .u64 M23, .int .i64 E23, .int .i64 K23b, .bool s23b, .int .u64 M23b, .int .i64 E23b])).P (vs 7) wj := hd 7 (by decide)
                have d8 : (Jo.Fact.eq (.agg #[.int .i64 D3, .bool s3, .int .u64 M3, .int .i64 E3])).P (vs 8) wj := hd 8 (by decide)
                clear hd
                simp only [Jo.putl, List.foldl_cons, List.foldl_nil, Act.put, List.setIfInBounds_toArray, List.set_cons_zero, List.set_cons_succ] at hK ⊢
                generalize vs 6 = u6 at hK d6 ⊢
                generalize vs 7 = u7 at hK d7 ⊢
                generalize vs 8 = u8 at hK d8 ⊢
                replace d6 : u6 = _ := d6
                subst d6
                replace d7 : u7 = _ := d7
                subst d7
                replace d8 : u8 = _ := d8
                subst d8
                go_simp
                refine (kvHas v23.top.1 v23.top.2 u3 v23.rk HM.out KA.out).mono ?_
                rintro ee wk ⟨rfl, B⟩
                exact hK.out _ _ rfl B
              refine Jo.jcons (i := 10) (o := ⟨some 92, _, _, _, _, _⟩) (di := some 92) (L := [(some 88, 6), (some 91, 9)]) (f := Jo.Fact.eq (.bool true)) rfl rfl rfl rfl (fun vs wj hJ hd K hK => ?_) ?_
              · have d6 : (Jo.Fact.eq (.bool false)).P (vs 6) wj := hd 6 (by decide)
                have d9 : (Jo.Fact.eq (.bool true)).P (vs 9) wj := hd 9 (by decide)
                clear hd
                simp only [Jo.putl, List.foldl_cons, List.foldl_nil, Act.put, List.setIfInBounds_toArray, List.set_cons_zero, List.set_cons_succ] at hK ⊢
                generalize vs 6 = u6 at hK d6 ⊢
                generalize vs 9 = u9 at hK d9 ⊢
                replace d6 : u6 = _ := d6
                subst d6
                replace d9 : u9 = _ := d9
                subst d9
                go_simp
                exact hK.out _ _ rfl (Below.refl _ _)
              refine Jo.jcons (i := 11) (o := ⟨some 93, _, _, _, _, _⟩) (di := some 93) (L := [(some 92, 10)]) (f := Jo.Fact.eq (.agg #[.bool e24, .int .i64 K24, .bool s24, .int .u64 M24, .int .i64 E24, .int .i64 K24b, .bool s24b, .int .u64 M24b, .int .i64 E24b])) rfl rfl rfl rfl (fun vs wj hJ hd K hK => ?_) ?_
              · have d10 : (Jo.Fact.eq (.bool true)).P (vs 10) wj := hd 10 (by decide)
                clear hd
                simp only [Jo.putl, List.foldl_cons, List.foldl_nil, Act.put, List.setIfInBounds_toArray, List.set_cons_zero, List.set_cons_succ] at hK ⊢
                generalize vs 10 = u10 at hK d10 ⊢
                replace d10 : u10 = _ := d10
                subst d10
                have xX170 : World.cell? wj ⟨wC.heap.size + 1, 0, none⟩ = some (.bool e24) := (X17.below hJ).cell 0
                have xX171 : World.cell? wj ⟨wC.heap.size + 1, 1, none⟩ = some (.int .i64 K24) := (X17.below hJ).cell 1
                have xX172 : World.cell? wj ⟨wC.heap.size + 1, 2, none⟩ = some (.bool s24) := (X17.below hJ).cell 2
                have xX173 : World.cell? wj ⟨wC.heap.size + 1, 3, none⟩ = some (.int .u64 M24) := (X17.below hJ).cell 3
                have xX174 : World.cell? wj ⟨wC.heap.size + 1, 4, none⟩ = some (.int .i64 E24) := (X17.below hJ).cell 4
                have xX175 : World.cell? wj ⟨wC.heap.size + 1, 5, none⟩ = some (.int .i64 K24b) := (X17.below hJ).cell 5
                have xX176 : World.cell? wj ⟨wC.heap.size + 1, 6, none⟩ = some (.bool s24b) := (X17.below hJ).cell 6
                have xX177 : World.cell? wj ⟨wC.heap.size + 1, 7, none⟩ = some (.int .u64 M24b) := (X17.below hJ).cell 7
                have xX178 : World.cell? wj ⟨wC.heap.size + 1, 8, none⟩ = some (.int .i64 E24b) := (X17.below hJ).cell 8
                go_simp
                exact hK.out _ _ rfl (Below.refl _ _)
              refine Jo.jcons (i := 12) (o := ⟨some 94, _, _, _, _, _⟩) (di := some 94) (L := [(some 92, 10)]) (f := Jo.Fact.eq (.agg #[.int .i64 D4, .bool s4, .int .u64 M4, .int .i64 E4])) rfl rfl rfl rfl (fun vs wj hJ hd K hK => ?_) ?_
              · have d10 : (Jo.Fact.eq (.bool true)).P (vs 10) wj := hd 10 (by decide)
                clear hd
                simp only [Jo.putl, List.foldl_cons, List.foldl_nil, Act.put, List.setIfInBounds_toArray, List.set_cons_zero, List.set_cons_succ] at hK ⊢
                generalize vs 10 = u10 at hK d10 ⊢
                replace d10 : u10 = _ := d10
                subst d10
                have xX40 : World.cell? wj ⟨w.heap.size + 1 + 1 + 1 + 1, 0, none⟩ = some (.int .i64 D4) := (X4.below hJ).cell 0
                have xX41 : World.cell? wj ⟨w.heap.size + 1 + 1 + 1 + 1, 1, none⟩ = some (.bool s4) := (X4.below hJ).cell 1
                have xX42 : World.cell? wj ⟨w.heap.size + 1 + 1 + 1 + 1, 2, none⟩ = some (.int .u64 M4) := (X4.below hJ).cell 2
                have xX43 : World.cell? wj ⟨w.heap.size + 1 + 1 + 1 + 1, 3, none⟩ = some (.int .i64 E4) := (X4.below hJ).cell 3
                go_simp
                exact hK.out _ _ rfl (Below.refl _ _)
              refine Jo.jcons (i := 13) (o := ⟨some 95, _, _, _, _, _⟩) (di := some 95) (L := [(some 92, 10), (some 93, 11), (some 94, 12)]) (f := Jo.Fact.eq (.bool true)) rfl rfl rfl rfl (fun vs wj hJ hd K hK => ?_) ?_
              · have d10 : (Jo.Fact.eq (.bool true)).P (vs 10) wj := hd 10 (by decide)
                have d11 : (Jo.Fact.eq (.agg #[.bool e24, .int .i64 K24, .bool s24, .int .u64 M24, .int .i64 E24, .int .i64 K24b, .bool s24b, .int .u64 M24b, .int .i64 E24b])).P (vs 11) wj := hd 11 (by decide)
                have d12 : (Jo.Fact.eq (.agg #[.int .i64 D4, .bool s4, .int .u64 M4, .int .i64 E4])).P (vs 12) wj := hd 12 (by decide)
                clear hd
                simp only [Jo.putl, List.foldl_cons, List.foldl_nil, Act.put, List.setIfInBounds_toArray, List.set_cons_zero, List.set_cons_succ] at hK ⊢
                generalize vs 10 = u10 at hK d10 ⊢
                generalize vs 11 = u11 at hK d11 ⊢
                generalize vs 12 = u12 at hK d12 ⊢
                replace d10 : u10 = _ := d10
                subst d10
                replace d11 : u11 = _ := d11
                subst d11
                replace d12 : u12 = _ := d12
                subst d12
                go_simp
                refine (kvHas v24.top.1 v24.top.2 u4 v24.rk HN.out KB.out).mono ?_
                rintro ee wk ⟨rfl, B⟩
                exact hK.out _ _ rfl B
              refine Jo.jcons (i := 14) (o := ⟨some 96, _, _, _, _, _⟩) (di := some 96) (L := [(some 88, 6), (some 92, 10), (some 95, 13)]) (f := Jo.Fact.eq (.bool true)) rfl rfl rfl rfl (fun vs wj hJ hd K hK => ?_) ?_
              · have d6 : (Jo.Fact.eq (.bool false)).P (vs 6) wj := hd 6 (by decide)
                have d10 : (Jo.Fact.eq (.bool true)).P (vs 10) wj := hd 10 (by decide)
                have d13 : (Jo.Fact.eq (.bool true)).P (vs 13) wj := hd 13 (by decide)
                clear hd
                simp only [Jo.putl, List.foldl_cons, List.foldl_nil, Act.put, List.setIfInBounds_toArray, List.set_cons_zero, List.set_cons_succ] at hK ⊢
                generalize vs 6 = u6 at hK d6 ⊢
                generalize vs 10 = u10 at hK d10 ⊢
                generalize vs 13 = u13 at hK d13 ⊢
                replace d6 : u6 = _ := d6
                subst d6
                replace d10 : u10 = _ := d10
                subst d10
                replace d13 : u13 = _ := d13
                subst d13
                go_simp
                exact hK.out _ _ rfl (Below.refl _ _)
              refine Jo.jcons (i := 15) (o := ⟨some 97, _, _, _, _, _⟩) (di := some 97) (L := [(some 88, 6), (some 96, 14)]) (f := Jo.Fact.eq (.bool true)) rfl rfl rfl rfl (fun vs wj hJ hd K hK => ?_) ?_
              · have d6 : (Jo.Fact.eq (.bool false)).P (vs 6) wj := hd 6 (by decide)
                have d14 : (Jo.Fact.eq (.bool true)).P (vs 14) wj := hd 14 (by decide)
                clear hd
                simp only [Jo.putl, List.foldl_cons, List.foldl_nil, Act.put, List.setIfInBounds_toArray, List.set_cons_zero, List.set_cons_succ] at hK ⊢
                generalize vs 6 = u6 at hK d6 ⊢
                generalize vs 14 = u14 at hK d14 ⊢
                replace d6 : u6 = _ := d6
                subst d6
                replace d14 : u14 = _ := d14
                subst d14
                go_simp
                exact hK.out _ _ rfl (Below.refl _ _)
              refine Jo.jcons (i := 16) (o := ⟨some 22, _, _, _, _, _⟩) (di := some 22) (L := [(some 97, 15)]) (f := Jo.Fact.eq (.bool true)) rfl rfl rfl rfl (fun vs wj hJ hd K hK => ?_) ?_
              · have d15 : (Jo.Fact.eq (.bool true)).P (vs 15) wj := hd 15 (by decide)
                clear hd
                simp only [Jo.putl, List.foldl_cons, List.foldl_nil, Act.put, List.setIfInBounds_toArray, List.set_cons_zero, List.set_cons_succ] at hK ⊢
                generalize vs 15 = u15 at hK d15 ⊢
                replace d15 : u15 = _ := d15
                subst d15
                go_simp
                exact hK.out _ _ rfl (Below.refl _ _)
              exact Jo.Steps.nil
            have d0 : (Jo.Fact.eq (.agg #[.bool e12, .int .i64 K12, .bool s12, .int .u64 M12, .int .i64 E12, .int .i64 K12b, .bool s12b, .int .u64 M12b, .int .i64 E12b])).P (vs 0) wK := hd 0 (by decide)
            have d1 : (Jo.Fact.eq (.agg #[.bool e13, .int .i64 K13, .bool s13, .int .u64 M13, .int .i64 E13, .int .i64 K13b, .bool s13b, .int .u64 M13b, .int .i64 E13b])).P (vs 1) wK := hd 1 (by decide)
            have d2 : (Jo.Fact.iv sB).P (vs 2) wK := hd 2 (by decide)
            have d3 : (Jo.Fact.eq (.agg #[.bool e0, .int .i64 D0, .bool s0, .int .u64 M0, .int .i64 E0, .int .i64 G0, .bool g0, .int .u64 P0, .int .i64 Q0])).P (vs 3) wK := hd 3 (by decide)
            have d4 : (Jo.Fact.eq (.bool true)).P (vs 4) wK := hd 4 (by decide)
            have d5 : (Jo.Fact.eq (.bool false)).P (vs 5) wK := hd 5 (by decide)
            have d6 : (Jo.Fact.eq (.bool false)).P (vs 6) wK := hd 6 (by decide)
            have d7 : (Jo.Fact.eq (.agg #[.bool e23, .int .i64 K23, .bool s23, .int .u64 M23, .int .i64 E23, .int .i64 K23b, .bool s23b, .int .u64 M23b, .int .i64 E23b])).P (vs 7) wK := hd 7 (by decide)
            have d8 : (Jo.Fact.eq (.agg #[.int .i64 D3, .bool s3, .int .u64 M3, .int .i64 E3])).P (vs 8) wK := hd 8 (by decide)
            have d9 : (Jo.Fact.eq (.bool true)).P (vs 9) wK := hd 9 (by decide)
            have d10 : (Jo.Fact.eq (.bool true)).P (vs 10) wK := hd 10 (by decide)
            have d11 : (Jo.Fact.eq (.agg #[.bool e24, .int .i64 K24, .bool s24, .int .u64 M24, .int .i64 E24, .int .i64 K24b, .bool s24b, .int .u64 M24b, .int .i64 E24b])).P (vs 11) wK := hd 11 (by decide)
            have d12 : (Jo.Fact.eq (.agg #[.int .i64 D4, .bool s4, .int .u64 M4, .int .i64 E4])).P (vs 12) wK := hd 12 (by decide)
            have d13 : (Jo.Fact.eq (.bool true)).P (vs 13) wK := hd 13 (by decide)
            have d14 : (Jo.Fact.eq (.bool true)).P (vs 14) wK := hd 14 (by decide)
            have d15 : (Jo.Fact.eq (.bool true)).P (vs 15) wK := hd 15 (by decide)
            have d16 : (Jo.Fact.eq (.bool true)).P (vs 16) wK := hd 16 (by decide)
            clear hd
            simp only [Jo.putl, List.foldl_cons, List.foldl_nil, Act.put, List.setIfInBounds_toArray, List.set_cons_zero, List.set_cons_succ]
            generalize vs 0 = u0 at d0 ⊢
            generalize vs 1 = u1 at d1 ⊢
            generalize vs 2 = u2 at d2 ⊢
            generalize vs 3 = u3 at d3 ⊢
            generalize vs 4 = u4 at d4 ⊢
            generalize vs 5 = u5 at d5 ⊢
            generalize vs 6 = u6 at d6 ⊢
            generalize vs 7 = u7 at d7 ⊢
            generalize vs 8 = u8 at d8 ⊢
            generalize vs 9 = u9 at d9 ⊢
            generalize vs 10 = u10 at d10 ⊢
            generalize vs 11 = u11 at d11 ⊢
            generalize vs 12 = u12 at d12 ⊢
            generalize vs 13 = u13 at d13 ⊢
            generalize vs 14 = u14 at d14 ⊢
            generalize vs 15 = u15 at d15 ⊢
            generalize vs 16 = u16 at d16 ⊢
            clear vs
            replace d0 : u0 = _ := d0
            subst d0
            replace d1 : u1 = _ := d1
            subst d1
            obtain ⟨e31, K31, s31, M31, E31, K31b, s31b, M31b, E31b, rfl, v31⟩ := d2
            replace d3 : u3 = _ := d3
            subst d3
            replace d4 : u4 = _ := d4
            subst d4
            replace d5 : u5 = _ := d5
            subst d5
            replace d6 : u6 = _ := d6
            subst d6
            replace d7 : u7 = _ := d7
            subst d7
            replace d8 : u8 = _ := d8
            subst d8
            replace d9 : u9 = _ := d9
            subst d9
            replace d10 : u10 = _ := d10
            subst d10
            replace d11 : u11 = _ := d11
            subst d11
            replace d12 : u12 = _ := d12
            subst d12
            replace d13 : u13 = _ := d13
            subst d13
            replace d14 : u14 = _ := d14
            subst d14
            replace d15 : u15 = _ := d15
            subst d15
            replace d16 : u16 = _ := d16
            subst d16
            replace X0 := X0.below hJ
            replace X3 := X3.below hJ
            replace X4 := X4.below hJ
            replace X12 := X12.below hJ
            replace X13 := X13.below hJ
            replace X16 := X16.below hJ
            replace X17 := X17.below hJ
            replace X18 := X18.below hJ
            replace X19 := X19.below hJ
            replace X20 := X20.below hJ
            replace hT2 := hT2.below hJ
            replace HB := Lib.hid (bt HB.out hJ)
            refine Jo.jdone (by kernel_rfl) ?_
            go_wp2_with fail
            go_meet
            exact ⟨rfl, X0, X3, X4, X12, X13, X18, X19, X20, HB.out⟩
        case rest =>
          obtain ⟨rfl, X0, X3, X4, X12, X13, X18, X19, X20, hB⟩ := hcut
          replace HB := Lib.hid hB
          have hT2 := HT0.out.below hB
          clear hB
          go_upto_region 12 with (fail)
          go_cut [23] (fun v wx => v = .bool true ∧ Bo wx (w.heap.size) #[.bool e0, .int .i64 D0, .bool s0, .int .u64 M0, .int .i64 E0, .int .i64 G0, .bool g0, .int .u64 P0, .int .i64 Q0] 26 ∧ Bo wx (w.heap.size + 1 + 1 + 1) #[.int .i64 D3, .bool s3, .int .u64 M3, .int .i64 E3] 24 ∧ Bo wx (w.heap.size + 1 + 1 + 1 + 1) #[.int .i64 D4, .bool s4, .int .u64 M4, .int .i64 E4] 24 ∧ Bo wx (w5.heap.size) #[.bool e12, .int .i64 K12, .bool s12, .int .u64 M12, .int .i64 E12, .int .i64 K12b, .bool s12b, .int .u64 M12b, .int .i64 E12b] 26 ∧ Bo wx (wI.heap.size) #[.bool e27, .int .i64 K27, .bool s27, .int .u64 M27, .int .i64 E27, .int .i64 K27b, .bool s27b, .int .u64 M27b, .int .i64 E27b] 26 ∧ Below w.heap.size w wx)
          case first =>
            cases tC
            · refine Jo.region_joint (T := [0, 1, 2, 3, 4, 5, 6, 7, 8, 9, 10, 11, 12, 13, 14, 15, 16]) (ds := [some 98, some 99, some 100, some 101, some 102, some 103, some 104, some 105, some 106, some 107, some 108, some 109, some 110, some 111, some 112, some 113, some 23]) (ls := [[], [], [0, 1], [], [2, 3], [4], [5], [6], [6], [6, 7, 8], [6, 9], [10], [10], [10, 11, 12], [6, 10, 13], [6, 14], [15]]) (k := 17) (L := [(some 98, 0), (some 99, 1), (some 100, 2), (some 101, 3), (some 102, 4), (some 103, 5), (some 104, 6), (some 105, 7), (some 106, 8), (some 107, 9), (some 108, 10), (some 109, 11), (some 110, 12), (some 111, 13), (some 112, 14), (some 113, 15), (some 23, 16)]) (fuel := 0) (J := fun wj => Below (World.heap wc).size wc wj)
                (F := [Jo.Fact.eq (.agg #[.bool e12, .int .i64 K12, .bool s12, .int .u64 M12, .int .i64 E12, .int .i64 K12b, .bool s12b, .int .u64 M12b, .int .i64 E12b]), Jo.Fact.eq (.agg #[.bool e13, .int .i64 K13, .bool s13, .int .u64 M13, .int .i64 E13, .int .i64 K13b, .bool s13b, .int .u64 M13b, .int .i64 E13b]), Jo.Fact.iv sC, Jo.Fact.eq (.agg #[.bool e0, .int .i64 D0, .bool s0, .int .u64 M0, .int .i64 E0, .int .i64 G0, .bool g0, .int .u64 P0, .int .i64 Q0]), Jo.Fact.eq (.bool false), Jo.Fact.eq (.bool true), Jo.Fact.eq (.bool true), Jo.Fact.eq undef, Jo.Fact.eq undef, Jo.Fact.eq undef, Jo.Fact.eq undef, Jo.Fact.eq undef, Jo.Fact.eq undef, Jo.Fact.eq undef, Jo.Fact.eq undef, Jo.Fact.eq (.bool true), Jo.Fact.eq (.bool true)])
                (by kernel_rfl) (by kernel_rfl) (by decide) rfl rfl (fun _ _ h b => bt h b) ((Below.refl _ _).drew) ?_ (fun vs wK hJ hd => ?_)
              · refine Jo.jcons (i := 0) (o := ⟨some 98, _, _, _, _, _⟩) (di := some 98) (L := []) (f := Jo.Fact.eq (.agg #[.bool e12, .int .i64 K12, .bool s12, .int .u64 M12, .int .i64 E12, .int .i64 K12b, .bool s12b, .int .u64 M12b, .int .i64 E12b])) rfl rfl rfl rfl (fun vs wj hJ hd K hK => ?_) ?_
                · clear hd
                  simp only [Jo.putl, List.foldl_nil, Act.put, List.setIfInBounds_toArray, List.set_cons_zero, List.set_cons_succ] at hK ⊢
                  have xX120 : World.cell? wj ⟨w5.heap.size, 0, none⟩ = some (.bool e12) := (X12.below hJ).cell 0
                  have xX121 : World.cell? wj ⟨w5.heap.size, 1, none⟩ = some (.int .i64 K12) := (X12.below hJ).cell 1
                  have xX122 : World.cell? wj ⟨w5.heap.size, 2, none⟩ = some (.bool s12) := (X12.below hJ).cell 2
                  have xX123 : World.cell? wj ⟨w5.heap.size, 3, none⟩ = some (.int .u64 M12) := (X12.below hJ).cell 3
                  have xX124 : World.cell? wj ⟨w5.heap.size, 4, none⟩ = some (.int .i64 E12) := (X12.below hJ).cell 4
                  have xX125 : World.cell? wj ⟨w5.heap.size, 5, none⟩ = some (.int .i64 K12b) := (X12.below hJ).cell 5
                  have xX126 : World.cell? wj ⟨w5.heap.size, 6, none⟩ = some (.bool s12b) := (X12.below hJ).cell 6
                  have xX127 : World.cell? wj ⟨w5.heap.size, 7, none⟩ = some (.int .u64 M12b) := (X12.below hJ).cell 7
                  have xX128 : World.cell? wj ⟨w5.heap.size, 8, none⟩ = some (.int .i64 E12b) := (X12.below hJ).cell 8
                  go_simp
                  exact hK.out _ _ rfl (Below.refl _ _)
                refine Jo.jcons (i := 1) (o := ⟨some 99, _, _, _, _, _⟩) (di := some 99) (L := []) (f := Jo.Fact.eq (.agg #[.bool e13, .int .i64 K13, .bool s13, .int .u64 M13, .int .i64 E13, .int .i64 K13b, .bool s13b, .int .u64 M13b, .int .i64 E13b])) rfl rfl rfl rfl (fun vs wj hJ hd K hK => ?_) ?_
                · clear hd
                  simp only [Jo.putl, List.foldl_nil, Act.put, List.setIfInBounds_toArray, List.set_cons_zero, List.set_cons_succ] at hK ⊢
                  have xX130 : World.cell? wj ⟨w7.heap.size, 0, none⟩ = some (.bool e13) := (X13.below hJ).cell 0
                  have xX131 : World.cell? wj ⟨w7.heap.size, 1, none⟩ = some (.int .i64 K13) := (X13.below hJ).cell 1
                  have xX132 : World.cell? wj ⟨w7.heap.size, 2, none⟩ = some (.bool s13) := (X13.below hJ).cell 2
                  have xX133 : World.cell? wj ⟨w7.heap.size, 3, none⟩ = some (.int .u64 M13) := (X13.below hJ).cell 3
                  have xX134 : World.cell? wj ⟨w7.heap.size, 4, none⟩ = some (.int .i64 E13) := (X13.below hJ).cell 4
                  have xX135 : World.cell? wj ⟨w7.heap.size, 5, none⟩ = some (.int .i64 K13b) := (X13.below hJ).cell 5
                  have xX136 : World.cell? wj ⟨w7.heap.size, 6, none⟩ = some (.bool s13b) := (X13.below hJ).cell 6
                  have xX137 : World.cell? wj ⟨w7.heap.size, 7, none⟩ = some (.int .u64 M13b) := (X13.below hJ).cell 7
                  have xX138 : World.cell? wj ⟨w7.heap.size, 8, none⟩ = some (.int .i64 E13b) := (X13.below hJ).cell 8
                  go_simp
                  exact hK.out _ _ rfl (Below.refl _ _)
                refine Jo.jcons (i := 2) (o := ⟨some 100, _, _, _, _, _⟩) (di := some 100) (L := [(some 98, 0), (some 99, 1)]) (f := Jo.Fact.iv sC) rfl rfl rfl rfl (fun vs wj hJ hd K hK => ?_) ?_
                · have d0 : (Jo.Fact.eq (.agg #[.bool e12, .int .i64 K12, .bool s12, .int .u64 M12, .int .i64 E12, .int .i64 K12b, .bool s12b, .int .u64 M12b, .int .i64 E12b])).P (vs 0) wj := hd 0 (by decide)
                  have d1 : (Jo.Fact.eq (.agg #[.bool e13, .int .i64 K13, .bool s13, .int .u64 M13, .int .i64 E13, .int .i64 K13b, .bool s13b, .int .u64 M13b, .int .i64 E13b])).P (vs 1) wj := hd 1 (by decide)
                  clear hd
                  simp only [Jo.putl, List.foldl_cons, List.foldl_nil, Act.put, List.setIfInBounds_toArray, List.set_cons_zero, List.set_cons_succ] at hK ⊢
                  generalize vs 0 = u0 at hK d0 ⊢
                  generalize vs 1 = u1 at hK d1 ⊢
                  replace d0 : u0 = _ := d0
                  subst d0
                  replace d1 : u1 = _ := d1
                  subst d1
                  go_simp
                  refine (fkMul v12.top.1 v12.top.2 v13.top.1 v13.top.2 v12.rk v13.rk HSC.out).mono ?_
                  rintro ee wk ⟨e31, K31, s31, M31, E31, K31b, s31b, M31b, E31b, rfl, v31, B⟩
                  exact hK.out _ _ ⟨e31, K31, s31, M31, E31, K31b, s31b, M31b, E31b, rfl, v31⟩ B
                refine Jo.jcons (i := 3) (o := ⟨some 101, _, _, _, _, _⟩) (di := some 101) (L := []) (f := Jo.Fact.eq (.agg #[.bool e0, .int .i64 D0, .bool s0, .int .u64 M0, .int .i64 E0, .int .i64 G0, .bool g0, .int .u64 P0, .int .i64 Q0])) rfl rfl rfl rfl (fun vs wj hJ hd K hK => ?_) ?_
                · clear hd
                  simp only [Jo.putl, List.foldl_nil, Act.put, List.setIfInBounds_toArray, List.set_cons_zero, List.set_cons_succ] at hK ⊢
                  have xX00 : World.cell? wj ⟨w.heap.size, 0, none⟩ = some (.bool e0) := (X0.below hJ).cell 0
                  have xX01 : World.cell? wj ⟨w.heap.size, 1, none⟩ = some (.int .i64 D0) := (X0.below hJ).cell 1
                  have xX02 : World.cell? wj ⟨w.heap.size, 2, none⟩ = some (.bool s0) := (X0.below hJ).cell 2
                  have xX03 : World.cell? wj ⟨w.heap.size, 3, none⟩ = some (.int .u64 M0) := (X0.below hJ).cell 3
                  have xX04 : World.cell? wj ⟨w.heap.size, 4, none⟩ = some (.int .i64 E0) := (X0.below hJ).cell 4
                  have xX05 : World.cell? wj ⟨w.heap.size, 5, none⟩ = some (.int .i64 G0) := (X0.below hJ).cell 5
                  have xX06 : World.cell? wj ⟨w.heap.size, 6, none⟩ = some (.bool g0) := (X0.below hJ).cell 6
                  have xX07 : World.cell? wj ⟨w.heap.size, 7, none⟩ = some (.int .u64 P0) := (X0.below hJ).cell 7
                  have xX08 : World.cell? wj ⟨w.heap.size, 8, none⟩ = some (.int .i64 Q0) := (X0.below hJ).cell 8
                  go_simp
                  exact hK.out _ _ rfl (Below.refl _ _)
                refine Jo.jcons (i := 4) (o := ⟨some 102, _, _, _, _, _⟩) (di := some 102) (L := [(some 100, 2), (some 101, 3)]) (f := Jo.Fact.eq (.bool false)) rfl rfl rfl rfl (fun vs wj hJ hd K hK => ?_) ?_
                · have d2 : (Jo.Fact.iv sC).P (vs 2) wj := hd 2 (by decide)
                  have d3 : (Jo.Fact.eq (.agg #[.bool e0, .int .i64 D0, .bool s0, .int .u64 M0, .int .i64 E0, .int .i64 G0, .bool g0, .int .u64 P0, .int .i64 Q0])).P (vs 3) wj := hd 3 (by decide)
                  clear hd
                  simp only [Jo.putl, List.foldl_cons, List.foldl_nil, Act.put, List.setIfInBounds_toArray, List.set_cons_zero, List.set_cons_succ] at hK ⊢
                  generalize vs 2 = u2 at hK d2 ⊢
                  generalize vs 3 = u3 at hK d3 ⊢
                  obtain ⟨e31, K31, s31, M31, E31, K31b, s31b, M31b, E31b, rfl, v31⟩ := d2
                  replace d3 : u3 = _ := d3
                  subst d3
                  go_simp
                  refine (kvWithin v31.top.1 v31.top.2 u0 v0 v31.rk HZ.out HTC.out).mono ?_
                  rintro ee wk ⟨rfl, B⟩
                  exact hK.out _ _ rfl B
                refine Jo.jcons (i := 5) (o := ⟨some 103, _, _, _, _, _⟩) (di := some 103) (L := [(some 102, 4)]) (f := Jo.Fact.eq (.bool true)) rfl rfl rfl rfl (fun vs wj hJ hd K hK => ?_) ?_
                · have d4 : (Jo.Fact.eq (.bool false)).P (vs 4) wj := hd 4 (by decide)
                  clear hd
                  simp only [Jo.putl, List.foldl_cons, List.foldl_nil, Act.put, List.setIfInBounds_toArray, List.set_cons_zero, List.set_cons_succ] at hK ⊢
                  generalize vs 4 = u4 at hK d4 ⊢
                  replace d4 : u4 = _ := d4
                  subst d4
                  go_simp
                  exact hK.out _ _ rfl (Below.refl _ _)
                refine Jo.jcons (i := 6) (o := ⟨some 104, _, _, _, _, _⟩) (di := some 104) (L := [(some 103, 5)]) (f := Jo.Fact.eq (.bool true)) rfl rfl rfl rfl (fun vs wj hJ hd K hK => ?_) ?_
                · have d5 : (Jo.Fact.eq (.bool true)).P (vs 5) wj := hd 5 (by decide)
                  clear hd
                  simp only [Jo.putl, List.foldl_cons, List.foldl_nil, Act.put, List.setIfInBounds_toArray, List.set_cons_zero, List.set_cons_succ] at hK ⊢
                  generalize vs 5 = u5 at hK d5 ⊢
                  replace d5 : u5 = _ := d5
                  subst d5
                  go_simp
                  exact hK.out _ _ rfl (Below.refl _ _)
                refine Jo.jcons (i := 7) (o := ⟨some 105, _, _, _, _, _⟩) (di := some 105) (L := [(some 104, 6)]) (f := Jo.Fact.eq undef) rfl rfl rfl rfl (fun vs wj hJ hd K hK => ?_) ?_
                · have d6 : (Jo.Fact.eq (.bool true)).P (vs 6) wj := hd 6 (by decide)
                  clear hd
                  simp only [Jo.putl, List.foldl_cons, List.foldl_nil, Act.put, List.setIfInBounds_toArray, List.set_cons_zero, List.set_cons_succ] at hK ⊢
                  generalize vs 6 = u6 at hK d6 ⊢
                  replace d6 : u6 = _ := d6
                  subst d6
                  go_simp
                  exact hK.out _ _ rfl (Below.refl _ _)
                refine Jo.jcons (i := 8) (o := ⟨some 106, _, _, _, _, _⟩) (di := some 106) (L := [(some 104, 6)]) (f := Jo.Fact.eq undef) rfl rfl rfl rfl (fun vs wj hJ hd K hK => ?_) ?_
                · have d6 : (Jo.Fact.eq (.bool true)).P (vs 6) wj := hd 6 (by decide)
                  clear hd
                  simp only [Jo.putl, List.foldl_cons, List.foldl_nil, Act.put, List.setIfInBounds_toArray, List.set_cons_zero, List.set_cons_succ] at hK ⊢
                  generalize vs 6 = u6 at hK d6 ⊢
                  replace d6 : u6 = _ := d6
                  subst d6
                  go_simp
                  exact hK.out _ _ rfl (Below.refl _ _)
                refine Jo.jcons (i := 9) (o := ⟨some 107, _, _, _, _, _⟩) (di := some 107) (L := [(some 104, 6), (some 105, 7), (some 106, 8)]) (f := Jo.Fact.eq undef) rfl rfl rfl rfl (fun vs wj hJ hd K hK => ?_) ?_
                · have d6 : (Jo.Fact.eq (.bool true)).P (vs 6) wj := hd 6 (by decide)
                  have d7 : (Jo.Fact.eq undef).P (vs 7) wj := hd 7 (by decide)
                  have d8 : (Jo.Fact.eq undef).P (vs 8) wj := hd 8 (by decide)
                  clear hd
                  simp only [Jo.putl, List.foldl_cons, List.foldl_nil, Act.put, List.setIfInBounds_toArray, List.set_cons_zero, List.set_cons_succ] at hK ⊢
                  generalize vs 6 = u6 at hK d6 ⊢
                  generalize vs 7 = u7 at hK d7 ⊢
                  generalize vs 8 = u8 at hK d8 ⊢
                  replace d6 : u6 = _ := d6
                  subst d6
                  replace d7 : u7 = _ := d7
                  subst d7
                  replace d8 : u8 = _ := d8
                  subst d8
                  go_simp
                  exact hK.out _ _ rfl (Below.refl _ _)
                refine Jo.jcons (i := 10) (o := ⟨some 108, _, _, _, _, _⟩) (di := some 108) (L := [(some 104, 6), (some 107, 9)]) (f := Jo.Fact.eq undef) rfl rfl rfl rfl (fun vs wj hJ hd K hK => ?_) ?_
                · have d6 : (Jo.Fact.eq (.bool true)).P (vs 6) wj := hd 6 (by decide)
                  have d9 : (Jo.Fact.eq undef).P (vs 9) wj := hd 9 (by decide)
                  clear hd
                  simp only [Jo.putl, List.foldl_cons, List.foldl_nil, Act.put, List.setIfInBounds_toArray, List.set_cons_zero, List.set_cons_succ] at hK ⊢
                  generalize vs 6 = u6 at hK d6 ⊢
                  generalize vs 9 = u9 at hK d9 ⊢
                  replace d6 : u6 = _ := d6
                  subst d6
                  replace d9 : u9 = _ := d9
                  subst d9
                  go_simp
                  exact hK.out _ _ rfl (Below.refl _ _)
                refine Jo.jcons (i := 11) (o := ⟨some 109, _, _, _, _, _⟩) (di := some 109) (L := [(some 108, 10)]) (f := Jo.Fact.eq undef) rfl rfl rfl rfl (fun vs wj hJ hd K hK => ?_) ?_
                · have d10 : (Jo.Fact.eq undef).P (vs 10) wj := hd 10 (by decide)
                  clear hd
                  simp only [Jo.putl, List.foldl_cons, List.foldl_nil, Act.put, List.setIfInBounds_toArray, List.set_cons_zero, List.set_cons_succ] at hK ⊢
                  generalize vs 10 = u10 at hK d10 ⊢
                  replace d10 : u10 = _ := d10
                  subst d10
                  go_simp
                  exact hK.out _ _ rfl (Below.refl _ _)
                refine Jo.jcons (i := 12) (o := ⟨some 110, _, _, _, _, _⟩) (di := some 110) (L := [(some 108, 10)]) (f := Jo.Fact.eq undef) rfl rfl rfl rfl (fun vs wj hJ hd K hK => ?_) ?_
                · have d10 : (Jo.Fact.eq undef).P (vs 10) wj := hd 10 (by decide)
                  clear hd
                  simp only [Jo.putl, List.foldl_cons, List.foldl_nil, Act.put, List.setIfInBounds_toArray, List.set_cons_zero, List.set_cons_succ] at hK ⊢
                  generalize vs 10 = u10 at hK d10 ⊢
                  replace d10 : u10 = _ := d10
                  subst d10
                  go_simp
                  exact hK.out _ _ rfl (Below.refl _ _)
                refine Jo.jcons (i := 13) (o := ⟨some 111, _, _, _, _, _⟩) (di := some 111) (L := [(some 108, 10), (some 109, 11), (some 110, 12)]) (f := Jo.Fact.eq undef) rfl rfl rfl rfl (fun vs wj hJ hd K hK => ?_) ?_
                · have d10 : (Jo.Fact.eq undef).P (vs 10) wj := hd 10 (by decide)
                  have d11 : (Jo.Fact.eq undef).P (vs 11) wj := hd 11 (by decide)
                  have d12 : (Jo.Fact.eq undef).P (vs 12) wj := hd 12 (by decide)
                  clear hd
                  simp only [Jo.putl, List.foldl_cons, List.foldl_nil, Act.put, List.setIfInBounds_toArray, List.set_cons_zero, List.set_cons_succ] at hK ⊢
                  generalize vs 10 = u10 at hK d10 ⊢
                  generalize vs 11 = u11 at hK d11 ⊢
                  generalize vs 12 = u12 at hK d12 ⊢
                  replace d10 : u10 = _ := d10
                  subst d10
                  replace d11 : u11 = _ := d11
                  subst d11
                  replace d12 : u12 = _ := d12
                  subst d12
                  go_simp
                  exact hK.out _ _ rfl (Below.refl _ _)
                refine Jo.jcons (i := 14) (o := ⟨some 112, _, _, _, _, _⟩) (di := some 112) (L := [(some 104, 6), (some 108, 10), (some 111, 13)]) (f := Jo.Fact.eq undef) rfl rfl rfl rfl (fun vs wj hJ hd K hK => ?_) ?_
                · have d6 : (Jo.Fact.eq (.bool true)).P (vs 6) wj := hd 6 (by decide)
                  have d10 : (Jo.Fact.eq undef).P (vs 10) wj := hd 10 (by decide)
                  have d13 : (Jo.Fact.eq undef).P (vs 13) wj := hd 13 (by decide)
                  clear hd
                  simp only [Jo.putl, List.foldl_cons, List.foldl_nil, Act.put, List.setIfInBounds_toArray, List.set_cons_zero, List.set_cons_succ] at hK ⊢
                  generalize vs 6 = u6 at hK d6 ⊢
                  generalize vs 10 = u10 at hK d10 ⊢
                  generalize vs 13 = u13 at hK d13 ⊢
                  replace d6 : u6 = _ := d6
                  subst d6
                  replace d10 : u10 = _ := d10
                  subst d10
                  replace d13 : u13 = _ := d13
                  subst d13
                  go_simp
                  exact hK.out _ _ rfl (Below.refl _ _)
                refine Jo.jcons (i := 15) (o := ⟨some 113, _, _, _, _, _⟩) (di := some 113) (L := [(some 104, 6), (some 112, 14)]) (f := Jo.Fact.eq (.bool true)) rfl rfl rfl rfl (fun vs wj hJ hd K hK => ?_) ?_
                · have d6 : (Jo.Fact.eq (.bool true)).P (vs 6) wj := hd 6 (by decide)
                  have d14 : (Jo.Fact.eq undef).P (vs 14) wj := hd 14 (by decide)
                  clear hd
                  simp only [Jo.putl, List.foldl_cons, List.foldl_nil, Act.put, List.setIfInBounds_toArray, List.set_cons_zero, List.set_cons_succ] at hK ⊢
                  generalize vs 6 = u6 at hK d6 ⊢
                  generalize vs 14 = u14 at hK d14 ⊢
                  replace d6 : u6 = _ := d6
                  subst d6
                  replace d14 : u14 = _ := d14
                  subst d14
                  go_simp
                  exact hK.out _ _ rfl (Below.refl _ _)
                refine Jo.jcons (i := 16) (o := ⟨some 23, _, _, _, _, _⟩) (di := some 23) (L := [(some 113, 15)]) (f := Jo.Fact.eq (.bool true)) rfl rfl rfl rfl (fun vs wj hJ hd K hK => ?_) ?_
                · have d15 : (Jo.Fact.eq (.bool true)).P (vs 15) wj := hd 15 (by decide)
                  clear hd
                  simp only [Jo.putl, List.foldl_cons, List.foldl_nil, Act.put, List.setIfInBounds_toArray, List.set_cons_zero, List.set_cons_succ] at hK ⊢
                  generalize vs 15 = u15 at hK d15 ⊢
                  replace d15 : u15 = _ := d15
                  subst d15
                  go_simp
                  exact hK.out _ _ rfl (Below.refl _ _)
                exact Jo.Steps.nil
              have d0 : (Jo.Fact.eq (.agg #[.bool e12, .int .i64 K12, .bool s12, .int .u64 M12, .int .i64 E12, .int .i64 K12b, .bool s12b, .int .u64 M12b, .int .i64 E12b])).P (vs 0) wK := hd 0 (by decide)
              have d1 : (Jo.Fact.eq (.agg #[.bool e13, .int .i64 K13, .bool s13, .int .u64 M13, .int .i64 E13, .int .i64 K13b, .bool s13b, .int .u64 M13b, .int .i64 E13b])).P (vs 1) wK := hd 1 (by decide)
              have d2 : (Jo.Fact.iv sC).P (vs 2) wK := hd 2 (by decide)
              have d3 : (Jo.Fact.eq (.agg #[.bool e0, .int .i64 D0, .bool s0, .int .u64 M0, .int .i64 E0, .int .i64 G0, .bool g0, .int .u64 P0, .int .i64 Q0])).P (vs 3) wK := hd 3 (by decide)
              have d4 : (Jo.Fact.eq (.bool false)).P (vs 4) wK := hd 4 (by decide)
              have d5 : (Jo.Fact.eq (.bool true)).P (vs 5) wK := hd 5 (by decide)
              have d6 : (Jo.Fact.eq (.bool true)).P (vs 6) wK := hd 6 (by decide)
              have d7 : (Jo.Fact.eq undef).P (vs 7) wK := hd 7 (by decide)
              have d8 : (Jo.Fact.eq undef).P (vs 8) wK := hd 8 (by decide)
              have d9 : (Jo.Fact.eq undef).P (vs 9) wK := hd 9 (by decide)
              have d10 : (Jo.Fact.eq undef).P (vs 10) wK := hd 10 (by decide)
              have d11 : (Jo.Fact.eq undef).P (vs 11) wK := hd 11 (by decide)
              have d12 : (Jo.Fact.eq undef).P (vs 12) wK := hd 12 (by decide)
              have d13 : (Jo.Fact.eq undef).P (vs 13) wK := hd 13 (by decide)
              have d14 : (Jo.Fact.eq undef).P (vs 14) wK := hd 14 (by decide)
              have d15 : (Jo.Fact.eq (.bool true)).P (vs 15) wK := hd 15 (by decide)
              have d16 : (Jo.Fact.eq (.bool true)).P (vs 16) wK := hd 16 (by decide)
              clear hd
              simp only [Jo.putl, List.foldl_cons, List.foldl_nil, Act.put, List.setIfInBounds_toArray, List.set_cons_zero, List.set_cons_succ]
              generalize vs 0 = u0 at d0 ⊢
              generalize vs 1 = u1 at d1 ⊢
              generalize vs 2 = u2 at d2 ⊢
              generalize vs 3 = u3 at d3 ⊢
              generalize vs 4 = u4 at d4 ⊢
              generalize vs 5 = u5 at d5 ⊢
              generalize vs 6 = u6 at d6 ⊢
              generalize vs 7 = u7 at d7 ⊢
              generalize vs 8 = u8 at d8 ⊢
              generalize vs 9 = u9 at d9 ⊢
              generalize vs 10 = u10 at d10 ⊢
              generalize vs 11 = u11 at d11 ⊢
              generalize vs 12 = u12 at d12 ⊢
              generalize vs 13 = u13 at d13 ⊢
              generalize vs 14 = u14 at d14 ⊢
              generalize vs 15 = u15 at d15 ⊢
              generalize vs 16 = u16 at d16 ⊢
              clear vs
              replace d0 : u0 = _ := d0
              subst d0
              replace d1 : u1 = _ := d1
              subst d1
              obtain ⟨e31, K31, s31, M31, E31, K31b, s31b, M31b, E31b, rfl, v31⟩ := d2
              replace d3 : u3 = _ := d3
              subst d3
              replace d4 : u4 = _ := d4
              subst d4
              replace d5 : u5 = _ := d5
              subst d5
              replace d6 : u6 = _ := d6
              subst d6
              replace d7 : u7 = _ := d7
              subst d7
              replace d8 : u8 = _ := d8
              subst d8
              replace d9 : u9 = _ := d9
              subst d9
              replace d10 : u10 = _ := d10
              subst d10
              replace d11 : u11 = _ := d11
              subst d11
              replace d12 : u12 = _ := d12
              subst d12
              replace d13 : u13 = _ := d13
              subst d13
              replace d14 : u14 = _ := d14
              subst d14
              replace d15 : u15 = _ := d15
              subst d15
              replace d16 : u16 = _ := d16
              subst d16
              replace X0 := X0.below hJ
              replace X3 := X3.below hJ
              replace X4 := X4.below hJ
              replace X12 := X12.below hJ
              replace X13 := X13.below hJ
              replace X18 := X18.below hJ
              replace X19 := X19.below hJ
              replace X20 := X20.below hJ
              replace hT2 := hT2.below hJ
              replace HB := Lib.hid (bt HB.out hJ)
              refine Jo.jdone (by kernel_rfl) ?_
              go_wp2_with fail
              go_meet
              exact ⟨rfl, X0, X3, X4, X12, X20, HB.out⟩
            · obtain ⟨ka, kb⟩ := HKC.out (by simp) (by simp) (by simp)
              have KA := Lib.hid ka
              have KB := Lib.hid kb
              clear ka kb
              refine Jo.region_joint (T := [0, 1, 2, 3, 4, 5, 6, 7, 8, 9, 10, 11, 12, 13, 14, 15, 16]) (ds := [some 98, some 99, some 100, some 101, some 102, some 103, some 104, some 105, some 106, some 107, some 108, some 109, some 110, some 111, some 112, some 113, some 23]) (ls := [[], [], [0, 1], [], [2, 3], [4], [5], [6], [6], [6, 7, 8], [6, 9], [10], [10], [10, 11, 12], [6, 10, 13], [6, 14], [15]]) (k := 17) (L := [(some 98, 0), (some 99, 1), (some 100, 2), (some 101, 3), (some 102, 4), (some 103, 5), (some 104, 6), (some 105, 7), (some 106, 8), (some 107, 9), (some 108, 10), (some 109, 11), (some 110, 12), (some 111, 13), (some 112, 14), (some 113, 15), (some 23, 16)]) (fuel := 0) (J := fun wj => Below (World.heap wc).size wc wj)
                (F := [Jo.Fact.eq (.agg #[.bool e12, .int .i64 K12, .bool s12, .int .u64 M12, .int .i64 E12, .int .i64 K12b, .bool s12b, .int .u64 M12b, .int .i64 E12b]), Jo.Fact.eq (.agg #[.bool e13, .int .i64 K13, .bool s13, .int .u64 M13, .int .i64 E13, .int .i64 K13b, .bool s13b, .int .u64 M13b, .int .i64 E13b]), Jo.Fact.iv sC, Jo.Fact.eq (.agg #[.bool e0, .int .i64 D0, .bool s0, .int .u64 M0, .int .i64 E0, .int .i64 G0, .bool g0, .int .u64 P0, .int .i64 Q0]), Jo.Fact.eq (.bool true), Jo.Fact.eq (.bool false), Jo.Fact.eq (.bool false), Jo.Fact.eq (.agg #[.bool e25, .int .i64 K25, .bool s25, .int .u64 M25, .int .i64 E25, .int .i64 K25b, .bool s25b, .int .u64 M25b, .int .i64 E25b]), Jo.Fact.eq (.agg #[.int .i64 D3, .bool s3, .int .u64 M3, .int .i64 E3]), Jo.Fact.eq (.bool true), Jo.Fact.eq (.bool true), Jo.Fact.eq (.agg #[.bool e26, .int .i64 K26, .bool s26, .int .u64 M26, .int .i64 E26, .int .i64 K26b, .bool s26b, .int .u64 M26b, .int .i64 E26b]), Jo.Fact.eq (.agg #[.int .i64 D4, .bool s4, .int .u64 M4, .int .i64 E4]), Jo.Fact.eq (.bool true), Jo.Fact.eq (.bool true), Jo.Fact.eq (.bool true), Jo.Fact.eq (.bool true)])
                (by kernel_rfl) (by kernel_rfl) (by decide) rfl rfl (fun _ _ h b => bt h b) ((Below.refl _ _).drew) ?_ (fun vs wK hJ hd => ?_)
              · refine Jo.jcons (i := 0) (o := ⟨some 98, _, _, _, _, _⟩) (di := some 98) (L := []) (f := Jo.Fact.eq (.agg #[.bool e12, .int .i64 K12, .bool s12, .int .u64 M12, .int .i64 E12, .int .i64 K12b, .bool s12b, .int .u64 M12b, .int .i64 E12b])) rfl rfl rfl rfl (fun vs wj hJ hd K hK => ?_) ?_
                · clear hd
                  simp only [Jo.putl, List.foldl_nil, Act.put, List.setIfInBounds_toArray, List.set_cons_zero, List.set_cons_succ] at hK ⊢
                  have xX120 : World.cell? wj ⟨w5.heap.size, 0, none⟩ = some (.bool e12) := (X12.below hJ).cell 0
                  have xX121 : World.cell? wj ⟨w5.heap.size, 1, none⟩ = some (.int .i64 K12) := (X12.below hJ).cell 1
                  have xX122 : World.cell? wj ⟨w5.heap.size, 2, none⟩ = some (.bool s12) := (X12.below hJ).cell 2
                  have xX123 : World.cell? wj ⟨w5.heap.size, 3, none⟩ = some (.int .u64 M12) := (X12.below hJ).cell 3
                  have xX124 : World.cell? wj ⟨w5.heap.size, 4, none⟩ = some (.int .i64 E12) := (X12.below hJ).cell 4
                  have xX125 : World.cell? wj ⟨w5.heap.size, 5, none⟩ = some (.int .i64 K12b) := (X12.below hJ).cell 5
                  have xX126 : World.cell? wj ⟨w5.heap.size, 6, none⟩ = some (.bool s12b) := (X12.below hJ).cell 6
                  have xX127 : World.cell? wj ⟨w5.heap.size, 7, none⟩ = some (.int .u64 M12b) := (X12.below hJ).cell 7
                  have xX128 : World.cell? wj ⟨w5.heap.size, 8, none⟩ = some (.int .i64 E12b) := (X12.below hJ).cell 8
                  go_simp
                  exact hK.out _ _ rfl (Below.refl _ _)
                refine Jo.jcons (i := 1) (o := ⟨some 99, _, _, _, _, _⟩) (di := some 99) (L := []) (f := Jo.Fact.eq (.agg #[.bool e13, .int .i64 K13, .bool s13, .int .u64 M13, .int .i64 E13, .int .i64 K13b, .bool s13b, .int .u64 M13b, .int .i64 E13b])) rfl rfl rfl rfl (fun vs wj hJ hd K hK => ?_) ?_
                · clear hd
                  simp only [Jo.putl, List.foldl_nil, Act.put, List.setIfInBounds_toArray, List.set_cons_zero, List.set_cons_succ] at hK ⊢
                  have xX130 : World.cell? wj ⟨w7.heap.size, 0, none⟩ = some (.bool e13) := (X13.below hJ).cell 0
                  have xX131 : World.cell? wj ⟨w7.heap.size, 1, none⟩ = some (.int .i64 K13) := (X13.below hJ).cell 1
                  have xX132 : World.cell? wj ⟨w7.heap.size, 2, none⟩ = some (.bool s13) := (X13.below hJ).cell 2
                  have xX133 : World.cell? wj ⟨w7.heap.size, 3, none⟩ = some (.int .u64 M13) := (X13.below hJ).cell 3
                  have xX134 : World.cell? wj ⟨w7.heap.size, 4, none⟩ = some (.int .i64 E13) := (X13.below hJ).cell 4
                  have xX135 : World.cell? wj ⟨w7.heap.size, 5, none⟩ = some (.int .i64 K13b) := (X13.below hJ).cell 5
                  have xX136 : World.cell? wj ⟨w7.heap.size, 6, none⟩ = some (.bool s13b) := (X13.below hJ).cell 6
                  have xX137 : World.cell? wj ⟨w7.heap.size, 7, none⟩ = some (.int .u64 M13b) := (X13.below hJ).cell 7
                  have xX138 : World.cell? wj ⟨w7.heap.size, 8, none⟩ = some (.int .i64 E13b) := (X13.below hJ).cell 8
                  go_simp
                  exact hK.out _ _ rfl (Below.refl _ _)
                refine Jo.jcons (i := 2) (o := ⟨some 100, _, _, _, _, _⟩) (di := some 100) (L := [(some 98, 0), (some 99, 1)]) (f := Jo.Fact.iv sC) rfl rfl rfl rfl (fun vs wj hJ hd K hK => ?_) ?_
                · have d0 : (Jo.Fact.eq (.agg #[.bool e12, .int .i64 K12, .bool s12, .int .u64 M12, .int .i64 E12, .int .i64 K12b, .bool s12b, .int .u64 M12b, .int .i64 E12b])).P (vs 0) wj := hd 0 (by decide)
                  have d1 : (Jo.Fact.eq (.agg #[.bool e13, .int .i64 K13, .bool s13, .int .u64 M13, .int .i64 E13, .int .i64 K13b, .bool s13b, .int .u64 M13b, .int .i64 E13b])).P (vs 1) wj := hd 1 (by decide)
                  clear hd
                  simp only [Jo.putl, List.foldl_cons, List.foldl_nil, Act.put, List.setIfInBounds_toArray, List.set_cons_zero, List.set_cons_succ] at hK ⊢
                  generalize vs 0 = u0 at hK d0 ⊢
                  generalize vs 1 = u1 at hK d1 ⊢
                  replace d0 : u0 = _ := d0
                  subst d0
                  replace d1 : u1 = _ := d1
                  subst d1
                  go_simp
                  refine (fkMul v12.top.1 v12.top.2 v13.top.1 v13.top.2 v12.rk v13.rk HSC.out).mono ?_
                  rintro ee wk ⟨e31, K31, s31, M31, E31, K31b, s31b, M31b, E31b, rfl, v31, B⟩
                  exact hK.out _ _ ⟨e31, K31, s31, M31, E31, K31b, s31b, M31b, E31b, rfl, v31⟩ B
                refine Jo.jcons (i := 3) (o := ⟨some 101, _, _, _, _, _⟩) (di := some 101) (L := []) (f := Jo.Fact.eq (.agg #[.bool e0, .int .i64 D0, .bool s0, .int .u64 M0, .int .i64 E0, .int .i64 G0, .bool g0, .int .u64 P0, .int .i64 Q0])) rfl rfl rfl rfl (fun vs wj hJ hd K hK => ?_) ?_
                · clear hd
                  simp only [Jo.putl, List.foldl_nil, Act.put, List.setIfInBounds_toArray, List.set_cons_zero, List.set_cons_succ] at hK ⊢
                  have xX00 : World.cell? wj ⟨w.heap.size, 0, none⟩ = some (.bool e0) := (X0.below hJ).cell 0
                  have xX01 : World.cell? wj ⟨w.heap.size, 1, none⟩ = some (.int .i64 D0) := (X0.below hJ).cell 1
                  have xX02 : World.cell? wj ⟨w.heap.size, 2, none⟩ = some (.bool s0) := (X0.below hJ).cell 2
                  have xX03 : World.cell? wj ⟨w.heap.size, 3, none⟩ = some (.int .u64 M0) := (X0.below hJ).cell 3
                  have xX04 : World.cell? wj ⟨w.heap.size, 4, none⟩ = some (.int .i64 E0) := (X0.below hJ).cell 4
                  have xX05 : World.cell? wj ⟨w.heap.size, 5, none⟩ = some (.int .i64 G0) := (X0.below hJ).cell 5
                  have xX06 : World.cell? wj ⟨w.heap.size, 6, none⟩ = some (.bool g0) := (X0.below hJ).cell 6
                  have xX07 : World.cell? wj ⟨w.heap.size, 7, none⟩ = some (.int .u64 P0) := (X0.below hJ).cell 7
                  have xX08 : World.cell? wj ⟨w.heap.size, 8, none⟩ = some (.int .i64 Q0) := (X0.below hJ).cell 8
                  go_simp
                  exact hK.out _ _ rfl (Below.refl _ _)
                refine Jo.jcons (i := 4) (o := ⟨some 102, _, _, _, _, _⟩) (di := some 102) (L := [(some 100, 2), (some 101, 3)]) (f := Jo.Fact.eq (.bool true)) rfl rfl rfl rfl (fun vs wj hJ hd K hK => ?_) ?_
                · have d2 : (Jo.Fact.iv sC).P (vs 2) wj := hd 2 (by decide)
                  have d3 : (Jo.Fact.eq (.agg #[.bool e0, .int .i64 D0, .bool s0, .int .u64 M0, .int .i64 E0, .int .i64 G0, .bool g0, .int .u64 P0, .int .i64 Q0])).P (vs 3) wj := hd 3 (by decide)
                  clear hd
                  simp only [Jo.putl, List.foldl_cons, List.foldl_nil, Act.put, List.setIfInBounds_toArray, List.set_cons_zero, List.set_cons_succ] at hK ⊢
                  generalize vs 2 = u2 at hK d2 ⊢
                  generalize vs 3 = u3 at hK d3 ⊢
                  obtain ⟨e31, K31, s31, M31, E31, K31b, s31b, M31b, E31b, rfl, v31⟩ := d2
                  replace d3 : u3 = _ := d3
                  subst d3
                  go_simp
                  refine (kvWithin v31.top.1 v31.top.2 u0 v0 v31.rk HZ.out HTC.out).mono ?_
                  rintro ee wk ⟨rfl, B⟩
                  exact hK.out _ _ rfl B
                refine Jo.jcons (i := 5) (o := ⟨some 103, _, _, _, _, _⟩) (di := some 103) (L := [(some 102, 4)]) (f := Jo.Fact.eq (.bool false)) rfl rfl rfl rfl (fun vs wj hJ hd K hK => ?_) ?_
                · have d4 : (Jo.Fact.eq (.bool true)).P (vs 4) wj := hd 4 (by decide)
                  clear hd
                  simp only [Jo.putl, List.foldl_cons, List.foldl_nil, Act.put, List.setIfInBounds_toArray, List.set_cons_zero, List.set_cons_succ] at hK ⊢
                  generalize vs 4 = u4 at hK d4 ⊢
                  replace d4 : u4 = _ := d4
                  subst d4
                  go_simp
                  exact hK.out _ _ rfl (Below.refl _ _)
                refine Jo.jcons (i := 6) (o := ⟨some 104, _, _, _, _, _⟩) (di := some 104) (L := [(some 103, 5)]) (f := Jo.Fact.eq (.bool false)) rfl rfl rfl rfl (fun vs wj hJ hd K hK => ?_) ?_
                · have d5 : (Jo.Fact.eq (.bool false)).P (vs 5) wj := hd 5 (by decide)
                  clear hd
                  simp only [Jo.putl, List.foldl_cons, List.foldl_nil, Act.put, List.setIfInBounds_toArray, List.set_cons_zero, List.set_cons_succ] at hK ⊢
                  generalize vs 5 = u5 at hK d5 ⊢
                  replace d5 : u5 = _ := d5
                  subst d5
                  go_simp
                  exact hK.out _ _ rfl (Below.refl _ _)
                refine Jo.jcons (i := 7) (o := ⟨some 105, _, _, _, _, _⟩) (di := some 105) (L := [(some 104, 6)]) (f := Jo.Fact.eq (.agg #[.bool e25, .int .i64 K25, .bool s25, .int .u64 M25, .int .i64 E25, .int .i64 K25b, .bool s25b, .int .u64 M25b, .int .i64 E25b])) rfl rfl rfl rfl (fun vs wj hJ hd K hK => ?_) ?_
                · have d6 : (Jo.Fact.eq (.bool false)).P (vs 6) wj := hd 6 (by decide)
                  clear hd
                  simp only [Jo.putl, List.foldl_cons, List.foldl_nil, Act.put, List.setIfInBounds_toArray, List.set_cons_zero, List.set_cons_succ] at hK ⊢
                  generalize vs 6 = u6 at hK d6 ⊢
                  replace d6 : u6 = _ := d6
                  subst d6
                  have xX180 : World.cell? wj ⟨wF.heap.size, 0, none⟩ = some (.bool e25) := (X18.below hJ).cell 0
                  have xX181 : World.cell? wj ⟨wF.heap.size, 1, none⟩ = some (.int .i64 K25) := (X18.below hJ).cell 1
                  have xX182 : World.cell? wj ⟨wF.heap.size, 2, none⟩ = some (.bool s25) := (X18.below hJ).cell 2
                  have xX183 : World.cell? wj ⟨wF.heap.size, 3, none⟩ = some (.int .u64 M25) := (X18.below hJ).cell 3
                  have xX184 : World.cell? wj ⟨wF.heap.size, 4, none⟩ = some (.int .i64 E25) := (X18.below hJ).cell 4
                  have xX185 : World.cell? wj ⟨wF.heap.size, 5, none⟩ = some (.int .i64 K25b) := (X18.below hJ).cell 5
                  have xX186 : World.cell? wj ⟨wF.heap.size, 6, none⟩ = some (.bool s25b) := (X18.below hJ).cell 6
                  have xX187 : World.cell? wj ⟨wF.heap.size, 7, none⟩ = some (.int .u64 M25b) := (X18.below hJ).cell 7
                  have xX188 : World.cell? wj ⟨wF.heap.size, 8, none⟩ = some (.int .i64 E25b) := (X18.below hJ).cell 8
                  go_simp
                  exact hK.out _ _ rfl (Below.refl _ _)
                refine Jo.jcons (i := 8) (o := ⟨some 106, _, _, _, _, _⟩) (di := some 106) (L := [(some 104, 6)]) (f := Jo.Fact.eq (.agg #[.int .i64 D3, .bool s3, .int .u64 M3, .int .i64 E3])) rfl rfl rfl rfl (fun vs wj hJ hd K hK => ?_) ?_
                · have d6 : (Jo.Fact.eq (.bool false)).P (vs 6) wj := hd 6 (by decide)
                  clear hd
                  simp only [Jo.putl, List.foldl_cons, List.foldl_nil, Act.put, List.setIfInBounds_toArray, List.set_cons_zero, List.set_cons_succ] at hK ⊢
                  generalize vs 6 = u6 at hK d6 ⊢
                  replace d6 : u6 = _ := d6
                  subst d6
                  have xX30 : World.cell? wj ⟨w.heap.size + 1 + 1 + 1, 0, none⟩ = some (.int .i64 D3) := (X3.below hJ).cell 0
                  have xX31 : World.cell? wj ⟨w.heap.size + 1 + 1 + 1, 1, none⟩ = some (.bool s3) := (X3.below hJ).cell 1
                  have xX32 : World.cell? wj ⟨w.heap.size + 1 + 1 + 1, 2, none⟩ = some (.int .u64 M3) := (X3.below hJ).cell 2
                  have xX33 : World.cell? wj ⟨w.heap.size + 1 + 1 + 1, 3, none⟩ = some (.int .i64 E3) := (X3.below hJ).cell 3
                  go_simp
                  exact hK.out _ _ rfl (Below.refl _ _)
                refine Jo.jcons (i := 9) (o := ⟨some 107, _, _, _, _, _⟩) (di := some 107) (L := [(some 104, 6), (some 105, 7), (some 106, 8)]) (f := Jo.Fact.eq (.bool true)) rfl rfl rfl rfl (fun vs wj hJ hd K hK => ?_) ?_
                · have d6 : (Jo.Fact.eq (.bool false)).P (vs 6) wj := hd 6 (by decide)
                  have d7 : (Jo.Fact.eq (.agg #[.bool e25, .int .i64 K25, .bool s25, .int .u64 M25, .int .i64 E25, .int .i64 K25b, .bool s25b, .int .u64 M25b, .int .i64 E25b])).P (vs 7) wj := hd 7 (by decide)
                  have d8 : (Jo.Fact.eq (.agg #[.int .i64 D3, .bool s3, .int .u64 M3, .int .i64 E3])).P (vs 8) wj := hd 8 (by decide)
                  clear hd
                  simp only [Jo.putl, List.foldl_cons, List.foldl_nil, Act.put, List.setIfInBounds_toArray, List.set_cons_zero, List.set_cons_succ] at hK ⊢
                  generalize vs 6 = u6 at hK d6 ⊢
                  generalize vs 7 = u7 at hK d7 ⊢
                  generalize vs 8 = u8 at hK d8 ⊢
                  replace d6 : u6 = _ := d6
                  subst d6
                  replace d7 : u7 = _ := d7
                  subst d7
                  replace d8 : u8 = _ := d8
                  subst d8
                  go_simp
                  refine (kvHas v25.top.1 v25.top.2 u3 v25.rk HM.out KA.out).mono ?_
                  rintro ee wk ⟨rfl, B⟩
                  exact hK.out _ _ rfl B
                refine Jo.jcons (i := 10) (o := ⟨some 108, _, _, _, _, _⟩) (di := some 108) (L := [(some 104, 6), (some 107, 9)]) (f := Jo.Fact.eq (.bool true)) rfl rfl rfl rfl (fun vs wj hJ hd K hK => ?_) ?_
                · have d6 : (Jo.Fact.eq (.bool false)).P (vs 6) wj := hd 6 (by decide)
                  have d9 : (Jo.Fact.eq (.bool true)).P (vs 9) wj := hd 9 (by decide)
                  clear hd
                  simp only [Jo.putl, List.foldl_cons, List.foldl_nil, Act.put, List.setIfInBounds_toArray, List.set_cons_zero, List.set_cons_succ] at hK ⊢
                  generalize vs 6 = u6 at hK d6 ⊢
                  generalize vs 9 = u9 at hK d9 ⊢
                  replace d6 : u6 = _ := d6
                  subst d6
                  replace d9 : u9 = _ := d9
                  subst d9
                  go_simp
                  exact hK.out _ _ rfl (Below.refl _ _)
                refine Jo.jcons (i := 11) (o := ⟨some 109, _, _, _, _, _⟩) (di := some 109) (L := [(some 108, 10)]) (f := Jo.Fact.eq (.agg #[.bool e26, .int .i64 K26, .bool s26, .int .u64 M26, .int .i64 E26, .int .i64 K26b, .bool s26b, .int .u64 M26b, .int .i64 E26b])) rfl rfl rfl rfl (fun vs wj hJ hd K hK => ?_) ?_
                · have d10 : (Jo.Fact.eq (.bool true)).P (vs 10) wj := hd 10 (by decide)
                  clear hd
                  simp only [Jo.putl, List.foldl_cons, List.foldl_nil, Act.put, List.setIfInBounds_toArray, List.set_cons_zero, List.set_cons_succ] at hK ⊢
                  generalize vs 10 = u10 at hK d10 ⊢
                  replace d10 : u10 = _ := d10
                  subst d10
                  have xX190 : World.cell? wj ⟨wF.heap.size + 1, 0, none⟩ = some (.bool e26) := (X19.below hJ).cell 0
                  have xX191 : World.cell? wj ⟨wF.heap.size + 1, 1, none⟩ = some (.int .i64 K26) := (X19.below hJ).cell 1
                  have xX192 : World.cell? wj ⟨wF.heap.size + 1, 2, none⟩ = some (.bool s26) := (X19.below hJ).cell 2
                  have xX193 : World.cell? wj ⟨wF.heap.size + 1, 3, none⟩ = some (.int .u64 M26) := (X19.below hJ).cell 3
                  have xX194 : World.cell? wj ⟨wF.heap.size + 1, 4, none⟩ = some (.int .i64 E26) := (X19.below hJ).cell 4
                  have xX195 : World.cell? wj ⟨wF.heap.size + 1, 5, none⟩ = some (.int .i64 K26b) := (X19.below hJ).cell 5
                  have xX196 : World.cell? wj ⟨wF.heap.size + 1, 6, none⟩ = some (.bool s26b) := (X19.below hJ).cell 6
                  have xX197 : World.cell? wj ⟨wF.heap.size + 1, 7, none⟩ = some (.int .u64 M26b) := (X19.below hJ).cell 7
                  have xX198 : World.cell? wj ⟨wF.heap.size + 1, 8, none⟩ = some (.int .i64 E26b) := (X19.below hJ).cell 8
                  go_simp
                  exact hK.out _ _ rfl (Below.refl _ _)
                refine Jo.jcons (i := 12) (o := ⟨some 110, _, _, _, _, _⟩) (di := some 110) (L := [(some 108, 10)]) (f := Jo.Fact.eq (.agg #[.int .i64 D4, .bool s4, .int .u64 M4, .int .i64 E4])) rfl rfl rfl rfl (fun vs wj hJ hd K hK => ?_) ?_
                · have d10 : (Jo.Fact.eq (.bool true)).P (vs 10) wj := hd 10 (by decide)
                  clear hd
                  simp only [Jo.putl, List.foldl_cons, List.foldl_nil, Act.put, List.setIfInBounds_toArray, List.set_cons_zero, List.set_cons_succ] at hK ⊢
                  generalize vs 10 = u10 at hK d10 ⊢
                  replace d10 : u10 = _ := d10
                  subst d10
                  have xX40 : World.cell? wj ⟨w.heap.size + 1 + 1 + 1 + 1, 0, none⟩ = some (.int .i64 D4) := (X4.below hJ).cell 0
                  have xX41 : World.cell? wj ⟨w.heap.size + 1 + 1 + 1 + 1, 1, none⟩ = some (.bool s4) := (X4.below hJ).cell 1
                  have xX42 : World.cell? wj ⟨w.heap.size + 1 + 1 + 1 + 1, 2, none⟩ = some (.int .u64 M4) := (X4.below hJ).cell 2
                  have xX43 : World.cell? wj ⟨w.heap.size + 1 + 1 + 1 + 1, 3, none⟩ = some (.int .i64 E4) := (X4.below hJ).cell 3
                  go_simp
                  exact hK.out _ _ rfl (Below.refl _ _)
                refine Jo.jcons (i := 13) (o := ⟨some 111, _, _, _, _, _⟩) (di := some 111) (L := [(some 108, 10), (some 109, 11), (some 110, 12)]) (f := Jo.Fact.eq (.bool true)) rfl rfl rfl rfl (fun vs wj hJ hd K hK => ?_) ?_
                · have d10 : (Jo.Fact.eq (.bool true)).P (vs 10) wj := hd 10 (by decide)
                  have d11 : (Jo.Fact.eq (.agg #[.bool e26, .int .i64 K26, .bool s26, .int .u64 M26, .int .i64 E26, .int .i64 K26b, .bool s26b, .int .u64 M26b, .int .i64 E26b])).P (vs 11) wj := hd 11 (by decide)
                  have d12 : (Jo.Fact.eq (.agg #[.int .i64 D4, .bool s4, .int .u64 M4, .int .i64 E4])).P (vs 12) wj := hd 12 (by decide)
                  clear hd
                  simp only [Jo.putl, List.foldl_cons, List.foldl_nil, Act.put, List.setIfInBounds_toArray, List.set_cons_zero, List.set_cons_succ] at hK ⊢
                  generalize vs 10 = u10 at hK d10 ⊢
                  generalize vs 11 = u11 at hK d11 ⊢
                  generalize vs 12 = u12 at hK d12 ⊢
                  replace d10 : u10 = _ := d10
                  subst d10
                  replace d11 : u11 = _ := d11
                  subst d11
                  replace d12 : u12 = _ := d12
                  subst d12
                  go_simp
                  refine (kvHas v26.top.1 v26.top.2 u4 v26.rk HN.out KB.out).mono ?_
                  rintro ee wk ⟨rfl, B⟩
                  exact hK.out _ _ rfl B
                refine Jo.jcons (i := 14) (o := ⟨some 112, _, _, _, _, _⟩) (di := some 112) (L := [(some 104, 6), (some 108, 10), (some 111, 13)]) (f := Jo.Fact.eq (.bool true)) rfl rfl rfl rfl (fun vs wj hJ hd K hK => ?_) ?_
                · have d6 : (Jo.Fact.eq (.bool false)).P (vs 6) wj := hd 6 (by decide)
                  have d10 : (Jo.Fact.eq (.bool true)).P (vs 10) wj := hd 10 (by decide)
                  have d13 : (Jo.Fact.eq (.bool true)).P (vs 13) wj := hd 13 (by decide)
                  clear hd
                  simp only [Jo.putl, List.foldl_cons, List.foldl_nil, Act.put, List.setIfInBounds_toArray, List.set_cons_zero, List.set_cons_succ] at hK ⊢
                  generalize vs 6 = u6 at hK d6 ⊢
                  generalize vs 10 = u10 at hK d10 ⊢
                  generalize vs 13 = u13 at hK d13 ⊢
                  replace d6 : u6 = _ := d6
                  subst d6
                  replace d10 : u10 = _ := d10
                  subst d10
                  replace d13 : u13 = _ := d13
                  subst d13
                  go_simp
                  exact hK.out _ _ rfl (Below.refl _ _)
                refine Jo.jcons (i := 15) (o := ⟨some 113, _, _, _, _, _⟩) (di := some 113) (L := [(some 104, 6), (some 112, 14)]) (f := Jo.Fact.eq (.bool true)) rfl rfl rfl rfl (fun vs wj hJ hd K hK => ?_) ?_
                · have d6 : (Jo.Fact.eq (.bool false)).P (vs 6) wj := hd 6 (by decide)
                  have d14 : (Jo.Fact.eq (.bool true)).P (vs 14) wj := hd 14 (by decide)
                  clear hd
                  simp only [Jo.putl, List.foldl_cons, List.foldl_nil, Act.put, List.setIfInBounds_toArray, List.set_cons_zero, List.set_cons_succ] at hK ⊢
                  generalize vs 6 = u6 at hK d6 ⊢
                  generalize vs 14 = u14 at hK d14 ⊢
                  replace d6 : u6 = _ := d6
                  subst d6
                  replace d14 : u14 = _ := d14
                  subst d14
                  go_simp
                  exact hK.out _ _ rfl (Below.refl _ _)
                refine Jo.jcons (i := 16) (o := ⟨some 23, _, _, _, _, _⟩) (di := some 23) (L := [(some 113, 15)]) (f := Jo.Fact.eq (.bool true)) rfl rfl rfl rfl (fun vs wj hJ hd K hK => ?_) ?_
                · have d15 : (Jo.Fact.eq (.bool true)).P (vs 15) wj := hd 15 (by decide)
                  clear hd
                  simp only [Jo.putl, List.foldl_cons, List.foldl_nil, Act.put, List.setIfInBounds_toArray, List.set_cons_zero, List.set_cons_succ] at hK ⊢
                  generalize vs 15 = u15 at hK d15 ⊢
                  replace d15 : u15 = _ := d15
                  subst d15
                  go_simp
                  exact hK.out _ _ rfl (Below.refl _ _)
                exact Jo.Steps.nil
              have d0 : (Jo.Fact.eq (.agg #[.bool e12, .int .i64 K12, .bool s12, .int .u64 M12, .int .i64 E12, .int .i64 K12b, .bool s12b, .int .u64 M12b, .int .i64 E12b])).P (vs 0) wK := hd 0 (by decide)
              have d1 : (Jo.Fact.eq (.agg #[.bool e13, .int .i64 K13, .bool s13, .int .u64 M13, .int .i64 E13, .int .i64 K13b, .bool s13b, .int .u64 M13b, .int .i64 E13b])).P (vs 1) wK := hd 1 (by decide)
              have d2 : (Jo.Fact.iv sC).P (vs 2) wK := hd 2 (by decide)
              have d3 : (Jo.Fact.eq (.agg #[.bool e0, .int .i64 D0, .bool s0, .int .u64 M0, .int .i64 E0, .int .i64 G0, .bool g0, .int .u64 P0, .int .i64 Q0])).P (vs 3) wK := hd 3 (by decide)
              have d4 : (Jo.Fact.eq (.bool true)).P (vs 4) wK := hd 4 (by decide)
              have d5 : (Jo.Fact.eq (.bool false)).P (vs 5) wK := hd 5 (by decide)
              have d6 : (Jo.Fact.eq (.bool false)).P (vs 6) wK := hd 6 (by decide)
              have d7 : (Jo.Fact.eq (.agg #[.bool e25, .int .i64 K25, .bool s25, .int .u64 M25, .int .i64 E25, .int .i64 K25b, .bool s25b, .int .u64 M25b, .int .i64 E25b])).P (vs 7) wK := hd 7 (by decide)
              have d8 : (Jo.Fact.eq (.agg #[.int .i64 D3, .bool s3, .int .u64 M3, .int .i64 E3])).P (vs 8) wK := hd 8 (by decide)
              have d9 : (Jo.Fact.eq (.bool true)).P (vs 9) wK := hd 9 (by decide)
              have d10 : (Jo.Fact.eq (.bool true)).P (vs 10) wK := hd 10 (by decide)
              have d11 : (Jo.Fact.eq (.agg #[.bool e26, .int .i64 K26, .bool s26, .int .u64 M26, .int .i64 E26, .int .i64 K26b, .bool s26b, .int .u64 M26b, .int .i64 E26b])).P (vs 11) wK := hd 11 (by decide)
              have d12 : (Jo.Fact.eq (.agg #[.int .i64 D4, .bool s4, .int .u64 M4, .int .i64 E4])).P (vs 12) wK := hd 12 (by decide)
              have d13 : (Jo.Fact.eq (.bool true)).P (vs 13) wK := hd 13 (by decide)
              have d14 : (Jo.Fact.eq (.bool true)).P (vs 14) wK := hd 14 (by decide)
              have d15 : (Jo.Fact.eq (.bool true)).P (vs 15) wK := hd 15 (by decide)
              have d16 : (Jo.Fact.eq (.bool true)).P (vs 16) wK := hd 16 (by decide)
              clear hd
              simp only [Jo.putl, List.foldl_cons, List.foldl_nil, Act.put, List.setIfInBounds_toArray, List.set_cons_zero, List.set_cons_succ]
              generalize vs 0 = u0 at d0 ⊢
              generalize vs 1 = u1 at d1 ⊢
              generalize vs 2 = u2 at d2 ⊢
              generalize vs 3 = u3 at d3 ⊢
              generalize vs 4 = u4 at d4 ⊢
              generalize vs 5 = u5 at d5 ⊢
              generalize vs 6 = u6 at d6 ⊢
              generalize vs 7 = u7 at d7 ⊢
              generalize vs 8 = u8 at d8 ⊢
              generalize vs 9 = u9 at d9 ⊢
              generalize vs 10 = u10 at d10 ⊢
              generalize vs 11 = u11 at d11 ⊢
              generalize vs 12 = u12 at d12 ⊢
              generalize vs 13 = u13 at d13 ⊢
              generalize vs 14 = u14 at d14 ⊢
              generalize vs 15 = u15 at d15 ⊢
              generalize vs 16 = u16 at d16 ⊢
              clear vs
              replace d0 : u0 = _ := d0
              subst d0
              replace d1 : u1 = _ := d1
              subst d1
              obtain ⟨e31, K31, s31, M31, E31, K31b, s31b, M31b, E31b, rfl, v31⟩ := d2
              replace d3 : u3 = _ := d3
              subst d3
              replace d4 : u4 = _ := d4
              subst d4
              replace d5 : u5 = _ := d5
              subst d5
              replace d6 : u6 = _ := d6
              subst d6
              replace d7 : u7 = _ := d7
              subst d7
              replace d8 : u8 = _ := d8
              subst d8
              replace d9 : u9 = _ := d9
              subst d9
              replace d10 : u10 = _ := d10
              subst d10
              replace d11 : u11 = _ := d11
              subst d11
              replace d12 : u12 = _ := d12
              subst d12
              replace d13 : u13 = _ := d13
              subst d13
              replace d14 : u14 = _ := d14
              subst d14
              replace d15 : u15 = _ := d15
              subst d15
              replace d16 : u16 = _ := d16
              subst d16
              replace X0 := X0.below hJ
              replace X3 := X3.below hJ
              replace X4 := X4.below hJ
              replace X12 := X12.below hJ
              replace X13 := X13.below hJ
              replace X18 := X18.below hJ
              replace X19 := X19.below hJ
              replace X20 := X20.below hJ
              replace hT2 := hT2.below hJ
              replace HB := Lib.hid (bt HB.out hJ)
              refine Jo.jdone (by kernel_rfl) ?_
              go_wp2_with fail
              go_meet
              exact ⟨rfl, X0, X3, X4, X12, X20, HB.out⟩
          case rest =>
            obtain ⟨rfl, X0, X3, X4, X12, X20, hB⟩ := hcut
            replace HB := Lib.hid hB
            have hT2 := HT0.out.below hB
            clear hB
            go_upto_region 13 with (fail)
            go_cut [24] (fun v wx => v = .bool true ∧ Bo wx (w.heap.size) #[.bool e0, .int .i64 D0, .bool s0, .int .u64 M0, .int .i64 E0, .int .i64 G0, .bool g0, .int .u64 P0, .int .i64 Q0] 26 ∧ Bo wx (w.heap.size + 1 + 1 + 1) #[.int .i64 D3, .bool s3, .int .u64 M3, .int .i64 E3] 24 ∧ Bo wx (w.heap.size + 1 + 1 + 1 + 1) #[.int .i64 D4, .bool s4, .int .u64 M4, .int .i64 E4] 24 ∧ Bo wx (w5.heap.size) #[.bool e12, .int .i64 K12, .bool s12, .int .u64 M12, .int .i64 E12, .int .i64 K12b, .bool s12b, .int .u64 M12b, .int .i64 E12b] 26 ∧ Below w.heap.size w wx)
            case first =>
              cases tD
              · refine Jo.region_joint (T := [0, 1, 2, 3, 4, 5, 6, 7, 8, 9, 10]) (ds := [some 114, some 115, some 116, some 117, some 118, some 119, some 120, some 121, some 122, some 123, some 24]) (ls := [[], [0], [], [1, 2], [3], [4], [5], [5], [5, 6, 7], [5, 8], [9]]) (k := 11) (L := [(some 114, 0), (some 115, 1), (some 116, 2), (some 117, 3), (some 118, 4), (some 119, 5), (some 120, 6), (some 121, 7), (some 122, 8), (some 123, 9), (some 24, 10)]) (fuel := 0) (J := fun wj => Below (World.heap wc).size wc wj)
                  (F := [Jo.Fact.eq (.agg #[.bool e12, .int .i64 K12, .bool s12, .int .u64 M12, .int .i64 E12, .int .i64 K12b, .bool s12b, .int .u64 M12b, .int .i64 E12b]), Jo.Fact.iv sD, Jo.Fact.eq (.agg #[.bool e0, .int .i64 D0, .bool s0, .int .u64 M0, .int .i64 E0, .int .i64 G0, .bool g0, .int .u64 P0, .int .i64 Q0]), Jo.Fact.eq (.bool false), Jo.Fact.eq (.bool true), Jo.Fact.eq (.bool true), Jo.Fact.eq undef, Jo.Fact.eq undef, Jo.Fact.eq undef, Jo.Fact.eq (.bool true), Jo.Fact.eq (.bool true)])
                  (by kernel_rfl) (by kernel_rfl) (by decide) rfl rfl (fun _ _ h b => bt h b) ((Below.refl _ _).drew) ?_ (fun vs wK hJ hd => ?_)
                · refine Jo.jcons (i := 0) (o := ⟨some 114, _, _, _, _, _⟩) (di := some 114) (L := []) (f := Jo.Fact.eq (.agg #[.bool e12, .int .i64 K12, .bool s12, .int .u64 M12, .int .i64 E12, .int .i64 K12b, .bool s12b, .int .u64 M12b, .int .i64 E12b])) rfl rfl rfl rfl (fun vs wj hJ hd K hK => ?_) ?_
                  · clear hd
                    simp only [Jo.putl, List.foldl_nil, Act.put, List.setIfInBounds_toArray, List.set_cons_zero, List.set_cons_succ] at hK ⊢
                    have xX120 : World.cell? wj ⟨w5.heap.size, 0, none⟩ = some (.bool e12) := (X12.below hJ).cell 0
                    have xX121 : World.cell? wj ⟨w5.heap.size, 1, none⟩ = some (.int .i64 K12) := (X12.below hJ).cell 1
                    have xX122 : World.cell? wj ⟨w5.heap.size, 2, none⟩ = some (.bool s12) := (X12.below hJ).cell 2
                    have xX123 : World.cell? wj ⟨w5.heap.size, 3, none⟩ = some (.int .u64 M12) := (X12.below hJ).cell 3
                    have xX124 : World.cell? wj ⟨w5.heap.size, 4, none⟩ = some (.int .i64 E12) := (X12.below hJ).cell 4
                    have xX125 : World.cell? wj ⟨w5.heap.size, 5, none⟩ = some (.int .i64 K12b) := (X12.below hJ).cell 5
                    have xX126 : World.cell? wj ⟨w5.heap.size, 6, none⟩ = some (.bool s12b) := (X12.below hJ).cell 6
                    have xX127 : World.cell? wj ⟨w5.heap.size, 7, none⟩ = some (.int .u64 M12b) := (X12.below hJ).cell 7
                    have xX128 : World.cell? wj ⟨w5.heap.size, 8, none⟩ = some (.int .i64 E12b) := (X12.below hJ).cell 8
                    go_simp
                    exact hK.out _ _ rfl (Below.refl _ _)
                  refine Jo.jcons (i := 1) (o := ⟨some 115, _, _, _, _, _⟩) (di := some 115) (L := [(some 114, 0)]) (f := Jo.Fact.iv sD) rfl rfl rfl rfl (fun vs wj hJ hd K hK => ?_) ?_
                  · have d0 : (Jo.Fact.eq (.agg #[.bool e12, .int .i64 K12, .bool s12, .int .u64 M12, .int .i64 E12, .int .i64 K12b, .bool s12b, .int .u64 M12b, .int .i64 E12b])).P (vs 0) wj := hd 0 (by decide)
                    clear hd
                    simp only [Jo.putl, List.foldl_cons, List.foldl_nil, Act.put, List.setIfInBounds_toArray, List.set_cons_zero, List.set_cons_succ] at hK ⊢
                    generalize vs 0 = u0 at hK d0 ⊢
                    replace d0 : u0 = _ := d0
                    subst d0
                    go_simp
                    refine (fkSqr v12.top.1 v12.top.2 v12.rk HSD.out).mono ?_
                    rintro ee wk ⟨e31, K31, s31, M31, E31, K31b, s31b, M31b, E31b, rfl, v31, B⟩
                    exact hK.out _ _ ⟨e31, K31, s31, M31, E31, K31b, s31b, M31b, E31b, rfl, v31⟩ B
                  refine Jo.jcons (i := 2) (o := ⟨some 116, _, _, _, _, _⟩) (di := some 116) (L := []) (f := Jo.Fact.eq (.agg #[.bool e0, .int .i64 D0, .bool s0, .int .u64 M0, .int .i64 E0, .int .i64 G0, .bool g0, .int .u64 P0, .int .i64 Q0])) rfl rfl rfl rfl (fun vs wj hJ hd K hK => ?_) ?_
                  · clear hd
                    simp only [Jo.putl, List.foldl_nil, Act.put, List.setIfInBounds_toArray, List.set_cons_zero, List.set_cons_succ] at hK ⊢
                    have xX00 : World.cell? wj ⟨w.heap.size, 0, none⟩ = some (.bool e0) := (X0.below hJ).cell 0
                    have xX01 : World.cell? wj ⟨w.heap.size, 1, none⟩ = some (.int .i64 D0) := (X0.below hJ).cell 1
                    have xX02 : World.cell? wj ⟨w.heap.size, 2, none⟩ = some (.bool s0) := (X0.below hJ).cell 2
                    have xX03 : World.cell? wj ⟨w.heap.size, 3, none⟩ = some (.int .u64 M0) := (X0.below hJ).cell 3
                    have xX04 : World.cell? wj ⟨w.heap.size, 4, none⟩ = some (.int .i64 E0) := (X0.below hJ).cell 4
                    have xX05 : World.cell? wj ⟨w.heap.size, 5, none⟩ = some (.int .i64 G0) := (X0.below hJ).cell 5
                    have xX06 : World.cell? wj ⟨w.heap.size, 6, none⟩ = some (.bool g0) := (X0.below hJ).cell 6
                    have xX07 : World.cell? wj ⟨w.heap.size, 7, none⟩ = some (.int .u64 P0) := (X0.below hJ).cell 7
                    have xX08 : World.cell? wj ⟨w.heap.size, 8, none⟩ = some (.int .i64 Q0) := (X0.below hJ).cell 8
                    go_simp
                    exact hK.out _ _ rfl (Below.refl _ _)
                  refine Jo.jcons (i := 3) (o := ⟨some 117, _, _, _, _, _⟩) (di := some 117) (L := [(some 115, 1), (some 116, 2)]) (f := Jo.Fact.eq (.bool false)) rfl rfl rfl rfl (fun vs wj hJ hd K hK => ?_) ?_
                  · have d1 : (Jo.Fact.iv sD).P (vs 1) wj := hd 1 (by decide)
                    have d2 : (Jo.Fact.eq (.agg #[.bool e0, .int .i64 D0, .bool s0, .int .u64 M0, .int .i64 E0, .int .i64 G0, .bool g0, .int .u64 P0, .int .i64 Q0])).P (vs 2) wj := hd 2 (by decide)
                    clear hd
                    simp only [Jo.putl, List.foldl_cons, List.foldl_nil, Act.put, List.setIfInBounds_toArray, List.set_cons_zero, List.set_cons_succ] at hK ⊢
                    generalize vs 1 = u1 at hK d1 ⊢
                    generalize vs 2 = u2 at hK d2 ⊢
                    obtain ⟨e31, K31, s31, M31, E31, K31b, s31b, M31b, E31b, rfl, v31⟩ := d1
                    replace d2 : u2 = _ := d2
                    subst d2
                    go_simp
                    refine (kvWithin v31.top.1 v31.top.2 u0 v0 v31.rk HZ.out HTD.out).mono ?_
                    rintro ee wk ⟨rfl, B⟩
                    exact hK.out _ _ rfl B
                  refine Jo.jcons (i := 4) (o := ⟨some 118, _, _, _, _, _⟩) (di := some 118) (L := [(some 117, 3)]) (f := Jo.Fact.eq (.bool true)) rfl rfl rfl rfl (fun vs wj hJ hd K hK => ?_) ?_
                  · have d3 : (Jo.Fact.eq (.bool false)).P (vs 3) wj := hd 3 (by decide)
                    clear hd
                    simp only [Jo.putl, List.foldl_cons, List.foldl_nil, Act.put, List.setIfInBounds_toArray, List.set_cons_zero, List.set_cons_succ] at hK ⊢
                    generalize vs 3 = u3 at hK d3 ⊢
                    replace d3 : u3 = _ := d3
                    subst d3
                    go_simp
                    exact hK.out _ _ rfl (Below.refl _ _)
                  refine Jo.jcons (i := 5) (o := ⟨some 119, _, _, _, _, _⟩) (di := some 119) (L := [(some 118, 4)]) (f := Jo.Fact.eq (.bool true)) rfl rfl rfl rfl (fun vs wj hJ hd K hK => ?_) ?_
                  · have d4 : (Jo.Fact.eq (.bool true)).P (vs 4) wj := hd 4 (by decide)
                    clear hd
                    simp only [Jo.putl, List.foldl_cons, List.foldl_nil, Act.put, List.setIfInBounds_toArray, List.set_cons_zero, List.set_cons_succ] at hK ⊢
                    generalize vs 4 = u4 at hK d4 ⊢
                    replace d4 : u4 = _ := d4
                    subst d4
                    go_simp
                    exact hK.out _ _ rfl (Below.refl _ _)
                  refine Jo.jcons (i := 6) (o := ⟨some 120, _, _, _, _, _⟩) (di := some 120) (L := [(some 119, 5)]) (f := Jo.Fact.eq undef) rfl rfl rfl rfl (fun vs wj hJ hd K hK => ?_) ?_
                  · have d5 : (Jo.Fact.eq (.bool true)).P (vs 5) wj := hd 5 (by decide)
                    clear hd
                    simp only [Jo.putl, List.foldl_cons, List.foldl_nil, Act.put, List.setIfInBounds_toArray, List.set_cons_zero, List.set_cons_succ] at hK ⊢
                    generalize vs 5 = u5 at hK d5 ⊢
                    replace d5 : u5 = _ := d5
                    subst d5
                    go_simp
                    exact hK.out _ _ rfl (Below.refl _ _)
                  refine Jo.jcons (i := 7) (o := ⟨some 121, _, _, _, _, _⟩) (di := some 121) (L := [(some 119, 5)]) (f := Jo.Fact.eq undef) rfl rfl rfl rfl (fun vs wj hJ hd K hK => ?_) ?_
                  · have d5 : (Jo.Fact.eq (.bool true)).P (vs 5) wj := hd 5 (by decide)
                    clear hd
                    simp only [Jo.putl, List.foldl_cons, List.foldl_nil, Act.put, List.setIfInBounds_toArray, List.set_cons_zero, List.set_cons_succ] at hK ⊢
                    generalize vs 5 = u5 at hK d5 ⊢
                    replace d5 : u5 = _ := d5
                    subst d5
                    go_simp
                    exact hK.out _ _ rfl (Below.refl _ _)
                  refine Jo.jcons (i := 8) (o := ⟨some 122, _, _, _, _, _⟩) (di := some 122) (L := [(some 119, 5), (some 120, 6), (some 121, 7)]) (f := Jo.Fact.eq undef) rfl rfl rfl rfl (fun vs wj hJ hd K hK => ?_) ?_
                  · have d5 : (Jo.Fact.eq (.bool true)).P (vs 5) wj := hd 5 (by decide)
                    have d6 : (Jo.Fact.eq undef).P (vs 6) wj := hd 6 (by decide)
                    have d7 : (Jo.Fact.eq undef).P (vs 7) wj := hd 7 (by decide)
                    clear hd
                    simp only [Jo.putl, List.foldl_cons, List.foldl_nil, Act.put, List.setIfInBounds_toArray, List.set_cons_zero, List.set_cons_succ] at hK ⊢
                    generalize vs 5 = u5 at hK d5 ⊢
                    generalize vs 6 = u6 at hK d6 ⊢
                    generalize vs 7 = u7 at hK d7 ⊢
                    replace d5 : u5 = _ := d5
                    subst d5
                    replace d6 : u6 = _ := d6
                    subst d6
                    replace d7 : u7 = _ := d7
                    subst d7
                    go_simp
                    exact hK.out _ _ rfl (Below.refl _ _)
                  refine Jo.jcons (i := 9) (o := ⟨some 123, _, _, _, _, _⟩) (di := some 123) (L := [(some 119, 5), (some 122, 8)]) (f := Jo.Fact.eq (.bool true)) rfl rfl rfl rfl (fun vs wj hJ hd K hK => ?_) ?_
                  · have d5 : (Jo.Fact.eq (.bool true)).P (vs 5) wj := hd 5 (by decide)
                    have d8 : (Jo.Fact.eq undef).P (vs 8) wj := hd 8 (by decide)
                    clear hd
                    simp only [Jo.putl, List.foldl_cons, List.foldl_nil, Act.put, List.setIfInBounds_toArray, List.set_cons_zero, List.set_cons_succ] at hK ⊢
                    generalize vs 5 = u5 at hK d5 ⊢
                    generalize vs 8 = u8 at hK d8 ⊢
                    replace d5 : u5 = _ := d5
                    subst d5
                    replace d8 : u8 = _ := d8
                    subst d8
                    go_simp
                    exact hK.out _ _ rfl (Below.refl _ _)
                  refine Jo.jcons (i := 10) (o := ⟨some 24, _, _, _, _, _⟩) (di := some 24) (L := [(some 123, 9)]) (f := Jo.Fact.eq (.bool true)) rfl rfl rfl rfl (fun vs wj hJ hd K hK => ?_) ?_
                  · have d9 : (Jo.Fact.eq (.bool true)).P (vs 9) wj := hd 9 (by decide)
                    clear hd
                    simp only [Jo.putl, List.foldl_cons, List.foldl_nil, Act.put, List.setIfInBounds_toArray, List.set_cons_zero, List.set_cons_succ] at hK ⊢
                    generalize vs 9 = u9 at hK d9 ⊢
                    replace d9 : u9 = _ := d9
                    subst d9
                    go_simp
                    exact hK.out _ _ rfl (Below.refl _ _)
                  exact Jo.Steps.nil
                have d0 : (Jo.Fact.eq (.agg #[.bool e12, .int .i64 K12, .bool s12, .int .u64 M12, .int .i64 E12, .int .i64 K12b, .bool s12b, .int .u64 M12b, .int .i64 E12b])).P (vs 0) wK := hd 0 (by decide)
                have d1 : (Jo.Fact.iv sD).P (vs 1) wK := hd 1 (by decide)
                have d2 : (Jo.Fact.eq (.agg #[.bool e0, .int .i64 D0, .bool s0, .int .u64 M0, .int .i64 E0, .int .i64 G0, .bool g0, .int .u64 P0, .int .i64 Q0])).P (vs 2) wK := hd 2 (by decide)
                have d3 : (Jo.Fact.eq (.bool false)).P (vs 3) wK := hd 3 (by decide)
                have d4 : (Jo.Fact.eq (.bool true)).P (vs 4) wK := hd 4 (by decide)
                have d5 : (Jo.Fact.eq (.bool true)).P (vs 5) wK := hd 5 (by decide)
                have d6 : (Jo.Fact.eq undef).P (vs 6) wK := hd 6 (by decide)
                have d7 : (Jo.Fact.eq undef).P (vs 7) wK := hd 7 (by decide)
                have d8 : (Jo.Fact.eq undef).P (vs 8) wK := hd 8 (by decide)
                have d9 : (Jo.Fact.eq (.bool true)).P (vs 9) wK := hd 9 (by decide)
                have d10 : (Jo.Fact.eq (.bool true)).P (vs 10) wK := hd 10 (by decide)
                clear hd
                simp only [Jo.putl, List.foldl_cons, List.foldl_nil, Act.put, List.setIfInBounds_toArray, List.set_cons_zero, List.set_cons_succ]
                generalize vs 0 = u0 at d0 ⊢
                generalize vs 1 = u1 at d1 ⊢
                generalize vs 2 = u2 at d2 ⊢
                generalize vs 3 = u3 at d3 ⊢
                generalize vs 4 = u4 at d4 ⊢
                generalize vs 5 = u5 at d5 ⊢
                generalize vs 6 = u6 at d6 ⊢
                generalize vs 7 = u7 at d7 ⊢
                generalize vs 8 = u8 at d8 ⊢
                generalize vs 9 = u9 at d9 ⊢
                generalize vs 10 = u10 at d10 ⊢
                clear vs
                replace d0 : u0 = _ := d0
                subst d0
                obtain ⟨e31, K31, s31, M31, E31, K31b, s31b, M31b, E31b, rfl, v31⟩ := d1
                replace d2 : u2 = _ := d2
                subst d2
                replace d3 : u3 = _ := d3
                subst d3
                replace d4 : u4 = _ := d4
                subst d4
                replace d5 : u5 = _ := d5
                subst d5
                replace d6 : u6 = _ := d6
                subst d6
                replace d7 : u7 = _ := d7
                subst d7
                replace d8 : u8 = _ := d8
                subst d8
                replace d9 : u9 = _ := d9
                subst d9
                replace d10 : u10 = _ := d10
                subst d10
                replace X0 := X0.below hJ
                replace X3 := X3.below hJ
                replace X4 := X4.below hJ
                replace X12 := X12.below hJ
                replace X20 := X20.below hJ
                replace hT2 := hT2.below hJ
                replace HB := Lib.hid (bt HB.out hJ)
                refine Jo.jdone (by kernel_rfl) ?_
                go_wp2_with fail
                go_meet
                exact ⟨rfl, X0, X3, X4, X12, HB.out⟩
              · refine Jo.region_joint (T := [0, 1, 2, 3, 4, 5, 6, 7, 8, 9, 10]) (ds := [some 114, some 115, some 116, some 117, some 118, some 119, some 120, some 121, some 122, some 123, some 24]) (ls := [[], [0], [], [1, 2], [3], [4], [5], [5], [5, 6, 7], [5, 8], [9]]) (k := 11) (L := [(some 114, 0), (some 115, 1), (some 116, 2), (some 117, 3), (some 118, 4), (some 119, 5), (some 120, 6), (some 121, 7), (some 122, 8), (some 123, 9), (some 24, 10)]) (fuel := 0) (J := fun wj => Below (World.heap wc).size wc wj)
                  (F := [Jo.Fact.eq (.agg #[.bool e12, .int .i64 K12, .bool s12, .int .u64 M12, .int .i64 E12, .int .i64 K12b, .bool s12b, .int .u64 M12b, .int .i64 E12b]), Jo.Fact.iv sD, Jo.Fact.eq (.agg #[.bool e0, .int .i64 D0, .bool s0, .int .u64 M0, .int .i64 E0, .int .i64 G0, .bool g0, .int .u64 P0, .int .i64 Q0]), Jo.Fact.eq (.bool true), Jo.Fact.eq (.bool false), Jo.Fact.eq (.bool false), Jo.Fact.eq (.agg #[.bool e27, .int .i64 K27, .bool s27, .int .u64 M27, .int .i64 E27, .int .i64 K27b, .bool s27b, .int .u64 M27b, .int .i64 E27b]), Jo.Fact.eq (.agg #[.int .i64 D3, .bool s3, .int .u64 M3, .int .i64 E3]), Jo.Fact.eq (.bool true), Jo.Fact.eq (.bool true), Jo.Fact.eq (.bool true)])
                  (by kernel_rfl) (by kernel_rfl) (by decide) rfl rfl (fun _ _ h b => bt h b) ((Below.refl _ _).drew) ?_ (fun vs wK hJ hd => ?_)
                · refine Jo.jcons (i := 0) (o := ⟨some 114, _, _, _, _, _⟩) (di := some 114) (L := []) (f := Jo.Fact.eq (.agg #[.bool e12, .int .i64 K12, .bool s12, .int .u64 M12, .int .i64 E12, .int .i64 K12b, .bool s12b, .int .u64 M12b, .int .i64 E12b])) rfl rfl rfl rfl (fun vs wj hJ hd K hK => ?_) ?_
                  · clear hd
                    simp only [Jo.putl, List.foldl_nil, Act.put, List.setIfInBounds_toArray, List.set_cons_zero, List.set_cons_succ] at hK ⊢
                    have xX120 : World.cell? wj ⟨w5.heap.size, 0, none⟩ = some (.bool e12) := (X12.below hJ).cell 0
                    have xX121 : World.cell? wj ⟨w5.heap.size, 1, none⟩ = some (.int .i64 K12) := (X12.below hJ).cell 1
                    have xX122 : World.cell? wj ⟨w5.heap.size, 2, none⟩ = some (.bool s12) := (X12.below hJ).cell 2
                    have xX123 : World.cell? wj ⟨w5.heap.size, 3, none⟩ = some (.int .u64 M12) := (X12.below hJ).cell 3
                    have xX124 : World.cell? wj ⟨w5.heap.size, 4, none⟩ = some (.int .i64 E12) := (X12.below hJ).cell 4
                    have xX125 : World.cell? wj ⟨w5.heap.size, 5, none⟩ = some (.int .i64 K12b) := (X12.below hJ).cell 5
                    have xX126 : World.cell? wj ⟨w5.heap.size, 6, none⟩ = some (.bool s12b) := (X12.below hJ).cell 6
                    have xX127 : World.cell? wj ⟨w5.heap.size, 7, none⟩ = some (.int .u64 M12b) := (X12.below hJ).cell 7
                    have xX128 : World.cell? wj ⟨w5.heap.size, 8, none⟩ = some (.int .i64 E12b) := (X12.below hJ).cell 8
                    go_simp
                    exact hK.out _ _ rfl (Below.refl _ _)
                  refine Jo.jcons (i := 1) (o := ⟨some 115, _, _, _, _, _⟩) (di := some 115) (L := [(some 114, 0)]) (f := Jo.Fact.iv sD) rfl rfl rfl rfl (fun vs wj hJ hd K hK => ?_) ?_
                  · have d0 : (Jo.Fact.eq (.agg #[.bool e12, .int .i64 K12, .bool s12, .int .u64 M12, .int .i64 E12, .int .i64 K12b, .bool s12b, .int .u64 M12b, .int .i64 E12b])).P (vs 0) wj := hd 0 (by decide)
                    clear hd
                    simp only [Jo.putl, List.foldl_cons, List.foldl_nil, Act.put, List.setIfInBounds_toArray, List.set_cons_zero, List.set_cons_succ] at hK ⊢
                    generalize vs 0 = u0 at hK d0 ⊢
                    replace d0 : u0 = _ := d0
                    subst d0
                    go_simp
                    refine (fkSqr v12.top.1 v12.top.2 v12.rk HSD.out).mono ?_
                    rintro ee wk ⟨e31, K31, s31, M31, E31, K31b, s31b, M31b, E31b, rfl, v31, B⟩
                    exact hK.out _ _ ⟨e31, K31, s31, M31, E31, K31b, s31b, M31b, E31b, rfl, v31⟩ B
                  refine Jo.jcons (i := 2) (o := ⟨some 116, _, _, _, _, _⟩) (di := some 116) (L := []) (f := Jo.Fact.eq (.agg #[.bool e0, .int .i64 D0, .bool s0, .int .u64 M0, .int .i64 E0, .int .i64 G0, .bool g0, .int .u64 P0, .int .i64 Q0])) rfl rfl rfl rfl (fun vs wj hJ hd K hK => ?_) ?_
                  · clear hd
                    simp only [Jo.putl, List.foldl_nil, Act.put, List.setIfInBounds_toArray, List.set_cons_zero, List.set_cons_succ] at hK ⊢
                    have xX00 : World.cell? wj ⟨w.heap.size, 0, none⟩ = some (.bool e0) := (X0.below hJ).cell 0
                    have xX01 : World.cell? wj ⟨w.heap.size, 1, none⟩ = some (.int .i64 D0) := (X0.below hJ).cell 1
                    have xX02 : World.cell? wj ⟨w.heap.size, 2, none⟩ = some (.bool s0) := (X0.below hJ).cell 2
                    have xX03 : World.cell? wj ⟨w.heap.size, 3, none⟩ = some (.int .u64 M0) := (X0.below hJ).cell 3
                    have xX04 : World.cell? wj ⟨w.heap.size, 4, none⟩ = some (.int .i64 E0) := (X0.below hJ).cell 4
                    have xX05 : World.cell? wj ⟨w.heap.size, 5, none⟩ = some (.int .i64 G0) := (X0.below hJ).cell 5
                    have xX06 : World.cell? wj ⟨w.heap.size, 6, none⟩ = some (.bool g0) := (X0.below hJ).cell 6
                    have xX07 : World.cell? wj ⟨w.heap.size, 7, none⟩ = some (.int .u64 P0) := (X0.below hJ).cell 7
                    have xX08 : World.cell? wj ⟨w.heap.size, 8, none⟩ = some (.int .i64 Q0) := (X0.below hJ).cell 8
                    go_simp
                    exact hK.out _ _ rfl (Below.refl _ _)
                  refine Jo.jcons (i := 3) (o := ⟨some 117, _, _, _, _, _⟩) (di := some 117) (L := [(some 115, 1), (some 116, 2)]) (f := Jo.Fact.eq (.bool true)) rfl rfl rfl rfl (fun vs wj hJ hd K hK => ?_) ?_
                  · have d1 : (Jo.Fact.iv sD).P (vs 1) wj := hd 1 (by decide)
                    have d2 : (Jo.Fact.eq (.agg #[.bool e0, .int .i64 D0, .bool s0, .int .u64 M0, .int .i64 E0, .int .i64 G0, .bool g0, .int .u64 P0, .int .i64 Q0])).P (vs 2) wj := hd 2 (by decide)
                    clear hd
                    simp only [Jo.putl, List.foldl_cons, List.foldl_nil, Act.put, List.setIfInBounds_toArray, List.set_cons_zero, List.set_cons_succ] at hK ⊢
                    generalize vs 1 = u1 at hK d1 ⊢
                    generalize vs 2 = u2 at hK d2 ⊢
                    obtain ⟨e31, K31, s31, M31, E31, K31b, s31b, M31b, E31b, rfl, v31⟩ := d1
                    replace d2 : u2 = _ := d2
                    subst d2
                    go_simp
                    refine (kvWithin v31.top.1 v31.top.2 u0 v0 v31.rk HZ.out HTD.out).mono ?_
                    rintro ee wk ⟨rfl, B⟩
                    exact hK.out _ _ rfl B
                  refine Jo.jcons (i := 4) (o := ⟨some 118, _, _, _, _, _⟩) (di := some 118) (L := [(some 117, 3)]) (f := Jo.Fact.eq (.bool false)) rfl rfl rfl rfl (fun vs wj hJ hd K hK => ?_) ?_
                  · have d3 : (Jo.Fact.eq (.bool true)).P (vs 3) wj := hd 3 (by decide)
                    clear hd
                    simp only [Jo.putl, List.foldl_cons, List.foldl_nil, Act.put, List.setIfInBounds_toArray, List.set_cons_zero, List.set_cons_succ] at hK ⊢
                    generalize vs 3 = u3 at hK d3 ⊢
                    replace d3 : u3 = _ := d3
                    subst d3
                    go_simp
                    exact hK.out _ _ rfl (Below.refl _ _)
                  refine Jo.jcons (i := 5) (o := ⟨some 119, _, _, _, _, _⟩) (di := some 119) (L := [(some 118, 4)]) (f := Jo.Fact.eq (.bool false)) rfl rfl rfl rfl (fun vs wj hJ hd K hK => ?_) ?_
                  · have d4 : (Jo.Fact.eq (.bool false)).P (vs 4) wj := hd 4 (by decide)
                    clear hd
                    simp only [Jo.putl, List.foldl_cons, List.foldl_nil, Act.put, List.setIfInBounds_toArray, List.set_cons_zero, List.set_cons_succ] at hK ⊢
                    generalize vs 4 = u4 at hK d4 ⊢
                    replace d4 : u4 = _ := d4
                    subst d4
                    go_simp
                    exact hK.out _ _ rfl (Below.refl _ _)
                  refine Jo.jcons (i := 6) (o := ⟨some 120, _, _, _, _, _⟩) (di := some 120) (L := [(some 119, 5)]) (f := Jo.Fact.eq (.agg #[.bool e27, .int .i64 K27, .bool s27, .int .u64 M27, .int .i64 E27, .int .i64 K27b, .bool s27b, .int .u64 M27b, .int .i64 E27b])) rfl rfl rfl rfl (fun vs wj hJ hd K hK => ?_) ?_
                  · have d5 : (Jo.Fact.eq (.bool false)).P (vs 5) wj := hd 5 (by decide)
                    clear hd
                    simp only [Jo.putl, List.foldl_cons, List.foldl_nil, Act.put, List.setIfInBounds_toArray, List.set_cons_zero, List.set_cons_succ] at hK ⊢
                    generalize vs 5 = u5 at hK d5 ⊢
                    replace d5 : u5 = _ := d5
                    subst d5
                    have xX200 : World.cell? wj ⟨wI.heap.size, 0, none⟩ = some (.bool e27) := (X20.below hJ).cell 0
                    have xX201 : World.cell? wj ⟨wI.heap.size, 1, none⟩ = some (.int .i64 K27) := (X20.below hJ).cell 1
                    have xX202 : World.cell? wj ⟨wI.heap.size, 2, none⟩ = some (.bool s27) := (X20.below hJ).cell 2
                    have xX203 : World.cell? wj ⟨wI.heap.size, 3, none⟩ = some (.int .u64 M27) := (X20.below hJ).cell 3
                    have xX204 : World.cell? wj ⟨wI.heap.size, 4, none⟩ = some (.int .i64 E27) := (X20.below hJ).cell 4
                    have xX205 : World.cell? wj ⟨wI.heap.size, 5, none⟩ = some (.int .i64 K27b) := (X20.below hJ).cell 5
                    have xX206 : World.cell? wj ⟨wI.heap.size, 6, none⟩ = some (.bool s27b) := (X20.below hJ).cell 6
                    have xX207 : World.cell? wj ⟨wI.heap.size, 7, none⟩ = some (.int .u64 M27b) := (X20.below hJ).cell 7
                    have xX208 : World.cell? wj ⟨wI.heap.size, 8, none⟩ = some (.int .i64 E27b) := (X20.below hJ).cell 8
                    go_simp
                    exact hK.out _ _ rfl (Below.refl _ _)
                  refine Jo.jcons (i := 7) (o := ⟨some 121, _, _, _, _, _⟩) (di := some 121) (L := [(some 119, 5)]) (f := Jo.Fact.eq (.agg #[.int .i64 D3, .bool s3, .int .u64 M3, .int .i64 E3])) rfl rfl rfl rfl (fun vs wj hJ hd K hK => ?_) ?_
                  · have d5 : (Jo.Fact.eq (.bool false)).P (vs 5) wj := hd 5 (by decide)
                    clear hd
                    simp only [Jo.putl, List.foldl_cons, List.foldl_nil, Act.put, List.setIfInBounds_toArray, List.set_cons_zero, List.set_cons_succ] at hK ⊢
                    generalize vs 5 = u5 at hK d5 ⊢
                    replace d5 : u5 = _ := d5
                    subst d5
                    have xX30 : World.cell? wj ⟨w.heap.size + 1 + 1 + 1, 0, none⟩ = some (.int .i64 D3) := (X3.below hJ).cell 0
                    have xX31 : World.cell? wj ⟨w.heap.size + 1 + 1 + 1, 1, none⟩ = some (.bool s3) := (X3.below hJ).cell 1
                    have xX32 : World.cell? wj ⟨w.heap.size + 1 + 1 + 1, 2, none⟩ = some (.int .u64 M3) := (X3.below hJ).cell 2
                    have xX33 : World.cell? wj ⟨w.heap.size + 1 + 1 + 1, 3, none⟩ = some (.int .i64 E3) := (X3.below hJ).cell 3
                    go_simp
                    exact hK.out _ _ rfl (Below.refl _ _)
                  refine Jo.jcons (i := 8) (o := ⟨some 122, _, _, _, _, _⟩) (di := some 122) (L := [(some 119, 5), (some 120, 6), (some 121, 7)]) (f := Jo.Fact.eq (.bool true)) rfl rfl rfl rfl (fun vs wj hJ hd K hK => ?_) ?_
                  · have d5 : (Jo.Fact.eq (.bool false)).P (vs 5) wj := hd 5 (by decide)
                    have d6 : (Jo.Fact.eq (.agg #[.bool e27, .int .i64 K27, .bool s27, .int .u64 M27, .int .i64 E27, .int .i64 K27b, .bool s27b, .int .u64 M27b, .int .i64 E27b])).P (vs 6) wj := hd 6 (by decide)
                    have d7 : (Jo.Fact.eq (.agg #[.int .i64 D3, .bool s3, .int .u64 M3, .int .i64 E3])).P (vs 7) wj := hd 7 (by decide)
                    clear hd
                    simp only [Jo.putl, List.foldl_cons, List.foldl_nil, Act.put, List.setIfInBounds_toArray, List.set_cons_zero, List.set_cons_succ] at hK ⊢
                    generalize vs 5 = u5 at hK d5 ⊢
                    generalize vs 6 = u6 at hK d6 ⊢
                    generalize vs 7 = u7 at hK d7 ⊢
                    replace d5 : u5 = _ := d5
                    subst d5
                    replace d6 : u6 = _ := d6
                    subst d6
                    replace d7 : u7 = _ := d7
                    subst d7
                    go_simp
                    refine (kvHas v27.top.1 v27.top.2 u3 v27.rk HM.out (HKD.out (by simp) (by simp) (by simp))).mono ?_
                    rintro ee wk ⟨rfl, B⟩
                    exact hK.out _ _ rfl B
                  refine Jo.jcons (i := 9) (o := ⟨some 123, _, _, _, _, _⟩) (di := some 123) (L := [(some 119, 5), (some 122, 8)]) (f := Jo.Fact.eq (.bool true)) rfl rfl rfl rfl (fun vs wj hJ hd K hK => ?_) ?_
                  · have d5 : (Jo.Fact.eq (.bool false)).P (vs 5) wj := hd 5 (by decide)
                    have d8 : (Jo.Fact.eq (.bool true)).P (vs 8) wj := hd 8 (by decide)
                    clear hd
                    simp only [Jo.putl, List.foldl_cons, List.foldl_nil, Act.put, List.setIfInBounds_toArray, List.set_cons_zero, List.set_cons_succ] at hK ⊢
                    generalize vs 5 = u5 at hK d5 ⊢
                    generalize vs 8 = u8 at hK d8 ⊢
                    replace d5 : u5 = _ := d5
                    subst d5
                    replace d8 : u8 = _ := d8
                    subst d8
                    go_simp
                    exact hK.out _ _ rfl (Below.refl _ _)
                  refine Jo.jcons (i := 10) (o := ⟨some 24, _, _, _, _, _⟩) (di := some 24) (L := [(some 123, 9)]) (f := Jo.Fact.eq (.bool true)) rfl rfl rfl rfl (fun vs wj hJ hd K hK => ?_) ?_
                  · have d9 : (Jo.Fact.eq (.bool true)).P (vs 9) wj := hd 9 (by decide)
                    clear hd
                    simp only [Jo.putl, List.foldl_cons, List.foldl_nil, Act.put, List.setIfInBounds_toArray, List.set_cons_zero, List.set_cons_succ] at hK ⊢
                    generalize vs 9 = u9 at hK d9 ⊢
                    replace d9 : u9 = _ := d9
                    subst d9
                    go_simp
                    exact hK.out _ _ rfl (Below.refl _ _)
                  exact Jo.Steps.nil
                have d0 : (Jo.Fact.eq (.agg #[.bool e12, .int .i64 K12, .bool s12, .int .u64 M12, .int .i64 E12, .int .i64 K12b, .bool s12b, .int .u64 M12b, .int .i64 E12b])).P (vs 0) wK := hd 0 (by decide)
                have d1 : (Jo.Fact.iv sD).P (vs 1) wK := hd 1 (by decide)
                have d2 : (Jo.Fact.eq (.agg #[.bool e0, .int .i64 D0, .bool s0, .int .u64 M0, .int .i64 E0, .int .i64 G0, .bool g0, .int .u64 P0, .int .i64 Q0])).P (vs 2) wK := hd 2 (by decide)
                have d3 : (Jo.Fact.eq (.bool true)).P (vs 3) wK := hd 3 (by decide)
                have d4 : (Jo.Fact.eq (.bool false)).P (vs 4) wK := hd 4 (by decide)
                have d5 : (Jo.Fact.eq (.bool false)).P (vs 5) wK := hd 5 (by decide)
                have d6 : (Jo.Fact.eq (.agg #[.bool e27, .int .i64 K27, .bool s27, .int .u64 M27, .int .i64 E27, .int .i64 K27b, .bool s27b, .int .u64 M27b, .int .i64 E27b])).P (vs 6) wK := hd 6 (by decide)
                have d7 : (Jo.Fact.eq (.agg #[.int .i64 D3, .bool s3, .int .u64 M3, .int .i64 E3])).P (vs 7) wK := hd 7 (by decide)
                have d8 : (Jo.Fact.eq (.bool true)).P (vs 8) wK := hd 8 (by decide)
                have d9 : (Jo.Fact.eq (.bool true)).P (vs 9) wK := hd 9 (by decide)
                have d10 : (Jo.Fact.eq (.bool true)).P (vs 10) wK := hd 10 (by decide)
                clear hd
                simp only [Jo.putl, List.foldl_cons, List.foldl_nil, Act.put, List.setIfInBounds_toArray, List.set_cons_zero, List.set_cons_succ]
                generalize vs 0 = u0 at d0 ⊢
                generalize vs 1 = u1 at d1 ⊢
                generalize vs 2 = u2 at d2 ⊢
                generalize vs 3 = u3 at d3 ⊢
                generalize vs 4 = u4 at d4 ⊢
                generalize vs 5 = u5 at d5 ⊢
                generalize vs 6 = u6 at d6 ⊢
                generalize vs 7 = u7 at d7 ⊢
                generalize vs 8 = u8 at d8 ⊢
                generalize vs 9 = u9 at d9 ⊢
                generalize vs 10 = u10 at d10 ⊢
                clear vs
                replace d0 : u0 = _ := d0
                subst d0
                obtain ⟨e31, K31, s31, M31, E31, K31b, s31b, M31b, E31b, rfl, v31⟩ := d1
                replace d2 : u2 = _ := d2
                subst d2
                replace d3 : u3 = _ := d3
                subst d3
                replace d4 : u4 = _ := d4
                subst d4
                replace d5 : u5 = _ := d5
                subst d5
                replace d6 : u6 = _ := d6
                subst d6
                replace d7 : u7 = _ := d7
                subst d7
                replace d8 : u8 = _ := d8
                subst d8
                replace d9 : u9 = _ := d9
                subst d9
                replace d10 : u10 = _ := d10
                subst d10
                replace X0 := X0.below hJ
                replace X3 := X3.below hJ
                replace X4 := X4.below hJ
                replace X12 := X12.below hJ
                replace X20 := X20.below hJ
                replace hT2 := hT2.below hJ
                replace HB := Lib.hid (bt HB.out hJ)
                refine Jo.jdone (by kernel_rfl) ?_
                go_wp2_with fail
                go_meet
                exact ⟨rfl, X0, X3, X4, X12, HB.out⟩
            case rest =>
              obtain ⟨rfl, X0, X3, X4, X12, hB⟩ := hcut
              replace HB := Lib.hid hB
              have hT2 := HT0.out.below hB
              clear hB
              go_wp2
              go_ret
              exact ⟨rfl, HB.out⟩

theorem backKeeps_walk (e0 : Bool) (D0 : Int) (s0 : Bool) (M0 E0 G0 : Int) (g0 : Bool) (P0 Q0 : Int) (e1 : Bool) (D1 : Int) (s1 : Bool) (M1 E1 G1 : Int) (g1 : Bool) (P1 Q1 : Int) (e2 : Bool) (D2 : Int) (s2 : Bool) (M2 E2 G2 : Int) (g2 : Bool) (P2 Q2 : Int) (D3 : Int) (s3 : Bool) (M3 E3 : Int) (D4 : Int) (s4 : Bool) (M4 E4 : Int) (w : World) (hT : Tab w) (hT2 : Tb w) (u0 : M0 < 18446744073709551616) (v0 : P0 < 18446744073709551616) (u1 : M1 < 18446744073709551616) (v1 : P1 < 18446744073709551616) (u2 : M2 < 18446744073709551616) (v2 : P2 < 18446744073709551616) (w3 : 0 ≤ M3) (u3 : M3 < 18446744073709551616) (w4 : 0 ≤ M4) (u4 : M4 < 18446744073709551616) :
    Calls Tryz.prog 7 #[.agg #[.bool e0, .int .i64 D0, .bool s0, .int .u64 M0, .int .i64 E0, .int .i64 G0, .bool g0, .int .u64 P0, .int .i64 Q0], .agg #[.bool e1, .int .i64 D1, .bool s1, .int .u64 M1, .int .i64 E1, .int .i64 G1, .bool g1, .int .u64 P1, .int .i64 Q1], .agg #[.bool e2, .int .i64 D2, .bool s2, .int .u64 M2, .int .i64 E2, .int .i64 G2, .bool g2, .int .u64 P2, .int .i64 Q2], .agg #[.int .i64 D3, .bool s3, .int .u64 M3, .int .i64 E3], .agg #[.int .i64 D4, .bool s4, .int .u64 M4, .int .i64 E4]] w fun e w' => e = .returned (.bool true) ∧ Below w.heap.size w w' := by
  obtain ⟨q, hq⟩ := qf_ex
  obtain ⟨r, hr⟩ := rf_ex
  have o0 := rkI_ok (e := e0) (K := D0) (s := s0) (E := E0) (K' := G0) (s' := g0) (E' := Q0) u0 v0
  have o1 := rkI_ok (e := e1) (K := D1) (s := s1) (E := E1) (K' := G1) (s' := g1) (E' := Q1) u1 v1
  have o2 := rkI_ok (e := e2) (K := D2) (s := s2) (E := E2) (K' := G2) (s' := g2) (E' := Q2) u2 v2
  have im : In (rk D3 s3 M3 E3) := rk_bd u3
  have jn : In (rk D4 s4 M4 E4) := rk_bd u4
  refine backKeeps_main e0 D0 s0 M0 E0 G0 g0 P0 Q0 e1 D1 s1 M1 E1 G1 g1 P1 Q1 e2 D2 s2 M2 E2 G2 g2 P2 Q2 D3 s3 M3 E3 D4 s4 M4 E4 w _ _ _ _ _ _ _ _ _ _ _ _ _ _ _ _ _ _ _ _ _ _ _ _ hq hr hT hT2 u0 v0 u1 v1 u2 v2 u3 u4 rfl rfl rfl rfl rfl rfl rfl rfl rfl rfl rfl rfl rfl rfl rfl rfl rfl rfl rfl rfl rfl rfl rfl (fun i0 i1 ht => ?_) (fun i0 i1 ht => ?_) (fun i0 i1 ht => ?_) (fun i0 i1 ht => ?_)
  · have ht : witI (addI (mkI (rk D3 s3 M3 E3) (rk D3 s3 M3 E3)) (mkI (rk D4 s4 M4 E4) (rk D4 s4 M4 E4))) _ = true := ht
    have mf := has_fin im i0
    have nf := has_fin jn i1
    rw [pt_some mf.1 mf.2, pt_some nf.1 nf.2] at ht
    exact plus_keeps o1 o2 o0 im jn i0 i1 ht
  · have ht : witI (subI (mkI (rk D3 s3 M3 E3) (rk D3 s3 M3 E3)) (mkI (rk D4 s4 M4 E4) (rk D4 s4 M4 E4))) _ = true := ht
    have mf := has_fin im i0
    have nf := has_fin jn i1
    rw [pt_some mf.1 mf.2, pt_some nf.1 nf.2] at ht
    exact minus_keeps o1 o2 o0 im jn i0 i1 ht
  · have ht : witI (mulI (mkI (rk D3 s3 M3 E3) (rk D3 s3 M3 E3)) (mkI (rk D4 s4 M4 E4) (rk D4 s4 M4 E4))) _ = true := ht
    have mf := has_fin im i0
    have nf := has_fin jn i1
    rw [pt_some mf.1 mf.2, pt_some nf.1 nf.2] at ht
    exact times_keeps hq o1 o2 o0 im jn i0 i1 ht
  · have ht : witI (sqrI (mkI (rk D3 s3 M3 E3) (rk D3 s3 M3 E3))) _ = true := ht
    have mf := has_fin im i0
    have nf := has_fin jn i1
    rw [pt_some mf.1 mf.2] at ht
    exact sqr_keeps hr o1 o0 im i0 ht
end Go.Proofs.YtnbliijpjcmbjaaGreatDoor

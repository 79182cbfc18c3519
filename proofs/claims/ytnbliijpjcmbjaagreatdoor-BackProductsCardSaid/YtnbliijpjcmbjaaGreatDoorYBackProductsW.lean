/-
  The walk of BackProducts: for all arguments the call answers true, and nothing that was there has turned.
-/
import Derived.Test.YtnbliijpjcmbjaaGreatDoorYPbq
namespace Go.Proofs.YtnbliijpjcmbjaaGreatDoor
open Go.RowKit
set_option linter.unusedVariables false
set_option linter.unusedSimpArgs false
set_option maxRecDepth 100000
set_option maxHeartbeats 8000000 in
theorem backProducts_main (e0 : Bool) (D0 : Int) (s0 : Bool) (M0 E0 G0 : Int) (g0 : Bool) (P0 Q0 : Int) (e1 : Bool) (D1 : Int) (s1 : Bool) (M1 E1 G1 : Int) (g1 : Bool) (P1 Q1 : Int) (e2 : Bool) (D2 : Int) (s2 : Bool) (M2 E2 G2 : Int) (g2 : Bool) (P2 Q2 : Int) (w : World) (z x y a b c d : Sp) {q : Bool → Int → Int → Int} (hq : QF q) {r : Bool → Int → Int} (hr : RF r) (hT : Tab w) (hT2 : Tb w) (u0 : LQ M0) (v0 : LQ P0) (u1 : LQ M1) (v1 : LQ P1) (u2 : LQ M2) (v2 : LQ P2) (hz : rkI e0 D0 s0 M0 E0 G0 g0 P0 Q0 = z) (hx : rkI e1 D1 s1 M1 E1 G1 g1 P1 Q1 = x) (hy : rkI e2 D2 s2 M2 E2 G2 g2 P2 Q2 = y) (h1 : timesB q z x y = (a, b)) (h2 : overB q z x y = (c, d)) :
   Calls Tryz.prog 4 #[VI e0 D0 s0 M0 E0 G0 g0 P0 Q0, VI e1 D1 s1 M1 E1 G1 g1 P1 Q1, VI e2 D2 s2 M2 E2 G2 g2 P2 Q2] w (PB w true) := by
 delta VI
 have HZ := Lib.hid hz; have HX := Lib.hid hx; have HY := Lib.hid hy; have H1 := Lib.hid h1; have H2 := Lib.hid h2; have HQ := Lib.hid hq; have HRR := Lib.hid hr; clear hz hx hy h1 h2 hq hr
 go_enter Tryz.func4, Tryz.ntmps4
 go_upto_region 1 with (fail)
 generalize hW1 : ((w.alloc _).alloc _).alloc _ = w1 at *; obtain ⟨X0, X1, X2, HB⟩ := Bo.en3 hW1; replace hT := hT.below HB.out; replace hT2 := hT2.below HB.out; clear hW1
 go_wp2_with fail
 refine (awake10 hT hT2 HRR.out).mono ?_; rintro ee w2 ⟨rfl, B⟩; replace X0 := X0.below B; replace X1 := X1.below B; replace X2 := X2.below B; replace hT := hT.below B; replace hT2 := hT2.below B; replace HB := Hqb HB B; clear B; have xX0 := X0.cell; have xX1 := X1.cell; have xX2 := X2.cell
 go_wp2_with fail
 refine (bkTimes hT HQ.out u0 v0 u1 v1 u2 v2 HZ.out HX.out HY.out H1.out).mono ?_; rintro ee w3 ⟨e21, K21, s21, M21, E21, K21b, s21b, M21b, E21b, e22, K22, s22, M22, E22, K22b, s22b, M22b, E22b, rfl, v21, v22, B⟩; clear xX0 xX1 xX2; replace X0 := X0.below B; replace X1 := X1.below B
 replace X2 := X2.below B; replace hT := hT.below B; replace hT2 := hT2.below B; replace HB := Hqb HB B; clear B
 go_upto_region 3 with (fail)
 have e4X9 : (World.alloc w3 (.cells #[.bool e21, .int .i64 K21, .bool s21, .int .u64 M21, .int .i64 E21, .int .i64 K21b, .bool s21b, .int .u64 M21b, .int .i64 E21b] 26)).heap.size = w3.heap.size + 1 := by simp
 have lX8 := Nat.le_refl (World.heap w3).size; have nX8X0 := X0.lt; have nX8X1 := X1.lt; have nX8X2 := X2.lt; have BX := bel1 w3 (.cells #[.bool e21, .int .i64 K21, .bool s21, .int .u64 M21, .int .i64 E21, .int .i64 K21b, .bool s21b, .int .u64 M21b, .int .i64 E21b] 26); replace X0 := X0.below BX; replace X1 := X1.below BX
 replace X2 := X2.below BX; replace hT := hT.below BX; replace hT2 := hT2.below BX
 replace HB := Lib.hid (bt HB.out BX); have X8 := Bo.new w3 #[.bool e21, .int .i64 K21, .bool s21, .int .u64 M21, .int .i64 E21, .int .i64 K21b, .bool s21b, .int .u64 M21b, .int .i64 E21b] 26; generalize hWn : World.alloc w3 (.cells #[.bool e21, .int .i64 K21, .bool s21, .int .u64 M21, .int .i64 E21, .int .i64 K21b, .bool s21b, .int .u64 M21b, .int .i64 E21b] 26) = w4 at *
 clear hWn; have lX9 := Nat.le_refl (World.heap w4).size; have nX9X0 := X0.lt; have nX9X1 := X1.lt; have nX9X2 := X2.lt; have nX9X8 := X8.lt; generalize hWn : w4.alloc _ = w5 at *; obtain ⟨X9, BW⟩ := Bo.nw hWn; clear hWn; replace X0 := X0.below BW; replace X1 := X1.below BW; replace X2 := X2.below BW; replace X8 := X8.below BW; replace hT := hT.below BW; replace hT2 := hT2.below BW; replace HB := Hqb HB BW
 clear BW; rw [e4X9] at X9; clear lX8 lX9 e4X9; have xX0 := X0.cell; have xX1 := X1.cell; have xX2 := X2.cell
 go_wp2_with fail
 refine (bwTimes HQ.out u0 v0 u1 v1 u2 v2 HZ.out HX.out HY.out H1.out).mono ?_; rintro ee w6 ⟨e23, K23, s23, M23, E23, K23b, s23b, M23b, E23b, e24, K24, s24, M24, E24, K24b, s24b, M24b, E24b, rfl, v23, v24, B⟩; clear xX0 xX1 xX2; replace X0 := X0.below B; replace X1 := X1.below B
 replace X2 := X2.below B; replace X8 := X8.below B; replace X9 := X9.below B; replace hT := hT.below B; replace hT2 := hT2.below B; replace HB := Hqb HB B; clear B; obtain ⟨rfl, rfl, rfl, rfl, rfl, rfl, rfl, rfl, rfl⟩ := v21.uniq v23; obtain ⟨rfl, rfl, rfl, rfl, rfl, rfl, rfl, rfl, rfl⟩ := v22.uniq v24; clear v23 v24
 go_upto_region 4 with (fail)
 have e4X11 : (World.alloc w6 (.cells #[.bool e21, .int .i64 K21, .bool s21, .int .u64 M21, .int .i64 E21, .int .i64 K21b, .bool s21b, .int .u64 M21b, .int .i64 E21b] 26)).heap.size = w6.heap.size + 1 := by simp
 have lX10 := Nat.le_refl (World.heap w6).size; have nX10X0 := X0.lt; have nX10X1 := X1.lt; have nX10X2 := X2.lt; have nX10X8 := X8.lt; have nX10X9 := X9.lt; have BX := bel1 w6 (.cells #[.bool e21, .int .i64 K21, .bool s21, .int .u64 M21, .int .i64 E21, .int .i64 K21b, .bool s21b, .int .u64 M21b, .int .i64 E21b] 26); replace X0 := X0.below BX; replace X1 := X1.below BX
 replace X2 := X2.below BX; replace X8 := X8.below BX; replace X9 := X9.below BX
 replace hT := hT.below BX; replace hT2 := hT2.below BX; replace HB := Lib.hid (bt HB.out BX)
 have X10 := Bo.new w6 #[.bool e21, .int .i64 K21, .bool s21, .int .u64 M21, .int .i64 E21, .int .i64 K21b, .bool s21b, .int .u64 M21b, .int .i64 E21b] 26; generalize hWn : World.alloc w6 (.cells #[.bool e21, .int .i64 K21, .bool s21, .int .u64 M21, .int .i64 E21, .int .i64 K21b, .bool s21b, .int .u64 M21b, .int .i64 E21b] 26) = w7 at *; clear hWn; have lX11 := Nat.le_refl (World.heap w7).size; have nX11X0 := X0.lt
 have nX11X1 := X1.lt; have nX11X2 := X2.lt; have nX11X8 := X8.lt; have nX11X9 := X9.lt; have nX11X10 := X10.lt; generalize hWn : w7.alloc _ = w8 at *; obtain ⟨X11, BW⟩ := Bo.nw hWn; clear hWn; replace X0 := X0.below BW; replace X1 := X1.below BW; replace X2 := X2.below BW; replace X8 := X8.below BW; replace X9 := X9.below BW; replace X10 := X10.below BW; replace hT := hT.below BW; replace hT2 := hT2.below BW
 replace HB := Hqb HB BW; clear BW; rw [e4X11] at X11; clear lX10 lX11 e4X11; have xX0 := X0.cell; have xX1 := X1.cell; have xX2 := X2.cell
 go_wp2_with fail
 refine (bkOver hT HQ.out u0 v0 u1 v1 u2 v2 HZ.out HX.out HY.out H2.out).mono ?_; rintro ee w9 ⟨e25, K25, s25, M25, E25, K25b, s25b, M25b, E25b, e26, K26, s26, M26, E26, K26b, s26b, M26b, E26b, rfl, v25, v26, B⟩; clear xX0 xX1 xX2; replace X0 := X0.below B; replace X1 := X1.below B
 replace X2 := X2.below B; replace X8 := X8.below B; replace X9 := X9.below B; replace X10 := X10.below B; replace X11 := X11.below B; replace hT := hT.below B; replace hT2 := hT2.below B; replace HB := Hqb HB B; clear B
 go_upto_region 5 with (fail)
 have e4X13 : (World.alloc w9 (.cells #[.bool e25, .int .i64 K25, .bool s25, .int .u64 M25, .int .i64 E25, .int .i64 K25b, .bool s25b, .int .u64 M25b, .int .i64 E25b] 26)).heap.size = w9.heap.size + 1 := by simp
 have lX12 := Nat.le_refl (World.heap w9).size; have nX12X0 := X0.lt; have nX12X1 := X1.lt; have nX12X2 := X2.lt; have nX12X8 := X8.lt; have nX12X9 := X9.lt; have nX12X10 := X10.lt; have nX12X11 := X11.lt; have BX := bel1 w9 (.cells #[.bool e25, .int .i64 K25, .bool s25, .int .u64 M25, .int .i64 E25, .int .i64 K25b, .bool s25b, .int .u64 M25b, .int .i64 E25b] 26); replace X0 := X0.below BX; replace X1 := X1.below BX
 replace X2 := X2.below BX; replace X8 := X8.below BX; replace X9 := X9.below BX
 replace X10 := X10.below BX; replace X11 := X11.below BX; replace hT := hT.below BX
 replace hT2 := hT2.below BX; replace HB := Lib.hid (bt HB.out BX); have X12 := Bo.new w9 #[.bool e25, .int .i64 K25, .bool s25, .int .u64 M25, .int .i64 E25, .int .i64 K25b, .bool s25b, .int .u64 M25b, .int .i64 E25b] 26
 generalize hWn : World.alloc w9 (.cells #[.bool e25, .int .i64 K25, .bool s25, .int .u64 M25, .int .i64 E25, .int .i64 K25b, .bool s25b, .int .u64 M25b, .int .i64 E25b] 26) = wA at *; clear hWn; have lX13 := Nat.le_refl (World.heap wA).size; have nX13X0 := X0.lt; have nX13X1 := X1.lt; have nX13X2 := X2.lt; have nX13X8 := X8.lt; have nX13X9 := X9.lt; have nX13X10 := X10.lt; have nX13X11 := X11.lt
 have nX13X12 := X12.lt; generalize hWn : wA.alloc _ = wB at *; obtain ⟨X13, BW⟩ := Bo.nw hWn; clear hWn; replace X0 := X0.below BW; replace X1 := X1.below BW; replace X2 := X2.below BW; replace X8 := X8.below BW; replace X9 := X9.below BW; replace X10 := X10.below BW; replace X11 := X11.below BW; replace X12 := X12.below BW; replace hT := hT.below BW; replace hT2 := hT2.below BW; replace HB := Hqb HB BW
 clear BW; rw [e4X13] at X13; clear lX12 lX13 e4X13; have xX0 := X0.cell; have xX1 := X1.cell; have xX2 := X2.cell
 go_wp2_with fail
 refine (bwOver HQ.out u0 v0 u1 v1 u2 v2 HZ.out HX.out HY.out H2.out).mono ?_; rintro ee wC ⟨e27, K27, s27, M27, E27, K27b, s27b, M27b, E27b, e28, K28, s28, M28, E28, K28b, s28b, M28b, E28b, rfl, v27, v28, B⟩; clear xX0 xX1 xX2; replace X0 := X0.below B; replace X1 := X1.below B
 replace X2 := X2.below B; replace X8 := X8.below B; replace X9 := X9.below B; replace X10 := X10.below B; replace X11 := X11.below B; replace X12 := X12.below B; replace X13 := X13.below B; replace hT := hT.below B; replace hT2 := hT2.below B; replace HB := Hqb HB B; clear B; obtain ⟨rfl, rfl, rfl, rfl, rfl, rfl, rfl, rfl, rfl⟩ := v25.uniq v27; obtain ⟨rfl, rfl, rfl, rfl, rfl, rfl, rfl, rfl, rfl⟩ := v26.uniq v28
 clear v27 v28
 go_upto_region 6 with (fail)
 have e4X15 : (World.alloc wC (.cells #[.bool e25, .int .i64 K25, .bool s25, .int .u64 M25, .int .i64 E25, .int .i64 K25b, .bool s25b, .int .u64 M25b, .int .i64 E25b] 26)).heap.size = wC.heap.size + 1 := by simp
 have lX14 := Nat.le_refl (World.heap wC).size; have nX14X0 := X0.lt; have nX14X1 := X1.lt; have nX14X2 := X2.lt; have nX14X8 := X8.lt; have nX14X9 := X9.lt; have nX14X10 := X10.lt; have nX14X11 := X11.lt; have nX14X12 := X12.lt; have nX14X13 := X13.lt; have BX := bel1 wC (.cells #[.bool e25, .int .i64 K25, .bool s25, .int .u64 M25, .int .i64 E25, .int .i64 K25b, .bool s25b, .int .u64 M25b, .int .i64 E25b] 26); replace X0 := X0.below BX
 replace X1 := X1.below BX; replace X2 := X2.below BX; replace X8 := X8.below BX
 replace X9 := X9.below BX; replace X10 := X10.below BX; replace X11 := X11.below BX
 replace X12 := X12.below BX; replace X13 := X13.below BX; replace hT := hT.below BX
 replace hT2 := hT2.below BX; replace HB := Lib.hid (bt HB.out BX); have X14 := Bo.new wC #[.bool e25, .int .i64 K25, .bool s25, .int .u64 M25, .int .i64 E25, .int .i64 K25b, .bool s25b, .int .u64 M25b, .int .i64 E25b] 26
 generalize hWn : World.alloc wC (.cells #[.bool e25, .int .i64 K25, .bool s25, .int .u64 M25, .int .i64 E25, .int .i64 K25b, .bool s25b, .int .u64 M25b, .int .i64 E25b] 26) = wD at *; clear hWn; have lX15 := Nat.le_refl (World.heap wD).size; have nX15X0 := X0.lt; have nX15X1 := X1.lt; have nX15X2 := X2.lt; have nX15X8 := X8.lt; have nX15X9 := X9.lt; have nX15X10 := X10.lt; have nX15X11 := X11.lt
 have nX15X12 := X12.lt; have nX15X13 := X13.lt; have nX15X14 := X14.lt; generalize hWn : wD.alloc _ = wE at *; obtain ⟨X15, BW⟩ := Bo.nw hWn; clear hWn; replace X0 := X0.below BW; replace X1 := X1.below BW; replace X2 := X2.below BW; replace X8 := X8.below BW; replace X9 := X9.below BW; replace X10 := X10.below BW; replace X11 := X11.below BW; replace X12 := X12.below BW; replace X13 := X13.below BW
 replace X14 := X14.below BW; replace hT := hT.below BW; replace hT2 := hT2.below BW; replace HB := Hqb HB BW; clear BW; rw [e4X15] at X15; clear lX14 lX15 e4X15; have xX8 := X8.cell; have xX9 := X9.cell; have xX10 := X10.cell
 have xX11 := X11.cell; have xX12 := X12.cell; have xX13 := X13.cell; have xX14 := X14.cell; have xX15 := X15.cell
 go_wp2
 go_ret
 exact ⟨rfl, HB.out⟩
theorem backProducts_walk (e0 : Bool) (D0 : Int) (s0 : Bool) (M0 E0 G0 : Int) (g0 : Bool) (P0 Q0 : Int) (e1 : Bool) (D1 : Int) (s1 : Bool) (M1 E1 G1 : Int) (g1 : Bool) (P1 Q1 : Int) (e2 : Bool) (D2 : Int) (s2 : Bool) (M2 E2 G2 : Int) (g2 : Bool) (P2 Q2 : Int) (w : World) (hT : Tab w) (hT2 : Tb w) (u0 : LQ M0) (v0 : LQ P0) (u1 : LQ M1) (v1 : LQ P1) (u2 : LQ M2) (v2 : LQ P2) :
   Calls Tryz.prog 4 #[VI e0 D0 s0 M0 E0 G0 g0 P0 Q0, VI e1 D1 s1 M1 E1 G1 g1 P1 Q1, VI e2 D2 s2 M2 E2 G2 g2 P2 Q2] w fun e w' => e = .returned (.bool true) ∧ Below w.heap.size w w' := by
 delta VI
 obtain ⟨q, hq⟩ := qf_ex; obtain ⟨r, hr⟩ := rf_ex; exact backProducts_main e0 D0 s0 M0 E0 G0 g0 P0 Q0 e1 D1 s1 M1 E1 G1 g1 P1 Q1 e2 D2 s2 M2 E2 G2 g2 P2 Q2 w _ _ _ _ _ _ _ hq hr hT hT2 u0 v0 u1 v1 u2 v2 rfl rfl rfl rfl rfl
end Go.Proofs.YtnbliijpjcmbjaaGreatDoor

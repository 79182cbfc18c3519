/-
  The walk of PiInverses: for all arguments the call answers true, and nothing that was there has turned.
-/
import Derived.Test.YtmmallhniijdfaaGreatDoorYAbl
namespace Go.Proofs.YtmmallhniijdfaaGreatDoor
open Go.RowKit
set_option linter.unusedVariables false
set_option linter.unusedSimpArgs false
set_option maxRecDepth 100000
set_option maxHeartbeats 8000000 in
theorem piInverses_main (n0 : Int) (w : World) (hT : Tab w) (a b : Int) (hr : invP n0 = (a, b)) :
   Calls Tryz.prog 3 #[.int .i64 n0] w (PB w true) := by
 have HR := Lib.hid hr; clear hr
 go_enter Tryz.func3, Tryz.ntmps3
 have HB := Lib.hid (Below.refl w.heap.size w)
 go_wp2_with fail
 refine (awake11 hT).mono ?_; rintro ee w2 ⟨rfl, B⟩; replace hT := hT.below B; replace HB := Hqb HB B; clear B
 go_wp2_with fail
 refine (cInv HR.out).mono ?_; rintro ee w3 ⟨s11, A11, n11, c11, s12, A12, n12, c12, rfl, p11, p12, k11, k12, B⟩; replace hT := hT.below B; replace HB := Hqb HB B; clear B; have hsz11 := HB.out.size
 go_upto_region 3 with (fail)
 have e4X5 : (World.alloc w3 (.cells #[.bool s11, .slice A11 n11 c11] 25)).heap.size = w3.heap.size + 1 := by simp
 have lX4 := Nat.le_refl (World.heap w3).size; have BX := bel1 w3 (.cells #[.bool s11, .slice A11 n11 c11] 25); replace hT := hT.below BX; replace p11 := p11.below BX; replace p12 := p12.below BX; replace HB := Lib.hid (bt HB.out BX); have X4 := Bo.new w3 #[.bool s11, .slice A11 n11 c11] 25
 generalize hWn : World.alloc w3 (.cells #[.bool s11, .slice A11 n11 c11] 25) = w4 at *; clear hWn; have lX5 := Nat.le_refl (World.heap w4).size; have nX5X4 := X4.lt; generalize hWn : w4.alloc _ = w5 at *; obtain ⟨X5, BW⟩ := Bo.nw hWn; clear hWn; replace X4 := X4.below BW; replace hT := hT.below BW; replace p11 := p11.below BW; replace p12 := p12.below BW; replace HB := Hqb HB BW; clear BW
 rw [e4X5] at X5; clear lX4 lX5 e4X5
 go_wp2_with fail
 refine (jInv HR.out).mono ?_; rintro ee w6 ⟨s13, A13, n13, c13, s14, A14, n14, c14, rfl, p13, p14, k13, k14, B⟩; replace X4 := X4.below B; replace X5 := X5.below B; replace hT := hT.below B; replace p11 := p11.below B; replace p12 := p12.below B; replace HB := Hqb HB B; clear B; have hsz13 := HB.out.size
 go_upto_region 4 with (fail)
 have e4X7 : (World.alloc w6 (.cells #[.bool s13, .slice A13 n13 c13] 25)).heap.size = w6.heap.size + 1 := by simp
 have lX6 := Nat.le_refl (World.heap w6).size; have nX6X4 := X4.lt; have nX6X5 := X5.lt; have BX := bel1 w6 (.cells #[.bool s13, .slice A13 n13 c13] 25); replace X4 := X4.below BX; replace X5 := X5.below BX; replace hT := hT.below BX; replace p11 := p11.below BX
 replace p12 := p12.below BX; replace p13 := p13.below BX; replace p14 := p14.below BX; replace HB := Lib.hid (bt HB.out BX); have X6 := Bo.new w6 #[.bool s13, .slice A13 n13 c13] 25; generalize hWn : World.alloc w6 (.cells #[.bool s13, .slice A13 n13 c13] 25) = w7 at *
 clear hWn; have lX7 := Nat.le_refl (World.heap w7).size; have nX7X4 := X4.lt; have nX7X5 := X5.lt; have nX7X6 := X6.lt; generalize hWn : w7.alloc _ = w8 at *; obtain ⟨X7, BW⟩ := Bo.nw hWn; clear hWn; replace X4 := X4.below BW; replace X5 := X5.below BW; replace X6 := X6.below BW; replace hT := hT.below BW; replace p11 := p11.below BW; replace p12 := p12.below BW; replace p13 := p13.below BW; replace p14 := p14.below BW
 replace HB := Hqb HB BW; clear BW; rw [e4X7] at X7; clear lX6 lX7 e4X7
 go_wp2_with fail
 refine (cBounds).mono ?_; rintro ee w9 ⟨s15, A15, n15, c15, s16, A16, n16, c16, rfl, p15, p16, k15, k16, B⟩; replace X4 := X4.below B; replace X5 := X5.below B; replace X6 := X6.below B; replace X7 := X7.below B; replace hT := hT.below B; replace p11 := p11.below B; replace p12 := p12.below B; replace p13 := p13.below B; replace p14 := p14.below B; replace HB := Hqb HB B; clear B; have hsz15 := HB.out.size
 go_upto_region 5 with (fail)
 have e4X9 : (World.alloc w9 (.cells #[.bool s15, .slice A15 n15 c15] 25)).heap.size = w9.heap.size + 1 := by simp
 have lX8 := Nat.le_refl (World.heap w9).size; have nX8X4 := X4.lt; have nX8X5 := X5.lt; have nX8X6 := X6.lt; have nX8X7 := X7.lt; have BX := bel1 w9 (.cells #[.bool s15, .slice A15 n15 c15] 25); replace X4 := X4.below BX; replace X5 := X5.below BX; replace X6 := X6.below BX; replace X7 := X7.below BX
 replace hT := hT.below BX; replace p11 := p11.below BX; replace p12 := p12.below BX; replace p13 := p13.below BX; replace p14 := p14.below BX; replace p15 := p15.below BX
 replace p16 := p16.below BX; replace HB := Lib.hid (bt HB.out BX); have X8 := Bo.new w9 #[.bool s15, .slice A15 n15 c15] 25; generalize hWn : World.alloc w9 (.cells #[.bool s15, .slice A15 n15 c15] 25) = wA at *; clear hWn; have lX9 := Nat.le_refl (World.heap wA).size; have nX9X4 := X4.lt; have nX9X5 := X5.lt
 have nX9X6 := X6.lt; have nX9X7 := X7.lt; have nX9X8 := X8.lt; generalize hWn : wA.alloc _ = wB at *; obtain ⟨X9, BW⟩ := Bo.nw hWn; clear hWn; replace X4 := X4.below BW; replace X5 := X5.below BW; replace X6 := X6.below BW; replace X7 := X7.below BW; replace X8 := X8.below BW; replace hT := hT.below BW; replace p11 := p11.below BW; replace p12 := p12.below BW; replace p13 := p13.below BW; replace p14 := p14.below BW
 replace p15 := p15.below BW; replace p16 := p16.below BW; replace HB := Hqb HB BW; clear BW; rw [e4X9] at X9; clear lX8 lX9 e4X9
 go_wp2_with fail
 refine (jBounds).mono ?_; rintro ee wC ⟨s17, A17, n17, c17, s18, A18, n18, c18, rfl, p17, p18, k17, k18, B⟩; replace X4 := X4.below B; replace X5 := X5.below B; replace X6 := X6.below B; replace X7 := X7.below B; replace X8 := X8.below B; replace X9 := X9.below B; replace hT := hT.below B; replace p11 := p11.below B; replace p12 := p12.below B; replace p13 := p13.below B; replace p14 := p14.below B
 replace p15 := p15.below B; replace p16 := p16.below B; replace HB := Hqb HB B; clear B; have hsz17 := HB.out.size
 go_upto_region 6 with (fail)
 have e4X11 : (World.alloc wC (.cells #[.bool s17, .slice A17 n17 c17] 25)).heap.size = wC.heap.size + 1 := by simp
 have lX10 := Nat.le_refl (World.heap wC).size; have nX10X4 := X4.lt; have nX10X5 := X5.lt; have nX10X6 := X6.lt; have nX10X7 := X7.lt; have nX10X8 := X8.lt; have nX10X9 := X9.lt; have BX := bel1 wC (.cells #[.bool s17, .slice A17 n17 c17] 25); replace X4 := X4.below BX; replace X5 := X5.below BX; replace X6 := X6.below BX
 replace X7 := X7.below BX; replace X8 := X8.below BX; replace X9 := X9.below BX; replace hT := hT.below BX; replace p11 := p11.below BX; replace p12 := p12.below BX
 replace p13 := p13.below BX; replace p14 := p14.below BX; replace p15 := p15.below BX; replace p16 := p16.below BX; replace p17 := p17.below BX
 replace p18 := p18.below BX; replace HB := Lib.hid (bt HB.out BX); have X10 := Bo.new wC #[.bool s17, .slice A17 n17 c17] 25; generalize hWn : World.alloc wC (.cells #[.bool s17, .slice A17 n17 c17] 25) = wD at *; clear hWn; have lX11 := Nat.le_refl (World.heap wD).size; have nX11X4 := X4.lt; have nX11X5 := X5.lt
 have nX11X6 := X6.lt; have nX11X7 := X7.lt; have nX11X8 := X8.lt; have nX11X9 := X9.lt; have nX11X10 := X10.lt; generalize hWn : wD.alloc _ = wE at *; obtain ⟨X11, BW⟩ := Bo.nw hWn; clear hWn; replace X4 := X4.below BW; replace X5 := X5.below BW; replace X6 := X6.below BW; replace X7 := X7.below BW; replace X8 := X8.below BW; replace X9 := X9.below BW; replace X10 := X10.below BW; replace hT := hT.below BW
 replace p11 := p11.below BW; replace p12 := p12.below BW; replace p13 := p13.below BW; replace p14 := p14.below BW; replace p15 := p15.below BW; replace p16 := p16.below BW; replace p17 := p17.below BW; replace p18 := p18.below BW; replace HB := Hqb HB BW; clear BW; rw [e4X11] at X11; clear lX10 lX11 e4X11; have xX4 := X4.cell; have xX6 := X6.cell
 go_wp2_with fail
 refine (qAlike p11 p13).mono ?_; rintro ee wF ⟨rfl, B⟩; clear xX4 xX6; replace X4 := X4.below B; replace X5 := X5.below B; replace X6 := X6.below B; replace X7 := X7.below B; replace X8 := X8.below B; replace X9 := X9.below B; replace X10 := X10.below B; replace X11 := X11.below B; replace hT := hT.below B; replace p11 := p11.below B; replace p12 := p12.below B; replace p13 := p13.below B
 replace p14 := p14.below B; replace p15 := p15.below B; replace p16 := p16.below B; replace p17 := p17.below B; replace p18 := p18.below B; replace HB := Hqb HB B; clear B; have xX5 := X5.cell; have xX7 := X7.cell
 go_wp2_with fail
 refine (qAlike p12 p14).mono ?_; rintro ee wG ⟨rfl, B⟩; clear xX5 xX7; replace X4 := X4.below B; replace X5 := X5.below B; replace X6 := X6.below B; replace X7 := X7.below B; replace X8 := X8.below B; replace X9 := X9.below B; replace X10 := X10.below B; replace X11 := X11.below B; replace hT := hT.below B; replace p11 := p11.below B; replace p12 := p12.below B; replace p13 := p13.below B
 replace p14 := p14.below B; replace p15 := p15.below B; replace p16 := p16.below B; replace p17 := p17.below B; replace p18 := p18.below B; replace HB := Hqb HB B; clear B; have xX8 := X8.cell; have xX10 := X10.cell
 go_wp2_with fail
 refine (qAlike p15 p17).mono ?_; rintro ee wH ⟨rfl, B⟩; clear xX8 xX10; replace X4 := X4.below B; replace X5 := X5.below B; replace X6 := X6.below B; replace X7 := X7.below B; replace X8 := X8.below B; replace X9 := X9.below B; replace X10 := X10.below B; replace X11 := X11.below B; replace hT := hT.below B; replace p11 := p11.below B; replace p12 := p12.below B; replace p13 := p13.below B
 replace p14 := p14.below B; replace p15 := p15.below B; replace p16 := p16.below B; replace p17 := p17.below B; replace p18 := p18.below B; replace HB := Hqb HB B; clear B; have xX9 := X9.cell; have xX11 := X11.cell
 go_wp2_with fail
 refine (qAlike p16 p18).mono ?_; rintro ee wI ⟨rfl, B⟩; clear xX9 xX11; replace X4 := X4.below B; replace X5 := X5.below B; replace X6 := X6.below B; replace X7 := X7.below B; replace X8 := X8.below B; replace X9 := X9.below B; replace X10 := X10.below B; replace X11 := X11.below B; replace hT := hT.below B; replace p11 := p11.below B; replace p12 := p12.below B; replace p13 := p13.below B
 replace p14 := p14.below B; replace p15 := p15.below B; replace p16 := p16.below B; replace p17 := p17.below B; replace p18 := p18.below B; replace HB := Hqb HB B; clear B; clear p11 p12 p13 p14 p15 p16 p17 p18
 go_wp2_with fail
 refine (cScale).mono ?_; rintro ee wJ ⟨s21, A21, n21, c21, rfl, p21, k21, B⟩; replace X4 := X4.below B; replace X5 := X5.below B; replace X6 := X6.below B; replace X7 := X7.below B; replace X8 := X8.below B; replace X9 := X9.below B; replace X10 := X10.below B; replace X11 := X11.below B; replace hT := hT.below B; replace HB := Hqb HB B; clear B
 go_wp2_with fail
 refine (jScale).mono ?_; rintro ee wK ⟨s22, A22, n22, c22, rfl, p22, k22, B⟩; replace X4 := X4.below B; replace X5 := X5.below B; replace X6 := X6.below B; replace X7 := X7.below B; replace X8 := X8.below B; replace X9 := X9.below B; replace X10 := X10.below B; replace X11 := X11.below B; replace hT := hT.below B; replace p21 := p21.below B; replace HB := Hqb HB B; clear B
 go_wp2_with fail
 refine (qAlike p21 p22).mono ?_; rintro ee wL ⟨rfl, B⟩; replace X4 := X4.below B; replace X5 := X5.below B; replace X6 := X6.below B; replace X7 := X7.below B; replace X8 := X8.below B; replace X9 := X9.below B; replace X10 := X10.below B; replace X11 := X11.below B; replace hT := hT.below B; replace p21 := p21.below B; replace p22 := p22.below B; replace HB := Hqb HB B; clear B; clear p21 p22
 go_wp2_with fail
 refine (cPi hT).mono ?_; rintro ee wM ⟨e23, K23, s23, M23, E23, K23b, s23b, M23b, E23b, rfl, v23, B⟩; replace X4 := X4.below B; replace X5 := X5.below B; replace X6 := X6.below B; replace X7 := X7.below B; replace X8 := X8.below B; replace X9 := X9.below B; replace X10 := X10.below B; replace X11 := X11.below B; replace hT := hT.below B; replace HB := Hqb HB B; clear B; clear hT
 go_wp2_with fail
 refine (jPi).mono ?_; rintro ee wN ⟨e24, K24, s24, M24, E24, K24b, s24b, M24b, E24b, rfl, v24, B⟩; replace X4 := X4.below B; replace X5 := X5.below B; replace X6 := X6.below B; replace X7 := X7.below B; replace X8 := X8.below B; replace X9 := X9.below B; replace X10 := X10.below B; replace X11 := X11.below B; replace HB := Hqb HB B; clear B; obtain ⟨rfl, rfl, rfl, rfl, rfl, rfl, rfl, rfl, rfl⟩ := v23.uniq v24
 clear v24; go_wp2
 go_ret
 exact ⟨by first | rfl | simp, HB.out⟩
theorem piInverses_walk (n0 : Int) (w : World) (hT : Tab w) (w0 : (Lit.int .i64 n0).wf = true) :
   Calls Tryz.prog 3 #[.int .i64 n0] w fun e w' => e = .returned (.bool true) ∧ Below w.heap.size w w' := by
 exact piInverses_main n0 w hT _ _ rfl
end Go.Proofs.YtmmallhniijdfaaGreatDoor

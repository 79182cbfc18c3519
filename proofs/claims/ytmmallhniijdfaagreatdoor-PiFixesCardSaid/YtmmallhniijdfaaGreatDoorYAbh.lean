/-
 Contracts that the proof rests on.
-/
import Derived.Test.YtmmallhniijdfaaGreatDoorYAbg
namespace Go.Proofs.YtmmallhniijdfaaGreatDoor
set_option maxHeartbeats 4000000
open Go.RowKit
set_option linter.unusedVariables false
set_option linter.unusedSimpArgs false
set_option maxRecDepth 100000
theorem jBounds {w : World} : Calls Tryz.prog 9 #[] w (W2 w 7 PLo PHi) := by
 obtain ⟨b1, b2⟩ := bounds_are; obtain ⟨a, b, h5⟩ : ∃ a b, invP 5 = (a, b) := ⟨_, _, rfl⟩; obtain ⟨c, d, h239⟩ : ∃ a b, invP 239 = (a, b) := ⟨_, _, rfl⟩; rw [h5, h239] at b1 b2; have H5 := Lib.hid h5; have H239 := Lib.hid h239
 have HB1 : Hid (a * 16 - d * 4 = PLo) := Lib.hid b1
 have HB2 : Hid (b * 16 - c * 4 = PHi) := Lib.hid b2
 clear h5 h239 b1 b2
 go_enter Tryz.func9, Tryz.ntmps9
 go_upto_region 1 with (fail)
 generalize hW1 : (w.alloc _).alloc _ = w1 at *; obtain ⟨XR, XS, HB⟩ := Bo.en2 hW1; clear hW1
 go_wp2_with fail
 refine (jInv H5.out).mono ?_; rintro ee w2 ⟨s2, A2, n2, c2, s3, A3, n3, c3, rfl, p2, p3, k2, k3, B⟩; replace XR := XR.below B; replace XS := XS.below B; replace HB := Hqb HB B; clear B
 go_upto_region 2 with (fail)
 have e4X3 : (World.alloc w2 (.cells #[.bool s2, .slice A2 n2 c2] 25)).heap.size = w2.heap.size + 1 := by simp
 have lX2 := Nat.le_refl (World.heap w2).size; have nX2XR := XR.lt; have nX2XS := XS.lt; have BX := bel1 w2 (.cells #[.bool s2, .slice A2 n2 c2] 25); replace XR := XR.below BX; replace XS := XS.below BX; replace p2 := p2.below BX; replace p3 := p3.below BX; replace HB := Lib.hid (bt HB.out BX)
 have X2 := Bo.new w2 #[.bool s2, .slice A2 n2 c2] 25; generalize hWn : World.alloc w2 (.cells #[.bool s2, .slice A2 n2 c2] 25) = w3 at *; clear hWn; have lX3 := Nat.le_refl (World.heap w3).size; have nX3XR := XR.lt; have nX3XS := XS.lt; have nX3X2 := X2.lt; generalize hWn : w3.alloc _ = w4 at *; obtain ⟨X3, BW⟩ := Bo.nw hWn; clear hWn; replace XR := XR.below BW; replace XS := XS.below BW; replace X2 := X2.below BW
 replace p2 := p2.below BW; replace p3 := p3.below BW; replace HB := Hqb HB BW; clear BW; rw [e4X3] at X3; clear lX2 lX3 e4X3
 go_wp2_with fail
 refine (jInv H239.out).mono ?_; rintro ee w5 ⟨s4, A4, n4, c4, s5, A5, n5, c5, rfl, p4, p5, k4, k5, B⟩; replace XR := XR.below B; replace XS := XS.below B; replace X2 := X2.below B; replace X3 := X3.below B; replace p2 := p2.below B; replace p3 := p3.below B; replace HB := Hqb HB B; clear B
 go_upto_region 3 with (fail)
 have e4X5 : (World.alloc w5 (.cells #[.bool s4, .slice A4 n4 c4] 25)).heap.size = w5.heap.size + 1 := by simp
 have lX4 := Nat.le_refl (World.heap w5).size; have nX4XR := XR.lt; have nX4XS := XS.lt; have nX4X2 := X2.lt; have nX4X3 := X3.lt; have BX := bel1 w5 (.cells #[.bool s4, .slice A4 n4 c4] 25); replace XR := XR.below BX; replace XS := XS.below BX; replace X2 := X2.below BX; replace X3 := X3.below BX
 replace p2 := p2.below BX; replace p3 := p3.below BX; replace p4 := p4.below BX; replace p5 := p5.below BX; replace HB := Lib.hid (bt HB.out BX); have X4 := Bo.new w5 #[.bool s4, .slice A4 n4 c4] 25
 generalize hWn : World.alloc w5 (.cells #[.bool s4, .slice A4 n4 c4] 25) = w6 at *; clear hWn; have lX5 := Nat.le_refl (World.heap w6).size; have nX5XR := XR.lt; have nX5XS := XS.lt; have nX5X2 := X2.lt; have nX5X3 := X3.lt; have nX5X4 := X4.lt; generalize hWn : w6.alloc _ = w7 at *; obtain ⟨X5, BW⟩ := Bo.nw hWn; clear hWn; replace XR := XR.below BW; replace XS := XS.below BW; replace X2 := X2.below BW
 replace X3 := X3.below BW; replace X4 := X4.below BW; replace p2 := p2.below BW; replace p3 := p3.below BW; replace p4 := p4.below BW; replace p5 := p5.below BW; replace HB := Hqb HB BW; clear BW; rw [e4X5] at X5; clear lX4 lX5 e4X5; have ltXR := XR.lt; have ltXS := XS.lt; have ltX2 := X2.lt; have ltX3 := X3.lt; have ltX4 := X4.lt; have ltX5 := X5.lt; refine Jo.rk [0, 1, 2, 3, 4, 5, 6, 7, 8, 9] [some 14, some 15, some 16, some 17, some 18, some 19, some 20, some 21, some 22, some 23, none, none] [[], [0], [], [2], [1, 3], [], [5], [], [7], [6, 8], [], []] 12 2 [Jo.Fact.eq (.agg #[.bool s2, .slice A2 n2 c2]), Jo.Fact.wn (a * 16) (1000002), Jo.Fact.eq (.agg #[.bool s5, .slice A5 n5 c5]), Jo.Fact.wn (d * 4) (1000002), Jo.Fact.wn (PLo) (7), Jo.Fact.eq (.agg #[.bool s3, .slice A3 n3 c3]), Jo.Fact.wn (b * 16) (1000002), Jo.Fact.eq (.agg #[.bool s4, .slice A4 n4 c4]), Jo.Fact.wn (c * 4) (1000002), Jo.Fact.wn (PHi) (7), Jo.Fact.any, Jo.Fact.any] (by kernel_rfl) (by kernel_rfl) (by decide) rfl ?_ ?_
 · refine Jo.jm rfl ?_ ?_; rotate_left
   refine Jo.jm rfl ?_ ?_
   · rintro wj hJ _ rfl K hK; simp only [Jo.z] at hK ⊢; go_simp; refine (jTimes (p2.below hJ).wr (by omega) (by omega) (by omega) rfl).mono ?_; rintro ee wk ⟨s20, A20, n20, c20, rfl, p20, k20, B⟩; exact hK.out _ _ ⟨s20, A20, n20, c20, rfl, p20, by omega⟩ B
   refine Jo.jm rfl ?_ ?_; rotate_left
   refine Jo.jm rfl ?_ ?_
   · rintro wj hJ _ rfl K hK; simp only [Jo.z] at hK ⊢; go_simp; refine (jTimes (p5.below hJ).wr (by omega) (by omega) (by omega) rfl).mono ?_; rintro ee wk ⟨s21, A21, n21, c21, rfl, p21, k21, B⟩; exact hK.out _ _ ⟨s21, A21, n21, c21, rfl, p21, by omega⟩ B
   refine Jo.jm rfl ?_ ?_
   · rintro wj hJ _ ⟨s20, A20, n20, c20, rfl, p20, k20⟩ _ ⟨s21, A21, n21, c21, rfl, p21, k21⟩ K hK; simp only [Jo.z] at hK ⊢; go_simp; refine (qSub p20.wr p21.wr (by omega) (by omega) HB1.out).mono ?_; rintro ee wk ⟨s22, A22, n22, c22, rfl, p22, k22, B⟩; exact hK.out _ _ ⟨s22, A22, n22, c22, rfl, p22, p22.fits (by decide)⟩ B
   refine Jo.jm rfl ?_ ?_; rotate_left
   refine Jo.jm rfl ?_ ?_
   · rintro wj hJ _ rfl K hK; simp only [Jo.z] at hK ⊢; go_simp; refine (jTimes (p3.below hJ).wr (by omega) (by omega) (by omega) rfl).mono ?_; rintro ee wk ⟨s23, A23, n23, c23, rfl, p23, k23, B⟩; exact hK.out _ _ ⟨s23, A23, n23, c23, rfl, p23, by omega⟩ B
   refine Jo.jm rfl ?_ ?_; rotate_left
   refine Jo.jm rfl ?_ ?_
   · rintro wj hJ _ rfl K hK; simp only [Jo.z] at hK ⊢; go_simp; refine (jTimes (p4.below hJ).wr (by omega) (by omega) (by omega) rfl).mono ?_; rintro ee wk ⟨s24, A24, n24, c24, rfl, p24, k24, B⟩; exact hK.out _ _ ⟨s24, A24, n24, c24, rfl, p24, by omega⟩ B
   refine Jo.jm rfl ?_ ?_
   · rintro wj hJ _ ⟨s23, A23, n23, c23, rfl, p23, k23⟩ _ ⟨s24, A24, n24, c24, rfl, p24, k24⟩ K hK; simp only [Jo.z] at hK ⊢; go_simp; refine (qSub p23.wr p24.wr (by omega) (by omega) HB2.out).mono ?_; rintro ee wk ⟨s25, A25, n25, c25, rfl, p25, k25, B⟩; exact hK.out _ _ ⟨s25, A25, n25, c25, rfl, p25, p25.fits (by decide)⟩ B
   exact Jo.Steps.nil
   all_goals (rintro wj hJ; (repeat rintro _ rfl); intro K hK; simp only [Jo.z] at hK ⊢; have xX2 := (X2.below hJ).cell; have xX5 := (X5.below hJ).cell; have xX3 := (X3.below hJ).cell; have xX4 := (X4.below hJ).cell; go_simp; exact hK.out _ _ rfl (br _ _))
 rintro w8 hJ _ rfl _ ⟨s20, A20, n20, c20, rfl, p20, k20⟩ _ rfl _ ⟨s21, A21, n21, c21, rfl, p21, k21⟩ _ ⟨s22, A22, n22, c22, rfl, p22, k22⟩ _ rfl _ ⟨s23, A23, n23, c23, rfl, p23, k23⟩ _ rfl _ ⟨s24, A24, n24, c24, rfl, p24, k24⟩ _ ⟨s25, A25, n25, c25, rfl, p25, k25⟩ -; simp only [Jo.z]; replace XR := XR.below hJ; replace XS := XS.below hJ; replace X2 := X2.below hJ; replace X3 := X3.below hJ; replace X4 := X4.below hJ
 replace X5 := X5.below hJ; replace p2 := p2.below hJ; replace p3 := p3.below hJ; replace p4 := p4.below hJ; replace p5 := p5.below hJ; replace HB := Hqb HB hJ; clear p2 p3 p4 p5; have xXR := XR.cell; have zXR0 := XR.frozen
 refine Jo.jnext (i := 10) (o := ⟨none, _, _, _, _, _⟩) (by kernel_rfl) rfl (fun K hK => ?_)
 go_simp; refine hK.out _ _ ?_; clear hK K xXR zXR0; generalize hS : (w8.setCell _ _).setCell _ _ = w9 at *; have SX := StN.of2 XR hS; replace XS := XS.stn SX (by omega); replace X2 := X2.stn SX (by omega); replace X3 := X3.stn SX (by omega); replace X4 := X4.stn SX (by omega); replace X5 := X5.stn SX (by omega); replace p22 := p22.stn SX (by simp [no32]); replace p25 := p25.stn SX (by simp [no32])
 replace HB := Hqs HB SX (by omega); replace XR := SX.box; clear SX hS; have xXS := XS.cell; have zXS0 := XS.frozen
 refine Jo.jnext (i := 11) (o := ⟨none, _, _, _, _, _⟩) (by kernel_rfl) rfl (fun K hK => ?_)
 go_simp; refine hK.out _ _ ?_; clear hK K xXS zXS0; generalize hS : (w9.setCell _ _).setCell _ _ = wA at *; have SX := StN.of2 XS hS; replace XR := XR.stn SX (by omega); replace X2 := X2.stn SX (by omega); replace X3 := X3.stn SX (by omega); replace X4 := X4.stn SX (by omega); replace X5 := X5.stn SX (by omega); replace p22 := p22.stn SX (by simp [no32]); replace p25 := p25.stn SX (by simp [no32])
 replace HB := Hqs HB SX (by omega); replace XS := SX.box; clear SX hS; refine Jo.jdone (by kernel_rfl) ?_; go_wp2; exact bodyPost_ret (v := .tuple #[.agg #[.bool s22, .slice A22 n22 c22], .agg #[.bool s25, .slice A25 n25 c25]]) (by simp [results, Tryz.results9, go_sem, XR.cell, XS.cell]) rfl ⟨s22, A22, n22, c22, s25, A25, n25, c25, rfl, p22, p25, k22, k25, HB.out⟩
theorem jPart {w : World} {A : Option Addr} {n c : Nat} {s : Bool} {x : Int} {B : Option Addr} {m d : Nat} {t : Bool} {y : Int} {r u : Int} {z : Sp} (h : Wr w s A n c x) (k : Wr w t B m d y) (hn : n ≤ 3500) (hm : m ≤ 3500) (hr : Rq false x SC r) (hu : Rq true y SC u) (hz : mkI r u = z) : Calls Tryz.prog 18 #[.agg #[.bool s, .slice A n c], .agg #[.bool t, .slice B m d]] w (PV w z) := by
 have HR := Lib.hid hr; have HU := Lib.hid hu; have HZ := Lib.hid hz; clear hr hu hz
 go_enter Tryz.func18, Tryz.ntmps18
 go_upto_region 1 with (fail)
 generalize hW1 : ((w.alloc _).alloc _).alloc _ = w1 at *; obtain ⟨X2, X3, XR, HB⟩ := Bo.en3 hW1; replace h := h.below HB.out; replace k := k.below HB.out; clear hW1; have ltX2 := X2.lt; have ltX3 := X3.lt; have ltXR := XR.lt; refine Jo.rk [0, 1, 2, 3, 4, 5, 6] [some 5, some 6, some 7, some 8, some 9, some 10, some 11, none] [[], [], [0, 1], [], [], [3, 4], [2, 5], []] 8 1 [Jo.Fact.eq (.agg #[.bool s, .slice A n c]), Jo.Fact.wn (SC) (8), Jo.Fact.num r, Jo.Fact.eq (.agg #[.bool t, .slice B m d]), Jo.Fact.wn (SC) (8), Jo.Fact.num u, Jo.Fact.iv z, Jo.Fact.any] (by kernel_rfl) (by kernel_rfl) (by decide) rfl ?_ ?_
 · refine Jo.jm rfl ?_ ?_; rotate_left
   refine Jo.jm rfl ?_ ?_
   · rintro wj hJ K hK; simp only [Jo.z] at hK ⊢; go_simp; refine (jScale).mono ?_; rintro ee wk ⟨s20, A20, n20, c20, rfl, p20, k20, B⟩; exact hK.out _ _ ⟨s20, A20, n20, c20, rfl, p20, k20⟩ B
   refine Jo.jm rfl ?_ ?_
   · rintro wj hJ _ rfl _ ⟨s20, A20, n20, c20, rfl, p20, k20⟩ K hK; simp only [Jo.z] at hK ⊢; go_simp; refine (jRatio (h.below hJ) p20.wr (by omega) (by omega) HR.out).mono ?_; rintro ee wk ⟨K21, s21, M21, E21, rfl, q21, B⟩; exact hK.out _ _ ⟨K21, s21, M21, E21, rfl, q21⟩ B
   refine Jo.jm rfl ?_ ?_; rotate_left
   refine Jo.jm rfl ?_ ?_
   · rintro wj hJ K hK; simp only [Jo.z] at hK ⊢; go_simp; refine (jScale).mono ?_; rintro ee wk ⟨s22, A22, n22, c22, rfl, p22, k22, B⟩; exact hK.out _ _ ⟨s22, A22, n22, c22, rfl, p22, k22⟩ B
   refine Jo.jm rfl ?_ ?_
   · rintro wj hJ _ rfl _ ⟨s22, A22, n22, c22, rfl, p22, k22⟩ K hK; simp only [Jo.z] at hK ⊢; go_simp; refine (jRatio (k.below hJ) p22.wr (by omega) (by omega) HU.out).mono ?_; rintro ee wk ⟨K23, s23, M23, E23, rfl, q23, B⟩; exact hK.out _ _ ⟨K23, s23, M23, E23, rfl, q23⟩ B
   refine Jo.jm rfl ?_ ?_
   · rintro wj hJ _ ⟨K21, s21, M21, E21, rfl, q21⟩ _ ⟨K23, s23, M23, E23, rfl, q23⟩ K hK; simp only [Jo.z] at hK ⊢; go_simp; refine (jvMake q21.top q23.top q21.rk q23.rk HZ.out).mono ?_; rintro ee wk ⟨e24, K24, s24, M24, E24, K24b, s24b, M24b, E24b, rfl, v24, B⟩; exact hK.out _ _ ⟨e24, K24, s24, M24, E24, K24b, s24b, M24b, E24b, rfl, v24⟩ B
   exact Jo.Steps.nil
   all_goals (rintro wj hJ; (repeat rintro _ rfl); intro K hK; simp only [Jo.z] at hK ⊢; have xX2 := (X2.below hJ).cell; have xX3 := (X3.below hJ).cell; go_simp; exact hK.out _ _ rfl (br _ _))
 rintro w2 hJ _ rfl _ ⟨s20, A20, n20, c20, rfl, p20, k20⟩ _ ⟨K21, s21, M21, E21, rfl, q21⟩ _ rfl _ ⟨s22, A22, n22, c22, rfl, p22, k22⟩ _ ⟨K23, s23, M23, E23, rfl, q23⟩ _ ⟨e24, K24, s24, M24, E24, K24b, s24b, M24b, E24b, rfl, v24⟩ -; simp only [Jo.z]; replace X2 := X2.below hJ; replace X3 := X3.below hJ; replace XR := XR.below hJ; replace h := h.below hJ; replace k := k.below hJ; replace HB := Hqb HB hJ
 clear h k; have xXR := XR.cell; have zXR0 := XR.frozen
 refine Jo.jnext (i := 7) (o := ⟨none, _, _, _, _, _⟩) (by kernel_rfl) rfl (fun K hK => ?_)
 go_simp; refine hK.out _ _ ?_; clear hK K xXR zXR0; have SX := StN.mk9 XR (.bool e24) (.int .i64 K24) (.bool s24) (.int .u64 M24) (.int .i64 E24) (.int .i64 K24b) (.bool s24b) (.int .u64 M24b) (.int .i64 E24b); refine Jo.jdone (by kernel_rfl) ?_; go_wp2; exact bodyPost_ret (by simp [results, Tryz.results18, go_sem, SX.box.cell]) rfl ⟨_, _, _, _, _, _, _, _, _, rfl, v24, (SX.below HB.out (by omega))⟩
theorem jPi {w : World} : Calls Tryz.prog 14 #[] w (PV w (some (PIL, PIL + 1))) := by
 have HZ : Hid (mkI PIL (PIL + 1) = some (PIL, PIL + 1)) := Lib.hid (mkI_some (by omega) (by decide) (by decide))
 go_enter Tryz.func14, Tryz.ntmps14
 go_upto_region 1 with (fail)
 generalize hW1 : w.alloc _ = w1 at *; obtain ⟨XR, HB⟩ := Bo.en1 hW1; clear hW1
 go_wp2_with fail
 refine (jBounds).mono ?_; rintro ee w2 ⟨s2, A2, n2, c2, s3, A3, n3, c3, rfl, p2, p3, k2, k3, B⟩; replace XR := XR.below B; replace HB := Hqb HB B; clear B
 go_upto_region 2 with (fail)
 have e4X3 : (World.alloc w2 (.cells #[.bool s2, .slice A2 n2 c2] 25)).heap.size = w2.heap.size + 1 := by simp
 have lX2 := Nat.le_refl (World.heap w2).size; have nX2XR := XR.lt; have BX := bel1 w2 (.cells #[.bool s2, .slice A2 n2 c2] 25); replace XR := XR.below BX; replace p2 := p2.below BX; replace p3 := p3.below BX; replace HB := Lib.hid (bt HB.out BX); have X2 := Bo.new w2 #[.bool s2, .slice A2 n2 c2] 25
 generalize hWn : World.alloc w2 (.cells #[.bool s2, .slice A2 n2 c2] 25) = w3 at *; clear hWn; have lX3 := Nat.le_refl (World.heap w3).size; have nX3XR := XR.lt; have nX3X2 := X2.lt; generalize hWn : w3.alloc _ = w4 at *; obtain ⟨X3, BW⟩ := Bo.nw hWn; clear hWn; replace XR := XR.below BW; replace X2 := X2.below BW; replace p2 := p2.below BW; replace p3 := p3.below BW; replace HB := Hqb HB BW
 clear BW; rw [e4X3] at X3; clear lX2 lX3 e4X3; have xX2 := X2.cell; have xX3 := X3.cell
 go_wp2_with fail
 refine (jPart p2.wr p3.wr (by omega) (by omega) pi_lo pi_hi HZ.out).mono ?_; rintro ee w5 ⟨e4, K4, s4, M4, E4, K4b, s4b, M4b, E4b, rfl, v4, B⟩; clear xX2 xX3; replace XR := XR.below B; replace X2 := X2.below B; replace X3 := X3.below B; replace p2 := p2.below B; replace p3 := p3.below B; replace HB := Hqb HB B; clear B; clear p2 p3; have xXR := XR.cell
 have zXR0 := XR.frozen; go_wp2; clear xXR zXR0; have SX := StN.mk9 XR (.bool e4) (.int .i64 K4) (.bool s4) (.int .u64 M4) (.int .i64 E4) (.int .i64 K4b) (.bool s4b) (.int .u64 M4b) (.int .i64 E4b); exact bodyPost_ret (by simp [results, Tryz.results14, go_sem, SX.box.cell]) rfl ⟨_, _, _, _, _, _, _, _, _, rfl, v4, (SX.below HB.out (by omega))⟩
def In (x : Int) : Prop := -19342822337206103650074625 ≤ x ∧ x ≤ 19342822337206103650074625
theorem mkI_in {a b : Int} (ha : In a) (hb : In b) : SpOk (mkI a b) := mkI_ok ha.1 hb.2
theorem SpOk.in1 {a b : Int} (h : SpOk (some (a, b))) : In a ∧ In b := by
 obtain ⟨h1, h2, h3, h4, h5⟩ := h; exact ⟨⟨by omega, by omega⟩, ⟨by omega, by omega⟩⟩
def negI (x : Sp) : Sp := match x with
 | none => none
 | some (a, b) => mkI (-b) (-a)
def addI (x y : Sp) : Sp := match x, y with
 | some (a, b), some (c, d) => mkI (addp false a c) (addp true b d)
 | _, _ => none
def cor (f : Bool → Int → Int → Int) (a b c d : Int) : Sp := mkI (min (min (f false a c) (f false a d)) (min (f false b c) (f false b d))) (max (max (f true a c) (f true a d)) (max (f true b c) (f true b d)))
def mulI (x y : Sp) : Sp := match x, y with
 | some (a, b), some (c, d) => cor mulp a b c d
 | _, _ => none
theorem negI_some {a b : Int} (h : SpOk (some (a, b))) : negI (some (a, b)) = some (-b, -a) := by
 obtain ⟨h1, h2, h3, h4, h5⟩ := h; exact mkI_some (by omega) (by omega) (by omega)
theorem negI_ok {x : Sp} (h : SpOk x) : SpOk (negI x) := by
 rcases x with _ | ⟨a, b⟩
 · exact trivial
 · obtain ⟨⟨h1, h2⟩, h3, h4⟩ := h.in1; exact mkI_in ⟨by omega, by omega⟩ ⟨by omega, by omega⟩
theorem neg_neg {x : Sp} (h : SpOk x) : negI (negI x) = x := by
 rcases x with _ | ⟨a, b⟩
 · rfl
 · have k := negI_ok h; rw [negI_some h] at k ⊢; rw [negI_some k, Int.neg_neg, Int.neg_neg]
theorem add_comm (x y : Sp) : addI x y = addI y x := by
 rcases x with _ | ⟨a, b⟩ <;> rcases y with _ | ⟨c, d⟩ <;> first | rfl | skip
 show mkI _ _ = mkI _ _
 rw [addp_comm (x := a), addp_comm (x := b)]
def Mono (f : Int → Int) (a b : Int) : Prop := (∀ x y, a ≤ x → x ≤ y → y ≤ b → f x ≤ f y) ∨ (∀ x y, a ≤ x → x ≤ y → y ≤ b → f y ≤ f x)
theorem Mono.lo {f : Int → Int} {a b x : Int} (h : Mono f a b) (h1 : a ≤ x) (h2 : x ≤ b) : min (f a) (f b) ≤ f x := by
 rcases h with h | h
 · have := h a x (Int.le_refl _) h1 h2
   omega
 · have := h x b h1 h2 (Int.le_refl _)
   omega
theorem mul_comm (x y : Sp) : mulI x y = mulI y x := by
 rcases x with _ | ⟨a, b⟩ <;> rcases y with _ | ⟨c, d⟩ <;> first | rfl | skip
 show cor mulp a b c d = cor mulp c d a b
 unfold cor
 simp only [mulp_comm (x := c), mulp_comm (x := d)]
 congr 1 <;> omega
def QF (q : Bool → Int → Int → Int) : Prop := ∀ up x y, Qt up x y (q up x y)
theorem QF.in {q : Bool → Int → Int → Int} (hq : QF q) (up : Bool) (x y : Int) : In (q up x y) := (hq up x y).bd
section
variable {q : Bool → Int → Int → Int}
end
def Ro (up : Bool) (x r : Int) (t : Bool) : Prop := if x < 0 then r = 0 ∧ t = false else if x = 0 ∨ infp x = true then r = x ∧ t = true else Rt up (vr x * 2 ^ KK) r ∧ t = true
theorem ro_it {up : Bool} {x r : Int} {t : Bool} (h : ¬ x < 0) (h2 : x = 0 ∨ infp x = true) : Ro up x r t ↔ (r = x ∧ t = true) := by
 unfold Ro
 rw [if_neg h, if_pos h2]
theorem ro_fin {up : Bool} {x r : Int} {t : Bool} (h : ¬ x < 0) (h2 : ¬ (x = 0 ∨ infp x = true)) : Ro up x r t ↔ (Rt up (vr x * 2 ^ KK) r ∧ t = true) := by
 unfold Ro
 rw [if_neg h, if_neg h2]
def RF (r : Bool → Int → Int) : Prop := ∀ up x, 0 ≤ x → Ro up x (r up x) true
theorem Rt.mono9 {up : Bool} {X Y r t : Int} (h : Rt up X r) (k : Rt up Y t) (hXY : X ≤ Y) : r ≤ t := by
 rcases Int.lt_or_le t r with c | c
 · exfalso
   cases up
   · obtain ⟨h1, h2, h3, h4⟩ := rt_f.1 h; obtain ⟨k1, k2, k3, k4⟩ := rt_f.1 k; have a := k4 (by omega); have b := vr_sq (r := t + 1) (t := r) (by omega) (by omega)
     omega
   · obtain ⟨h1, h2, h3, h4⟩ := rt_t.1 h; obtain ⟨k1, k2, k3, k4⟩ := rt_t.1 k; have a := k3 (by omega); have b := vr_sq (r := t) (t := r - 1) (by omega) (by omega)
     omega
 · exact c
theorem infp_top : infp 19342822337206103650074625 = true := by decide
section
variable {r : Bool → Int → Int}
theorem RF.zero (hr : RF r) (up : Bool) : r up 0 = 0 := ((ro_it (by decide) (.inl rfl)).1 (hr up 0 (by decide))).1
theorem RF.top (hr : RF r) (up : Bool) : r up 19342822337206103650074625 = 19342822337206103650074625 := ((ro_it (by decide) (.inr infp_top)).1 (hr up _ (by decide))).1
theorem RF.fin (hr : RF r) (up : Bool) {x : Int} (h0 : 0 < x) (h1 : x < 19342822337206103650074625) : Rt up (vr x * 2 ^ KK) (r up x) :=
 ((ro_fin (by omega) (by rw [infp_fin (by omega) h1]; simp; omega)).1 (hr up x (by omega))).1
theorem RF.in (hr : RF r) (up : Bool) {x : Int} (h0 : 0 ≤ x) (h1 : x ≤ 19342822337206103650074625) : 0 ≤ r up x ∧ r up x ≤ 19342822337206103650074625 := by
 by_cases c : x = 0
 · subst c; rw [hr.zero]
   decide
 · by_cases d : x = 19342822337206103650074625
   · subst d; rw [hr.top]
     decide
   · have := hr.fin up (x := x) (by omega) (by omega)
     cases up
     · have := rt_f.1 this
       omega
     · have := rt_t.1 this
       omega
theorem RF.mono (hr : RF r) (up : Bool) {x y : Int} (h0 : 0 ≤ x) (h : x ≤ y) (h1 : y ≤ 19342822337206103650074625) : r up x ≤ r up y := by
 have X := hr.in up h0 (by omega)
 have Y := hr.in up (show 0 ≤ y by omega) h1
 by_cases c : x = 0
 · subst c; rw [hr.zero]
   omega
 · by_cases d : y = 19342822337206103650074625
   · subst d; rw [hr.top]
     omega
   · exact (hr.fin up (by omega) (by omega)).mono9 (hr.fin up (by omega) (by omega)) (Int.mul_le_mul_of_nonneg_right (vr_le h) (Int.le_of_lt (p2pos KK)))
end
section
variable {r : Bool → Int → Int}
end
theorem In.fin {x : Int} (h1 : -19342822337206103650074625 < x) (h2 : x < 19342822337206103650074625) : In x := ⟨by omega, by omega⟩
theorem opl_fin {a : Int} (h1 : -9223372036854775807 ≤ a) (h2 : a ≤ 9223372036854775807) : -19342822337206103650074625 < opl a ∧ opl a < 19342822337206103650074625 := by
 rcases Int.lt_or_le 0 a with c | c
 · have := opl_pos c h2
   omega
 · by_cases d : a = 0
   · subst d
     decide
   · have := opl_pos (n := -a) (by omega) (by omega)
     rw [opl_neg] at this
     omega
end Go.Proofs.YtmmallhniijdfaaGreatDoor
namespace Go.Proofs.YtmmallhniijdfaaGreatDoor
open Go Go.RowKit
set_option linter.unusedVariables false
def fixB (x : Int) : Bool := decide (-opl 1073741824 < x ∧ x < opl 1073741824)
def fixI (x : Int) : Int := if fixB x = true then vr x * SC / 2 ^ KK else 0
theorem flr_uniq {a b q : Int} (hb : 0 < b) (h1 : q * b ≤ a) (h2 : a < (q + 1) * b) : a / b = q :=
 Int.le_antisymm (Int.lt_add_one_iff.1 (Int.ediv_lt_of_lt_mul hb h2)) (Int.le_ediv_of_mul_le hb h1)
theorem sc_pow : SC = 2 ^ 192 := by decide
theorem flr_moved {N F : Int} (nf : mk N F = (N, F)) (hN : N.natAbs < 2 ^ 128) (h1 : -2900000 ≤ F) (h2 : F ≤ 2900000) :
   flr (mv N F 192).1 (mv N F 192).2 = N * 2 ^ (F + KK).toNat * SC / 2 ^ KK := by
 have e : mv N F 192 = mk N (F + 192) := by
   unfold mv
   rw [if_neg (by omega), nf]
 rw [e]; obtain ⟨a, b⟩ := flr_vl (mk_nf N (F + 192)); have v := mk_vl hN (e := F + 192) (by omega) (by omega)
 rw [v, show (F + 192 + (KK : Int)).toNat = (F + KK).toNat + 192 by rw [KK_eq]; omega, Int.pow_add, ← Int.mul_assoc, ← sc_pow] at a b
 exact (flr_uniq (p2pos KK) a b).symm
theorem fixI_yes {x : Int} (h : fixB x = true) : fixI x = vr x * SC / 2 ^ KK := if_pos h
theorem fixI_no {x : Int} (h : fixB x = false) : fixI x = 0 := if_neg (by rw [h]; decide)
theorem t30 : opl 1073741824 < 19342822337206103650074625 ∧ 0 < opl 1073741824 := by
 have a := opl_fin (a := 1073741824) (by decide) (by decide); have b := opl_vr (n := 1073741824) (by decide) (by decide); refine ⟨a.2, ?_⟩
 rcases Int.lt_or_le 0 (opl 1073741824) with h | h
 · exact h
 · exfalso
   have c := vr_le h
   rw [b, show vr 0 = 0 from rfl] at c
   have := p2pos KK
   omega
theorem fix_far {x N F : Int} (hv : vr x = N * 2 ^ (F + KK).toNat) (hN : N.natAbs < 2 ^ 64) (h1 : -2900000 ≤ F) (hF : F < -3000) : vr x * SC / 2 ^ KK = if N < 0 then -1 else 0 := by
 have hp := p2pos (F + KK).toNat
 have k : (2 : Int) ^ KK = 2 ^ (F + KK).toNat * 2 ^ (-F).toNat := by rw [← Int.pow_add]; congr 1; rw [KK_eq]; omega
 obtain ⟨m, hm⟩ : ∃ m, (-F).toNat = 256 + m := ⟨(-F).toNat - 256, by omega⟩
 have k2 : (2 : Int) ^ (-F).toNat = 2 ^ 256 * 2 ^ m := by rw [hm, Int.pow_add]
 have k3 := p2pos m
 have n1 : -2 ^ 64 < N := by omega
 have n2 : N < 2 ^ 64 := by omega
 have s1 : N * SC < 2 ^ (-F).toNat ∧ -2 ^ (-F).toNat ≤ N * SC := by
   rw [k2]; generalize (2 : Int) ^ m = u at *
   constructor
   · have : (2 : Int) ^ 256 * 1 ≤ 2 ^ 256 * u := Int.mul_le_mul_of_nonneg_left (by omega) (by decide)
     rw [show (2 : Int) ^ 64 = 18446744073709551616 from rfl] at n2
     have c : N * SC < 2 ^ 256 := by
       rw [show (2 : Int) ^ 256 = 18446744073709551616 * SC by decide]
       exact Int.mul_lt_mul_of_pos_right n2 (by decide)
     omega
   · have : (2 : Int) ^ 256 * 1 ≤ 2 ^ 256 * u := Int.mul_le_mul_of_nonneg_left (by omega) (by decide)
     rw [show (2 : Int) ^ 64 = 18446744073709551616 from rfl] at n1
     have c : -(2 ^ 256) ≤ N * SC := by
       rw [show -(2 : Int) ^ 256 = -18446744073709551616 * SC by decide]
       exact Int.mul_le_mul_of_nonneg_right (Int.le_of_lt n1) (by decide)
     omega
 have e : vr x * SC = 2 ^ (F + KK).toNat * (N * SC) := by
   rw [hv, Int.mul_comm N, Int.mul_assoc]
 have hq := p2pos (-F).toNat; rw [e, k]; generalize (2 : Int) ^ (F + KK).toNat = u at *; generalize (2 : Int) ^ (-F).toNat = t at *
 by_cases c : N < 0
 · rw [if_pos c]
   have c2 : N * SC < 0 := Int.mul_neg_of_neg_of_pos c (by decide)
   refine flr_uniq (Int.mul_pos hp hq) ?_ ?_
   · rw [show -1 * (u * t) = u * -t by rw [Int.mul_neg, Int.neg_mul, Int.one_mul]]
     exact Int.mul_le_mul_of_nonneg_left s1.2 (by omega)
   · rw [show (-1 + 1 : Int) * (u * t) = 0 by rw [show (-1 + 1 : Int) = 0 from rfl, Int.zero_mul]]
     exact Int.mul_neg_of_pos_of_neg hp c2
 · rw [if_neg c]
   have c2 : 0 ≤ N * SC := Int.mul_nonneg (by omega) (by decide)
   refine flr_uniq (Int.mul_pos hp hq) ?_ ?_
   · rw [Int.zero_mul]; exact Int.mul_nonneg (by omega) c2
   · rw [Int.zero_add, Int.one_mul]; exact Int.mul_lt_mul_of_pos_left s1.1 hp
theorem fix_exq {s : Bool} {M E x : Int} (q : Fq 1 s M E x) : ∃ N F, exb 1 s M E = true ∧ (exq 1 s M E).1 = N ∧ (exq 1 s M E).2 = F ∧ mk N F = (N, F) ∧ vr x = N * 2 ^ (F + KK).toNat ∧ N.natAbs < 2 ^ 64 ∧ -2900000 ≤ F ∧ F ≤ 2900000 ∧ (N < 0 ↔ s = true) := by
 obtain ⟨h1, h2, h3, h4, fx⟩ : 9223372036854775808 ≤ M ∧ M < 18446744073709551616 ∧ -1048576 ≤ E ∧ E ≤ 1048576 ∧ (-19342822337206103650074625 < x ∧ x < 19342822337206103650074625) := by
   rcases q.cases with ⟨c, _⟩ | ⟨_, h1, h2, h3, h4, ⟨_, h5⟩ | ⟨_, h5⟩⟩ | ⟨c, _⟩
   · omega
   · exact ⟨h1, h2, h3, h4, by omega, by omega⟩
   · exact ⟨h1, h2, h3, h4, by omega, by omega⟩
   · omega
 obtain ⟨hb, hv⟩ := exq_vl q fx.1 fx.2
 have he : exq 1 s M E = mk (sgi s M) E := if_pos hb
 have hz : sgi s M ≠ 0 ∧ (sgi s M).natAbs = M.natAbs ∧ (sgi s M < 0 ↔ s = true) := by
   cases s
   · rw [show sgi false M = M from if_neg (by decide)]
     exact ⟨by omega, rfl, by constructor <;> intro h <;> first | omega | cases h⟩
   · rw [show sgi true M = -M from if_pos rfl]
     exact ⟨by omega, by omega, by constructor <;> intro h <;> first | omega | rfl⟩
 obtain ⟨z0, z1, z2⟩ := hz; rw [he] at hv; rw [he]; generalize sgi s M = z at *; obtain ⟨e1, _⟩ := v2_spec z.natAbs (by omega)
 have hm : z.natAbs < 2 ^ 64 := by omega
 have v64 : v2 z.natAbs < 64 := by
   rcases Nat.lt_or_ge (v2 z.natAbs) 64 with c | c
   · exact c
   · exfalso
     have a : 2 ^ 64 ≤ 2 ^ v2 z.natAbs := Nat.pow_le_pow_right (by decide) c
     have b : 0 < z.natAbs / 2 ^ v2 z.natAbs := by
       rcases Nat.eq_zero_or_pos (z.natAbs / 2 ^ v2 z.natAbs) with d | d
       · rw [d, Nat.zero_mul] at e1
         omega
       · exact d
     have d := Nat.mul_le_mul b (Nat.le_refl (2 ^ v2 z.natAbs))
     omega
 obtain ⟨k1, k2, k3, _, _⟩ := mk_in (z := z) (e := E) z0 (by omega) (by omega); have nf := mk_nf z E; refine ⟨_, _, hb, rfl, rfl, nf, hv.symm, ?_, by omega, by omega, k3.trans z2⟩
 rw [k2]; exact Nat.lt_of_le_of_lt (Nat.div_le_self _ _) hm
theorem fq_abs {K : Int} {s : Bool} {M E x : Int} (q : Fq K s M E x) (hK : K ≠ 0) : Fq K false M E (if s = true then -x else x) := by
 cases s
 · exact q
 · exact rk_neg q hK
theorem fixB_abs {s : Bool} {x c : Int} (hs : s = true ↔ x < 0) (h : cmpI (if s = true then -x else x) (opl 1073741824) = c) : decide (0 ≤ c) = !(fixB x) := by
 have t := t30
 unfold fixB
 rw [← h]
 cases s
 · have hx : ¬ x < 0 := fun e => by cases hs.2 e
   rw [if_neg (by decide)]
   by_cases g : x < opl 1073741824
   · rw [cmpI_lt g, decide_eq_true (show -opl 1073741824 < x ∧ x < opl 1073741824 from ⟨by omega, g⟩)]
     rfl
   · rw [decide_eq_false (show ¬ (-opl 1073741824 < x ∧ x < opl 1073741824) from fun e => g e.2)]
     rcases cmpI_tri x (opl 1073741824) with ⟨a, b⟩ | ⟨a, b⟩ | ⟨a, b⟩ <;> rw [b] <;> first | rfl | omega
 · have hx : x < 0 := hs.1 rfl
   rw [if_pos rfl]
   by_cases g : -x < opl 1073741824
   · rw [cmpI_lt g, decide_eq_true (show -opl 1073741824 < x ∧ x < opl 1073741824 from ⟨by omega, by omega⟩)]
     rfl
   · rw [decide_eq_false (show ¬ (-opl 1073741824 < x ∧ x < opl 1073741824) from fun e => g (by omega))]
     rcases cmpI_tri (-x) (opl 1073741824) with ⟨a, b⟩ | ⟨a, b⟩ | ⟨a, b⟩ <;> rw [b] <;> first | rfl | omega
theorem fix_zero : fixB 0 = true ∧ fixI 0 = 0 := by
 have t := t30
 have h : fixB 0 = true := decide_eq_true ⟨by omega, by omega⟩
 refine ⟨h, ?_⟩
 rw [fixI_yes h, show vr 0 = 0 from rfl, Int.zero_mul, Int.zero_ediv]
theorem fix_inf {s : Bool} {M E x : Int} (q : Fq 2 s M E x) : fixB x = false ∧ fixI x = 0 ∧ exb 2 s M E = false := by
 have t := t30
 have h : fixB x = false := by
   refine decide_eq_false ?_
   rcases q.cases with ⟨c, _⟩ | ⟨c, _⟩ | ⟨_, _, _, ⟨_, h5⟩ | ⟨_, h5⟩⟩
   · omega
   · omega
   · omega
   · omega
 exact ⟨h, fixI_no h, by unfold exb; simp⟩
theorem fq_sign {K : Int} {s : Bool} {M E x : Int} (q : Fq K s M E x) : s = true ↔ x < 0 := by
 rcases q.three with ⟨a, b⟩ | ⟨a, rfl, b⟩ | ⟨a, rfl, b⟩
 · rcases q.cases with ⟨_, rfl, _⟩ | ⟨c, _⟩ | ⟨c, _⟩
   · constructor
     · intro h; cases h
     · intro h; omega
   · omega
   · omega
 · constructor
   · intro h; cases h
   · intro h; omega
 · exact ⟨fun _ => b, fun _ => rfl⟩
theorem fq_mn {K : Int} {s : Bool} {M E x : Int} (q : Fq K s M E x) : 0 ≤ M := by
 rcases q.cases with ⟨_, _, rfl, _⟩ | ⟨_, h1, _⟩ | ⟨_, rfl, _⟩ <;> omega
theorem fq_kind {K : Int} {s : Bool} {M E x : Int} (q : Fq K s M E x) : (K = 0 ∧ x = 0) ∨ K = 1 ∨ K = 2 := by
 rcases q.cases with ⟨a, _, _, _, b⟩ | ⟨a, _⟩ | ⟨a, _⟩
 · exact .inl ⟨a, b⟩
 · exact .inr (.inl a)
 · exact .inr (.inr a)
end Go.Proofs.YtmmallhniijdfaaGreatDoor

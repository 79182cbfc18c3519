/-
  The walk of PiDoubles: for all arguments the call answers true, and nothing that was there has turned.
-/
import Derived.Test.YtmmallhniijdfaaDoorYAbc
namespace Go.Proofs.YtmmallhniijdfaaDoor
set_option maxHeartbeats 8000000
open Go.RowKit
set_option linter.unusedVariables false
set_option linter.unusedSimpArgs false
set_option maxRecDepth 100000
theorem cmp_le11 {x y c : Int} (h : cmpI x y = c) (e : x ≤ y) : decide (c ≤ 0) = true := by
 rw [← h]
 exact decide_eq_true (by rcases cmpI_tri x y with ⟨a, b⟩ | ⟨a, b⟩ | ⟨a, b⟩ <;> rw [b] <;> omega)
theorem piDoubles_n (w : World) (hT : Tab w) (a b c d p q : Int) (h2 : invP 2 = (a, b)) (h3 : invP 3 = (c, d)) (h7 : invP 7 = (p, q)) (e1 : 4 * (a + c) ≤ PHi) (e2 : PLo ≤ 4 * (b + d)) :
   Calls Tryd.prog 5 #[.bool false] w (PB w true) := by
 have H2 := Lib.hid h2; have H3 := Lib.hid h3; have H7 := Lib.hid h7; obtain ⟨σ, hσ⟩ : ∃ σ, cmpI (4 * (a + c)) PHi = σ := ⟨_, rfl⟩; obtain ⟨τ, hτ⟩ : ∃ σ, cmpI PLo (4 * (b + d)) = σ := ⟨_, rfl⟩; have t1 := cmp_le11 hσ e1; have t2 := cmp_le11 hτ e2; have C1 := Lib.hid hσ; have C2 := Lib.hid hτ; clear h2 h3 h7 e1 e2 hσ hτ
 go_enter Tryd.func5, Tryd.ntmps5
 have HB := Lib.hid (Below.refl w.heap.size w)
 go_wp2_with fail
 refine (awake11 hT).mono ?_; rintro ee w2 ⟨rfl, B⟩; replace hT := hT.below B; replace HB := Hqb HB B; clear B; clear hT
 go_wp2_with fail
 refine (cBounds).mono ?_; rintro ee w3 ⟨s11, A11, n11, c11, s12, A12, n12, c12, rfl, p11, p12, k11, k12, B⟩; replace HB := Hqb HB B; clear B; have hsz11 := HB.out.size
 go_upto_region 3 with (fail)
 have e4X5 : (World.alloc w3 (.cells #[.bool s11, .slice A11 n11 c11] 28)).heap.size = w3.heap.size + 1 := by simp
 have lX4 := Nat.le_refl (World.heap w3).size; have BX := bel1 w3 (.cells #[.bool s11, .slice A11 n11 c11] 28); replace p11 := p11.below BX; replace p12 := p12.below BX; replace HB := Lib.hid (bt HB.out BX); have X4 := Bo.new w3 #[.bool s11, .slice A11 n11 c11] 28; generalize hWn : World.alloc w3 (.cells #[.bool s11, .slice A11 n11 c11] 28) = w4 at *
 clear hWn; have lX5 := Nat.le_refl (World.heap w4).size; have nX5X4 := X4.lt; generalize hWn : w4.alloc _ = w5 at *; obtain ⟨X5, BW⟩ := Bo.nw hWn; clear hWn; replace X4 := X4.below BW; replace p11 := p11.below BW; replace p12 := p12.below BW; replace HB := Hqb HB BW; clear BW; rw [e4X5] at X5; clear lX4 lX5 e4X5
 go_wp2_with fail
 refine (cInv H2.out).mono ?_; rintro ee w6 ⟨s13, A13, n13, c13, s14, A14, n14, c14, rfl, p13, p14, k13, k14, B⟩; replace X4 := X4.below B; replace X5 := X5.below B; replace p11 := p11.below B; replace p12 := p12.below B; replace HB := Hqb HB B; clear B; have hsz13 := HB.out.size
 go_upto_region 4 with (fail)
 have e4X7 : (World.alloc w6 (.cells #[.bool s13, .slice A13 n13 c13] 28)).heap.size = w6.heap.size + 1 := by simp
 have lX6 := Nat.le_refl (World.heap w6).size; have nX6X4 := X4.lt; have nX6X5 := X5.lt; have BX := bel1 w6 (.cells #[.bool s13, .slice A13 n13 c13] 28); replace X4 := X4.below BX; replace X5 := X5.below BX; replace p11 := p11.below BX; replace p12 := p12.below BX
 replace p13 := p13.below BX; replace p14 := p14.below BX; replace HB := Lib.hid (bt HB.out BX); have X6 := Bo.new w6 #[.bool s13, .slice A13 n13 c13] 28; generalize hWn : World.alloc w6 (.cells #[.bool s13, .slice A13 n13 c13] 28) = w7 at *; clear hWn
 have lX7 := Nat.le_refl (World.heap w7).size; have nX7X4 := X4.lt; have nX7X5 := X5.lt; have nX7X6 := X6.lt; generalize hWn : w7.alloc _ = w8 at *; obtain ⟨X7, BW⟩ := Bo.nw hWn; clear hWn; replace X4 := X4.below BW; replace X5 := X5.below BW; replace X6 := X6.below BW; replace p11 := p11.below BW; replace p12 := p12.below BW; replace p13 := p13.below BW; replace p14 := p14.below BW; replace HB := Hqb HB BW
 clear BW; rw [e4X7] at X7; clear lX6 lX7 e4X7
 go_wp2_with fail
 refine (cInv H3.out).mono ?_; rintro ee w9 ⟨s15, A15, n15, c15, s16, A16, n16, c16, rfl, p15, p16, k15, k16, B⟩; replace X4 := X4.below B; replace X5 := X5.below B; replace X6 := X6.below B; replace X7 := X7.below B; replace p11 := p11.below B; replace p12 := p12.below B; replace p13 := p13.below B; replace p14 := p14.below B; replace HB := Hqb HB B; clear B; have hsz15 := HB.out.size
 go_upto_region 11 with (fail)
 have e4X9 : (World.alloc w9 (.cells #[.bool s15, .slice A15 n15 c15] 28)).heap.size = w9.heap.size + 1 := by simp
 have lX8 := Nat.le_refl (World.heap w9).size; have nX8X4 := X4.lt; have nX8X5 := X5.lt; have nX8X6 := X6.lt; have nX8X7 := X7.lt; have BX := bel1 w9 (.cells #[.bool s15, .slice A15 n15 c15] 28); replace X4 := X4.below BX; replace X5 := X5.below BX; replace X6 := X6.below BX; replace X7 := X7.below BX
 replace p11 := p11.below BX; replace p12 := p12.below BX; replace p13 := p13.below BX; replace p14 := p14.below BX; replace p15 := p15.below BX
 replace p16 := p16.below BX; replace HB := Lib.hid (bt HB.out BX); have X8 := Bo.new w9 #[.bool s15, .slice A15 n15 c15] 28; generalize hWn : World.alloc w9 (.cells #[.bool s15, .slice A15 n15 c15] 28) = wA at *; clear hWn; have lX9 := Nat.le_refl (World.heap wA).size; have nX9X4 := X4.lt; have nX9X5 := X5.lt
 have nX9X6 := X6.lt; have nX9X7 := X7.lt; have nX9X8 := X8.lt; generalize hWn : wA.alloc _ = wB at *; obtain ⟨X9, BW⟩ := Bo.nw hWn; clear hWn; replace X4 := X4.below BW; replace X5 := X5.below BW; replace X6 := X6.below BW; replace X7 := X7.below BW; replace X8 := X8.below BW; replace p11 := p11.below BW; replace p12 := p12.below BW; replace p13 := p13.below BW; replace p14 := p14.below BW; replace p15 := p15.below BW
 replace p16 := p16.below BW; replace HB := Hqb HB BW; clear BW; rw [e4X9] at X9; clear lX8 lX9 e4X9
 go_wp2_with fail
 refine (wFrom 4 _ (by decide) (by decide)).mono ?_; rintro ee wL ⟨s21, A21, n21, c21, rfl, p21, k21, B⟩; replace X4 := X4.below B; replace X5 := X5.below B; replace X6 := X6.below B; replace X7 := X7.below B; replace X8 := X8.below B; replace X9 := X9.below B; replace p11 := p11.below B; replace p12 := p12.below B; replace p13 := p13.below B; replace p14 := p14.below B; replace p15 := p15.below B
 replace p16 := p16.below B; replace HB := Hqb HB B; clear B
 go_upto_region 12 with (fail)
 have lX12 := Nat.le_refl (World.heap wL).size; have nX12X4 := X4.lt; have nX12X5 := X5.lt; have nX12X6 := X6.lt; have nX12X7 := X7.lt; have nX12X8 := X8.lt; have nX12X9 := X9.lt; generalize hWn : wL.alloc _ = wM at *; obtain ⟨X12, BW⟩ := Bo.nw hWn; clear hWn; replace X4 := X4.below BW; replace X5 := X5.below BW; replace X6 := X6.below BW; replace X7 := X7.below BW; replace X8 := X8.below BW; replace X9 := X9.below BW
 replace p11 := p11.below BW; replace p12 := p12.below BW; replace p13 := p13.below BW; replace p14 := p14.below BW; replace p15 := p15.below BW; replace p16 := p16.below BW; replace p21 := p21.below BW; replace HB := Hqb HB BW; clear BW; clear lX12; have ltX4 := X4.lt; have ltX5 := X5.lt; have ltX6 := X6.lt; have ltX7 := X7.lt; have ltX8 := X8.lt; have ltX9 := X9.lt; have ltX12 := X12.lt
 have hsz := HB.out.size; refine Jo.rk [0, 1, 2, 3, 4, 5, 6] [some 42, some 43, some 44, some 45, some 46, some 47, some 13, none] [[], [], [], [1, 2], [0, 3], [4], [], []] 8 1 [Jo.Fact.eq (.agg #[.bool s21, .slice A21 n21 c21]), Jo.Fact.eq (.agg #[.bool s13, .slice A13 n13 c13]), Jo.Fact.eq (.agg #[.bool s15, .slice A15 n15 c15]), Jo.Fact.wn (a + c) (5000003), Jo.Fact.wl 5000003 2 [4, a + c], Jo.Fact.wn (4 * (a + c)) (10000007), Jo.Fact.bo wM.heap.size #[.bool false, .slice none 0 0] 28, Jo.Fact.any] (by kernel_rfl) (by kernel_rfl) (by decide) rfl ?_ ?_
 · iterate 3 (refine Jo.jm rfl ?_ ?_; rotate_left)
   refine Jo.jm rfl ?_ ?_
   · rintro wj hJ _ rfl _ rfl K hK; simp only [Jo.z] at hK ⊢; go_simp; refine (wAdd (p13.below hJ).wr (p15.below hJ).wr (by omega) (by omega) rfl).mono ?_; rintro ee wk ⟨s30, A30, n30, c30, rfl, p30, k30, B⟩; exact hK.out _ _ ⟨s30, A30, n30, c30, rfl, p30, by omega⟩ B
   refine Jo.jm rfl ?_ ?_
   · rintro wj hJ _ rfl _ ⟨s30, A30, n30, c30, rfl, p30, k30⟩ K hK; simp only [Jo.z] at hK ⊢; go_simp; exact hK.out _ _ ⟨_, _, rfl, Wl.lit2 rfl (p21.below hJ).wr p30.wr (by omega) (by omega)⟩ (bel1 _ _)
   refine Jo.jm rfl ?_ ?_
   · rintro wj hJ _ ⟨A35, c35, rfl, h35⟩ K hK; simp only [Jo.z] at hK ⊢; go_simp
     refine (wMul h35 (by decide) (by show 1 * 4 * (a + c) = _; rw [Int.one_mul])).mono ?_
     rintro ee wk ⟨s31, A31, n31, c31, rfl, p31, k31, B⟩; exact hK.out _ _ ⟨s31, A31, n31, c31, rfl, p31, by omega⟩ B
   refine Jo.jm rfl ?_ ?_
   · rintro wj hJ K hK; simp only [Jo.z] at hK ⊢; go_simp; exact hK.out _ _ ⟨_, rfl, hJ.size, Bo.new _ _ _⟩ (bel1 _ _)
   exact Jo.Steps.nil
   all_goals (rintro wj hJ; (repeat rintro _ rfl); intro K hK; simp only [Jo.z] at hK ⊢; have xX12 := (X12.below hJ).cell; have xX6 := (X6.below hJ).cell; have xX8 := (X8.below hJ).cell; go_simp; exact hK.out _ _ rfl (br _ _))
 rintro wN hJ _ rfl _ rfl _ rfl _ ⟨s30, A30, n30, c30, rfl, p30, k30⟩ _ ⟨_, _, rfl, _⟩ _ ⟨s31, A31, n31, c31, rfl, p31, k31⟩ _ ⟨g13, rfl, hg13, X13⟩ -; simp only [Jo.z]; replace X4 := X4.below hJ; replace X5 := X5.below hJ; replace X6 := X6.below hJ; replace X7 := X7.below hJ; replace X8 := X8.below hJ; replace X9 := X9.below hJ; replace X12 := X12.below hJ; replace p11 := p11.below hJ; replace p12 := p12.below hJ
 replace p13 := p13.below hJ; replace p14 := p14.below hJ; replace p15 := p15.below hJ; replace p16 := p16.below hJ; replace p21 := p21.below hJ; replace HB := Hqb HB hJ; have xX13 := X13.cell; have zX130 := X13.frozen
 refine Jo.jnext (i := 7) (o := ⟨none, _, _, _, _, _⟩) (by kernel_rfl) rfl (fun K hK => ?_)
 go_simp; refine hK.out _ _ ?_; clear hK K xX13 zX130; generalize hS : (wN.setCell _ _).setCell _ _ = wO at *; have SX := StN.of2 X13 hS; replace X4 := X4.stn SX (by omega); replace X5 := X5.stn SX (by omega); replace X6 := X6.stn SX (by omega); replace X7 := X7.stn SX (by omega); replace X8 := X8.stn SX (by omega); replace X9 := X9.stn SX (by omega); replace X12 := X12.stn SX (by omega); replace p11 := p11.stn SX (by simp [no32])
 replace p12 := p12.stn SX (by simp [no32]); replace p13 := p13.stn SX (by simp [no32]); replace p14 := p14.stn SX (by simp [no32]); replace p15 := p15.stn SX (by simp [no32]); replace p16 := p16.stn SX (by simp [no32]); replace p21 := p21.stn SX (by simp [no32]); replace p31 := p31.stn SX (by simp [no32]); replace HB := Hqs HB SX (by omega); replace X13 := SX.box; clear SX hS; refine Jo.jdone (by kernel_rfl) ?_
 go_upto_region 13 with (fail)
 have ltX4 := X4.lt; have ltX5 := X5.lt; have ltX6 := X6.lt; have ltX7 := X7.lt; have ltX8 := X8.lt; have ltX9 := X9.lt; have ltX12 := X12.lt; have ltX13 := X13.lt; have hsz := HB.out.size; refine Jo.rk [0, 1, 2, 3, 4, 5, 6] [some 48, some 49, some 50, some 51, some 52, some 53, some 14, none] [[], [], [], [1, 2], [0, 3], [4], [], []] 8 1 [Jo.Fact.eq (.agg #[.bool s21, .slice A21 n21 c21]), Jo.Fact.eq (.agg #[.bool s14, .slice A14 n14 c14]), Jo.Fact.eq (.agg #[.bool s16, .slice A16 n16 c16]), Jo.Fact.wn (b + d) (5000003), Jo.Fact.wl 5000003 2 [4, b + d], Jo.Fact.wn (4 * (b + d)) (10000007), Jo.Fact.bo wO.heap.size #[.bool false, .slice none 0 0] 28, Jo.Fact.any] (by kernel_rfl) (by kernel_rfl) (by decide) rfl ?_ ?_
 · iterate 3 (refine Jo.jm rfl ?_ ?_; rotate_left)
   refine Jo.jm rfl ?_ ?_
   · rintro wj hJ _ rfl _ rfl K hK; simp only [Jo.z] at hK ⊢; go_simp; refine (wAdd (p14.below hJ).wr (p16.below hJ).wr (by omega) (by omega) rfl).mono ?_; rintro ee wk ⟨s40, A40, n40, c40, rfl, p40, k40, B⟩; exact hK.out _ _ ⟨s40, A40, n40, c40, rfl, p40, by omega⟩ B
   refine Jo.jm rfl ?_ ?_
   · rintro wj hJ _ rfl _ ⟨s40, A40, n40, c40, rfl, p40, k40⟩ K hK; simp only [Jo.z] at hK ⊢; go_simp; exact hK.out _ _ ⟨_, _, rfl, Wl.lit2 rfl (p21.below hJ).wr p40.wr (by omega) (by omega)⟩ (bel1 _ _)
   refine Jo.jm rfl ?_ ?_
   · rintro wj hJ _ ⟨A45, c45, rfl, h45⟩ K hK; simp only [Jo.z] at hK ⊢; go_simp
     refine (wMul h45 (by decide) (by show 1 * 4 * (b + d) = _; rw [Int.one_mul])).mono ?_
     rintro ee wk ⟨s41, A41, n41, c41, rfl, p41, k41, B⟩; exact hK.out _ _ ⟨s41, A41, n41, c41, rfl, p41, by omega⟩ B
   refine Jo.jm rfl ?_ ?_
   · rintro wj hJ K hK; simp only [Jo.z] at hK ⊢; go_simp; exact hK.out _ _ ⟨_, rfl, hJ.size, Bo.new _ _ _⟩ (bel1 _ _)
   exact Jo.Steps.nil
   all_goals (rintro wj hJ; (repeat rintro _ rfl); intro K hK; simp only [Jo.z] at hK ⊢; have xX12 := (X12.below hJ).cell; have xX7 := (X7.below hJ).cell; have xX9 := (X9.below hJ).cell; go_simp; exact hK.out _ _ rfl (br _ _))
 rintro wP hJ _ rfl _ rfl _ rfl _ ⟨s40, A40, n40, c40, rfl, p40, k40⟩ _ ⟨_, _, rfl, _⟩ _ ⟨s41, A41, n41, c41, rfl, p41, k41⟩ _ ⟨g14, rfl, hg14, X14⟩ -; simp only [Jo.z]; replace X4 := X4.below hJ; replace X5 := X5.below hJ; replace X6 := X6.below hJ; replace X7 := X7.below hJ; replace X8 := X8.below hJ; replace X9 := X9.below hJ; replace X12 := X12.below hJ; replace X13 := X13.below hJ; replace p11 := p11.below hJ
 replace p12 := p12.below hJ; replace p13 := p13.below hJ; replace p14 := p14.below hJ; replace p15 := p15.below hJ; replace p16 := p16.below hJ; replace p21 := p21.below hJ; replace p31 := p31.below hJ; replace HB := Hqb HB hJ; have xX14 := X14.cell; have zX140 := X14.frozen
 refine Jo.jnext (i := 7) (o := ⟨none, _, _, _, _, _⟩) (by kernel_rfl) rfl (fun K hK => ?_)
 go_simp; refine hK.out _ _ ?_; clear hK K xX14 zX140; generalize hS : (wP.setCell _ _).setCell _ _ = wQ at *; have SX := StN.of2 X14 hS; replace X4 := X4.stn SX (by omega); replace X5 := X5.stn SX (by omega); replace X6 := X6.stn SX (by omega); replace X7 := X7.stn SX (by omega); replace X8 := X8.stn SX (by omega); replace X9 := X9.stn SX (by omega); replace X12 := X12.stn SX (by omega); replace X13 := X13.stn SX (by omega)
 replace p11 := p11.stn SX (by simp [no32]); replace p12 := p12.stn SX (by simp [no32]); replace p13 := p13.stn SX (by simp [no32]); replace p14 := p14.stn SX (by simp [no32]); replace p15 := p15.stn SX (by simp [no32]); replace p16 := p16.stn SX (by simp [no32]); replace p21 := p21.stn SX (by simp [no32]); replace p31 := p31.stn SX (by simp [no32]); replace p41 := p41.stn SX (by simp [no32]); replace HB := Hqs HB SX (by omega)
 replace X14 := SX.box; clear SX hS; refine Jo.jdone (by kernel_rfl) ?_
 go_upto_region 14 with (fail)
 have xX13 := X13.cell; have xX5 := X5.cell
 go_wp2_with fail
 refine (wCmp p31.wr p12.wr C1.out).mono ?_; rintro ee wR ⟨rfl, B⟩; clear xX13 xX5; replace X4 := X4.below B; replace X5 := X5.below B; replace X6 := X6.below B; replace X7 := X7.below B; replace X8 := X8.below B; replace X9 := X9.below B; replace X12 := X12.below B; replace X13 := X13.below B; replace X14 := X14.below B; replace p11 := p11.below B; replace p12 := p12.below B; replace p13 := p13.below B
 replace p14 := p14.below B; replace p15 := p15.below B; replace p16 := p16.below B; replace p21 := p21.below B; replace p31 := p31.below B; replace p41 := p41.below B; replace HB := Hqb HB B; clear B; have xX14 := X14.cell; have xX4 := X4.cell
 go_wp2_with fail
 refine (wCmp p11.wr p41.wr C2.out).mono ?_; rintro ee wS ⟨rfl, B⟩; clear xX14 xX4; replace X4 := X4.below B; replace X5 := X5.below B; replace X6 := X6.below B; replace X7 := X7.below B; replace X8 := X8.below B; replace X9 := X9.below B; replace X12 := X12.below B; replace X13 := X13.below B; replace X14 := X14.below B; replace p11 := p11.below B; replace p12 := p12.below B; replace p13 := p13.below B
 replace p14 := p14.below B; replace p15 := p15.below B; replace p16 := p16.below B; replace p21 := p21.below B; replace p31 := p31.below B; replace p41 := p41.below B; replace HB := Hqb HB B; clear B; go_wp2
 go_ret
 exact ⟨by first | rfl | simp_all, HB.out⟩
theorem piDoubles_y (w : World) (hT : Tab w) (a b c d p q : Int) (h2 : invP 2 = (a, b)) (h3 : invP 3 = (c, d)) (h7 : invP 7 = (p, q)) (e1 : 4 * (p + (c + c)) ≤ PHi) (e2 : PLo ≤ 4 * (q + (d + d))) :
   Calls Tryd.prog 5 #[.bool true] w (PB w true) := by
 have H2 := Lib.hid h2; have H3 := Lib.hid h3; have H7 := Lib.hid h7; obtain ⟨σ, hσ⟩ : ∃ σ, cmpI (4 * (p + (c + c))) PHi = σ := ⟨_, rfl⟩; obtain ⟨τ, hτ⟩ : ∃ σ, cmpI PLo (4 * (q + (d + d))) = σ := ⟨_, rfl⟩; have t1 := cmp_le11 hσ e1; have t2 := cmp_le11 hτ e2; have C1 := Lib.hid hσ; have C2 := Lib.hid hτ; clear h2 h3 h7 e1 e2 hσ hτ
 go_enter Tryd.func5, Tryd.ntmps5
 have HB := Lib.hid (Below.refl w.heap.size w)
 go_wp2_with fail
 refine (awake11 hT).mono ?_; rintro ee w2 ⟨rfl, B⟩; replace hT := hT.below B; replace HB := Hqb HB B; clear B; clear hT
 go_wp2_with fail
 refine (cBounds).mono ?_; rintro ee w3 ⟨s11, A11, n11, c11, s12, A12, n12, c12, rfl, p11, p12, k11, k12, B⟩; replace HB := Hqb HB B; clear B; have hsz11 := HB.out.size
 go_upto_region 3 with (fail)
 have e4X5 : (World.alloc w3 (.cells #[.bool s11, .slice A11 n11 c11] 28)).heap.size = w3.heap.size + 1 := by simp
 have lX4 := Nat.le_refl (World.heap w3).size; have BX := bel1 w3 (.cells #[.bool s11, .slice A11 n11 c11] 28); replace p11 := p11.below BX; replace p12 := p12.below BX; replace HB := Lib.hid (bt HB.out BX); have X4 := Bo.new w3 #[.bool s11, .slice A11 n11 c11] 28; generalize hWn : World.alloc w3 (.cells #[.bool s11, .slice A11 n11 c11] 28) = w4 at *
 clear hWn; have lX5 := Nat.le_refl (World.heap w4).size; have nX5X4 := X4.lt; generalize hWn : w4.alloc _ = w5 at *; obtain ⟨X5, BW⟩ := Bo.nw hWn; clear hWn; replace X4 := X4.below BW; replace p11 := p11.below BW; replace p12 := p12.below BW; replace HB := Hqb HB BW; clear BW; rw [e4X5] at X5; clear lX4 lX5 e4X5
 go_wp2_with fail
 refine (cInv H2.out).mono ?_; rintro ee w6 ⟨s13, A13, n13, c13, s14, A14, n14, c14, rfl, p13, p14, k13, k14, B⟩; replace X4 := X4.below B; replace X5 := X5.below B; replace p11 := p11.below B; replace p12 := p12.below B; replace HB := Hqb HB B; clear B; have hsz13 := HB.out.size
 go_upto_region 4 with (fail)
 have e4X7 : (World.alloc w6 (.cells #[.bool s13, .slice A13 n13 c13] 28)).heap.size = w6.heap.size + 1 := by simp
 have lX6 := Nat.le_refl (World.heap w6).size; have nX6X4 := X4.lt; have nX6X5 := X5.lt; have BX := bel1 w6 (.cells #[.bool s13, .slice A13 n13 c13] 28); replace X4 := X4.below BX; replace X5 := X5.below BX; replace p11 := p11.below BX; replace p12 := p12.below BX
 replace p13 := p13.below BX; replace p14 := p14.below BX; replace HB := Lib.hid (bt HB.out BX); have X6 := Bo.new w6 #[.bool s13, .slice A13 n13 c13] 28; generalize hWn : World.alloc w6 (.cells #[.bool s13, .slice A13 n13 c13] 28) = w7 at *; clear hWn
 have lX7 := Nat.le_refl (World.heap w7).size; have nX7X4 := X4.lt; have nX7X5 := X5.lt; have nX7X6 := X6.lt; generalize hWn : w7.alloc _ = w8 at *; obtain ⟨X7, BW⟩ := Bo.nw hWn; clear hWn; replace X4 := X4.below BW; replace X5 := X5.below BW; replace X6 := X6.below BW; replace p11 := p11.below BW; replace p12 := p12.below BW; replace p13 := p13.below BW; replace p14 := p14.below BW; replace HB := Hqb HB BW
 clear BW; rw [e4X7] at X7; clear lX6 lX7 e4X7
 go_wp2_with fail
 refine (cInv H3.out).mono ?_; rintro ee w9 ⟨s15, A15, n15, c15, s16, A16, n16, c16, rfl, p15, p16, k15, k16, B⟩; replace X4 := X4.below B; replace X5 := X5.below B; replace X6 := X6.below B; replace X7 := X7.below B; replace p11 := p11.below B; replace p12 := p12.below B; replace p13 := p13.below B; replace p14 := p14.below B; replace HB := Hqb HB B; clear B; have hsz15 := HB.out.size
 go_upto_region 6 with (fail)
 have e4X9 : (World.alloc w9 (.cells #[.bool s15, .slice A15 n15 c15] 28)).heap.size = w9.heap.size + 1 := by simp
 have lX8 := Nat.le_refl (World.heap w9).size; have nX8X4 := X4.lt; have nX8X5 := X5.lt; have nX8X6 := X6.lt; have nX8X7 := X7.lt; have BX := bel1 w9 (.cells #[.bool s15, .slice A15 n15 c15] 28); replace X4 := X4.below BX; replace X5 := X5.below BX; replace X6 := X6.below BX; replace X7 := X7.below BX
 replace p11 := p11.below BX; replace p12 := p12.below BX; replace p13 := p13.below BX; replace p14 := p14.below BX; replace p15 := p15.below BX
 replace p16 := p16.below BX; replace HB := Lib.hid (bt HB.out BX); have X8 := Bo.new w9 #[.bool s15, .slice A15 n15 c15] 28; generalize hWn : World.alloc w9 (.cells #[.bool s15, .slice A15 n15 c15] 28) = wA at *; clear hWn; have lX9 := Nat.le_refl (World.heap wA).size; have nX9X4 := X4.lt; have nX9X5 := X5.lt
 have nX9X6 := X6.lt; have nX9X7 := X7.lt; have nX9X8 := X8.lt; generalize hWn : wA.alloc _ = wB at *; obtain ⟨X9, BW⟩ := Bo.nw hWn; clear hWn; replace X4 := X4.below BW; replace X5 := X5.below BW; replace X6 := X6.below BW; replace X7 := X7.below BW; replace X8 := X8.below BW; replace p11 := p11.below BW; replace p12 := p12.below BW; replace p13 := p13.below BW; replace p14 := p14.below BW; replace p15 := p15.below BW
 replace p16 := p16.below BW; replace HB := Hqb HB BW; clear BW; rw [e4X9] at X9; clear lX8 lX9 e4X9
 go_wp2_with fail
 refine (cInv H7.out).mono ?_; rintro ee wC ⟨s17, A17, n17, c17, s18, A18, n18, c18, rfl, p17, p18, k17, k18, B⟩; replace X4 := X4.below B; replace X5 := X5.below B; replace X6 := X6.below B; replace X7 := X7.below B; replace X8 := X8.below B; replace X9 := X9.below B; replace p11 := p11.below B; replace p12 := p12.below B; replace p13 := p13.below B; replace p14 := p14.below B; replace p15 := p15.below B
 replace p16 := p16.below B; replace HB := Hqb HB B; clear B; have hsz17 := HB.out.size
 go_upto_region 7 with (fail)
 have e4X11 : (World.alloc wC (.cells #[.bool s17, .slice A17 n17 c17] 28)).heap.size = wC.heap.size + 1 := by simp
 have lX10 := Nat.le_refl (World.heap wC).size; have nX10X4 := X4.lt; have nX10X5 := X5.lt; have nX10X6 := X6.lt; have nX10X7 := X7.lt; have nX10X8 := X8.lt; have nX10X9 := X9.lt; have BX := bel1 wC (.cells #[.bool s17, .slice A17 n17 c17] 28); replace X4 := X4.below BX; replace X5 := X5.below BX; replace X6 := X6.below BX
 replace X7 := X7.below BX; replace X8 := X8.below BX; replace X9 := X9.below BX; replace p11 := p11.below BX; replace p12 := p12.below BX; replace p13 := p13.below BX
 replace p14 := p14.below BX; replace p15 := p15.below BX; replace p16 := p16.below BX; replace p17 := p17.below BX; replace p18 := p18.below BX
 replace HB := Lib.hid (bt HB.out BX); have X10 := Bo.new wC #[.bool s17, .slice A17 n17 c17] 28; generalize hWn : World.alloc wC (.cells #[.bool s17, .slice A17 n17 c17] 28) = wD at *; clear hWn; have lX11 := Nat.le_refl (World.heap wD).size; have nX11X4 := X4.lt; have nX11X5 := X5.lt; have nX11X6 := X6.lt; have nX11X7 := X7.lt; have nX11X8 := X8.lt
 have nX11X9 := X9.lt; have nX11X10 := X10.lt; generalize hWn : wD.alloc _ = wE at *; obtain ⟨X11, BW⟩ := Bo.nw hWn; clear hWn; replace X4 := X4.below BW; replace X5 := X5.below BW; replace X6 := X6.below BW; replace X7 := X7.below BW; replace X8 := X8.below BW; replace X9 := X9.below BW; replace X10 := X10.below BW; replace p11 := p11.below BW; replace p12 := p12.below BW; replace p13 := p13.below BW
 replace p14 := p14.below BW; replace p15 := p15.below BW; replace p16 := p16.below BW; replace p17 := p17.below BW; replace p18 := p18.below BW; replace HB := Hqb HB BW; clear BW; rw [e4X11] at X11; clear lX10 lX11 e4X11; have xX6 := X6.cell; have zX60 := X6.frozen; have xX10 := X10.cell
 go_upto_region 8 with (fail)
 clear xX6 zX60 xX10; generalize hS : (wE.setCell _ _).setCell _ _ = wF at *; have SX := StN.of2 X6 hS; replace X4 := X4.stn SX (by omega); replace X5 := X5.stn SX (by omega); replace X7 := X7.stn SX (by omega); replace X8 := X8.stn SX (by omega); replace X9 := X9.stn SX (by omega); replace X10 := X10.stn SX (by omega); replace X11 := X11.stn SX (by omega); replace p11 := p11.stn SX (by simp [no32])
 replace p12 := p12.stn SX (by simp [no32]); replace p13 := p13.stn SX (by simp [no32]); replace p14 := p14.stn SX (by simp [no32]); replace p15 := p15.stn SX (by simp [no32]); replace p16 := p16.stn SX (by simp [no32]); replace p17 := p17.stn SX (by simp [no32]); replace p18 := p18.stn SX (by simp [no32]); replace HB := Hqs HB SX (by omega); replace X6 := SX.box; clear SX hS; have xX7 := X7.cell
 have zX70 := X7.frozen; have xX11 := X11.cell
 go_upto_region 9 with (fail)
 clear xX7 zX70 xX11; generalize hS : (wF.setCell _ _).setCell _ _ = wG at *; have SX := StN.of2 X7 hS; replace X4 := X4.stn SX (by omega); replace X5 := X5.stn SX (by omega); replace X6 := X6.stn SX (by omega); replace X8 := X8.stn SX (by omega); replace X9 := X9.stn SX (by omega); replace X10 := X10.stn SX (by omega); replace X11 := X11.stn SX (by omega); replace p11 := p11.stn SX (by simp [no32])
 replace p12 := p12.stn SX (by simp [no32]); replace p13 := p13.stn SX (by simp [no32]); replace p14 := p14.stn SX (by simp [no32]); replace p15 := p15.stn SX (by simp [no32]); replace p16 := p16.stn SX (by simp [no32]); replace p17 := p17.stn SX (by simp [no32]); replace p18 := p18.stn SX (by simp [no32]); replace HB := Hqs HB SX (by omega); replace X7 := SX.box; clear SX hS; have xX8 := X8.cell
 go_wp2_with fail
 refine (wAdd p15.wr p15.wr (by omega) (by omega) rfl).mono ?_; rintro ee wH ⟨s19, A19, n19, c19, rfl, p19, k19, B⟩; clear xX8; replace X4 := X4.below B; replace X5 := X5.below B; replace X6 := X6.below B; replace X7 := X7.below B; replace X8 := X8.below B; replace X9 := X9.below B; replace X10 := X10.below B; replace X11 := X11.below B; replace p11 := p11.below B; replace p12 := p12.below B
 replace p13 := p13.below B; replace p14 := p14.below B; replace p15 := p15.below B; replace p16 := p16.below B; replace p17 := p17.below B; replace p18 := p18.below B; replace HB := Hqb HB B; clear B; have xX8 := X8.cell; have zX80 := X8.frozen
 go_upto_region 10 with (fail)
 clear xX8 zX80; generalize hS : (wH.setCell _ _).setCell _ _ = wI at *; have SX := StN.of2 X8 hS; replace X4 := X4.stn SX (by omega); replace X5 := X5.stn SX (by omega); replace X6 := X6.stn SX (by omega); replace X7 := X7.stn SX (by omega); replace X9 := X9.stn SX (by omega); replace X10 := X10.stn SX (by omega); replace X11 := X11.stn SX (by omega); replace p11 := p11.stn SX (by simp [no32])
 replace p12 := p12.stn SX (by simp [no32]); replace p13 := p13.stn SX (by simp [no32]); replace p14 := p14.stn SX (by simp [no32]); replace p15 := p15.stn SX (by simp [no32]); replace p16 := p16.stn SX (by simp [no32]); replace p17 := p17.stn SX (by simp [no32]); replace p18 := p18.stn SX (by simp [no32]); replace p19 := p19.stn SX (by simp [no32]); replace HB := Hqs HB SX (by omega)
 replace X8 := SX.box; clear SX hS; have xX9 := X9.cell
 go_wp2_with fail
 refine (wAdd p16.wr p16.wr (by omega) (by omega) rfl).mono ?_; rintro ee wJ ⟨s20, A20, n20, c20, rfl, p20, k20, B⟩; clear xX9; replace X4 := X4.below B; replace X5 := X5.below B; replace X6 := X6.below B; replace X7 := X7.below B; replace X8 := X8.below B; replace X9 := X9.below B; replace X10 := X10.below B; replace X11 := X11.below B; replace p11 := p11.below B; replace p12 := p12.below B
 replace p13 := p13.below B; replace p14 := p14.below B; replace p15 := p15.below B; replace p16 := p16.below B; replace p17 := p17.below B; replace p18 := p18.below B; replace p19 := p19.below B; replace HB := Hqb HB B; clear B; have xX9 := X9.cell; have zX90 := X9.frozen
 go_upto_region 11 with (fail)
 clear xX9 zX90; generalize hS : (wJ.setCell _ _).setCell _ _ = wK at *; have SX := StN.of2 X9 hS; replace X4 := X4.stn SX (by omega); replace X5 := X5.stn SX (by omega); replace X6 := X6.stn SX (by omega); replace X7 := X7.stn SX (by omega); replace X8 := X8.stn SX (by omega); replace X10 := X10.stn SX (by omega); replace X11 := X11.stn SX (by omega); replace p11 := p11.stn SX (by simp [no32])
 replace p12 := p12.stn SX (by simp [no32]); replace p13 := p13.stn SX (by simp [no32]); replace p14 := p14.stn SX (by simp [no32]); replace p15 := p15.stn SX (by simp [no32]); replace p16 := p16.stn SX (by simp [no32]); replace p17 := p17.stn SX (by simp [no32]); replace p18 := p18.stn SX (by simp [no32]); replace p19 := p19.stn SX (by simp [no32]); replace p20 := p20.stn SX (by simp [no32]); replace HB := Hqs HB SX (by omega)
 replace X9 := SX.box; clear SX hS
 go_wp2_with fail
 refine (wFrom 4 _ (by decide) (by decide)).mono ?_; rintro ee wL ⟨s21, A21, n21, c21, rfl, p21, k21, B⟩; replace X4 := X4.below B; replace X5 := X5.below B; replace X6 := X6.below B; replace X7 := X7.below B; replace X8 := X8.below B; replace X9 := X9.below B; replace X10 := X10.below B; replace X11 := X11.below B; replace p11 := p11.below B; replace p12 := p12.below B; replace p13 := p13.below B
 replace p14 := p14.below B; replace p15 := p15.below B; replace p16 := p16.below B; replace p17 := p17.below B; replace p18 := p18.below B; replace p19 := p19.below B; replace p20 := p20.below B; replace HB := Hqb HB B; clear B
 go_upto_region 12 with (fail)
 have lX12 := Nat.le_refl (World.heap wL).size; have nX12X4 := X4.lt; have nX12X5 := X5.lt; have nX12X6 := X6.lt; have nX12X7 := X7.lt; have nX12X8 := X8.lt; have nX12X9 := X9.lt; have nX12X10 := X10.lt; have nX12X11 := X11.lt; generalize hWn : wL.alloc _ = wM at *; obtain ⟨X12, BW⟩ := Bo.nw hWn; clear hWn; replace X4 := X4.below BW; replace X5 := X5.below BW; replace X6 := X6.below BW; replace X7 := X7.below BW
 replace X8 := X8.below BW; replace X9 := X9.below BW; replace X10 := X10.below BW; replace X11 := X11.below BW; replace p11 := p11.below BW; replace p12 := p12.below BW; replace p13 := p13.below BW; replace p14 := p14.below BW; replace p15 := p15.below BW; replace p16 := p16.below BW; replace p17 := p17.below BW; replace p18 := p18.below BW; replace p19 := p19.below BW; replace p20 := p20.below BW
 replace p21 := p21.below BW; replace HB := Hqb HB BW; clear BW; clear lX12; have ltX4 := X4.lt; have ltX5 := X5.lt; have ltX6 := X6.lt; have ltX7 := X7.lt; have ltX8 := X8.lt; have ltX9 := X9.lt; have ltX10 := X10.lt; have ltX11 := X11.lt; have ltX12 := X12.lt; have hsz := HB.out.size; refine Jo.rk [0, 1, 2, 3, 4, 5, 6] [some 42, some 43, some 44, some 45, some 46, some 47, some 13, none] [[], [], [], [1, 2], [0, 3], [4], [], []] 8 1 [Jo.Fact.eq (.agg #[.bool s21, .slice A21 n21 c21]), Jo.Fact.eq (.agg #[.bool s17, .slice A17 n17 c17]), Jo.Fact.eq (.agg #[.bool s19, .slice A19 n19 c19]), Jo.Fact.wn (p + (c + c)) (5000003), Jo.Fact.wl 5000003 2 [4, p + (c + c)], Jo.Fact.wn (4 * (p + (c + c))) (10000007), Jo.Fact.bo wM.heap.size #[.bool false, .slice none 0 0] 28, Jo.Fact.any] (by kernel_rfl) (by kernel_rfl) (by decide) rfl ?_ ?_
 · iterate 3 (refine Jo.jm rfl ?_ ?_; rotate_left)
   refine Jo.jm rfl ?_ ?_
   · rintro wj hJ _ rfl _ rfl K hK; simp only [Jo.z] at hK ⊢; go_simp; refine (wAdd (p17.below hJ).wr (p19.below hJ).wr (by omega) (by omega) rfl).mono ?_; rintro ee wk ⟨s30, A30, n30, c30, rfl, p30, k30, B⟩; exact hK.out _ _ ⟨s30, A30, n30, c30, rfl, p30, by omega⟩ B
   refine Jo.jm rfl ?_ ?_
   · rintro wj hJ _ rfl _ ⟨s30, A30, n30, c30, rfl, p30, k30⟩ K hK; simp only [Jo.z] at hK ⊢; go_simp; exact hK.out _ _ ⟨_, _, rfl, Wl.lit2 rfl (p21.below hJ).wr p30.wr (by omega) (by omega)⟩ (bel1 _ _)
   refine Jo.jm rfl ?_ ?_
   · rintro wj hJ _ ⟨A35, c35, rfl, h35⟩ K hK; simp only [Jo.z] at hK ⊢; go_simp
     refine (wMul h35 (by decide) (by show 1 * 4 * (p + (c + c)) = _; rw [Int.one_mul])).mono ?_
     rintro ee wk ⟨s31, A31, n31, c31, rfl, p31, k31, B⟩; exact hK.out _ _ ⟨s31, A31, n31, c31, rfl, p31, by omega⟩ B
   refine Jo.jm rfl ?_ ?_
   · rintro wj hJ K hK; simp only [Jo.z] at hK ⊢; go_simp; exact hK.out _ _ ⟨_, rfl, hJ.size, Bo.new _ _ _⟩ (bel1 _ _)
   exact Jo.Steps.nil
   all_goals (rintro wj hJ; (repeat rintro _ rfl); intro K hK; simp only [Jo.z] at hK ⊢; have xX12 := (X12.below hJ).cell; have xX6 := (X6.below hJ).cell; have xX8 := (X8.below hJ).cell; go_simp; exact hK.out _ _ rfl (br _ _))
 rintro wN hJ _ rfl _ rfl _ rfl _ ⟨s30, A30, n30, c30, rfl, p30, k30⟩ _ ⟨_, _, rfl, _⟩ _ ⟨s31, A31, n31, c31, rfl, p31, k31⟩ _ ⟨g13, rfl, hg13, X13⟩ -; simp only [Jo.z]; replace X4 := X4.below hJ; replace X5 := X5.below hJ; replace X6 := X6.below hJ; replace X7 := X7.below hJ; replace X8 := X8.below hJ; replace X9 := X9.below hJ; replace X10 := X10.below hJ; replace X11 := X11.below hJ; replace X12 := X12.below hJ
 replace p11 := p11.below hJ; replace p12 := p12.below hJ; replace p13 := p13.below hJ; replace p14 := p14.below hJ; replace p15 := p15.below hJ; replace p16 := p16.below hJ; replace p17 := p17.below hJ; replace p18 := p18.below hJ; replace p19 := p19.below hJ; replace p20 := p20.below hJ; replace p21 := p21.below hJ; replace HB := Hqb HB hJ; have xX13 := X13.cell; have zX130 := X13.frozen
 refine Jo.jnext (i := 7) (o := ⟨none, _, _, _, _, _⟩) (by kernel_rfl) rfl (fun K hK => ?_)
 go_simp; refine hK.out _ _ ?_; clear hK K xX13 zX130; generalize hS : (wN.setCell _ _).setCell _ _ = wO at *; have SX := StN.of2 X13 hS; replace X4 := X4.stn SX (by omega); replace X5 := X5.stn SX (by omega); replace X6 := X6.stn SX (by omega); replace X7 := X7.stn SX (by omega); replace X8 := X8.stn SX (by omega); replace X9 := X9.stn SX (by omega); replace X10 := X10.stn SX (by omega); replace X11 := X11.stn SX (by omega)
 replace X12 := X12.stn SX (by omega); replace p11 := p11.stn SX (by simp [no32]); replace p12 := p12.stn SX (by simp [no32]); replace p13 := p13.stn SX (by simp [no32]); replace p14 := p14.stn SX (by simp [no32]); replace p15 := p15.stn SX (by simp [no32]); replace p16 := p16.stn SX (by simp [no32]); replace p17 := p17.stn SX (by simp [no32]); replace p18 := p18.stn SX (by simp [no32]); replace p19 := p19.stn SX (by simp [no32])
 replace p20 := p20.stn SX (by simp [no32]); replace p21 := p21.stn SX (by simp [no32]); replace p31 := p31.stn SX (by simp [no32]); replace HB := Hqs HB SX (by omega); replace X13 := SX.box; clear SX hS; refine Jo.jdone (by kernel_rfl) ?_
 go_upto_region 13 with (fail)
 have ltX4 := X4.lt; have ltX5 := X5.lt; have ltX6 := X6.lt; have ltX7 := X7.lt; have ltX8 := X8.lt; have ltX9 := X9.lt; have ltX10 := X10.lt; have ltX11 := X11.lt; have ltX12 := X12.lt; have ltX13 := X13.lt; have hsz := HB.out.size; refine Jo.rk [0, 1, 2, 3, 4, 5, 6] [some 48, some 49, some 50, some 51, some 52, some 53, some 14, none] [[], [], [], [1, 2], [0, 3], [4], [], []] 8 1 [Jo.Fact.eq (.agg #[.bool s21, .slice A21 n21 c21]), Jo.Fact.eq (.agg #[.bool s18, .slice A18 n18 c18]), Jo.Fact.eq (.agg #[.bool s20, .slice A20 n20 c20]), Jo.Fact.wn (q + (d + d)) (5000003), Jo.Fact.wl 5000003 2 [4, q + (d + d)], Jo.Fact.wn (4 * (q + (d + d))) (10000007), Jo.Fact.bo wO.heap.size #[.bool false, .slice none 0 0] 28, Jo.Fact.any] (by kernel_rfl) (by kernel_rfl) (by decide) rfl ?_ ?_
 · iterate 3 (refine Jo.jm rfl ?_ ?_; rotate_left)
   refine Jo.jm rfl ?_ ?_
   · rintro wj hJ _ rfl _ rfl K hK; simp only [Jo.z] at hK ⊢; go_simp; refine (wAdd (p18.below hJ).wr (p20.below hJ).wr (by omega) (by omega) rfl).mono ?_; rintro ee wk ⟨s40, A40, n40, c40, rfl, p40, k40, B⟩; exact hK.out _ _ ⟨s40, A40, n40, c40, rfl, p40, by omega⟩ B
   refine Jo.jm rfl ?_ ?_
   · rintro wj hJ _ rfl _ ⟨s40, A40, n40, c40, rfl, p40, k40⟩ K hK; simp only [Jo.z] at hK ⊢; go_simp; exact hK.out _ _ ⟨_, _, rfl, Wl.lit2 rfl (p21.below hJ).wr p40.wr (by omega) (by omega)⟩ (bel1 _ _)
   refine Jo.jm rfl ?_ ?_
   · rintro wj hJ _ ⟨A45, c45, rfl, h45⟩ K hK; simp only [Jo.z] at hK ⊢; go_simp
     refine (wMul h45 (by decide) (by show 1 * 4 * (q + (d + d)) = _; rw [Int.one_mul])).mono ?_
     rintro ee wk ⟨s41, A41, n41, c41, rfl, p41, k41, B⟩; exact hK.out _ _ ⟨s41, A41, n41, c41, rfl, p41, by omega⟩ B
   refine Jo.jm rfl ?_ ?_
   · rintro wj hJ K hK; simp only [Jo.z] at hK ⊢; go_simp; exact hK.out _ _ ⟨_, rfl, hJ.size, Bo.new _ _ _⟩ (bel1 _ _)
   exact Jo.Steps.nil
   all_goals (rintro wj hJ; (repeat rintro _ rfl); intro K hK; simp only [Jo.z] at hK ⊢; have xX12 := (X12.below hJ).cell; have xX7 := (X7.below hJ).cell; have xX9 := (X9.below hJ).cell; go_simp; exact hK.out _ _ rfl (br _ _))
 rintro wP hJ _ rfl _ rfl _ rfl _ ⟨s40, A40, n40, c40, rfl, p40, k40⟩ _ ⟨_, _, rfl, _⟩ _ ⟨s41, A41, n41, c41, rfl, p41, k41⟩ _ ⟨g14, rfl, hg14, X14⟩ -; simp only [Jo.z]; replace X4 := X4.below hJ; replace X5 := X5.below hJ; replace X6 := X6.below hJ; replace X7 := X7.below hJ; replace X8 := X8.below hJ; replace X9 := X9.below hJ; replace X10 := X10.below hJ; replace X11 := X11.below hJ; replace X12 := X12.below hJ
 replace X13 := X13.below hJ; replace p11 := p11.below hJ; replace p12 := p12.below hJ; replace p13 := p13.below hJ; replace p14 := p14.below hJ; replace p15 := p15.below hJ; replace p16 := p16.below hJ; replace p17 := p17.below hJ; replace p18 := p18.below hJ; replace p19 := p19.below hJ; replace p20 := p20.below hJ; replace p21 := p21.below hJ; replace p31 := p31.below hJ; replace HB := Hqb HB hJ
 have xX14 := X14.cell; have zX140 := X14.frozen
 refine Jo.jnext (i := 7) (o := ⟨none, _, _, _, _, _⟩) (by kernel_rfl) rfl (fun K hK => ?_)
 go_simp; refine hK.out _ _ ?_; clear hK K xX14 zX140; generalize hS : (wP.setCell _ _).setCell _ _ = wQ at *; have SX := StN.of2 X14 hS; replace X4 := X4.stn SX (by omega); replace X5 := X5.stn SX (by omega); replace X6 := X6.stn SX (by omega); replace X7 := X7.stn SX (by omega); replace X8 := X8.stn SX (by omega); replace X9 := X9.stn SX (by omega); replace X10 := X10.stn SX (by omega); replace X11 := X11.stn SX (by omega)
 replace X12 := X12.stn SX (by omega); replace X13 := X13.stn SX (by omega); replace p11 := p11.stn SX (by simp [no32]); replace p12 := p12.stn SX (by simp [no32]); replace p13 := p13.stn SX (by simp [no32]); replace p14 := p14.stn SX (by simp [no32]); replace p15 := p15.stn SX (by simp [no32]); replace p16 := p16.stn SX (by simp [no32]); replace p17 := p17.stn SX (by simp [no32]); replace p18 := p18.stn SX (by simp [no32])
 replace p19 := p19.stn SX (by simp [no32]); replace p20 := p20.stn SX (by simp [no32]); replace p21 := p21.stn SX (by simp [no32]); replace p31 := p31.stn SX (by simp [no32]); replace p41 := p41.stn SX (by simp [no32]); replace HB := Hqs HB SX (by omega); replace X14 := SX.box; clear SX hS; refine Jo.jdone (by kernel_rfl) ?_
 go_upto_region 14 with (fail)
 have xX13 := X13.cell; have xX5 := X5.cell
 go_wp2_with fail
 refine (wCmp p31.wr p12.wr C1.out).mono ?_; rintro ee wR ⟨rfl, B⟩; clear xX13 xX5; replace X4 := X4.below B; replace X5 := X5.below B; replace X6 := X6.below B; replace X7 := X7.below B; replace X8 := X8.below B; replace X9 := X9.below B; replace X10 := X10.below B; replace X11 := X11.below B; replace X12 := X12.below B; replace X13 := X13.below B; replace X14 := X14.below B; replace p11 := p11.below B
 replace p12 := p12.below B; replace p13 := p13.below B; replace p14 := p14.below B; replace p15 := p15.below B; replace p16 := p16.below B; replace p17 := p17.below B; replace p18 := p18.below B; replace p19 := p19.below B; replace p20 := p20.below B; replace p21 := p21.below B; replace p31 := p31.below B; replace p41 := p41.below B; replace HB := Hqb HB B; clear B; have xX14 := X14.cell
 have xX4 := X4.cell
 go_wp2_with fail
 refine (wCmp p11.wr p41.wr C2.out).mono ?_; rintro ee wS ⟨rfl, B⟩; clear xX14 xX4; replace X4 := X4.below B; replace X5 := X5.below B; replace X6 := X6.below B; replace X7 := X7.below B; replace X8 := X8.below B; replace X9 := X9.below B; replace X10 := X10.below B; replace X11 := X11.below B; replace X12 := X12.below B; replace X13 := X13.below B; replace X14 := X14.below B; replace p11 := p11.below B
 replace p12 := p12.below B; replace p13 := p13.below B; replace p14 := p14.below B; replace p15 := p15.below B; replace p16 := p16.below B; replace p17 := p17.below B; replace p18 := p18.below B; replace p19 := p19.below B; replace p20 := p20.below B; replace p21 := p21.below B; replace p31 := p31.below B; replace p41 := p41.below B; replace HB := Hqb HB B; clear B; go_wp2
 go_ret
 exact ⟨by first | rfl | simp_all, HB.out⟩
theorem piDoubles_walk (b0 : Bool) (w : World) (hT : Tab w)  :
   Calls Tryd.prog 5 #[.bool b0] w fun e w' => e = .returned (.bool true) ∧ Below w.heap.size w w' := by
 obtain ⟨⟨d1, d2⟩, d3, d4⟩ := doubles
 cases b0
 · exact piDoubles_n w hT _ _ _ _ _ _ rfl rfl rfl d1 d2
 · exact piDoubles_y w hT _ _ _ _ _ _ rfl rfl rfl d3 d4
end Go.Proofs.YtmmallhniijdfaaDoor

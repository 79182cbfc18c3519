/-
 Contracts that the proof rests on.
-/
import Derived.Test.YtnbliijpjcmbjaaGreatDoorYPbn
namespace Go.Proofs.YtnbliijpjcmbjaaGreatDoor
set_option maxHeartbeats 4000000
open Go.RowKit
set_option linter.unusedVariables false
set_option linter.unusedSimpArgs false
set_option maxRecDepth 100000
theorem bkPlus {w : World} {e : Bool} {D M E D' M' E' : Int} {s s' : Bool} {e2 : Bool} {G P Q G' P' Q' : Int} {g g' : Bool} {e3 : Bool} {J U V J' U' V' : Int} {j j' : Bool} {z x y a b : Sp} (hT2 : Tb w) (hM : LQ M) (hM' : LQ M') (hP : LQ P) (hP' : LQ P') (hU : LQ U) (hU' : LQ U') (hz : rkI e D s M E D' s' M' E' = z) (hx : rkI e2 G g P Q G' g' P' Q' = x) (hy : rkI e3 J j U V J' j' U' V' = y) (ha : meetI x (subI z y) = a) (hb : meetI y (subI z a) = b) : Calls Tryz.prog 12 #[VI e D s M E D' s' M' E', VI e2 G g P Q G' g' P' Q', VI e3 J j U V J' j' U' V'] w (PV2 w a b) := by
 delta VI
 obtain ⟨p, hp⟩ : ∃ p, subI z y = p := ⟨_, rfl⟩; obtain ⟨o, ho⟩ : ∃ p, subI z a = p := ⟨_, rfl⟩; rw [hp] at ha; rw [ho] at hb; have ha2 := meetTwo (by rw [← hx]; exact rkI_ok hP hP') ha; have hb2 := meetTwo (by rw [← hy]; exact rkI_ok hU hU') hb; have HZ := Lib.hid hz; have HX := Lib.hid hx; have HY := Lib.hid hy; have HA := Lib.hid ha2; have HBB := Lib.hid hb2; have HP := Lib.hid hp; have HO := Lib.hid ho
 clear hz hx hy ha2 hb2 hp ho; clear ha hb
 go_enter Tryz.func12, Tryz.ntmps12
 go_upto_region 1 with (fail)
 generalize hW1 : ((((w.alloc _).alloc _).alloc _).alloc _).alloc _ = w1 at *; obtain ⟨X3, X4, X5, XR, XS, HB⟩ := Bo.en5 hW1; replace hT2 := hT2.below HB.out; clear hW1; have ltX3 := X3.lt; have ltX4 := X4.lt; have ltX5 := X5.lt; have ltXR := XR.lt; have ltXS := XS.lt; refine Jo.rk [0, 1, 2, 3, 4, 5] [some 8, some 9, some 10, some 11, some 12, some 13, none] [[], [], [], [1, 2], [0, 3], [4], []] 7 1 [Jo.q9 e2 G g P Q G' g' P' Q', Jo.q9 e D s M E D' s' M' E', Jo.q9 e3 J j U V J' j' U' V', Jo.Fact.iv p, Jo.Fact.il8 2 [x, p], Jo.Fact.iv a, Jo.Fact.any] (by kernel_rfl) (by kernel_rfl) (by decide) rfl ?_ ?_
 · iterate 3 (refine Jo.jm rfl ?_ ?_; rotate_left)
   refine Jo.jm rfl ?_ ?_
   · rintro wj hJ _ rfl _ rfl K hK; simp only [Jo.z] at hK ⊢; go_simp; refine (fkSub (hT2.below hJ) hM hM' hU hU' HZ.out HY.out HP.out).mono ?_; rintro ee wk ⟨e21, K21, s21, M21, E21, K21b, s21b, M21b, E21b, rfl, v21, B⟩; exact hK.out _ _ ⟨e21, K21, s21, M21, E21, K21b, s21b, M21b, E21b, rfl, v21⟩ B
   refine Jo.jm rfl ?_ ?_
   · rintro wj hJ _ rfl _ ⟨e21, K21, s21, M21, E21, K21b, s21b, M21b, E21b, rfl, v21⟩ K hK; simp only [Jo.z] at hK ⊢; go_simp; exact hK.out _ _ ⟨_, 2, rfl, Il8.lit2 rfl ⟨hP, hP', HX.out⟩ v21.rw⟩ (bel1 _ _)
   refine Jo.jm rfl ?_ ?_
   · rintro wj hJ _ ⟨A4, c4, rfl, h4⟩ K hK; simp only [Jo.z] at hK ⊢; go_simp; refine (kvMeet h4 HA.out).mono ?_; rintro ee wk ⟨e22, K22, s22, M22, E22, K22b, s22b, M22b, E22b, rfl, v22, B⟩; exact hK.out _ _ ⟨e22, K22, s22, M22, E22, K22b, s22b, M22b, E22b, rfl, v22⟩ B
   exact Jo.Steps.nil
   all_goals (rintro wj hJ; (repeat rintro _ rfl); intro K hK; simp only [Jo.z] at hK ⊢; have xX4 := (X4.below hJ).cell; have xX3 := (X3.below hJ).cell; have xX5 := (X5.below hJ).cell; go_simp; exact hK.out _ _ rfl (br _ _))
 rintro w2 hJ _ rfl _ rfl _ rfl _ ⟨e21, K21, s21, M21, E21, K21b, s21b, M21b, E21b, rfl, v21⟩ _ ⟨_, _, rfl, _⟩ _ ⟨e22, K22, s22, M22, E22, K22b, s22b, M22b, E22b, rfl, v22⟩ -; simp only [Jo.z]; replace X3 := X3.below hJ; replace X4 := X4.below hJ; replace X5 := X5.below hJ; replace XR := XR.below hJ; replace XS := XS.below hJ; replace hT2 := hT2.below hJ; replace HB := Hqb HB hJ; have xX4 := X4.cell
 have zX40 := X4.frozen
 refine Jo.jnext (i := 6) (o := ⟨none, _, _, _, _, _⟩) (by kernel_rfl) rfl (fun K hK => ?_)
 go_simp; refine hK.out _ _ ?_; clear hK K xX4 zX40; generalize hS : ((((((((w2.setCell _ _).setCell _ _).setCell _ _).setCell _ _).setCell _ _).setCell _ _).setCell _ _).setCell _ _).setCell _ _ = w3 at *; have SX := StN.of9 X4 hS; replace X3 := X3.stn SX (by omega); replace X5 := X5.stn SX (by omega); replace XR := XR.stn SX (by omega); replace XS := XS.stn SX (by omega)
 replace hT2 := hT2.stn SX (by simp [no8]); replace HB := Hqs HB SX (by omega); replace X4 := SX.box; clear SX hS; refine Jo.jdone (by kernel_rfl) ?_
 go_upto_region 2 with (fail)
 refine Jo.rk [0, 1, 2, 3, 4, 5, 6] [some 14, some 15, some 16, some 17, some 18, some 19, some 20, none, none] [[], [], [], [], [2, 3], [1, 4], [5], [], []] 9 2 [Jo.q9 e22 K22 s22 M22 E22 K22b s22b M22b E22b, Jo.q9 e3 J j U V J' j' U' V', Jo.q9 e D s M E D' s' M' E', Jo.q9 e22 K22 s22 M22 E22 K22b s22b M22b E22b, Jo.Fact.iv o, Jo.Fact.il8 2 [y, o], Jo.Fact.iv b, Jo.Fact.any, Jo.Fact.any] (by kernel_rfl) (by kernel_rfl) (by decide) rfl ?_ ?_
 · iterate 4 (refine Jo.jm rfl ?_ ?_; rotate_left)
   refine Jo.jm rfl ?_ ?_
   · rintro wj hJ _ rfl _ rfl K hK; simp only [Jo.z] at hK ⊢; go_simp; refine (fkSub (hT2.below hJ) hM hM' v22.top.1 v22.top.2 HZ.out v22.rk HO.out).mono ?_; rintro ee wk ⟨e23, K23, s23, M23, E23, K23b, s23b, M23b, E23b, rfl, v23, B⟩; exact hK.out _ _ ⟨e23, K23, s23, M23, E23, K23b, s23b, M23b, E23b, rfl, v23⟩ B
   refine Jo.jm rfl ?_ ?_
   · rintro wj hJ _ rfl _ ⟨e23, K23, s23, M23, E23, K23b, s23b, M23b, E23b, rfl, v23⟩ K hK; simp only [Jo.z] at hK ⊢; go_simp; exact hK.out _ _ ⟨_, 2, rfl, Il8.lit2 rfl ⟨hU, hU', HY.out⟩ v23.rw⟩ (bel1 _ _)
   refine Jo.jm rfl ?_ ?_
   · rintro wj hJ _ ⟨A5, c5, rfl, h5⟩ K hK; simp only [Jo.z] at hK ⊢; go_simp; refine (kvMeet h5 HBB.out).mono ?_; rintro ee wk ⟨e24, K24, s24, M24, E24, K24b, s24b, M24b, E24b, rfl, v24, B⟩; exact hK.out _ _ ⟨e24, K24, s24, M24, E24, K24b, s24b, M24b, E24b, rfl, v24⟩ B
   exact Jo.Steps.nil
   all_goals (rintro wj hJ; (repeat rintro _ rfl); intro K hK; simp only [Jo.z] at hK ⊢; have xX4 := (X4.below hJ).cell; have xX5 := (X5.below hJ).cell; have xX3 := (X3.below hJ).cell; go_simp; exact hK.out _ _ rfl (br _ _))
 rintro w4 hJ _ rfl _ rfl _ rfl _ rfl _ ⟨e23, K23, s23, M23, E23, K23b, s23b, M23b, E23b, rfl, v23⟩ _ ⟨_, _, rfl, _⟩ _ ⟨e24, K24, s24, M24, E24, K24b, s24b, M24b, E24b, rfl, v24⟩ -; simp only [Jo.z]; replace X3 := X3.below hJ; replace X4 := X4.below hJ; replace X5 := X5.below hJ; replace XR := XR.below hJ; replace XS := XS.below hJ; replace hT2 := hT2.below hJ; replace HB := Hqb HB hJ
 clear hT2; have xXR := XR.cell; have zXR0 := XR.frozen
 refine Jo.jnext (i := 7) (o := ⟨none, _, _, _, _, _⟩) (by kernel_rfl) rfl (fun K hK => ?_)
 go_simp; refine hK.out _ _ ?_; clear hK K xXR zXR0; generalize hS : ((((((((w4.setCell _ _).setCell _ _).setCell _ _).setCell _ _).setCell _ _).setCell _ _).setCell _ _).setCell _ _).setCell _ _ = w5 at *; have SX := StN.of9 XR hS; replace X3 := X3.stn SX (by omega); replace X4 := X4.stn SX (by omega); replace X5 := X5.stn SX (by omega); replace XS := XS.stn SX (by omega)
 replace HB := Hqs HB SX (by omega); replace XR := SX.box; clear SX hS; have xXS := XS.cell; have zXS0 := XS.frozen
 refine Jo.jnext (i := 8) (o := ⟨none, _, _, _, _, _⟩) (by kernel_rfl) rfl (fun K hK => ?_)
 go_simp; refine hK.out _ _ ?_; clear hK K xXS zXS0; generalize hS : ((((((((w5.setCell _ _).setCell _ _).setCell _ _).setCell _ _).setCell _ _).setCell _ _).setCell _ _).setCell _ _).setCell _ _ = w6 at *; have SX := StN.of9 XS hS; replace X3 := X3.stn SX (by omega); replace X4 := X4.stn SX (by omega); replace X5 := X5.stn SX (by omega); replace XR := XR.stn SX (by omega)
 replace HB := Hqs HB SX (by omega); replace XS := SX.box; clear SX hS; refine Jo.jdone (by kernel_rfl) ?_; go_wp2; exact bodyPost_ret (v := .tuple #[.agg #[.bool e22, .int .i64 K22, .bool s22, .int .u64 M22, .int .i64 E22, .int .i64 K22b, .bool s22b, .int .u64 M22b, .int .i64 E22b], .agg #[.bool e24, .int .i64 K24, .bool s24, .int .u64 M24, .int .i64 E24, .int .i64 K24b, .bool s24b, .int .u64 M24b, .int .i64 E24b]]) (by simp [results, Tryz.results12, go_sem, XR.cell, XS.cell]) rfl ⟨_, _, _, _, _, _, _, _, _, _, _, _, _, _, _, _, _, _, rfl, v22, v24, HB.out⟩
theorem bkSqr {w : World} {e : Bool} {D M E D' M' E' : Int} {s s' : Bool} {e2 : Bool} {G P Q G' P' Q' : Int} {g g' : Bool} {z x a : Sp} {r : Bool → Int → Int} (hT : Tab w) (hr : RF r) (hM : LQ M) (hM' : LQ M') (hP : LQ P) (hP' : LQ P') (hz : rkI e D s M E D' s' M' E' = z) (hx : rkI e2 G g P Q G' g' P' Q' = x) (ha : sqrB r z x = a) : Calls Tryz.prog 20 #[VI e D s M E D' s' M' E', VI e2 G g P Q G' g' P' Q'] w (PV w a) := by
 delta VI
 unfold sqrB at ha
 obtain ⟨p, hp⟩ : ∃ p, rootI r z = p := ⟨_, rfl⟩; rw [hp] at ha; obtain ⟨m, hm⟩ : ∃ m, negI p = m := ⟨_, rfl⟩; rw [hm] at ha; obtain ⟨o, ho⟩ : ∃ o, meetI x p = o := ⟨_, rfl⟩; obtain ⟨k, hk⟩ : ∃ o, meetI x m = o := ⟨_, rfl⟩; rw [ho, hk] at ha
 have hxo : SpOk x := by rw [← hx]; exact rkI_ok hP hP'
 have ho2 := meetTwo hxo ho; have hk2 := meetTwo hxo hk
 have ha2 : hullL [o, k] = a := ha
 have HZ := Lib.hid hz; have HX := Lib.hid hx; have HA := Lib.hid ha2; have HP := Lib.hid hp; have HO := Lib.hid ho2; have HMM := Lib.hid hm; have HKK := Lib.hid hk2; have HRF := Lib.hid hr; clear hz hx ha2 hp ho2 hm hk2 hr; clear ha ho hk hxo
 go_enter Tryz.func20, Tryz.ntmps20
 go_upto_region 1 with (fail)
 generalize hW1 : ((w.alloc _).alloc _).alloc _ = w1 at *; obtain ⟨X2, X3, XR, HB⟩ := Bo.en3 hW1; replace hT := hT.below HB.out; clear hW1; have xX2 := X2.cell
 go_wp2_with fail
 refine (fkRoot hT HRF.out hM hM' HZ.out HP.out).mono ?_; rintro ee w2 ⟨e20, K20, s20, M20, E20, K20b, s20b, M20b, E20b, rfl, v20, B⟩; clear xX2; replace X2 := X2.below B; replace X3 := X3.below B; replace XR := XR.below B; replace hT := hT.below B; replace HB := Hqb HB B; clear B; clear hT
 go_upto_region 2 with (fail)
 have lX5 := Nat.le_refl (World.heap w2).size; have nX5X2 := X2.lt; have nX5X3 := X3.lt; have nX5XR := XR.lt; generalize hWn : w2.alloc _ = w3 at *; obtain ⟨X5, BW⟩ := Bo.nw hWn; clear hWn; replace X2 := X2.below BW; replace X3 := X3.below BW; replace XR := XR.below BW; replace HB := Hqb HB BW; clear BW; clear lX5; refine Jo.rk [0, 1, 2, 3, 4, 5, 6, 7, 8, 9, 10] [some 8, some 9, some 10, some 11, some 12, some 13, some 14, some 15, some 16, some 17, some 18, none] [[], [], [0, 1], [2], [], [], [5], [4, 6], [7], [3, 8], [9], []] 12 1 [Jo.q9 e2 G g P Q G' g' P' Q', Jo.q9 e20 K20 s20 M20 E20 K20b s20b M20b E20b, Jo.Fact.il8 2 [x, p], Jo.Fact.iv o, Jo.q9 e2 G g P Q G' g' P' Q', Jo.q9 e20 K20 s20 M20 E20 K20b s20b M20b E20b, Jo.Fact.iv m, Jo.Fact.il8 2 [x, m], Jo.Fact.iv k, Jo.Fact.il8 2 [o, k], Jo.Fact.iv a, Jo.Fact.any] (by kernel_rfl) (by kernel_rfl) (by decide) rfl ?_ ?_
 · iterate 2 (refine Jo.jm rfl ?_ ?_; rotate_left)
   refine Jo.jm rfl ?_ ?_
   · rintro wj hJ _ rfl _ rfl K hK; simp only [Jo.z] at hK ⊢; go_simp; exact hK.out _ _ ⟨_, 2, rfl, Il8.lit2 rfl ⟨hP, hP', HX.out⟩ v20.rw⟩ (bel1 _ _)
   refine Jo.jm rfl ?_ ?_
   · rintro wj hJ _ ⟨A2, c2, rfl, h2⟩ K hK; simp only [Jo.z] at hK ⊢; go_simp; refine (kvMeet h2 HO.out).mono ?_; rintro ee wk ⟨e21, K21, s21, M21, E21, K21b, s21b, M21b, E21b, rfl, v21, B⟩; exact hK.out _ _ ⟨e21, K21, s21, M21, E21, K21b, s21b, M21b, E21b, rfl, v21⟩ B
   iterate 2 (refine Jo.jm rfl ?_ ?_; rotate_left)
   refine Jo.jm rfl ?_ ?_
   · rintro wj hJ _ rfl K hK; simp only [Jo.z] at hK ⊢; go_simp; refine (fkNeg v20.top.1 v20.top.2 v20.rk HMM.out).mono ?_; rintro ee wk ⟨e22, K22, s22, M22, E22, K22b, s22b, M22b, E22b, rfl, v22, B⟩; exact hK.out _ _ ⟨e22, K22, s22, M22, E22, K22b, s22b, M22b, E22b, rfl, v22⟩ B
   refine Jo.jm rfl ?_ ?_
   · rintro wj hJ _ rfl _ ⟨e22, K22, s22, M22, E22, K22b, s22b, M22b, E22b, rfl, v22⟩ K hK; simp only [Jo.z] at hK ⊢; go_simp; exact hK.out _ _ ⟨_, 2, rfl, Il8.lit2 rfl ⟨hP, hP', HX.out⟩ v22.rw⟩ (bel1 _ _)
   refine Jo.jm rfl ?_ ?_
   · rintro wj hJ _ ⟨A7, c7, rfl, h7⟩ K hK; simp only [Jo.z] at hK ⊢; go_simp; refine (kvMeet h7 HKK.out).mono ?_; rintro ee wk ⟨e23, K23, s23, M23, E23, K23b, s23b, M23b, E23b, rfl, v23, B⟩; exact hK.out _ _ ⟨e23, K23, s23, M23, E23, K23b, s23b, M23b, E23b, rfl, v23⟩ B
   refine Jo.jm rfl ?_ ?_
   · rintro wj hJ _ ⟨e21, K21, s21, M21, E21, K21b, s21b, M21b, E21b, rfl, v21⟩ _ ⟨e23, K23, s23, M23, E23, K23b, s23b, M23b, E23b, rfl, v23⟩ K hK; simp only [Jo.z] at hK ⊢; go_simp; exact hK.out _ _ ⟨_, 2, rfl, Il8.lit2 rfl v21.rw v23.rw⟩ (bel1 _ _)
   refine Jo.jm rfl ?_ ?_
   · rintro wj hJ _ ⟨A9, c9, rfl, h9⟩ K hK; simp only [Jo.z] at hK ⊢; go_simp; refine (kvHull h9 HA.out).mono ?_; rintro ee wk ⟨e24, K24, s24, M24, E24, K24b, s24b, M24b, E24b, rfl, v24, B⟩; exact hK.out _ _ ⟨e24, K24, s24, M24, E24, K24b, s24b, M24b, E24b, rfl, v24⟩ B
   exact Jo.Steps.nil
   all_goals (rintro wj hJ; (repeat rintro _ rfl); intro K hK; simp only [Jo.z] at hK ⊢; have xX3 := (X3.below hJ).cell; have xX5 := (X5.below hJ).cell; go_simp; exact hK.out _ _ rfl (br _ _))
 rintro w4 hJ _ rfl _ rfl _ ⟨_, _, rfl, _⟩ _ ⟨e21, K21, s21, M21, E21, K21b, s21b, M21b, E21b, rfl, v21⟩ _ rfl _ rfl _ ⟨e22, K22, s22, M22, E22, K22b, s22b, M22b, E22b, rfl, v22⟩ _ ⟨_, _, rfl, _⟩ _ ⟨e23, K23, s23, M23, E23, K23b, s23b, M23b, E23b, rfl, v23⟩ _ ⟨_, _, rfl, _⟩ _ ⟨e24, K24, s24, M24, E24, K24b, s24b, M24b, E24b, rfl, v24⟩ -; simp only [Jo.z]; replace X2 := X2.below hJ; replace X3 := X3.below hJ
 replace XR := XR.below hJ; replace X5 := X5.below hJ; replace HB := Hqb HB hJ; have xXR := XR.cell; have zXR0 := XR.frozen
 refine Jo.jnext (i := 11) (o := ⟨none, _, _, _, _, _⟩) (by kernel_rfl) rfl (fun K hK => ?_)
 go_simp; refine hK.out _ _ ?_; clear hK K xXR zXR0; have SX := StN.mk9 XR (.bool e24) (.int .i64 K24) (.bool s24) (.int .u64 M24) (.int .i64 E24) (.int .i64 K24b) (.bool s24b) (.int .u64 M24b) (.int .i64 E24b); refine Jo.jdone (by kernel_rfl) ?_; go_wp2; exact bodyPost_ret (by simp [results, Tryz.results20, go_sem, SX.box.cell]) rfl ⟨_, _, _, _, _, _, _, _, _, rfl, v24, (SX.below HB.out (by omega))⟩
end Go.Proofs.YtnbliijpjcmbjaaGreatDoor

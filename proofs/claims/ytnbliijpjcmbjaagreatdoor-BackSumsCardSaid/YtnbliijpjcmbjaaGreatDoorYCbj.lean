/-
 Contracts that the proof rests on.
-/
import Derived.Test.YtnbliijpjcmbjaaGreatDoorYCbi
namespace Go.Proofs.YtnbliijpjcmbjaaGreatDoor
set_option maxHeartbeats 8000000
open Go.RowKit
set_option linter.unusedVariables false
set_option linter.unusedSimpArgs false
set_option maxRecDepth 100000
theorem bkPlus {w : World} {e : Bool} {D M E D' M' E' : Int} {s s' : Bool} {e2 : Bool} {G P Q G' P' Q' : Int} {g g' : Bool} {e3 : Bool} {J U V J' U' V' : Int} {j j' : Bool} {z x y a b : Sp} (hT2 : Tb w) (hM : LQ M) (hM' : LQ M') (hP : LQ P) (hP' : LQ P') (hU : LQ U) (hU' : LQ U') (hz : rkI e D s M E D' s' M' E' = z) (hx : rkI e2 G g P Q G' g' P' Q' = x) (hy : rkI e3 J j U V J' j' U' V' = y) (ha : meetI x (subI z y) = a) (hb : meetI y (subI z a) = b) : Calls Tryz.prog 12 #[VI e D s M E D' s' M' E', VI e2 G g P Q G' g' P' Q', VI e3 J j U V J' j' U' V'] w (PV2 w a b) := by
 delta VI
 obtain ⟨p, hp⟩ : ∃ p, subI z y = p := ⟨_, rfl⟩; obtain ⟨o, ho⟩ : ∃ p, subI z a = p := ⟨_, rfl⟩; rw [hp] at ha; rw [ho] at hb; have ha2 := meetTwo (by rw [← hx]; exact rkI_ok hP hP') ha; have hb2 := meetTwo (by rw [← hy]; exact rkI_ok hU hU') hb; have HZ := Lib.hid hz; have HX := Lib.hid hx; have HY := Lib.hid hy; have HA := Lib.hid ha2; have HBB := Lib.hid hb2; have HP := Lib.hid hp; have HO := Lib.hid ho
 clear hz hx hy ha2 hb2 hp ho; clear ha hb
 go_enter Tryz.func12, Tryz.ntmps12
 go_upto_region 1 with (fail)
 generalize hW1 : ((((w.alloc _).alloc _).alloc _).alloc _).alloc _ = w1 at *; obtain ⟨X3, X4, X5, XR, XS, HB⟩ := Bo.en5 hW1; replace hT2 := hT2.below HB.out; clear hW1; have ltX3 := X3.lt; have ltX4 := X4.lt; have ltX5 := X5.lt; have ltXR := XR.lt; have ltXS := XS.lt; refine Jo.rk [0, 1, 2, 3, 4, 5] [some 8, some 9, some 10, some 11, some 12, some 13, none] [[], [], [], [1, 2], [0, 3], [4], []] 7 1 [Jo.q9 e2 G g P Q G' g' P' Q', Jo.q9 e D s M E D' s' M' E', Jo.q9 e3 J j U V J' j' U' V', Jo.Fact.iv p, Jo.Fact.il8 2 [x, p], Jo.Fact.iv a, Jo.Fact.any] (by kernel_rfl) (by kernel_rfl) (by decide) rfl ?_ ?_
 · iterate 3 (refine Jo.jm rfl ?_ ?_; rotate_left)
   refine Jo.jm rfl ?_ ?_
   · rintro wj hJ _ rfl _ rfl K hK; simp only [Jo.z] at hK ⊢; go_simp; refine (fkSub (hT2.below hJ) hM hM' hU hU' HZ.out HY.out HP.out).mono ?_; rintro ee wk ⟨e21, K21, s21, M21, E21, K21b, s21b, M21b, E21b, rfl, v21, B⟩; exact hK.out _ _ ⟨e21, K21, s21, M21, E21, K21b, s21b, M21b, E21b, rfl, v21⟩ B
   refine Jo.jm rfl ?_ ?_
   · rintro wj hJ _ rfl _ ⟨e21, K21, s21, M21, E21, K21b, s21b, M21b, E21b, rfl, v21⟩ K hK; simp only [Jo.z] at hK ⊢; go_simp; exact hK.out _ _ ⟨_, 2, rfl, Il8.lit2 rfl ⟨hP, hP', HX.out⟩ v21.rw⟩ (bel1 _ _)
   refine Jo.jm rfl ?_ ?_
   · rintro wj hJ _ ⟨A4, c4, rfl, h4⟩ K hK; simp only [Jo.z] at hK ⊢; go_simp; refine (kvMeet h4 HA.out).mono ?_; rintro ee wk ⟨e22, K22, s22, M22, E22, K22b, s22b, M22b, E22b, rfl, v22, B⟩; exact hK.out _ _ ⟨e22, K22, s22, M22, E22, K22b, s22b, M22b, E22b, rfl, v22⟩ B
   exact Jo.Steps.nil
   all_goals (rintro wj hJ; (repeat rintro _ rfl); intro K hK; simp only [Jo.z] at hK ⊢; have xX4 := (X4.below hJ).cell; have xX3 := (X3.below hJ).cell; have xX5 := (X5.below hJ).cell; go_simp; exact hK.out _ _ rfl (br _ _))
 rintro w2 hJ _ rfl _ rfl _ rfl _ ⟨e21, K21, s21, M21, E21, K21b, s21b, M21b, E21b, rfl, v21⟩ _ ⟨_, _, rfl, _⟩ _ ⟨e22, K22, s22, M22, E22, K22b, s22b, M22b, E22b, rfl, v22⟩ -; simp only [Jo.z]; replace X3 := X3.below hJ; replace X4 := X4.below hJ; replace X5 := X5.below hJ; replace XR := XR.below hJ; replace XS := XS.below hJ; replace hT2 := hT2.below hJ; replace HB := Hqb HB hJ; have xX4 := X4.cell
 have zX40 := X4.frozen
 refine Jo.jnext (i := 6) (o := ⟨none, _, _, _, _, _⟩) (by kernel_rfl) rfl (fun K hK => ?_)
 go_simp; refine hK.out _ _ ?_; clear hK K xX4 zX40; generalize hS : ((((((((w2.setCell _ _).setCell _ _).setCell _ _).setCell _ _).setCell _ _).setCell _ _).setCell _ _).setCell _ _).setCell _ _ = w3 at *; have SX := StN.of9 X4 hS; replace X3 := X3.stn SX (by omega); replace X5 := X5.stn SX (by omega); replace XR := XR.stn SX (by omega); replace XS := XS.stn SX (by omega)
 replace hT2 := hT2.stn SX (by simp [no8]); replace HB := Hqs HB SX (by omega); replace X4 := SX.box; clear SX hS; refine Jo.jdone (by kernel_rfl) ?_
 go_upto_region 2 with (fail)
 refine Jo.rk [0, 1, 2, 3, 4, 5, 6] [some 14, some 15, some 16, some 17, some 18, some 19, some 20, none, none] [[], [], [], [], [2, 3], [1, 4], [5], [], []] 9 2 [Jo.q9 e22 K22 s22 M22 E22 K22b s22b M22b E22b, Jo.q9 e3 J j U V J' j' U' V', Jo.q9 e D s M E D' s' M' E', Jo.q9 e22 K22 s22 M22 E22 K22b s22b M22b E22b, Jo.Fact.iv o, Jo.Fact.il8 2 [y, o], Jo.Fact.iv b, Jo.Fact.any, Jo.Fact.any] (by kernel_rfl) (by kernel_rfl) (by decide) rfl ?_ ?_
 · iterate 4 (refine Jo.jm rfl ?_ ?_; rotate_left)
   refine Jo.jm rfl ?_ ?_
   · rintro wj hJ _ rfl _ rfl K hK; simp only [Jo.z] at hK ⊢; go_simp; refine (fkSub (hT2.below hJ) hM hM' v22.top.1 v22.top.2 HZ.out v22.rk HO.out).mono ?_; rintro ee wk ⟨e23, K23, s23, M23, E23, K23b, s23b, M23b, E23b, rfl, v23, B⟩; exact hK.out _ _ ⟨e23, K23, s23, M23, E23, K23b, s23b, M23b, E23b, rfl, v23⟩ B
   refine Jo.jm rfl ?_ ?_
   · rintro wj hJ _ rfl _ ⟨e23, K23, s23, M23, E23, K23b, s23b, M23b, E23b, rfl, v23⟩ K hK; simp only [Jo.z] at hK ⊢; go_simp; exact hK.out _ _ ⟨_, 2, rfl, Il8.lit2 rfl ⟨hU, hU', HY.out⟩ v23.rw⟩ (bel1 _ _)
   refine Jo.jm rfl ?_ ?_
   · rintro wj hJ _ ⟨A5, c5, rfl, h5⟩ K hK; simp only [Jo.z] at hK ⊢; go_simp; refine (kvMeet h5 HBB.out).mono ?_; rintro ee wk ⟨e24, K24, s24, M24, E24, K24b, s24b, M24b, E24b, rfl, v24, B⟩; exact hK.out _ _ ⟨e24, K24, s24, M24, E24, K24b, s24b, M24b, E24b, rfl, v24⟩ B
   exact Jo.Steps.nil
   all_goals (rintro wj hJ; (repeat rintro _ rfl); intro K hK; simp only [Jo.z] at hK ⊢; have xX4 := (X4.below hJ).cell; have xX5 := (X5.below hJ).cell; have xX3 := (X3.below hJ).cell; go_simp; exact hK.out _ _ rfl (br _ _))
 rintro w4 hJ _ rfl _ rfl _ rfl _ rfl _ ⟨e23, K23, s23, M23, E23, K23b, s23b, M23b, E23b, rfl, v23⟩ _ ⟨_, _, rfl, _⟩ _ ⟨e24, K24, s24, M24, E24, K24b, s24b, M24b, E24b, rfl, v24⟩ -; simp only [Jo.z]; replace X3 := X3.below hJ; replace X4 := X4.below hJ; replace X5 := X5.below hJ; replace XR := XR.below hJ; replace XS := XS.below hJ; replace hT2 := hT2.below hJ; replace HB := Hqb HB hJ
 clear hT2; have xXR := XR.cell; have zXR0 := XR.frozen
 refine Jo.jnext (i := 7) (o := ⟨none, _, _, _, _, _⟩) (by kernel_rfl) rfl (fun K hK => ?_)
 go_simp; refine hK.out _ _ ?_; clear hK K xXR zXR0; generalize hS : ((((((((w4.setCell _ _).setCell _ _).setCell _ _).setCell _ _).setCell _ _).setCell _ _).setCell _ _).setCell _ _).setCell _ _ = w5 at *; have SX := StN.of9 XR hS; replace X3 := X3.stn SX (by omega); replace X4 := X4.stn SX (by omega); replace X5 := X5.stn SX (by omega); replace XS := XS.stn SX (by omega)
 replace HB := Hqs HB SX (by omega); replace XR := SX.box; clear SX hS; have xXS := XS.cell; have zXS0 := XS.frozen
 refine Jo.jnext (i := 8) (o := ⟨none, _, _, _, _, _⟩) (by kernel_rfl) rfl (fun K hK => ?_)
 go_simp; refine hK.out _ _ ?_; clear hK K xXS zXS0; generalize hS : ((((((((w5.setCell _ _).setCell _ _).setCell _ _).setCell _ _).setCell _ _).setCell _ _).setCell _ _).setCell _ _).setCell _ _ = w6 at *; have SX := StN.of9 XS hS; replace X3 := X3.stn SX (by omega); replace X4 := X4.stn SX (by omega); replace X5 := X5.stn SX (by omega); replace XR := XR.stn SX (by omega)
 replace HB := Hqs HB SX (by omega); replace XS := SX.box; clear SX hS; refine Jo.jdone (by kernel_rfl) ?_; go_wp2; exact bodyPost_ret (v := .tuple #[.agg #[.bool e22, .int .i64 K22, .bool s22, .int .u64 M22, .int .i64 E22, .int .i64 K22b, .bool s22b, .int .u64 M22b, .int .i64 E22b], .agg #[.bool e24, .int .i64 K24, .bool s24, .int .u64 M24, .int .i64 E24, .int .i64 K24b, .bool s24b, .int .u64 M24b, .int .i64 E24b]]) (by simp [results, Tryz.results12, go_sem, XR.cell, XS.cell]) rfl ⟨_, _, _, _, _, _, _, _, _, _, _, _, _, _, _, _, _, _, rfl, v22, v24, HB.out⟩
theorem bkMinus {w : World} {e : Bool} {D M E D' M' E' : Int} {s s' : Bool} {e2 : Bool} {G P Q G' P' Q' : Int} {g g' : Bool} {e3 : Bool} {J U V J' U' V' : Int} {j j' : Bool} {z x y a b : Sp} (hT2 : Tb w) (hM : LQ M) (hM' : LQ M') (hP : LQ P) (hP' : LQ P') (hU : LQ U) (hU' : LQ U') (hz : rkI e D s M E D' s' M' E' = z) (hx : rkI e2 G g P Q G' g' P' Q' = x) (hy : rkI e3 J j U V J' j' U' V' = y) (ha : meetI x (addI z y) = a) (hb : meetI y (subI a z) = b) : Calls Tryz.prog 14 #[VI e D s M E D' s' M' E', VI e2 G g P Q G' g' P' Q', VI e3 J j U V J' j' U' V'] w (PV2 w a b) := by
 delta VI
 obtain ⟨p, hp⟩ : ∃ p, addI z y = p := ⟨_, rfl⟩; obtain ⟨o, ho⟩ : ∃ p, subI a z = p := ⟨_, rfl⟩; rw [hp] at ha; rw [ho] at hb; have ha2 := meetTwo (by rw [← hx]; exact rkI_ok hP hP') ha; have hb2 := meetTwo (by rw [← hy]; exact rkI_ok hU hU') hb; have HZ := Lib.hid hz; have HX := Lib.hid hx; have HY := Lib.hid hy; have HA := Lib.hid ha2; have HBB := Lib.hid hb2; have HP := Lib.hid hp; have HO := Lib.hid ho
 clear hz hx hy ha2 hb2 hp ho; clear ha hb
 go_enter Tryz.func14, Tryz.ntmps14
 go_upto_region 1 with (fail)
 generalize hW1 : ((((w.alloc _).alloc _).alloc _).alloc _).alloc _ = w1 at *; obtain ⟨X3, X4, X5, XR, XS, HB⟩ := Bo.en5 hW1; replace hT2 := hT2.below HB.out; clear hW1; have ltX3 := X3.lt; have ltX4 := X4.lt; have ltX5 := X5.lt; have ltXR := XR.lt; have ltXS := XS.lt; refine Jo.rk [0, 1, 2, 3, 4, 5, 6] [some 8, some 9, some 10, some 11, some 12, some 13, some 14, none] [[], [], [], [1, 2], [3], [0, 4], [5], []] 8 1 [Jo.q9 e2 G g P Q G' g' P' Q', Jo.q9 e D s M E D' s' M' E', Jo.q9 e3 J j U V J' j' U' V', Jo.Fact.il8 2 [z, y], Jo.Fact.iv p, Jo.Fact.il8 2 [x, p], Jo.Fact.iv a, Jo.Fact.any] (by kernel_rfl) (by kernel_rfl) (by decide) rfl ?_ ?_
 · iterate 3 (refine Jo.jm rfl ?_ ?_; rotate_left)
   refine Jo.jm rfl ?_ ?_
   · rintro wj hJ _ rfl _ rfl K hK; simp only [Jo.z] at hK ⊢; go_simp; exact hK.out _ _ ⟨_, 2, rfl, Il8.lit2 rfl ⟨hM, hM', HZ.out⟩ ⟨hU, hU', HY.out⟩⟩ (bel1 _ _)
   refine Jo.jm rfl ?_ ?_
   · rintro wj hJ _ ⟨A3, c3, rfl, h3⟩ K hK; simp only [Jo.z] at hK ⊢; go_simp; refine (fkAdd (hT2.below hJ) h3 HP.out).mono ?_; rintro ee wk ⟨e21, K21, s21, M21, E21, K21b, s21b, M21b, E21b, rfl, v21, B⟩; exact hK.out _ _ ⟨e21, K21, s21, M21, E21, K21b, s21b, M21b, E21b, rfl, v21⟩ B
   refine Jo.jm rfl ?_ ?_
   · rintro wj hJ _ rfl _ ⟨e21, K21, s21, M21, E21, K21b, s21b, M21b, E21b, rfl, v21⟩ K hK; simp only [Jo.z] at hK ⊢; go_simp; exact hK.out _ _ ⟨_, 2, rfl, Il8.lit2 rfl ⟨hP, hP', HX.out⟩ v21.rw⟩ (bel1 _ _)
   refine Jo.jm rfl ?_ ?_
   · rintro wj hJ _ ⟨A5, c5, rfl, h5⟩ K hK; simp only [Jo.z] at hK ⊢; go_simp; refine (kvMeet h5 HA.out).mono ?_; rintro ee wk ⟨e22, K22, s22, M22, E22, K22b, s22b, M22b, E22b, rfl, v22, B⟩; exact hK.out _ _ ⟨e22, K22, s22, M22, E22, K22b, s22b, M22b, E22b, rfl, v22⟩ B
   exact Jo.Steps.nil
   all_goals (rintro wj hJ; (repeat rintro _ rfl); intro K hK; simp only [Jo.z] at hK ⊢; have xX4 := (X4.below hJ).cell; have xX3 := (X3.below hJ).cell; have xX5 := (X5.below hJ).cell; go_simp; exact hK.out _ _ rfl (br _ _))
 rintro w2 hJ _ rfl _ rfl _ rfl _ ⟨_, _, rfl, _⟩ _ ⟨e21, K21, s21, M21, E21, K21b, s21b, M21b, E21b, rfl, v21⟩ _ ⟨_, _, rfl, _⟩ _ ⟨e22, K22, s22, M22, E22, K22b, s22b, M22b, E22b, rfl, v22⟩ -; simp only [Jo.z]; replace X3 := X3.below hJ; replace X4 := X4.below hJ; replace X5 := X5.below hJ; replace XR := XR.below hJ; replace XS := XS.below hJ; replace hT2 := hT2.below hJ; replace HB := Hqb HB hJ
 have xX4 := X4.cell; have zX40 := X4.frozen
 refine Jo.jnext (i := 7) (o := ⟨none, _, _, _, _, _⟩) (by kernel_rfl) rfl (fun K hK => ?_)
 go_simp; refine hK.out _ _ ?_; clear hK K xX4 zX40; generalize hS : ((((((((w2.setCell _ _).setCell _ _).setCell _ _).setCell _ _).setCell _ _).setCell _ _).setCell _ _).setCell _ _).setCell _ _ = w3 at *; have SX := StN.of9 X4 hS; replace X3 := X3.stn SX (by omega); replace X5 := X5.stn SX (by omega); replace XR := XR.stn SX (by omega); replace XS := XS.stn SX (by omega)
 replace hT2 := hT2.stn SX (by simp [no8]); replace HB := Hqs HB SX (by omega); replace X4 := SX.box; clear SX hS; refine Jo.jdone (by kernel_rfl) ?_
 go_upto_region 2 with (fail)
 refine Jo.rk [0, 1, 2, 3, 4, 5, 6] [some 15, some 16, some 17, some 18, some 19, some 20, some 21, none, none] [[], [], [], [], [2, 3], [1, 4], [5], [], []] 9 2 [Jo.q9 e22 K22 s22 M22 E22 K22b s22b M22b E22b, Jo.q9 e3 J j U V J' j' U' V', Jo.q9 e22 K22 s22 M22 E22 K22b s22b M22b E22b, Jo.q9 e D s M E D' s' M' E', Jo.Fact.iv o, Jo.Fact.il8 2 [y, o], Jo.Fact.iv b, Jo.Fact.any, Jo.Fact.any] (by kernel_rfl) (by kernel_rfl) (by decide) rfl ?_ ?_
 · iterate 4 (refine Jo.jm rfl ?_ ?_; rotate_left)
   refine Jo.jm rfl ?_ ?_
   · rintro wj hJ _ rfl _ rfl K hK; simp only [Jo.z] at hK ⊢; go_simp; refine (fkSub (hT2.below hJ) v22.top.1 v22.top.2 hM hM' v22.rk HZ.out HO.out).mono ?_; rintro ee wk ⟨e23, K23, s23, M23, E23, K23b, s23b, M23b, E23b, rfl, v23, B⟩; exact hK.out _ _ ⟨e23, K23, s23, M23, E23, K23b, s23b, M23b, E23b, rfl, v23⟩ B
   refine Jo.jm rfl ?_ ?_
   · rintro wj hJ _ rfl _ ⟨e23, K23, s23, M23, E23, K23b, s23b, M23b, E23b, rfl, v23⟩ K hK; simp only [Jo.z] at hK ⊢; go_simp; exact hK.out _ _ ⟨_, 2, rfl, Il8.lit2 rfl ⟨hU, hU', HY.out⟩ v23.rw⟩ (bel1 _ _)
   refine Jo.jm rfl ?_ ?_
   · rintro wj hJ _ ⟨A5, c5, rfl, h5⟩ K hK; simp only [Jo.z] at hK ⊢; go_simp; refine (kvMeet h5 HBB.out).mono ?_; rintro ee wk ⟨e24, K24, s24, M24, E24, K24b, s24b, M24b, E24b, rfl, v24, B⟩; exact hK.out _ _ ⟨e24, K24, s24, M24, E24, K24b, s24b, M24b, E24b, rfl, v24⟩ B
   exact Jo.Steps.nil
   all_goals (rintro wj hJ; (repeat rintro _ rfl); intro K hK; simp only [Jo.z] at hK ⊢; have xX4 := (X4.below hJ).cell; have xX5 := (X5.below hJ).cell; have xX3 := (X3.below hJ).cell; go_simp; exact hK.out _ _ rfl (br _ _))
 rintro w4 hJ _ rfl _ rfl _ rfl _ rfl _ ⟨e23, K23, s23, M23, E23, K23b, s23b, M23b, E23b, rfl, v23⟩ _ ⟨_, _, rfl, _⟩ _ ⟨e24, K24, s24, M24, E24, K24b, s24b, M24b, E24b, rfl, v24⟩ -; simp only [Jo.z]; replace X3 := X3.below hJ; replace X4 := X4.below hJ; replace X5 := X5.below hJ; replace XR := XR.below hJ; replace XS := XS.below hJ; replace hT2 := hT2.below hJ; replace HB := Hqb HB hJ
 clear hT2; have xXR := XR.cell; have zXR0 := XR.frozen
 refine Jo.jnext (i := 7) (o := ⟨none, _, _, _, _, _⟩) (by kernel_rfl) rfl (fun K hK => ?_)
 go_simp; refine hK.out _ _ ?_; clear hK K xXR zXR0; generalize hS : ((((((((w4.setCell _ _).setCell _ _).setCell _ _).setCell _ _).setCell _ _).setCell _ _).setCell _ _).setCell _ _).setCell _ _ = w5 at *; have SX := StN.of9 XR hS; replace X3 := X3.stn SX (by omega); replace X4 := X4.stn SX (by omega); replace X5 := X5.stn SX (by omega); replace XS := XS.stn SX (by omega)
 replace HB := Hqs HB SX (by omega); replace XR := SX.box; clear SX hS; have xXS := XS.cell; have zXS0 := XS.frozen
 refine Jo.jnext (i := 8) (o := ⟨none, _, _, _, _, _⟩) (by kernel_rfl) rfl (fun K hK => ?_)
 go_simp; refine hK.out _ _ ?_; clear hK K xXS zXS0; generalize hS : ((((((((w5.setCell _ _).setCell _ _).setCell _ _).setCell _ _).setCell _ _).setCell _ _).setCell _ _).setCell _ _).setCell _ _ = w6 at *; have SX := StN.of9 XS hS; replace X3 := X3.stn SX (by omega); replace X4 := X4.stn SX (by omega); replace X5 := X5.stn SX (by omega); replace XR := XR.stn SX (by omega)
 replace HB := Hqs HB SX (by omega); replace XS := SX.box; clear SX hS; refine Jo.jdone (by kernel_rfl) ?_; go_wp2; exact bodyPost_ret (v := .tuple #[.agg #[.bool e22, .int .i64 K22, .bool s22, .int .u64 M22, .int .i64 E22, .int .i64 K22b, .bool s22b, .int .u64 M22b, .int .i64 E22b], .agg #[.bool e24, .int .i64 K24, .bool s24, .int .u64 M24, .int .i64 E24, .int .i64 K24b, .bool s24b, .int .u64 M24b, .int .i64 E24b]]) (by simp [results, Tryz.results14, go_sem, XR.cell, XS.cell]) rfl ⟨_, _, _, _, _, _, _, _, _, _, _, _, _, _, _, _, _, _, rfl, v22, v24, HB.out⟩
theorem bkNeg {w : World} {e : Bool} {D M E D' M' E' : Int} {s s' : Bool} {e2 : Bool} {G P Q G' P' Q' : Int} {g g' : Bool} {z x a : Sp} (hM : LQ M) (hM' : LQ M') (hP : LQ P) (hP' : LQ P') (hz : rkI e D s M E D' s' M' E' = z) (hx : rkI e2 G g P Q G' g' P' Q' = x) (ha : meetI x (negI z) = a) : Calls Tryz.prog 24 #[VI e D s M E D' s' M' E', VI e2 G g P Q G' g' P' Q'] w (PV w a) := by
 delta VI
 obtain ⟨p, hp⟩ : ∃ p, negI z = p := ⟨_, rfl⟩; rw [hp] at ha; have ha2 := meetTwo (by rw [← hx]; exact rkI_ok hP hP') ha; have HZ := Lib.hid hz; have HX := Lib.hid hx; have HA := Lib.hid ha2; have HP := Lib.hid hp; clear hz hx ha2 hp; clear ha
 go_enter Tryz.func24, Tryz.ntmps24
 go_upto_region 1 with (fail)
 generalize hW1 : ((w.alloc _).alloc _).alloc _ = w1 at *; obtain ⟨X2, X3, XR, HB⟩ := Bo.en3 hW1; clear hW1; refine Jo.rk [0, 1, 2, 3, 4] [some 5, some 6, some 7, some 8, some 9, none] [[], [], [1], [0, 2], [3], []] 6 1 [Jo.q9 e2 G g P Q G' g' P' Q', Jo.q9 e D s M E D' s' M' E', Jo.Fact.iv p, Jo.Fact.il8 2 [x, p], Jo.Fact.iv a, Jo.Fact.any] (by kernel_rfl) (by kernel_rfl) (by decide) rfl ?_ ?_
 · iterate 2 (refine Jo.jm rfl ?_ ?_; rotate_left)
   refine Jo.jm rfl ?_ ?_
   · rintro wj hJ _ rfl K hK; simp only [Jo.z] at hK ⊢; go_simp; refine (fkNeg hM hM' HZ.out HP.out).mono ?_; rintro ee wk ⟨e21, K21, s21, M21, E21, K21b, s21b, M21b, E21b, rfl, v21, B⟩; exact hK.out _ _ ⟨e21, K21, s21, M21, E21, K21b, s21b, M21b, E21b, rfl, v21⟩ B
   refine Jo.jm rfl ?_ ?_
   · rintro wj hJ _ rfl _ ⟨e21, K21, s21, M21, E21, K21b, s21b, M21b, E21b, rfl, v21⟩ K hK; simp only [Jo.z] at hK ⊢; go_simp; exact hK.out _ _ ⟨_, 2, rfl, Il8.lit2 rfl ⟨hP, hP', HX.out⟩ v21.rw⟩ (bel1 _ _)
   refine Jo.jm rfl ?_ ?_
   · rintro wj hJ _ ⟨A3, c3, rfl, h3⟩ K hK; simp only [Jo.z] at hK ⊢; go_simp; refine (kvMeet h3 HA.out).mono ?_; rintro ee wk ⟨e22, K22, s22, M22, E22, K22b, s22b, M22b, E22b, rfl, v22, B⟩; exact hK.out _ _ ⟨e22, K22, s22, M22, E22, K22b, s22b, M22b, E22b, rfl, v22⟩ B
   exact Jo.Steps.nil
   all_goals (rintro wj hJ; (repeat rintro _ rfl); intro K hK; simp only [Jo.z] at hK ⊢; have xX3 := (X3.below hJ).cell; have xX2 := (X2.below hJ).cell; go_simp; exact hK.out _ _ rfl (br _ _))
 rintro w2 hJ _ rfl _ rfl _ ⟨e21, K21, s21, M21, E21, K21b, s21b, M21b, E21b, rfl, v21⟩ _ ⟨_, _, rfl, _⟩ _ ⟨e22, K22, s22, M22, E22, K22b, s22b, M22b, E22b, rfl, v22⟩ -; simp only [Jo.z]; replace X2 := X2.below hJ; replace X3 := X3.below hJ; replace XR := XR.below hJ; replace HB := Hqb HB hJ; have xXR := XR.cell; have zXR0 := XR.frozen
 refine Jo.jnext (i := 5) (o := ⟨none, _, _, _, _, _⟩) (by kernel_rfl) rfl (fun K hK => ?_)
 go_simp; refine hK.out _ _ ?_; clear hK K xXR zXR0; have SX := StN.mk9 XR (.bool e22) (.int .i64 K22) (.bool s22) (.int .u64 M22) (.int .i64 E22) (.int .i64 K22b) (.bool s22b) (.int .u64 M22b) (.int .i64 E22b); refine Jo.jdone (by kernel_rfl) ?_; go_wp2; exact bodyPost_ret (by simp [results, Tryz.results24, go_sem, SX.box.cell]) rfl ⟨_, _, _, _, _, _, _, _, _, rfl, v22, (SX.below HB.out (by omega))⟩
theorem bkRoot {w : World} {e : Bool} {D M E D' M' E' : Int} {s s' : Bool} {e2 : Bool} {G P Q G' P' Q' : Int} {g g' : Bool} {z x a : Sp} (hM : LQ M) (hM' : LQ M') (hP : LQ P) (hP' : LQ P') (hz : rkI e D s M E D' s' M' E' = z) (hx : rkI e2 G g P Q G' g' P' Q' = x) (ha : rootB z x = a) : Calls Tryz.prog 22 #[VI e D s M E D' s' M' E', VI e2 G g P Q G' g' P' Q'] w (PV w a) := by
 delta VI
 unfold rootB at ha
 obtain ⟨p, hp⟩ : ∃ p, meetI z (some (0, 19342822337206103650074625)) = p := ⟨_, rfl⟩; rw [hp] at ha; obtain ⟨o, ho⟩ : ∃ o, sqrI p = o := ⟨_, rfl⟩; rw [ho] at ha; have ha2 := meetTwo (by rw [← hx]; exact rkI_ok hP hP') ha; have hp2 := meetTwo (by rw [← hz]; exact rkI_ok hM hM') hp
 have HI : Hid (mkI 0 19342822337206103650074625 = some (0, 19342822337206103650074625)) := Lib.hid (mkI_some (by decide) (by decide) (by decide))
 have HZ := Lib.hid hz; have HX := Lib.hid hx; have HA := Lib.hid ha2; have HP := Lib.hid hp2; have HO := Lib.hid ho; clear hz hx ha2 hp2 ho; clear ha hp
 go_enter Tryz.func22, Tryz.ntmps22
 go_upto_region 1 with (fail)
 generalize hW1 : ((w.alloc _).alloc _).alloc _ = w1 at *; obtain ⟨X2, X3, XR, HB⟩ := Bo.en3 hW1; clear hW1
 go_wp2_with fail
 refine (nOf0E).mono ?_; rintro ee w2 ⟨rfl, B⟩; replace X2 := X2.below B; replace X3 := X3.below B; replace XR := XR.below B; replace HB := Hqb HB B; clear B
 go_wp2_with fail
 refine (nInfE false).mono ?_; rintro ee w3 ⟨rfl, B⟩; replace X2 := X2.below B; replace X3 := X3.below B; replace XR := XR.below B; replace HB := Hqb HB B; clear B
 go_wp2_with fail
 refine (kvMake (a := 0) (b := 19342822337206103650074625) (by decide) (by decide) Fq.nought.rk (fq_inf2 false).rk HI.out).mono ?_; rintro ee w4 ⟨e20, K20, s20, M20, E20, K20b, s20b, M20b, E20b, rfl, v20, B⟩; replace X2 := X2.below B; replace X3 := X3.below B; replace XR := XR.below B; replace HB := Hqb HB B; clear B
 go_upto_region 2 with (fail)
 have lX5 := Nat.le_refl (World.heap w4).size; have nX5X2 := X2.lt; have nX5X3 := X3.lt; have nX5XR := XR.lt; generalize hWn : w4.alloc _ = w5 at *; obtain ⟨X5, BW⟩ := Bo.nw hWn; clear hWn; replace X2 := X2.below BW; replace X3 := X3.below BW; replace XR := XR.below BW; replace HB := Hqb HB BW; clear BW; clear lX5; refine Jo.rk [0, 1, 2, 3, 4, 5, 6, 7] [some 9, some 10, some 11, some 12, some 13, some 14, some 15, some 16, none] [[], [], [], [1, 2], [3], [4], [0, 5], [6], []] 9 1 [Jo.q9 e2 G g P Q G' g' P' Q', Jo.q9 e D s M E D' s' M' E', Jo.q9 e20 K20 s20 M20 E20 K20b s20b M20b E20b, Jo.Fact.il8 2 [z, (some (0, 19342822337206103650074625))], Jo.Fact.iv p, Jo.Fact.iv o, Jo.Fact.il8 2 [x, o], Jo.Fact.iv a, Jo.Fact.any] (by kernel_rfl) (by kernel_rfl) (by decide) rfl ?_ ?_
 · iterate 3 (refine Jo.jm rfl ?_ ?_; rotate_left)
   refine Jo.jm rfl ?_ ?_
   · rintro wj hJ _ rfl _ rfl K hK; simp only [Jo.z] at hK ⊢; go_simp; exact hK.out _ _ ⟨_, 2, rfl, Il8.lit2 rfl ⟨hM, hM', HZ.out⟩ v20.rw⟩ (bel1 _ _)
   refine Jo.jm rfl ?_ ?_
   · rintro wj hJ _ ⟨A3, c3, rfl, h3⟩ K hK; simp only [Jo.z] at hK ⊢; go_simp; refine (kvMeet h3 HP.out).mono ?_; rintro ee wk ⟨e21, K21, s21, M21, E21, K21b, s21b, M21b, E21b, rfl, v21, B⟩; exact hK.out _ _ ⟨e21, K21, s21, M21, E21, K21b, s21b, M21b, E21b, rfl, v21⟩ B
   refine Jo.jm rfl ?_ ?_
   · rintro wj hJ _ ⟨e21, K21, s21, M21, E21, K21b, s21b, M21b, E21b, rfl, v21⟩ K hK; simp only [Jo.z] at hK ⊢; go_simp; refine (fkSqr v21.top.1 v21.top.2 v21.rk HO.out).mono ?_; rintro ee wk ⟨e22, K22, s22, M22, E22, K22b, s22b, M22b, E22b, rfl, v22, B⟩; exact hK.out _ _ ⟨e22, K22, s22, M22, E22, K22b, s22b, M22b, E22b, rfl, v22⟩ B
   refine Jo.jm rfl ?_ ?_
   · rintro wj hJ _ rfl _ ⟨e22, K22, s22, M22, E22, K22b, s22b, M22b, E22b, rfl, v22⟩ K hK; simp only [Jo.z] at hK ⊢; go_simp; exact hK.out _ _ ⟨_, 2, rfl, Il8.lit2 rfl ⟨hP, hP', HX.out⟩ v22.rw⟩ (bel1 _ _)
   refine Jo.jm rfl ?_ ?_
   · rintro wj hJ _ ⟨A6, c6, rfl, h6⟩ K hK; simp only [Jo.z] at hK ⊢; go_simp; refine (kvMeet h6 HA.out).mono ?_; rintro ee wk ⟨e23, K23, s23, M23, E23, K23b, s23b, M23b, E23b, rfl, v23, B⟩; exact hK.out _ _ ⟨e23, K23, s23, M23, E23, K23b, s23b, M23b, E23b, rfl, v23⟩ B
   exact Jo.Steps.nil
   all_goals (rintro wj hJ; (repeat rintro _ rfl); intro K hK; simp only [Jo.z] at hK ⊢; have xX3 := (X3.below hJ).cell; have xX2 := (X2.below hJ).cell; have xX5 := (X5.below hJ).cell; go_simp; exact hK.out _ _ rfl (br _ _))
 rintro w6 hJ _ rfl _ rfl _ rfl _ ⟨_, _, rfl, _⟩ _ ⟨e21, K21, s21, M21, E21, K21b, s21b, M21b, E21b, rfl, v21⟩ _ ⟨e22, K22, s22, M22, E22, K22b, s22b, M22b, E22b, rfl, v22⟩ _ ⟨_, _, rfl, _⟩ _ ⟨e23, K23, s23, M23, E23, K23b, s23b, M23b, E23b, rfl, v23⟩ -; simp only [Jo.z]; replace X2 := X2.below hJ; replace X3 := X3.below hJ; replace XR := XR.below hJ; replace X5 := X5.below hJ; replace HB := Hqb HB hJ
 have xXR := XR.cell; have zXR0 := XR.frozen
 refine Jo.jnext (i := 8) (o := ⟨none, _, _, _, _, _⟩) (by kernel_rfl) rfl (fun K hK => ?_)
 go_simp; refine hK.out _ _ ?_; clear hK K xXR zXR0; have SX := StN.mk9 XR (.bool e23) (.int .i64 K23) (.bool s23) (.int .u64 M23) (.int .i64 E23) (.int .i64 K23b) (.bool s23b) (.int .u64 M23b) (.int .i64 E23b); refine Jo.jdone (by kernel_rfl) ?_; go_wp2; exact bodyPost_ret (by simp [results, Tryz.results22, go_sem, SX.box.cell]) rfl ⟨_, _, _, _, _, _, _, _, _, rfl, v23, (SX.below HB.out (by omega))⟩
theorem bkSqr {w : World} {e : Bool} {D M E D' M' E' : Int} {s s' : Bool} {e2 : Bool} {G P Q G' P' Q' : Int} {g g' : Bool} {z x a : Sp} {r : Bool → Int → Int} (hT : Tab w) (hr : RF r) (hM : LQ M) (hM' : LQ M') (hP : LQ P) (hP' : LQ P') (hz : rkI e D s M E D' s' M' E' = z) (hx : rkI e2 G g P Q G' g' P' Q' = x) (ha : sqrB r z x = a) : Calls Tryz.prog 20 #[VI e D s M E D' s' M' E', VI e2 G g P Q G' g' P' Q'] w (PV w a) := by
 delta VI
 unfold sqrB at ha
 obtain ⟨p, hp⟩ : ∃ p, rootI r z = p := ⟨_, rfl⟩; rw [hp] at ha; obtain ⟨m, hm⟩ : ∃ m, negI p = m := ⟨_, rfl⟩; rw [hm] at ha; obtain ⟨o, ho⟩ : ∃ o, meetI x p = o := ⟨_, rfl⟩; obtain ⟨k, hk⟩ : ∃ o, meetI x m = o := ⟨_, rfl⟩; rw [ho, hk] at ha
 have hxo : SpOk x := by rw [← hx]; exact rkI_ok hP hP'
 have ho2 := meetTwo hxo ho; have hk2 := meetTwo hxo hk
 have ha2 : hullL [o, k] = a := ha
 have HZ := Lib.hid hz; have HX := Lib.hid hx; have HA := Lib.hid ha2; have HP := Lib.hid hp; have HO := Lib.hid ho2; have HMM := Lib.hid hm; have HKK := Lib.hid hk2; have HRF := Lib.hid hr; clear hz hx ha2 hp ho2 hm hk2 hr; clear ha ho hk hxo
 go_enter Tryz.func20, Tryz.ntmps20
 go_upto_region 1 with (fail)
 generalize hW1 : ((w.alloc _).alloc _).alloc _ = w1 at *; obtain ⟨X2, X3, XR, HB⟩ := Bo.en3 hW1; replace hT := hT.below HB.out; clear hW1; have xX2 := X2.cell
 go_wp2_with fail
 refine (fkRoot hT HRF.out hM hM' HZ.out HP.out).mono ?_; rintro ee w2 ⟨e20, K20, s20, M20, E20, K20b, s20b, M20b, E20b, rfl, v20, B⟩; clear xX2; replace X2 := X2.below B; replace X3 := X3.below B; replace XR := XR.below B; replace hT := hT.below B; replace HB := Hqb HB B; clear B; clear hT
 go_upto_region 2 with (fail)
 have lX5 := Nat.le_refl (World.heap w2).size; have nX5X2 := X2.lt; have nX5X3 := X3.lt; have nX5XR := XR.lt; generalize hWn : w2.alloc _ = w3 at *; obtain ⟨X5, BW⟩ := Bo.nw hWn; clear hWn; replace X2 := X2.below BW; replace X3 := X3.below BW; replace XR := XR.below BW; replace HB := Hqb HB BW; clear BW; clear lX5; refine Jo.rk [0, 1, 2, 3, 4, 5, 6, 7, 8, 9, 10] [some 8, some 9, some 10, some 11, some 12, some 13, some 14, some 15, some 16, some 17, some 18, none] [[], [], [0, 1], [2], [], [], [5], [4, 6], [7], [3, 8], [9], []] 12 1 [Jo.q9 e2 G g P Q G' g' P' Q', Jo.q9 e20 K20 s20 M20 E20 K20b s20b M20b E20b, Jo.Fact.il8 2 [x, p], Jo.Fact.iv o, Jo.q9 e2 G g P Q G' g' P' Q', Jo.q9 e20 K20 s20 M20 E20 K20b s20b M20b E20b, Jo.Fact.iv m, Jo.Fact.il8 2 [x, m], Jo.Fact.iv k, Jo.Fact.il8 2 [o, k], Jo.Fact.iv a, Jo.Fact.any] (by kernel_rfl) (by kernel_rfl) (by decide) rfl ?_ ?_
 · iterate 2 (refine Jo.jm rfl ?_ ?_; rotate_left)
   refine Jo.jm rfl ?_ ?_
   · rintro wj hJ _ rfl _ rfl K hK; simp only [Jo.z] at hK ⊢; go_simp; exact hK.out _ _ ⟨_, 2, rfl, Il8.lit2 rfl ⟨hP, hP', HX.out⟩ v20.rw⟩ (bel1 _ _)
   refine Jo.jm rfl ?_ ?_
   · rintro wj hJ _ ⟨A2, c2, rfl, h2⟩ K hK; simp only [Jo.z] at hK ⊢; go_simp; refine (kvMeet h2 HO.out).mono ?_; rintro ee wk ⟨e21, K21, s21, M21, E21, K21b, s21b, M21b, E21b, rfl, v21, B⟩; exact hK.out _ _ ⟨e21, K21, s21, M21, E21, K21b, s21b, M21b, E21b, rfl, v21⟩ B
   iterate 2 (refine Jo.jm rfl ?_ ?_; rotate_left)
   refine Jo.jm rfl ?_ ?_
   · rintro wj hJ _ rfl K hK; simp only [Jo.z] at hK ⊢; go_simp; refine (fkNeg v20.top.1 v20.top.2 v20.rk HMM.out).mono ?_; rintro ee wk ⟨e22, K22, s22, M22, E22, K22b, s22b, M22b, E22b, rfl, v22, B⟩; exact hK.out _ _ ⟨e22, K22, s22, M22, E22, K22b, s22b, M22b, E22b, rfl, v22⟩ B
   refine Jo.jm rfl ?_ ?_
   · rintro wj hJ _ rfl _ ⟨e22, K22, s22, M22, E22, K22b, s22b, M22b, E22b, rfl, v22⟩ K hK; simp only [Jo.z] at hK ⊢; go_simp; exact hK.out _ _ ⟨_, 2, rfl, Il8.lit2 rfl ⟨hP, hP', HX.out⟩ v22.rw⟩ (bel1 _ _)
   refine Jo.jm rfl ?_ ?_
   · rintro wj hJ _ ⟨A7, c7, rfl, h7⟩ K hK; simp only [Jo.z] at hK ⊢; go_simp; refine (kvMeet h7 HKK.out).mono ?_; rintro ee wk ⟨e23, K23, s23, M23, E23, K23b, s23b, M23b, E23b, rfl, v23, B⟩; exact hK.out _ _ ⟨e23, K23, s23, M23, E23, K23b, s23b, M23b, E23b, rfl, v23⟩ B
   refine Jo.jm rfl ?_ ?_
   · rintro wj hJ _ ⟨e21, K21, s21, M21, E21, K21b, s21b, M21b, E21b, rfl, v21⟩ _ ⟨e23, K23, s23, M23, E23, K23b, s23b, M23b, E23b, rfl, v23⟩ K hK; simp only [Jo.z] at hK ⊢; go_simp; exact hK.out _ _ ⟨_, 2, rfl, Il8.lit2 rfl v21.rw v23.rw⟩ (bel1 _ _)
   refine Jo.jm rfl ?_ ?_
   · rintro wj hJ _ ⟨A9, c9, rfl, h9⟩ K hK; simp only [Jo.z] at hK ⊢; go_simp; refine (kvHull h9 HA.out).mono ?_; rintro ee wk ⟨e24, K24, s24, M24, E24, K24b, s24b, M24b, E24b, rfl, v24, B⟩; exact hK.out _ _ ⟨e24, K24, s24, M24, E24, K24b, s24b, M24b, E24b, rfl, v24⟩ B
   exact Jo.Steps.nil
   all_goals (rintro wj hJ; (repeat rintro _ rfl); intro K hK; simp only [Jo.z] at hK ⊢; have xX3 := (X3.below hJ).cell; have xX5 := (X5.below hJ).cell; go_simp; exact hK.out _ _ rfl (br _ _))
 rintro w4 hJ _ rfl _ rfl _ ⟨_, _, rfl, _⟩ _ ⟨e21, K21, s21, M21, E21, K21b, s21b, M21b, E21b, rfl, v21⟩ _ rfl _ rfl _ ⟨e22, K22, s22, M22, E22, K22b, s22b, M22b, E22b, rfl, v22⟩ _ ⟨_, _, rfl, _⟩ _ ⟨e23, K23, s23, M23, E23, K23b, s23b, M23b, E23b, rfl, v23⟩ _ ⟨_, _, rfl, _⟩ _ ⟨e24, K24, s24, M24, E24, K24b, s24b, M24b, E24b, rfl, v24⟩ -; simp only [Jo.z]; replace X2 := X2.below hJ; replace X3 := X3.below hJ
 replace XR := XR.below hJ; replace X5 := X5.below hJ; replace HB := Hqb HB hJ; have xXR := XR.cell; have zXR0 := XR.frozen
 refine Jo.jnext (i := 11) (o := ⟨none, _, _, _, _, _⟩) (by kernel_rfl) rfl (fun K hK => ?_)
 go_simp; refine hK.out _ _ ?_; clear hK K xXR zXR0; have SX := StN.mk9 XR (.bool e24) (.int .i64 K24) (.bool s24) (.int .u64 M24) (.int .i64 E24) (.int .i64 K24b) (.bool s24b) (.int .u64 M24b) (.int .i64 E24b); refine Jo.jdone (by kernel_rfl) ?_; go_wp2; exact bodyPost_ret (by simp [results, Tryz.results20, go_sem, SX.box.cell]) rfl ⟨_, _, _, _, _, _, _, _, _, rfl, v24, (SX.below HB.out (by omega))⟩
theorem root_whole {r : Bool → Int → Int} (hr : RF r) (up : Bool) {n : Int} (h0 : 0 < n) (h1 : n ≤ 1000000000) : r up (opl (n * n)) = opl n := by
 have hp : (n * n).natAbs ≤ 1000000000 * 1000000000 := by
   rw [Int.natAbs_mul]; exact Nat.mul_le_mul (by omega) (by omega)
 have n0 : 0 < n * n := Int.mul_pos h0 h0
 obtain ⟨a1, a2⟩ := opl_pos (n := n) h0 (by omega); obtain ⟨b1, b2⟩ := opl_pos (n := n * n) n0 (by omega); have h := hr.fin up b1 b2
 have k : Rt up (vr (opl (n * n)) * 2 ^ KK) (opl n) := rt_exact a1 a2 (by
   rw [opl_vr (by omega) (by omega), opl_vr (n := n * n) (by omega) (by omega)]; simp only [Int.mul_assoc, Int.mul_left_comm])
 have l1 := h.mono9 k (Int.le_refl _); have l2 := k.mono9 h (Int.le_refl _)
 omega
theorem opl_lt {a b : Int} (h1 : -9223372036854775807 ≤ a) (h : a < b) (h2 : b ≤ 9223372036854775807) : opl a < opl b := by
 have l := opl_le (a := a) (b := b) (by omega) (by omega) h2
 have n : opl a ≠ opl b := fun e => by
   have := opl_inj h1 (by omega) (by omega) h2 e
   omega
 omega
theorem Zi.meet2 {a b c d : Int} (a1 : -9223372036854775807 ≤ a) (b2 : b ≤ 9223372036854775807) (c1 : -9223372036854775807 ≤ c) (d2 : d ≤ 9223372036854775807) (ab : a ≤ b) (cd : c ≤ d) (h : max a c ≤ min b d) : meetI (Zi a b) (Zi c d) = Zi (max a c) (min b d) := by
 show mkI (max (opl a) (opl c)) (min (opl b) (opl d)) = _
 rw [(opl_min (a := a) (b := c) (by omega) (by omega) (by omega) (by omega)).2, (opl_min (a := b) (b := d) (by omega) (by omega) (by omega) (by omega)).1]; exact (Zi.mk (by omega) h (by omega)).1
theorem Zi.apart {a b c d : Int} (a1 : -9223372036854775807 ≤ a) (b2 : b ≤ 9223372036854775807) (c1 : -9223372036854775807 ≤ c) (d2 : d ≤ 9223372036854775807) (ab : a ≤ b) (cd : c ≤ d) (h : min b d < max a c) : meetI (Zi a b) (Zi c d) = none := by
 show mkI (max (opl a) (opl c)) (min (opl b) (opl d)) = _
 rw [(opl_min (a := a) (b := c) (by omega) (by omega) (by omega) (by omega)).2, (opl_min (a := b) (b := d) (by omega) (by omega) (by omega) (by omega)).1]
 have := opl_lt (a := min b d) (b := max a c) (by omega) h (by omega)
 exact mkI_none (by omega)
theorem aw10_plus : meetI (Zi 0 5) (subI (Zi 3 3) (Zi 1 1)) = Zi 2 2 ∧ meetI (Zi 1 1) (subI (Zi 3 3) (Zi 2 2)) = Zi 1 1 := by
 constructor
 · unfold subI
   rw [Zi.neg (by decide) (by decide) (by decide), Zi.add (by decide) (by decide) (by decide) (by decide) (by decide) (by decide)]; exact Zi.meet2 (by decide) (by decide) (by decide) (by decide) (by decide) (by decide) (by decide)
 · unfold subI
   rw [Zi.neg (by decide) (by decide) (by decide), Zi.add (by decide) (by decide) (by decide) (by decide) (by decide) (by decide)]; exact Zi.meet2 (by decide) (by decide) (by decide) (by decide) (by decide) (by decide) (by decide)
theorem root_meet9 {r : Bool → Int → Int} (h0 : 0 < opl 4) (h : opl 4 ≤ opl 9) : rootI r (Zi 4 9) = mkI (r false (opl 4)) (r true (opl 9)) := by
 have o9 := opl_pos (n := 9) (by decide) (by decide)
 have e : meetI (Zi 4 9) (some (0, 19342822337206103650074625)) = some (opl 4, opl 9) := by
   show mkI (max (opl 4) 0) (min (opl 9) 19342822337206103650074625) = _
   rw [show max (opl 4) 0 = opl 4 by omega, show min (opl 9) 19342822337206103650074625 = opl 9 by omega]
   exact mkI_some h (by omega) (by omega)
 unfold rootI
 rw [e]
theorem aw10_sqr {r : Bool → Int → Int} (hr : RF r) : sqrB r (Zi 4 9) (Zi (-5) 0) = Zi (-3) (-2) := by
 have o4 := opl_pos (n := 4) (by decide) (by decide); have o9 := opl_pos (n := 9) (by decide) (by decide); have l := opl_le (a := 4) (b := 9) (by decide) (by decide) (by decide)
 have e : rootI r (Zi 4 9) = Zi 2 3 := by
   rw [root_meet9 (by omega) (by omega)]; have q2 := root_whole hr false (n := 2) (by decide) (by decide); have q3 := root_whole hr true (n := 3) (by decide) (by decide)
   rw [show (2 : Int) * 2 = 4 from rfl] at q2
   rw [show (3 : Int) * 3 = 9 from rfl] at q3
   rw [q2, q3]; exact (Zi.mk (a := 2) (b := 3) (by decide) (by decide) (by decide)).1
 unfold sqrB
 rw [e, Zi.neg (by decide) (by decide) (by decide), Zi.apart (by decide) (by decide) (by decide) (by decide) (by decide) (by decide) (by decide), Zi.meet2 (by decide) (by decide) (by decide) (by decide) (by decide) (by decide) (by decide)]
 rfl
theorem fin_one10 {K M E r : Int} {s : Bool} (q : Fq K s M E r) (h0 : r ≠ 0) (h1 : -19342822337206103650074625 < r) (h2 : r < 19342822337206103650074625) : K = 1 := by
 rcases q.cases with ⟨rfl, rfl, rfl, rfl, h⟩ | ⟨rfl, _⟩ | ⟨rfl, rfl, rfl, ⟨rfl, h⟩ | ⟨rfl, h⟩⟩
 · omega
 · rfl
 · omega
 · omega
theorem Zi.all10 {a b : Int} (h1 : -9223372036854775807 ≤ a) (h : a ≤ b) (h2 : b ≤ 9223372036854775807) : mkI (opl a) (opl b) = Zi a b := (Zi.mk h1 h h2).1
theorem awake10 {w : World} {r : Bool → Int → Int} (hT : Tab w) (hT2 : Tb w) (hr : RF r) : Calls Tryz.prog 10 #[] w (PB w true) := by
 obtain ⟨hp1, hp2⟩ := aw10_plus; have hs := aw10_sqr hr
 have n3 : opl (-3) ≠ 0 ∧ -19342822337206103650074625 < opl (-3) ∧ opl (-3) < 19342822337206103650074625 := ⟨opl_nz (by decide) (by decide) (by decide), opl_fin (by decide) (by decide)⟩
 have hw : Zi (-3) (-2) = some (opl (-3), opl (-2)) := rfl
 have mx1 := Zi.all10 (a := 3) (b := 3) (by decide) (by decide) (by decide); have mx2 := Zi.all10 (a := 0) (b := 5) (by decide) (by decide) (by decide); have mx3 := Zi.all10 (a := 1) (b := 1) (by decide) (by decide) (by decide); have mx4 := Zi.all10 (a := 2) (b := 2) (by decide) (by decide) (by decide); have mx5 := Zi.all10 (a := 4) (b := 9) (by decide) (by decide) (by decide); have mx6 := Zi.all10 (a := (-5)) (b := 0) (by decide) (by decide) (by decide)
 have mx7 := Zi.all10 (a := (-3)) (b := (-2)) (by decide) (by decide) (by decide)
 have ei0 : sgi (decide ((0 : Int) < 0)) (lo (0 : Int).natAbs 0) = opl 0 := rfl
 have ei1 : sgi (decide ((1 : Int) < 0)) (lo (1 : Int).natAbs 0) = opl 1 := rfl
 have ei2 : sgi (decide ((2 : Int) < 0)) (lo (2 : Int).natAbs 0) = opl 2 := rfl
 have ei3 : sgi (decide ((3 : Int) < 0)) (lo (3 : Int).natAbs 0) = opl 3 := rfl
 have ei4 : sgi (decide ((4 : Int) < 0)) (lo (4 : Int).natAbs 0) = opl 4 := rfl
 have ei5 : sgi (decide ((5 : Int) < 0)) (lo (5 : Int).natAbs 0) = opl 5 := rfl
 have ei9 : sgi (decide ((9 : Int) < 0)) (lo (9 : Int).natAbs 0) = opl 9 := rfl
 have eim5 : sgi (decide (((-5) : Int) < 0)) (lo ((-5) : Int).natAbs 0) = opl (-5) := rfl
 have eim3 : sgi (decide (((-3) : Int) < 0)) (lo ((-3) : Int).natAbs 0) = opl (-3) := rfl
 have eim2 : sgi (decide (((-2) : Int) < 0)) (lo ((-2) : Int).natAbs 0) = opl (-2) := rfl
 generalize opl 0 = i0 at *; generalize opl 1 = i1 at *; generalize opl 2 = i2 at *; generalize opl 3 = i3 at *; generalize opl 4 = i4 at *; generalize opl 5 = i5 at *; generalize opl 9 = i9 at *; generalize opl (-5) = im5 at *; generalize opl (-3) = im3 at *; generalize opl (-2) = im2 at *; generalize Zi 3 3 = x1 at *; generalize Zi 0 5 = x2 at *; generalize Zi 1 1 = x3 at *; generalize Zi 2 2 = x4 at *
 generalize Zi 4 9 = x5 at *; generalize Zi (-5) 0 = x6 at *; generalize Zi (-3) (-2) = x7 at *; subst hw; have Hi0 := Lib.hid ei0; clear ei0; have Hi1 := Lib.hid ei1; clear ei1; have Hi2 := Lib.hid ei2; clear ei2; have Hi3 := Lib.hid ei3; clear ei3; have Hi4 := Lib.hid ei4; clear ei4; have Hi5 := Lib.hid ei5; clear ei5; have Hi9 := Lib.hid ei9; clear ei9; have Him5 := Lib.hid eim5; clear eim5; have Him3 := Lib.hid eim3
 clear eim3; have Him2 := Lib.hid eim2; clear eim2; have Mx1 := Lib.hid mx1; clear mx1; have Mx2 := Lib.hid mx2; clear mx2; have Mx3 := Lib.hid mx3; clear mx3; have Mx4 := Lib.hid mx4; clear mx4; have Mx5 := Lib.hid mx5; clear mx5; have Mx6 := Lib.hid mx6; clear mx6; have Mx7 := Lib.hid mx7; clear mx7; have HP1 := Lib.hid hp1; have HP2 := Lib.hid hp2; have HS := Lib.hid hs; have HN := Lib.hid n3; have HRR := Lib.hid hr
 clear hp1 hp2 hs n3 hr
 go_enter Tryz.func10, Tryz.ntmps10
 have HB := Lib.hid (Below.refl w.heap.size w)
 go_wp2_with fail
 refine (kvOf (by decide) (by decide) (by decide) (by decide) Hi3.out Hi3.out Mx1.out).mono ?_; rintro ee w1 ⟨e1, K1, s1, M1, E1, K1b, s1b, M1b, E1b, rfl, v1, B⟩; replace hT := hT.below B; replace hT2 := hT2.below B; replace HB := Hqb HB B; clear B
 go_wp2_with fail
 refine (kvOf (by decide) (by decide) (by decide) (by decide) Hi0.out Hi5.out Mx2.out).mono ?_; rintro ee w2 ⟨e2, K2, s2, M2, E2, K2b, s2b, M2b, E2b, rfl, v2, B⟩; replace hT := hT.below B; replace hT2 := hT2.below B; replace HB := Hqb HB B; clear B
 go_wp2_with fail
 refine (kvOf (by decide) (by decide) (by decide) (by decide) Hi1.out Hi1.out Mx3.out).mono ?_; rintro ee w3 ⟨e3, K3, s3, M3, E3, K3b, s3b, M3b, E3b, rfl, v3, B⟩; replace hT := hT.below B; replace hT2 := hT2.below B; replace HB := Hqb HB B; clear B
 go_wp2_with fail
 refine (bkPlus hT2 v1.top.1 v1.top.2 v2.top.1 v2.top.2 v3.top.1 v3.top.2 v1.rk v2.rk v3.rk HP1.out HP2.out).mono ?_; rintro ee w4 ⟨e21, K21, s21, M21, E21, K21b, s21b, M21b, E21b, e22, K22, s22, M22, E22, K22b, s22b, M22b, E22b, rfl, v21, v22, B⟩; replace hT := hT.below B; replace hT2 := hT2.below B; replace HB := Hqb HB B; clear B
 go_upto_region 2 with (fail)
 have e4X2 : (World.alloc w4 (.cells #[.bool e21, .int .i64 K21, .bool s21, .int .u64 M21, .int .i64 E21, .int .i64 K21b, .bool s21b, .int .u64 M21b, .int .i64 E21b] 26)).heap.size = w4.heap.size + 1 := by simp
 have lX1 := Nat.le_refl (World.heap w4).size; replace hT := hT.below (bel1 _ (.cells #[.bool e21, .int .i64 K21, .bool s21, .int .u64 M21, .int .i64 E21, .int .i64 K21b, .bool s21b, .int .u64 M21b, .int .i64 E21b] 26)); replace hT2 := hT2.below (bel1 _ (.cells #[.bool e21, .int .i64 K21, .bool s21, .int .u64 M21, .int .i64 E21, .int .i64 K21b, .bool s21b, .int .u64 M21b, .int .i64 E21b] 26)); replace HB := Lib.hid (bt HB.out (bel1 _ (.cells #[.bool e21, .int .i64 K21, .bool s21, .int .u64 M21, .int .i64 E21, .int .i64 K21b, .bool s21b, .int .u64 M21b, .int .i64 E21b] 26)))
 have X1 := Bo.new w4 #[.bool e21, .int .i64 K21, .bool s21, .int .u64 M21, .int .i64 E21, .int .i64 K21b, .bool s21b, .int .u64 M21b, .int .i64 E21b] 26; generalize hWn : World.alloc w4 (.cells #[.bool e21, .int .i64 K21, .bool s21, .int .u64 M21, .int .i64 E21, .int .i64 K21b, .bool s21b, .int .u64 M21b, .int .i64 E21b] 26) = w5 at *; clear hWn; have lX2 := Nat.le_refl (World.heap w5).size; have nX2X1 := X1.lt
 generalize hWn : w5.alloc _ = w6 at *; obtain ⟨X2, BW⟩ := Bo.nw hWn; clear hWn; replace X1 := X1.below BW; replace hT := hT.below BW; replace hT2 := hT2.below BW; replace HB := Hqb HB BW; clear BW; rw [e4X2] at X2; clear lX1 lX2 e4X2; clear v1 v2 v3
 go_wp2_with fail
 refine (kvOf (by decide) (by decide) (by decide) (by decide) Hi4.out Hi9.out Mx5.out).mono ?_; rintro ee w7 ⟨e4, K4, s4, M4, E4, K4b, s4b, M4b, E4b, rfl, v4, B⟩; replace X1 := X1.below B; replace X2 := X2.below B; replace hT := hT.below B; replace hT2 := hT2.below B; replace HB := Hqb HB B; clear B
 go_wp2_with fail
 refine (kvOf (by decide) (by decide) (by decide) (by decide) Him5.out Hi0.out Mx6.out).mono ?_; rintro ee w8 ⟨e5, K5, s5, M5, E5, K5b, s5b, M5b, E5b, rfl, v5, B⟩; replace X1 := X1.below B; replace X2 := X2.below B; replace hT := hT.below B; replace hT2 := hT2.below B; replace HB := Hqb HB B; clear B
 go_wp2_with fail
 refine (bkSqr hT HRR.out v4.top.1 v4.top.2 v5.top.1 v5.top.2 v4.rk v5.rk HS.out).mono ?_; rintro ee w9 ⟨e6, K6, s6, M6, E6, K6b, s6b, M6b, E6b, rfl, v6, B⟩; replace X1 := X1.below B; replace X2 := X2.below B; replace hT := hT.below B; replace hT2 := hT2.below B; replace HB := Hqb HB B; clear B; clear v4 v5; obtain ⟨rfl, a6, b6, o6a, o6l, o6h⟩ := v6
 obtain rfl : K6 = 1 := fin_one10 a6 HN.out.1 HN.out.2.1 HN.out.2.2
 go_upto_region 3 with (fail)
 have lX3 := Nat.le_refl (World.heap w9).size; have nX3X1 := X1.lt; have nX3X2 := X2.lt; generalize hWn : w9.alloc _ = wA at *; obtain ⟨X3, BW⟩ := Bo.nw hWn; clear hWn; replace X1 := X1.below BW; replace X2 := X2.below BW; replace hT := hT.below BW; replace hT2 := hT2.below BW; replace HB := Hqb HB BW; clear BW; clear lX3
 have v6 : Ci false 1 s6 M6 E6 K6b s6b M6b E6b (some (im3, im2)) := ⟨rfl, a6, b6, o6a, o6l, o6h⟩
 refine Jo.rk [0, 1, 2, 3, 4, 5, 6, 7, 8, 9, 10, 11, 12, 13, 14, 15, 16, 17, 18, 19, 20, 21, 22, 23, 24, 25, 26, 27, 28, 29, 30] [some 14, some 15, some 16, some 17, some 18, some 19, some 20, some 21, some 22, some 23, some 24, some 25, some 26, some 27, some 28, some 29, some 30, some 31, some 32, some 33, some 34, some 35, some 36, some 37, some 38, some 39, some 40, some 41, some 42, some 43, some 0] [[], [], [0, 1], [2], [3], [3], [3, 4, 5], [3, 6], [7], [8], [8], [8, 9, 10], [8, 11], [12], [13], [13, 14], [13, 15], [13, 16], [17], [18], [18, 19], [18], [18, 20, 21], [18, 22], [23], [24], [24, 25], [24, 26], [24, 27], [24, 28], [29]] 31 0 [Jo.q9 e21 K21 s21 M21 E21 K21b s21b M21b E21b, Jo.Fact.iv x4, Jo.qb true, Jo.qb true, Jo.q9 e22 K22 s22 M22 E22 K22b s22b M22b E22b, Jo.Fact.iv x3, Jo.qb true, Jo.qb true, Jo.qb true, Jo.q9 false 1 s6 M6 E6 K6b s6b M6b E6b, Jo.Fact.iv (some (im3, im2)), Jo.qb true, Jo.qb true, Jo.qb true, Jo.qp w9.heap.size 0, Jo.qb false, Jo.qb true, Jo.qb true, Jo.qb true, Jo.qp w9.heap.size 1, Jo.q4 1 s6 M6 E6, Jo.Fact.num im3, Jo.qb true, Jo.qb true, Jo.qb true, Jo.qp w9.heap.size 1, Jo.qp w9.heap.size 1, Jo.qi 1, Jo.qb true, Jo.qb true, Jo.qb true] (by kernel_rfl) (by kernel_rfl) (by decide) rfl ?_ ?_
 · refine Jo.jm rfl ?_ ?_; rotate_left
   refine Jo.jm rfl ?_ ?_
   · rintro wj hJ K hK; simp only [Jo.z] at hK ⊢; go_simp; refine (kvOf (by decide) (by decide) (by decide) (by decide) Hi2.out Hi2.out Mx4.out).mono ?_; rintro ee wk ⟨e7, K7, s7, M7, E7, K7b, s7b, M7b, E7b, rfl, v7, B⟩; exact hK.out _ _ ⟨e7, K7, s7, M7, E7, K7b, s7b, M7b, E7b, rfl, v7⟩ B
   refine Jo.jm rfl ?_ ?_
   · rintro wj hJ _ rfl _ ⟨e7, K7, s7, M7, E7, K7b, s7b, M7b, E7b, rfl, v7⟩ K hK; simp only [Jo.z] at hK ⊢; obtain ⟨rfl, rfl, rfl, rfl, rfl, rfl, rfl, rfl, rfl⟩ := v21.uniq v7; go_simp
     exact hK.out _ _ (by first | rfl | (show Value.bool _ = Value.bool _; simp)) (br _ _)
   iterate 2 (refine Jo.jm rfl ?_ ?_; rotate_left)
   refine Jo.jm rfl ?_ ?_
   · rintro wj hJ _ rfl K hK; simp only [Jo.z] at hK ⊢; go_simp; refine (kvOf (by decide) (by decide) (by decide) (by decide) Hi1.out Hi1.out Mx3.out).mono ?_; rintro ee wk ⟨e8, K8, s8, M8, E8, K8b, s8b, M8b, E8b, rfl, v8, B⟩; exact hK.out _ _ ⟨e8, K8, s8, M8, E8, K8b, s8b, M8b, E8b, rfl, v8⟩ B
   refine Jo.jm rfl ?_ ?_
   · rintro wj hJ _ rfl _ rfl _ ⟨e8, K8, s8, M8, E8, K8b, s8b, M8b, E8b, rfl, v8⟩ K hK; simp only [Jo.z] at hK ⊢; obtain ⟨rfl, rfl, rfl, rfl, rfl, rfl, rfl, rfl, rfl⟩ := v22.uniq v8; go_simp
     exact hK.out _ _ (by first | rfl | (show Value.bool _ = Value.bool _; simp)) (br _ _)
   iterate 3 (refine Jo.jm rfl ?_ ?_; rotate_left)
   refine Jo.jm rfl ?_ ?_
   · rintro wj hJ _ rfl K hK; simp only [Jo.z] at hK ⊢; go_simp; refine (kvOf (by decide) (by decide) (by decide) (by decide) Him3.out Him2.out Mx7.out).mono ?_; rintro ee wk ⟨e9, K9, s9, M9, E9, K9b, s9b, M9b, E9b, rfl, v9, B⟩; exact hK.out _ _ ⟨e9, K9, s9, M9, E9, K9b, s9b, M9b, E9b, rfl, v9⟩ B
   refine Jo.jm rfl ?_ ?_
   · rintro wj hJ _ rfl _ rfl _ ⟨e9, K9, s9, M9, E9, K9b, s9b, M9b, E9b, rfl, v9⟩ K hK; simp only [Jo.z] at hK ⊢; obtain ⟨rfl, rfl, rfl, rfl, rfl, rfl, rfl, rfl, rfl⟩ := v6.uniq v9; go_simp
     exact hK.out _ _ (by first | rfl | (show Value.bool _ = Value.bool _; simp)) (br _ _)
   iterate 3 (refine Jo.jm rfl ?_ ?_; rotate_left)
   refine Jo.jm rfl ?_ ?_
   · rintro wj hJ _ rfl _ rfl K hK; simp only [Jo.z] at hK ⊢; have xX30 := (X3.below hJ).a 0 (.bool false) rfl; go_simp; exact hK.out _ _ rfl (br _ _)
   iterate 5 (refine Jo.jm rfl ?_ ?_; rotate_left)
   refine Jo.jm rfl ?_ ?_
   · rintro wj hJ _ rfl K hK; simp only [Jo.z] at hK ⊢; go_simp; refine (nOf _ (by decide) (by decide) Him3.out).mono ?_; rintro ee wk ⟨K10, s10, M10, E10, rfl, q10, B⟩; exact hK.out _ _ ⟨K10, s10, M10, E10, rfl, q10⟩ B
   refine Jo.jm rfl ?_ ?_
   · rintro wj hJ _ rfl _ rfl _ ⟨K10, s10, M10, E10, rfl, q10⟩ K hK; simp only [Jo.z] at hK ⊢; obtain ⟨rfl, rfl, rfl, rfl⟩ := a6.uniq q10; go_simp
     exact hK.out _ _ (by first | rfl | (show Value.bool _ = Value.bool _; simp)) (br _ _)
   iterate 4 (refine Jo.jm rfl ?_ ?_; rotate_left)
   refine Jo.jm rfl ?_ ?_
   · rintro wj hJ _ rfl _ rfl K hK; simp only [Jo.z] at hK ⊢; have xX31 := (X3.below hJ).a 1 (.int .i64 1) rfl; go_simp; exact hK.out _ _ rfl (br _ _)
   refine Jo.jm rfl ?_ ?_
   · rintro wj hJ _ rfl _ rfl K hK; simp only [Jo.z] at hK ⊢; go_simp
     exact hK.out _ _ (by first | rfl | (show Value.bool _ = Value.bool _; simp)) (br _ _)
   iterate 2 (refine Jo.jm rfl ?_ ?_; rotate_left)
   exact Jo.Steps.nil
   all_goals (rintro wj hJ; (repeat rintro _ rfl); intro K hK; simp only [Jo.z] at hK ⊢; have xX1 := (X1.below hJ).cell; have xX2 := (X2.below hJ).cell; have xX3 := (X3.below hJ).cell; go_simp; exact hK.out _ _ rfl (br _ _))
 rintro wB hJ _ rfl _ ⟨e7, K7, s7, M7, E7, K7b, s7b, M7b, E7b, rfl, v7⟩ _ rfl _ rfl _ rfl _ ⟨e8, K8, s8, M8, E8, K8b, s8b, M8b, E8b, rfl, v8⟩ _ rfl _ rfl _ rfl _ rfl _ ⟨e9, K9, s9, M9, E9, K9b, s9b, M9b, E9b, rfl, v9⟩ _ rfl _ rfl _ rfl _ _ _ rfl _ rfl _ rfl _ rfl _ _ _ rfl _ ⟨K10, s10, M10, E10, rfl, _⟩ _ rfl _ rfl _ rfl _ _ _ _ _ rfl _ rfl _ rfl _ rfl -; simp only [Jo.z]; replace X1 := X1.below hJ
 replace X2 := X2.below hJ; replace X3 := X3.below hJ; replace hT := hT.below hJ; replace hT2 := hT2.below hJ; replace HB := Hqb HB hJ; refine Jo.jdone (by kernel_rfl) ?_; go_wp2
 go_ret
 exact ⟨rfl, HB.out⟩
end Go.Proofs.YtnbliijpjcmbjaaGreatDoor

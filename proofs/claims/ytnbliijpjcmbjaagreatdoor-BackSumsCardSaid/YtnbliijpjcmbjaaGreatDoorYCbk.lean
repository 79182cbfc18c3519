/-
 Contracts that the proof rests on.
-/
import Derived.Test.YtnbliijpjcmbjaaGreatDoorYCbi
namespace Go.Proofs.YtnbliijpjcmbjaaGreatDoor
set_option maxHeartbeats 4000000
open Go.RowKit
set_option linter.unusedVariables false
set_option linter.unusedSimpArgs false
set_option maxRecDepth 100000
theorem bwPlus {w : World} {e : Bool} {D M E D' M' E' : Int} {s s' : Bool} {e2 : Bool} {G P Q G' P' Q' : Int} {g g' : Bool} {e3 : Bool} {J U V J' U' V' : Int} {j j' : Bool} {z x y a b : Sp} (hM : LQ M) (hM' : LQ M') (hP : LQ P) (hP' : LQ P') (hU : LQ U) (hU' : LQ U') (hz : rkI e D s M E D' s' M' E' = z) (hx : rkI e2 G g P Q G' g' P' Q' = x) (hy : rkI e3 J j U V J' j' U' V' = y) (hn1 : NearA z (negI y)) (ha : meetI x (subI z y) = a) (hn2 : NearA z (negI a)) (hb : meetI y (subI z a) = b) : Calls Tryz.prog 13 #[VI e D s M E D' s' M' E', VI e2 G g P Q G' g' P' Q', VI e3 J j U V J' j' U' V'] w (PV2 w a b) := by
 delta VI
 obtain ⟨p, hp⟩ : ∃ p, subI z y = p := ⟨_, rfl⟩; obtain ⟨o, ho⟩ : ∃ p, subI z a = p := ⟨_, rfl⟩; rw [hp] at ha; rw [ho] at hb; have HZ := Lib.hid hz; have HX := Lib.hid hx; have HY := Lib.hid hy; have HN1 := Lib.hid hn1; have HN2 := Lib.hid hn2; have HA := Lib.hid ha; have HBB := Lib.hid hb; have HP := Lib.hid hp; have HO := Lib.hid ho; clear hz hx hy hn1 hn2 ha hb hp ho
 go_enter Tryz.func13, Tryz.ntmps13
 go_upto_region 1 with (fail)
 generalize hW1 : ((((w.alloc _).alloc _).alloc _).alloc _).alloc _ = w1 at *; obtain ⟨X3, X4, X5, XR, XS, HB⟩ := Bo.en5 hW1; clear hW1; have ltX3 := X3.lt; have ltX4 := X4.lt; have ltX5 := X5.lt; have ltXR := XR.lt; have ltXS := XS.lt; refine Jo.rk [0, 1, 2, 3, 4, 5] [some 9, some 10, some 11, some 12, some 13, some 8, none] [[], [], [], [1, 2], [0, 3], [], []] 7 1 [Jo.q9 e2 G g P Q G' g' P' Q', Jo.q9 e D s M E D' s' M' E', Jo.q9 e3 J j U V J' j' U' V', Jo.Fact.iv p, Jo.Fact.iv a, Jo.Fact.bo w1.heap.size #[.bool false, .int .i64 0, .bool false, .int .u64 0, .int .i64 0, .int .i64 0, .bool false, .int .u64 0, .int .i64 0] 26, Jo.Fact.any] (by kernel_rfl) (by kernel_rfl) (by decide) rfl ?_ ?_
 · iterate 3 (refine Jo.jm rfl ?_ ?_; rotate_left)
   refine Jo.jm rfl ?_ ?_
   · rintro wj hJ _ rfl _ rfl K hK; simp only [Jo.z] at hK ⊢; go_simp; refine (fwSub hM hM' hU hU' HZ.out HY.out HN1.out HP.out).mono ?_; rintro ee wk ⟨e21, K21, s21, M21, E21, K21b, s21b, M21b, E21b, rfl, v21, B⟩; exact hK.out _ _ ⟨e21, K21, s21, M21, E21, K21b, s21b, M21b, E21b, rfl, v21⟩ B
   refine Jo.jm rfl ?_ ?_
   · rintro wj hJ _ rfl _ ⟨e21, K21, s21, M21, E21, K21b, s21b, M21b, E21b, rfl, v21⟩ K hK; simp only [Jo.z] at hK ⊢; go_simp; refine (jvTwo hP hP' v21.top.1 v21.top.2 HX.out v21.rk HA.out).mono ?_; rintro ee wk ⟨e22, K22, s22, M22, E22, K22b, s22b, M22b, E22b, rfl, v22, B⟩; exact hK.out _ _ ⟨e22, K22, s22, M22, E22, K22b, s22b, M22b, E22b, rfl, v22⟩ B
   refine Jo.jm rfl ?_ ?_
   · rintro wj hJ K hK; simp only [Jo.z] at hK ⊢; go_simp; exact hK.out _ _ ⟨_, rfl, hJ.size, Bo.new _ _ _⟩ (bel1 _ _)
   exact Jo.Steps.nil
   all_goals (rintro wj hJ; (repeat rintro _ rfl); intro K hK; simp only [Jo.z] at hK ⊢; have xX4 := (X4.below hJ).cell; have xX3 := (X3.below hJ).cell; have xX5 := (X5.below hJ).cell; go_simp; exact hK.out _ _ rfl (br _ _))
 rintro w2 hJ _ rfl _ rfl _ rfl _ ⟨e21, K21, s21, M21, E21, K21b, s21b, M21b, E21b, rfl, v21⟩ _ ⟨e22, K22, s22, M22, E22, K22b, s22b, M22b, E22b, rfl, v22⟩ _ ⟨g8, rfl, hg8, X8⟩ -; simp only [Jo.z]; replace X3 := X3.below hJ; replace X4 := X4.below hJ; replace X5 := X5.below hJ; replace XR := XR.below hJ; replace XS := XS.below hJ; replace HB := Hqb HB hJ; have xX8 := X8.cell
 have zX80 := X8.frozen
 refine Jo.jnext (i := 6) (o := ⟨none, _, _, _, _, _⟩) (by kernel_rfl) rfl (fun K hK => ?_)
 go_simp; refine hK.out _ _ ?_; clear hK K xX8 zX80; generalize hS : ((((((((w2.setCell _ _).setCell _ _).setCell _ _).setCell _ _).setCell _ _).setCell _ _).setCell _ _).setCell _ _).setCell _ _ = w3 at *; have SX := StN.of9 X8 hS; replace X3 := X3.stn SX (by omega); replace X4 := X4.stn SX (by omega); replace X5 := X5.stn SX (by omega); replace XR := XR.stn SX (by omega)
 replace XS := XS.stn SX (by omega); replace HB := Hqs HB SX (by omega); replace X8 := SX.box; clear SX hS; refine Jo.jdone (by kernel_rfl) ?_
 go_upto_region 2 with (fail)
 refine Jo.rk [0, 1, 2, 3, 4, 5] [some 14, some 15, some 16, some 17, some 18, some 19, none, none] [[], [], [], [], [2, 3], [1, 4], [], []] 8 2 [Jo.q9 e22 K22 s22 M22 E22 K22b s22b M22b E22b, Jo.q9 e3 J j U V J' j' U' V', Jo.q9 e D s M E D' s' M' E', Jo.q9 e22 K22 s22 M22 E22 K22b s22b M22b E22b, Jo.Fact.iv o, Jo.Fact.iv b, Jo.Fact.any, Jo.Fact.any] (by kernel_rfl) (by kernel_rfl) (by decide) rfl ?_ ?_
 · iterate 4 (refine Jo.jm rfl ?_ ?_; rotate_left)
   refine Jo.jm rfl ?_ ?_
   · rintro wj hJ _ rfl _ rfl K hK; simp only [Jo.z] at hK ⊢; go_simp; refine (fwSub hM hM' v22.top.1 v22.top.2 HZ.out v22.rk HN2.out HO.out).mono ?_; rintro ee wk ⟨e23, K23, s23, M23, E23, K23b, s23b, M23b, E23b, rfl, v23, B⟩; exact hK.out _ _ ⟨e23, K23, s23, M23, E23, K23b, s23b, M23b, E23b, rfl, v23⟩ B
   refine Jo.jm rfl ?_ ?_
   · rintro wj hJ _ rfl _ ⟨e23, K23, s23, M23, E23, K23b, s23b, M23b, E23b, rfl, v23⟩ K hK; simp only [Jo.z] at hK ⊢; go_simp; refine (jvTwo hU hU' v23.top.1 v23.top.2 HY.out v23.rk HBB.out).mono ?_; rintro ee wk ⟨e24, K24, s24, M24, E24, K24b, s24b, M24b, E24b, rfl, v24, B⟩; exact hK.out _ _ ⟨e24, K24, s24, M24, E24, K24b, s24b, M24b, E24b, rfl, v24⟩ B
   exact Jo.Steps.nil
   all_goals (rintro wj hJ; (repeat rintro _ rfl); intro K hK; simp only [Jo.z] at hK ⊢; have xX8 := (X8.below hJ).cell; have xX5 := (X5.below hJ).cell; have xX3 := (X3.below hJ).cell; go_simp; exact hK.out _ _ rfl (br _ _))
 rintro w4 hJ _ rfl _ rfl _ rfl _ rfl _ ⟨e23, K23, s23, M23, E23, K23b, s23b, M23b, E23b, rfl, v23⟩ _ ⟨e24, K24, s24, M24, E24, K24b, s24b, M24b, E24b, rfl, v24⟩ -; simp only [Jo.z]; replace X3 := X3.below hJ; replace X4 := X4.below hJ; replace X5 := X5.below hJ; replace XR := XR.below hJ; replace XS := XS.below hJ; replace X8 := X8.below hJ; replace HB := Hqb HB hJ; have xXR := XR.cell
 have zXR0 := XR.frozen
 refine Jo.jnext (i := 6) (o := ⟨none, _, _, _, _, _⟩) (by kernel_rfl) rfl (fun K hK => ?_)
 go_simp; refine hK.out _ _ ?_; clear hK K xXR zXR0; generalize hS : ((((((((w4.setCell _ _).setCell _ _).setCell _ _).setCell _ _).setCell _ _).setCell _ _).setCell _ _).setCell _ _).setCell _ _ = w5 at *; have SX := StN.of9 XR hS; replace X3 := X3.stn SX (by omega); replace X4 := X4.stn SX (by omega); replace X5 := X5.stn SX (by omega); replace XS := XS.stn SX (by omega)
 replace X8 := X8.stn SX (by omega); replace HB := Hqs HB SX (by omega); replace XR := SX.box; clear SX hS; have xXS := XS.cell; have zXS0 := XS.frozen
 refine Jo.jnext (i := 7) (o := ⟨none, _, _, _, _, _⟩) (by kernel_rfl) rfl (fun K hK => ?_)
 go_simp; refine hK.out _ _ ?_; clear hK K xXS zXS0; generalize hS : ((((((((w5.setCell _ _).setCell _ _).setCell _ _).setCell _ _).setCell _ _).setCell _ _).setCell _ _).setCell _ _).setCell _ _ = w6 at *; have SX := StN.of9 XS hS; replace X3 := X3.stn SX (by omega); replace X4 := X4.stn SX (by omega); replace X5 := X5.stn SX (by omega); replace XR := XR.stn SX (by omega)
 replace X8 := X8.stn SX (by omega); replace HB := Hqs HB SX (by omega); replace XS := SX.box; clear SX hS; refine Jo.jdone (by kernel_rfl) ?_; go_wp2; exact bodyPost_ret (v := .tuple #[.agg #[.bool e22, .int .i64 K22, .bool s22, .int .u64 M22, .int .i64 E22, .int .i64 K22b, .bool s22b, .int .u64 M22b, .int .i64 E22b], .agg #[.bool e24, .int .i64 K24, .bool s24, .int .u64 M24, .int .i64 E24, .int .i64 K24b, .bool s24b, .int .u64 M24b, .int .i64 E24b]]) (by simp [results, Tryz.results13, go_sem, XR.cell, XS.cell]) rfl ⟨_, _, _, _, _, _, _, _, _, _, _, _, _, _, _, _, _, _, rfl, v22, v24, HB.out⟩
theorem bwMinus {w : World} {e : Bool} {D M E D' M' E' : Int} {s s' : Bool} {e2 : Bool} {G P Q G' P' Q' : Int} {g g' : Bool} {e3 : Bool} {J U V J' U' V' : Int} {j j' : Bool} {z x y a b : Sp} (hM : LQ M) (hM' : LQ M') (hP : LQ P) (hP' : LQ P') (hU : LQ U) (hU' : LQ U') (hz : rkI e D s M E D' s' M' E' = z) (hx : rkI e2 G g P Q G' g' P' Q' = x) (hy : rkI e3 J j U V J' j' U' V' = y) (hn1 : NearA z y) (ha : meetI x (addI z y) = a) (hn2 : NearA a (negI z)) (hb : meetI y (subI a z) = b) : Calls Tryz.prog 15 #[VI e D s M E D' s' M' E', VI e2 G g P Q G' g' P' Q', VI e3 J j U V J' j' U' V'] w (PV2 w a b) := by
 delta VI
 obtain ⟨p, hp⟩ : ∃ p, addI z y = p := ⟨_, rfl⟩; obtain ⟨o, ho⟩ : ∃ p, subI a z = p := ⟨_, rfl⟩; rw [hp] at ha; rw [ho] at hb; have HZ := Lib.hid hz; have HX := Lib.hid hx; have HY := Lib.hid hy; have HN1 := Lib.hid hn1; have HN2 := Lib.hid hn2; have HA := Lib.hid ha; have HBB := Lib.hid hb; have HP := Lib.hid hp; have HO := Lib.hid ho; clear hz hx hy hn1 hn2 ha hb hp ho
 go_enter Tryz.func15, Tryz.ntmps15
 go_upto_region 1 with (fail)
 generalize hW1 : ((((w.alloc _).alloc _).alloc _).alloc _).alloc _ = w1 at *; obtain ⟨X3, X4, X5, XR, XS, HB⟩ := Bo.en5 hW1; clear hW1; have ltX3 := X3.lt; have ltX4 := X4.lt; have ltX5 := X5.lt; have ltXR := XR.lt; have ltXS := XS.lt; refine Jo.rk [0, 1, 2, 3, 4, 5] [some 9, some 10, some 11, some 12, some 13, some 8, none] [[], [], [], [1, 2], [0, 3], [], []] 7 1 [Jo.q9 e2 G g P Q G' g' P' Q', Jo.q9 e D s M E D' s' M' E', Jo.q9 e3 J j U V J' j' U' V', Jo.Fact.iv p, Jo.Fact.iv a, Jo.Fact.bo w1.heap.size #[.bool false, .int .i64 0, .bool false, .int .u64 0, .int .i64 0, .int .i64 0, .bool false, .int .u64 0, .int .i64 0] 26, Jo.Fact.any] (by kernel_rfl) (by kernel_rfl) (by decide) rfl ?_ ?_
 · iterate 3 (refine Jo.jm rfl ?_ ?_; rotate_left)
   refine Jo.jm rfl ?_ ?_
   · rintro wj hJ _ rfl _ rfl K hK; simp only [Jo.z] at hK ⊢; go_simp; refine (fwTwo hM hM' hU hU' HZ.out HY.out HN1.out HP.out).mono ?_; rintro ee wk ⟨e21, K21, s21, M21, E21, K21b, s21b, M21b, E21b, rfl, v21, B⟩; exact hK.out _ _ ⟨e21, K21, s21, M21, E21, K21b, s21b, M21b, E21b, rfl, v21⟩ B
   refine Jo.jm rfl ?_ ?_
   · rintro wj hJ _ rfl _ ⟨e21, K21, s21, M21, E21, K21b, s21b, M21b, E21b, rfl, v21⟩ K hK; simp only [Jo.z] at hK ⊢; go_simp; refine (jvTwo hP hP' v21.top.1 v21.top.2 HX.out v21.rk HA.out).mono ?_; rintro ee wk ⟨e22, K22, s22, M22, E22, K22b, s22b, M22b, E22b, rfl, v22, B⟩; exact hK.out _ _ ⟨e22, K22, s22, M22, E22, K22b, s22b, M22b, E22b, rfl, v22⟩ B
   refine Jo.jm rfl ?_ ?_
   · rintro wj hJ K hK; simp only [Jo.z] at hK ⊢; go_simp; exact hK.out _ _ ⟨_, rfl, hJ.size, Bo.new _ _ _⟩ (bel1 _ _)
   exact Jo.Steps.nil
   all_goals (rintro wj hJ; (repeat rintro _ rfl); intro K hK; simp only [Jo.z] at hK ⊢; have xX4 := (X4.below hJ).cell; have xX3 := (X3.below hJ).cell; have xX5 := (X5.below hJ).cell; go_simp; exact hK.out _ _ rfl (br _ _))
 rintro w2 hJ _ rfl _ rfl _ rfl _ ⟨e21, K21, s21, M21, E21, K21b, s21b, M21b, E21b, rfl, v21⟩ _ ⟨e22, K22, s22, M22, E22, K22b, s22b, M22b, E22b, rfl, v22⟩ _ ⟨g8, rfl, hg8, X8⟩ -; simp only [Jo.z]; replace X3 := X3.below hJ; replace X4 := X4.below hJ; replace X5 := X5.below hJ; replace XR := XR.below hJ; replace XS := XS.below hJ; replace HB := Hqb HB hJ; have xX8 := X8.cell
 have zX80 := X8.frozen
 refine Jo.jnext (i := 6) (o := ⟨none, _, _, _, _, _⟩) (by kernel_rfl) rfl (fun K hK => ?_)
 go_simp; refine hK.out _ _ ?_; clear hK K xX8 zX80; generalize hS : ((((((((w2.setCell _ _).setCell _ _).setCell _ _).setCell _ _).setCell _ _).setCell _ _).setCell _ _).setCell _ _).setCell _ _ = w3 at *; have SX := StN.of9 X8 hS; replace X3 := X3.stn SX (by omega); replace X4 := X4.stn SX (by omega); replace X5 := X5.stn SX (by omega); replace XR := XR.stn SX (by omega)
 replace XS := XS.stn SX (by omega); replace HB := Hqs HB SX (by omega); replace X8 := SX.box; clear SX hS; refine Jo.jdone (by kernel_rfl) ?_
 go_upto_region 2 with (fail)
 refine Jo.rk [0, 1, 2, 3, 4, 5] [some 14, some 15, some 16, some 17, some 18, some 19, none, none] [[], [], [], [], [2, 3], [1, 4], [], []] 8 2 [Jo.q9 e22 K22 s22 M22 E22 K22b s22b M22b E22b, Jo.q9 e3 J j U V J' j' U' V', Jo.q9 e22 K22 s22 M22 E22 K22b s22b M22b E22b, Jo.q9 e D s M E D' s' M' E', Jo.Fact.iv o, Jo.Fact.iv b, Jo.Fact.any, Jo.Fact.any] (by kernel_rfl) (by kernel_rfl) (by decide) rfl ?_ ?_
 · iterate 4 (refine Jo.jm rfl ?_ ?_; rotate_left)
   refine Jo.jm rfl ?_ ?_
   · rintro wj hJ _ rfl _ rfl K hK; simp only [Jo.z] at hK ⊢; go_simp; refine (fwSub v22.top.1 v22.top.2 hM hM' v22.rk HZ.out HN2.out HO.out).mono ?_; rintro ee wk ⟨e23, K23, s23, M23, E23, K23b, s23b, M23b, E23b, rfl, v23, B⟩; exact hK.out _ _ ⟨e23, K23, s23, M23, E23, K23b, s23b, M23b, E23b, rfl, v23⟩ B
   refine Jo.jm rfl ?_ ?_
   · rintro wj hJ _ rfl _ ⟨e23, K23, s23, M23, E23, K23b, s23b, M23b, E23b, rfl, v23⟩ K hK; simp only [Jo.z] at hK ⊢; go_simp; refine (jvTwo hU hU' v23.top.1 v23.top.2 HY.out v23.rk HBB.out).mono ?_; rintro ee wk ⟨e24, K24, s24, M24, E24, K24b, s24b, M24b, E24b, rfl, v24, B⟩; exact hK.out _ _ ⟨e24, K24, s24, M24, E24, K24b, s24b, M24b, E24b, rfl, v24⟩ B
   exact Jo.Steps.nil
   all_goals (rintro wj hJ; (repeat rintro _ rfl); intro K hK; simp only [Jo.z] at hK ⊢; have xX8 := (X8.below hJ).cell; have xX5 := (X5.below hJ).cell; have xX3 := (X3.below hJ).cell; go_simp; exact hK.out _ _ rfl (br _ _))
 rintro w4 hJ _ rfl _ rfl _ rfl _ rfl _ ⟨e23, K23, s23, M23, E23, K23b, s23b, M23b, E23b, rfl, v23⟩ _ ⟨e24, K24, s24, M24, E24, K24b, s24b, M24b, E24b, rfl, v24⟩ -; simp only [Jo.z]; replace X3 := X3.below hJ; replace X4 := X4.below hJ; replace X5 := X5.below hJ; replace XR := XR.below hJ; replace XS := XS.below hJ; replace X8 := X8.below hJ; replace HB := Hqb HB hJ; have xXR := XR.cell
 have zXR0 := XR.frozen
 refine Jo.jnext (i := 6) (o := ⟨none, _, _, _, _, _⟩) (by kernel_rfl) rfl (fun K hK => ?_)
 go_simp; refine hK.out _ _ ?_; clear hK K xXR zXR0; generalize hS : ((((((((w4.setCell _ _).setCell _ _).setCell _ _).setCell _ _).setCell _ _).setCell _ _).setCell _ _).setCell _ _).setCell _ _ = w5 at *; have SX := StN.of9 XR hS; replace X3 := X3.stn SX (by omega); replace X4 := X4.stn SX (by omega); replace X5 := X5.stn SX (by omega); replace XS := XS.stn SX (by omega)
 replace X8 := X8.stn SX (by omega); replace HB := Hqs HB SX (by omega); replace XR := SX.box; clear SX hS; have xXS := XS.cell; have zXS0 := XS.frozen
 refine Jo.jnext (i := 7) (o := ⟨none, _, _, _, _, _⟩) (by kernel_rfl) rfl (fun K hK => ?_)
 go_simp; refine hK.out _ _ ?_; clear hK K xXS zXS0; generalize hS : ((((((((w5.setCell _ _).setCell _ _).setCell _ _).setCell _ _).setCell _ _).setCell _ _).setCell _ _).setCell _ _).setCell _ _ = w6 at *; have SX := StN.of9 XS hS; replace X3 := X3.stn SX (by omega); replace X4 := X4.stn SX (by omega); replace X5 := X5.stn SX (by omega); replace XR := XR.stn SX (by omega)
 replace X8 := X8.stn SX (by omega); replace HB := Hqs HB SX (by omega); replace XS := SX.box; clear SX hS; refine Jo.jdone (by kernel_rfl) ?_; go_wp2; exact bodyPost_ret (v := .tuple #[.agg #[.bool e22, .int .i64 K22, .bool s22, .int .u64 M22, .int .i64 E22, .int .i64 K22b, .bool s22b, .int .u64 M22b, .int .i64 E22b], .agg #[.bool e24, .int .i64 K24, .bool s24, .int .u64 M24, .int .i64 E24, .int .i64 K24b, .bool s24b, .int .u64 M24b, .int .i64 E24b]]) (by simp [results, Tryz.results15, go_sem, XR.cell, XS.cell]) rfl ⟨_, _, _, _, _, _, _, _, _, _, _, _, _, _, _, _, _, _, rfl, v22, v24, HB.out⟩
theorem bwNeg {w : World} {e : Bool} {D M E D' M' E' : Int} {s s' : Bool} {e2 : Bool} {G P Q G' P' Q' : Int} {g g' : Bool} {z x a : Sp} (hM : LQ M) (hM' : LQ M') (hP : LQ P) (hP' : LQ P') (hz : rkI e D s M E D' s' M' E' = z) (hx : rkI e2 G g P Q G' g' P' Q' = x) (ha : meetI x (negI z) = a) : Calls Tryz.prog 25 #[VI e D s M E D' s' M' E', VI e2 G g P Q G' g' P' Q'] w (PV w a) := by
 delta VI
 obtain ⟨p, hp⟩ : ∃ p, negI z = p := ⟨_, rfl⟩; rw [hp] at ha; have HZ := Lib.hid hz; have HX := Lib.hid hx; have HA := Lib.hid ha; have HP := Lib.hid hp; clear hz hx ha hp
 go_enter Tryz.func25, Tryz.ntmps25
 go_upto_region 1 with (fail)
 generalize hW1 : ((w.alloc _).alloc _).alloc _ = w1 at *; obtain ⟨X2, X3, XR, HB⟩ := Bo.en3 hW1; clear hW1; refine Jo.rk [0, 1, 2, 3] [some 5, some 6, some 7, some 8, none] [[], [], [1], [0, 2], []] 5 1 [Jo.q9 e2 G g P Q G' g' P' Q', Jo.q9 e D s M E D' s' M' E', Jo.Fact.iv p, Jo.Fact.iv a, Jo.Fact.any] (by kernel_rfl) (by kernel_rfl) (by decide) rfl ?_ ?_
 · iterate 2 (refine Jo.jm rfl ?_ ?_; rotate_left)
   refine Jo.jm rfl ?_ ?_
   · rintro wj hJ _ rfl K hK; simp only [Jo.z] at hK ⊢; go_simp; refine (fwNeg hM hM' HZ.out HP.out).mono ?_; rintro ee wk ⟨e21, K21, s21, M21, E21, K21b, s21b, M21b, E21b, rfl, v21, B⟩; exact hK.out _ _ ⟨e21, K21, s21, M21, E21, K21b, s21b, M21b, E21b, rfl, v21⟩ B
   refine Jo.jm rfl ?_ ?_
   · rintro wj hJ _ rfl _ ⟨e21, K21, s21, M21, E21, K21b, s21b, M21b, E21b, rfl, v21⟩ K hK; simp only [Jo.z] at hK ⊢; go_simp; refine (jvTwo hP hP' v21.top.1 v21.top.2 HX.out v21.rk HA.out).mono ?_; rintro ee wk ⟨e22, K22, s22, M22, E22, K22b, s22b, M22b, E22b, rfl, v22, B⟩; exact hK.out _ _ ⟨e22, K22, s22, M22, E22, K22b, s22b, M22b, E22b, rfl, v22⟩ B
   exact Jo.Steps.nil
   all_goals (rintro wj hJ; (repeat rintro _ rfl); intro K hK; simp only [Jo.z] at hK ⊢; have xX3 := (X3.below hJ).cell; have xX2 := (X2.below hJ).cell; go_simp; exact hK.out _ _ rfl (br _ _))
 rintro w2 hJ _ rfl _ rfl _ ⟨e21, K21, s21, M21, E21, K21b, s21b, M21b, E21b, rfl, v21⟩ _ ⟨e22, K22, s22, M22, E22, K22b, s22b, M22b, E22b, rfl, v22⟩ -; simp only [Jo.z]; replace X2 := X2.below hJ; replace X3 := X3.below hJ; replace XR := XR.below hJ; replace HB := Hqb HB hJ; have xXR := XR.cell; have zXR0 := XR.frozen
 refine Jo.jnext (i := 4) (o := ⟨none, _, _, _, _, _⟩) (by kernel_rfl) rfl (fun K hK => ?_)
 go_simp; refine hK.out _ _ ?_; clear hK K xXR zXR0; have SX := StN.mk9 XR (.bool e22) (.int .i64 K22) (.bool s22) (.int .u64 M22) (.int .i64 E22) (.int .i64 K22b) (.bool s22b) (.int .u64 M22b) (.int .i64 E22b); refine Jo.jdone (by kernel_rfl) ?_; go_wp2; exact bodyPost_ret (by simp [results, Tryz.results25, go_sem, SX.box.cell]) rfl ⟨_, _, _, _, _, _, _, _, _, rfl, v22, (SX.below HB.out (by omega))⟩
theorem bwRoot {w : World} {e : Bool} {D M E D' M' E' : Int} {s s' : Bool} {e2 : Bool} {G P Q G' P' Q' : Int} {g g' : Bool} {z x a : Sp} (hM : LQ M) (hM' : LQ M') (hP : LQ P) (hP' : LQ P') (hz : rkI e D s M E D' s' M' E' = z) (hx : rkI e2 G g P Q G' g' P' Q' = x) (ha : rootB z x = a) : Calls Tryz.prog 23 #[VI e D s M E D' s' M' E', VI e2 G g P Q G' g' P' Q'] w (PV w a) := by
 delta VI
 unfold rootB at ha
 obtain ⟨p, hp⟩ : ∃ p, meetI z (some (0, 19342822337206103650074625)) = p := ⟨_, rfl⟩; rw [hp] at ha; obtain ⟨o, ho⟩ : ∃ o, sqrI p = o := ⟨_, rfl⟩; rw [ho] at ha; have HZ := Lib.hid hz; have HX := Lib.hid hx; have HA := Lib.hid ha; have HP := Lib.hid hp; have HO := Lib.hid ho; clear hz hx ha hp ho
 go_enter Tryz.func23, Tryz.ntmps23
 go_upto_region 1 with (fail)
 generalize hW1 : ((w.alloc _).alloc _).alloc _ = w1 at *; obtain ⟨X2, X3, XR, HB⟩ := Bo.en3 hW1; clear hW1; have ltX2 := X2.lt; have ltX3 := X3.lt; have ltXR := XR.lt; refine Jo.rk [0, 1, 2, 3, 4] [some 6, some 7, some 8, some 9, some 5, none] [[], [], [1], [0, 2], [], []] 6 1 [Jo.q9 e D s M E D' s' M' E', Jo.q4 2 false 0 0, Jo.q9 false 0 false 0 0 2 false 0 0, Jo.Fact.iv p, Jo.Fact.bo w1.heap.size #[.bool false, .int .i64 0, .bool false, .int .u64 0, .int .i64 0, .int .i64 0, .bool false, .int .u64 0, .int .i64 0] 26, Jo.Fact.any] (by kernel_rfl) (by kernel_rfl) (by decide) rfl ?_ ?_
 · refine Jo.jm rfl ?_ ?_; rotate_left
   refine Jo.jm rfl ?_ ?_
   · rintro wj hJ K hK; simp only [Jo.z] at hK ⊢; go_simp; refine (yInfE false).mono ?_; rintro ee wk ⟨rfl, B⟩; exact hK.out _ _ rfl B
   refine Jo.jm rfl ?_ ?_; rotate_left
   refine Jo.jm rfl ?_ ?_
   · rintro wj hJ _ rfl _ rfl K hK; simp only [Jo.z] at hK ⊢; go_simp; refine (jvTwo hM hM' (by decide) (by decide) HZ.out rkI_nn HP.out).mono ?_; rintro ee wk ⟨e21, K21, s21, M21, E21, K21b, s21b, M21b, E21b, rfl, v21, B⟩; exact hK.out _ _ ⟨e21, K21, s21, M21, E21, K21b, s21b, M21b, E21b, rfl, v21⟩ B
   refine Jo.jm rfl ?_ ?_
   · rintro wj hJ K hK; simp only [Jo.z] at hK ⊢; go_simp; exact hK.out _ _ ⟨_, rfl, hJ.size, Bo.new _ _ _⟩ (bel1 _ _)
   exact Jo.Steps.nil
   all_goals (rintro wj hJ; (repeat rintro _ rfl); intro K hK; simp only [Jo.z] at hK ⊢; have xX2 := (X2.below hJ).cell; go_simp; exact hK.out _ _ rfl (br _ _))
 rintro w2 hJ _ rfl _ rfl _ rfl _ ⟨e21, K21, s21, M21, E21, K21b, s21b, M21b, E21b, rfl, v21⟩ _ ⟨g5, rfl, hg5, X5⟩ -; simp only [Jo.z]; replace X2 := X2.below hJ; replace X3 := X3.below hJ; replace XR := XR.below hJ; replace HB := Hqb HB hJ; have xX5 := X5.cell; have zX50 := X5.frozen
 refine Jo.jnext (i := 5) (o := ⟨none, _, _, _, _, _⟩) (by kernel_rfl) rfl (fun K hK => ?_)
 go_simp; refine hK.out _ _ ?_; clear hK K xX5 zX50; generalize hS : ((((((((w2.setCell _ _).setCell _ _).setCell _ _).setCell _ _).setCell _ _).setCell _ _).setCell _ _).setCell _ _).setCell _ _ = w3 at *; have SX := StN.of9 X5 hS; replace X2 := X2.stn SX (by omega); replace X3 := X3.stn SX (by omega); replace XR := XR.stn SX (by omega); replace HB := Hqs HB SX (by omega)
 replace X5 := SX.box; clear SX hS; refine Jo.jdone (by kernel_rfl) ?_
 go_upto_region 2 with (fail)
 refine Jo.rk [0, 1, 2, 3] [some 10, some 11, some 12, some 13, none] [[], [], [1], [0, 2], []] 5 1 [Jo.q9 e2 G g P Q G' g' P' Q', Jo.q9 e21 K21 s21 M21 E21 K21b s21b M21b E21b, Jo.Fact.iv o, Jo.Fact.iv a, Jo.Fact.any] (by kernel_rfl) (by kernel_rfl) (by decide) rfl ?_ ?_
 · iterate 2 (refine Jo.jm rfl ?_ ?_; rotate_left)
   refine Jo.jm rfl ?_ ?_
   · rintro wj hJ _ rfl K hK; simp only [Jo.z] at hK ⊢; go_simp; refine (fwSqr v21.top.1 v21.top.2 v21.rk HO.out).mono ?_; rintro ee wk ⟨e22, K22, s22, M22, E22, K22b, s22b, M22b, E22b, rfl, v22, B⟩; exact hK.out _ _ ⟨e22, K22, s22, M22, E22, K22b, s22b, M22b, E22b, rfl, v22⟩ B
   refine Jo.jm rfl ?_ ?_
   · rintro wj hJ _ rfl _ ⟨e22, K22, s22, M22, E22, K22b, s22b, M22b, E22b, rfl, v22⟩ K hK; simp only [Jo.z] at hK ⊢; go_simp; refine (jvTwo hP hP' v22.top.1 v22.top.2 HX.out v22.rk HA.out).mono ?_; rintro ee wk ⟨e23, K23, s23, M23, E23, K23b, s23b, M23b, E23b, rfl, v23, B⟩; exact hK.out _ _ ⟨e23, K23, s23, M23, E23, K23b, s23b, M23b, E23b, rfl, v23⟩ B
   exact Jo.Steps.nil
   all_goals (rintro wj hJ; (repeat rintro _ rfl); intro K hK; simp only [Jo.z] at hK ⊢; have xX3 := (X3.below hJ).cell; have xX5 := (X5.below hJ).cell; go_simp; exact hK.out _ _ rfl (br _ _))
 rintro w4 hJ _ rfl _ rfl _ ⟨e22, K22, s22, M22, E22, K22b, s22b, M22b, E22b, rfl, v22⟩ _ ⟨e23, K23, s23, M23, E23, K23b, s23b, M23b, E23b, rfl, v23⟩ -; simp only [Jo.z]; replace X2 := X2.below hJ; replace X3 := X3.below hJ; replace XR := XR.below hJ; replace X5 := X5.below hJ; replace HB := Hqb HB hJ; have xXR := XR.cell; have zXR0 := XR.frozen
 refine Jo.jnext (i := 4) (o := ⟨none, _, _, _, _, _⟩) (by kernel_rfl) rfl (fun K hK => ?_)
 go_simp; refine hK.out _ _ ?_; clear hK K xXR zXR0; have SX := StN.mk9 XR (.bool e23) (.int .i64 K23) (.bool s23) (.int .u64 M23) (.int .i64 E23) (.int .i64 K23b) (.bool s23b) (.int .u64 M23b) (.int .i64 E23b); refine Jo.jdone (by kernel_rfl) ?_; go_wp2; exact bodyPost_ret (by simp [results, Tryz.results23, go_sem, SX.box.cell]) rfl ⟨_, _, _, _, _, _, _, _, _, rfl, v23, (SX.below HB.out (by omega))⟩
theorem bwSqr {w : World} {e : Bool} {D M E D' M' E' : Int} {s s' : Bool} {e2 : Bool} {G P Q G' P' Q' : Int} {g g' : Bool} {z x a : Sp} {r : Bool → Int → Int} (hq : RF r) (hM : LQ M) (hM' : LQ M') (hP : LQ P) (hP' : LQ P') (hz : rkI e D s M E D' s' M' E' = z) (hx : rkI e2 G g P Q G' g' P' Q' = x) (ha : sqrB r z x = a) : Calls Tryz.prog 21 #[VI e D s M E D' s' M' E', VI e2 G g P Q G' g' P' Q'] w (PV w a) := by
 delta VI
 unfold sqrB at ha
 obtain ⟨p, hp⟩ : ∃ p, rootI r z = p := ⟨_, rfl⟩; rw [hp] at ha; obtain ⟨m, hm⟩ : ∃ m, negI p = m := ⟨_, rfl⟩; rw [hm] at ha; obtain ⟨o, ho⟩ : ∃ o, meetI x p = o := ⟨_, rfl⟩; obtain ⟨k, hk⟩ : ∃ o, meetI x m = o := ⟨_, rfl⟩; rw [ho, hk] at ha; have HZ := Lib.hid hz; have HX := Lib.hid hx; have HA := Lib.hid ha; have HP := Lib.hid hp; have HO := Lib.hid ho; have HMM := Lib.hid hm; have HKK := Lib.hid hk
 clear hz hx ha hp ho hm hk
 go_enter Tryz.func21, Tryz.ntmps21
 go_upto_region 1 with (fail)
 generalize hW1 : ((w.alloc _).alloc _).alloc _ = w1 at *; obtain ⟨X2, X3, XR, HB⟩ := Bo.en3 hW1; clear hW1; have xX2 := X2.cell
 go_wp2_with fail
 refine (fwRoot hq hM hM' HZ.out HP.out).mono ?_; rintro ee w2 ⟨e20, K20, s20, M20, E20, K20b, s20b, M20b, E20b, rfl, v20, B⟩; clear xX2; replace X2 := X2.below B; replace X3 := X3.below B; replace XR := XR.below B; replace HB := Hqb HB B; clear B
 go_upto_region 2 with (fail)
 have lX5 := Nat.le_refl (World.heap w2).size; have nX5X2 := X2.lt; have nX5X3 := X3.lt; have nX5XR := XR.lt; generalize hWn : w2.alloc _ = w3 at *; obtain ⟨X5, BW⟩ := Bo.nw hWn; clear hWn; replace X2 := X2.below BW; replace X3 := X3.below BW; replace XR := XR.below BW; replace HB := Hqb HB BW; clear BW; clear lX5; refine Jo.rk [0, 1, 2, 3, 4, 5, 6, 7] [some 8, some 9, some 10, some 11, some 12, some 13, some 14, some 15, none] [[], [], [0, 1], [], [], [4], [3, 5], [2, 6], []] 9 1 [Jo.q9 e2 G g P Q G' g' P' Q', Jo.q9 e20 K20 s20 M20 E20 K20b s20b M20b E20b, Jo.Fact.iv o, Jo.q9 e2 G g P Q G' g' P' Q', Jo.q9 e20 K20 s20 M20 E20 K20b s20b M20b E20b, Jo.Fact.iv m, Jo.Fact.iv k, Jo.Fact.iv a, Jo.Fact.any] (by kernel_rfl) (by kernel_rfl) (by decide) rfl ?_ ?_
 · iterate 2 (refine Jo.jm rfl ?_ ?_; rotate_left)
   refine Jo.jm rfl ?_ ?_
   · rintro wj hJ _ rfl _ rfl K hK; simp only [Jo.z] at hK ⊢; go_simp; refine (jvTwo hP hP' v20.top.1 v20.top.2 HX.out v20.rk HO.out).mono ?_; rintro ee wk ⟨e21, K21, s21, M21, E21, K21b, s21b, M21b, E21b, rfl, v21, B⟩; exact hK.out _ _ ⟨e21, K21, s21, M21, E21, K21b, s21b, M21b, E21b, rfl, v21⟩ B
   iterate 2 (refine Jo.jm rfl ?_ ?_; rotate_left)
   refine Jo.jm rfl ?_ ?_
   · rintro wj hJ _ rfl K hK; simp only [Jo.z] at hK ⊢; go_simp; refine (fwNeg v20.top.1 v20.top.2 v20.rk HMM.out).mono ?_; rintro ee wk ⟨e22, K22, s22, M22, E22, K22b, s22b, M22b, E22b, rfl, v22, B⟩; exact hK.out _ _ ⟨e22, K22, s22, M22, E22, K22b, s22b, M22b, E22b, rfl, v22⟩ B
   refine Jo.jm rfl ?_ ?_
   · rintro wj hJ _ rfl _ ⟨e22, K22, s22, M22, E22, K22b, s22b, M22b, E22b, rfl, v22⟩ K hK; simp only [Jo.z] at hK ⊢; go_simp; refine (jvTwo hP hP' v22.top.1 v22.top.2 HX.out v22.rk HKK.out).mono ?_; rintro ee wk ⟨e23, K23, s23, M23, E23, K23b, s23b, M23b, E23b, rfl, v23, B⟩; exact hK.out _ _ ⟨e23, K23, s23, M23, E23, K23b, s23b, M23b, E23b, rfl, v23⟩ B
   refine Jo.jm rfl ?_ ?_
   · rintro wj hJ _ ⟨e21, K21, s21, M21, E21, K21b, s21b, M21b, E21b, rfl, v21⟩ _ ⟨e23, K23, s23, M23, E23, K23b, s23b, M23b, E23b, rfl, v23⟩ K hK; simp only [Jo.z] at hK ⊢; go_simp; refine (jvBoth v21.top.1 v21.top.2 v23.top.1 v23.top.2 v21.rk v23.rk HA.out).mono ?_; rintro ee wk ⟨e24, K24, s24, M24, E24, K24b, s24b, M24b, E24b, rfl, v24, B⟩; exact hK.out _ _ ⟨e24, K24, s24, M24, E24, K24b, s24b, M24b, E24b, rfl, v24⟩ B
   exact Jo.Steps.nil
   all_goals (rintro wj hJ; (repeat rintro _ rfl); intro K hK; simp only [Jo.z] at hK ⊢; have xX3 := (X3.below hJ).cell; have xX5 := (X5.below hJ).cell; go_simp; exact hK.out _ _ rfl (br _ _))
 rintro w4 hJ _ rfl _ rfl _ ⟨e21, K21, s21, M21, E21, K21b, s21b, M21b, E21b, rfl, v21⟩ _ rfl _ rfl _ ⟨e22, K22, s22, M22, E22, K22b, s22b, M22b, E22b, rfl, v22⟩ _ ⟨e23, K23, s23, M23, E23, K23b, s23b, M23b, E23b, rfl, v23⟩ _ ⟨e24, K24, s24, M24, E24, K24b, s24b, M24b, E24b, rfl, v24⟩ -; simp only [Jo.z]; replace X2 := X2.below hJ; replace X3 := X3.below hJ; replace XR := XR.below hJ; replace X5 := X5.below hJ
 replace HB := Hqb HB hJ; have xXR := XR.cell; have zXR0 := XR.frozen
 refine Jo.jnext (i := 8) (o := ⟨none, _, _, _, _, _⟩) (by kernel_rfl) rfl (fun K hK => ?_)
 go_simp; refine hK.out _ _ ?_; clear hK K xXR zXR0; have SX := StN.mk9 XR (.bool e24) (.int .i64 K24) (.bool s24) (.int .u64 M24) (.int .i64 E24) (.int .i64 K24b) (.bool s24b) (.int .u64 M24b) (.int .i64 E24b); refine Jo.jdone (by kernel_rfl) ?_; go_wp2; exact bodyPost_ret (by simp [results, Tryz.results21, go_sem, SX.box.cell]) rfl ⟨_, _, _, _, _, _, _, _, _, rfl, v24, (SX.below HB.out (by omega))⟩
theorem Zi.all {a b : Int} (h1 : -9223372036854775807 ≤ a) (h : a ≤ b) (h2 : b ≤ 9223372036854775807) : mkI (opl a) (opl b) = Zi a b := (Zi.mk h1 h h2).1
theorem kvFew9 {w : World} {e0 : Bool} {D0 M0 E0 G0 P0 Q0 : Int} {s0 g0 r : Bool} (hr : (fewq D0 E0 && fewq G0 Q0) = r) : Calls Tryz.prog 11 #[VI e0 D0 s0 M0 E0 G0 g0 P0 Q0] w (PB w r) := by
 delta VI
 obtain ⟨p, hp⟩ : ∃ p, fewq D0 E0 = p := ⟨_, rfl⟩; obtain ⟨q, hq⟩ : ∃ q, fewq G0 Q0 = q := ⟨_, rfl⟩; rw [hp, hq] at hr; have HP := Lib.hid hp; have HQ := Lib.hid hq; clear hp hq
 go_enter Tryz.func11, Tryz.ntmps11
 go_upto_region 1 with (fail)
 generalize hW1 : w.alloc _ = w1 at *; obtain ⟨X1, HB⟩ := Bo.en1 hW1; clear hW1; have xX1 := X1.cell
 go_wp2_with fail
 refine (aFew HP.out).mono ?_; rintro ee w2 ⟨rfl, B⟩; clear xX1; replace X1 := X1.below B; replace HB := Hqb HB B; clear B; have xX1 := X1.cell
 go_wp2_with fail
 refine (aFew HQ.out).mono ?_; rintro ee w3 ⟨rfl, B⟩; clear xX1; replace X1 := X1.below B; replace HB := Hqb HB B; clear B
 cases p
 · obtain rfl : false = r := hr
   go_wp2
   go_ret
   exact ⟨rfl, HB.out⟩
 · obtain rfl : q = r := hr
   go_wp2
   go_ret
   exact ⟨rfl, HB.out⟩
theorem rkI_fz {e : Bool} {K M E K' M' E' : Int} {s s' : Bool} (hM : LQ M) (hM' : LQ M') (h : (fewq K E && fewq K' E') = true) : FzI (rkI e K s M E K' s' M' E') 1600 := by
 rw [Bool.and_eq_true] at h; have f1 := few_fz (s := s) hM h.1; have f2 := few_fz (s := s') hM' h.2
 intro a b hab
 cases e
 · rw [rkI_f] at hab
   split at hab
   · exact FzI.mk f1 f2 a b hab
   · cases hab
 · cases hab
end Go.Proofs.YtnbliijpjcmbjaaGreatDoor

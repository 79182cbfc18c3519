/-
 Contracts that the proof rests on.
-/
import Derived.Test.YtnbliijpjcmbjaaGreatDoorYPbn
namespace Go.Proofs.YtnbliijpjcmbjaaGreatDoor
set_option maxHeartbeats 8000000
open Go.RowKit
set_option linter.unusedVariables false
set_option linter.unusedSimpArgs false
set_option maxRecDepth 100000
theorem bkTimes {w : World} {e : Bool} {D M E D' M' E' : Int} {s s' : Bool} {e2 : Bool} {G P Q G' P' Q' : Int} {g g' : Bool} {e3 : Bool} {J U V J' U' V' : Int} {j j' : Bool} {z x y a b : Sp} {q : Bool → Int → Int → Int} (hT : Tab w) (hq : QF q) (hM : LQ M) (hM' : LQ M') (hP : LQ P) (hP' : LQ P') (hU : LQ U) (hU' : LQ U') (hz : rkI e D s M E D' s' M' E' = z) (hx : rkI e2 G g P Q G' g' P' Q' = x) (hy : rkI e3 J j U V J' j' U' V' = y) (hr : timesB q z x y = (a, b)) : Calls Tryz.prog 16 #[VI e D s M E D' s' M' E', VI e2 G g P Q G' g' P' Q', VI e3 J j U V J' j' U' V'] w (PV2 w a b) := by
 delta VI
 rw [times_eq] at hr
 obtain ⟨ha, hb⟩ : partB q x z y = a ∧ partB q y z a = b := by
   injection hr with p1 p2
   rw [p1] at p2; exact ⟨p1, p2⟩
 obtain ⟨b1, h1⟩ : ∃ b, hasI z 0 = b := ⟨_, rfl⟩; obtain ⟨b2, h2⟩ : ∃ b, hasI y 0 = b := ⟨_, rfl⟩; obtain ⟨b3, h3⟩ : ∃ b, hasI x 0 = b := ⟨_, rfl⟩; obtain ⟨b4, h4⟩ : ∃ b, hasI a 0 = b := ⟨_, rfl⟩; obtain ⟨b5, h5⟩ : ∃ o, hasI b 0 = o := ⟨_, rfl⟩; clear hr; have HZ := Lib.hid hz; have HX := Lib.hid hx; have HY := Lib.hid hy; have HQ := Lib.hid hq; have HA := Lib.hid ha; have HBB := Lib.hid hb; have H1 := Lib.hid h1
 have H2 := Lib.hid h2; have H3 := Lib.hid h3; have H4 := Lib.hid h4; have H5 := Lib.hid h5; clear hz hx hy hq ha hb h1 h2 h3 h4 h5
 go_enter Tryz.func16, Tryz.ntmps16
 go_upto_region 1 with (fail)
 generalize hW1 : ((((w.alloc _).alloc _).alloc _).alloc _).alloc _ = w1 at *; obtain ⟨X3, X4, X5, XR, XS, HB⟩ := Bo.en5 hW1; replace hT := hT.below HB.out; clear hW1; have ltX3 := X3.lt; have ltX4 := X4.lt; have ltX5 := X5.lt; have ltXR := XR.lt; have ltXS := XS.lt; have hszp := HB.out.size
 refine Jo.region_pair (T := [0, 1, 2, 3, 4, 5, 6]) (ds := [some 11, some 12, some 13, some 14, some 8, some 9, none, none]) (ls := [[], [0], [], [2], [], [], [1, 4, 5], []]) (k := 8) (L := [(some 11, 0), (some 12, 1), (some 13, 2), (some 14, 3), (some 8, 4), (some 9, 5), (none, 6)]) (fuel := 1) (w1 := w1) (p := 4) (q := 5) (s := 6) (e := 1) (old := #[.bool false, .int .i64 0, .bool false, .int .u64 0, .int .i64 0, .int .i64 0, .bool false, .int .u64 0, .int .i64 0, .bool false]) (R := 45)
   (F := [Jo.q9 e D s M E D' s' M' E', Jo.Fact.op z b1, Jo.q9 e3 J j U V J' j' U' V', Jo.Fact.op y b2, Jo.Fact.any, Jo.Fact.any, Jo.Fact.any, Jo.Fact.any])
   (by decide) (by decide) (by decide) (by kernel_rfl) (by kernel_rfl) (by decide) rfl rfl ?_ (fun vs w2 hJ hd hpq => ?_)
 · refine Jo.pcons (i := 0) (o := ⟨some 11, _, _, _, _, _⟩) (di := some 11) (L := []) (f := Jo.q9 e D s M E D' s' M' E') (by decide) (by decide) (by decide) (fun _ _ _ h => h) rfl rfl rfl rfl (fun vs wj hJ hd K hK => ?_) ?_
   · clear hd; simp only [Jo.putl, Jo.ze, Act.put, Jo.za, Jo.zb, Jo.zc] at hK ⊢; have xX3 := (X3.below hJ).cell; go_simp; exact hK.out _ _ rfl (br _ _)
   refine Jo.pcons (i := 1) (o := ⟨some 12, _, _, _, _, _⟩) (di := some 12) (L := [(some 11, 0)]) (f := Jo.Fact.op z b1) (by decide) (by decide) (by decide) (fun _ _ _ h => h) rfl rfl rfl rfl (fun vs wj hJ hd K hK => ?_) ?_
   · have d0 : (Jo.q9 e D s M E D' s' M' E').P (vs 0) wj := hd 0 (by decide)
     clear hd; simp only [Jo.putl, Jo.zd, Jo.ze, Act.put, Jo.za, Jo.zb, Jo.zc] at hK ⊢; generalize vs 0 = u0 at hK d0 ⊢
     replace d0 : u0 = _ := d0
     subst d0; go_simp; refine (kOp hM hM' HZ.out H1.out).mono ?_; rintro ee wk ⟨e21, K21, s21, M21, E21, K21b, s21b, M21b, E21b, rfl, v21, B⟩; exact hK.out _ _ ⟨e21, K21, s21, M21, E21, K21b, s21b, M21b, E21b, rfl, v21⟩ B
   refine Jo.pcons (i := 2) (o := ⟨some 13, _, _, _, _, _⟩) (di := some 13) (L := []) (f := Jo.q9 e3 J j U V J' j' U' V') (by decide) (by decide) (by decide) (fun _ _ _ h => h) rfl rfl rfl rfl (fun vs wj hJ hd K hK => ?_) ?_
   · clear hd; simp only [Jo.putl, Jo.ze, Act.put, Jo.za, Jo.zb, Jo.zc] at hK ⊢; have xX5 := (X5.below hJ).cell; go_simp; exact hK.out _ _ rfl (br _ _)
   refine Jo.pcons (i := 3) (o := ⟨some 14, _, _, _, _, _⟩) (di := some 14) (L := [(some 13, 2)]) (f := Jo.Fact.op y b2) (by decide) (by decide) (by decide) (fun _ _ _ h => h) rfl rfl rfl rfl (fun vs wj hJ hd K hK => ?_) ?_
   · have d2 : (Jo.q9 e3 J j U V J' j' U' V').P (vs 2) wj := hd 2 (by decide)
     clear hd; simp only [Jo.putl, Jo.zd, Jo.ze, Act.put, Jo.za, Jo.zb, Jo.zc] at hK ⊢; generalize vs 2 = u2 at hK d2 ⊢
     replace d2 : u2 = _ := d2
     subst d2; go_simp; refine (kOp hU hU' HY.out H2.out).mono ?_; rintro ee wk ⟨e22, K22, s22, M22, E22, K22b, s22b, M22b, E22b, rfl, v22, B⟩; exact hK.out _ _ ⟨e22, K22, s22, M22, E22, K22b, s22b, M22b, E22b, rfl, v22⟩ B
   refine Jo.pnew (i := 4) (o := ⟨some 8, _, _, _, _, _⟩) (di := some 8) (L := []) (by decide) (by decide) (by decide) (by decide) rfl rfl rfl rfl (fun vs wj K hK => ?_) ?_
   · simp only [Jo.putl, Jo.ze, Act.put, Jo.za, Jo.zb, Jo.zc] at hK ⊢; go_simp; exact hK.out
   refine Jo.pnew (i := 5) (o := ⟨some 9, _, _, _, _, _⟩) (di := some 9) (L := []) (by decide) (by decide) (by decide) (by decide) rfl rfl rfl rfl (fun vs wj K hK => ?_) ?_
   · simp only [Jo.putl, Jo.ze, Act.put, Jo.za, Jo.zb, Jo.zc] at hK ⊢; go_simp; exact hK.out
   refine Jo.psto (o := ⟨none, _, _, _, _, _⟩) (di := none) (L := [(some 12, 1), (some 8, 4), (some 9, 5)]) (by decide) (by decide) (by decide) rfl rfl rfl rfl (fun vs wj hJ hd g hg X K hK => ?_) ?_
   · have d1 : (Jo.Fact.op z b1).P (vs 1) wj := hd 1 (by decide)
     clear hd; simp only [Jo.putl, Jo.zd, Jo.ze, Act.put, Jo.za, Jo.zb, Jo.zc] at hK ⊢; simp only [hg] at hK ⊢; clear hg; generalize vs 1 = u1 at hK d1 ⊢; generalize vs 5 = u5 at hK ⊢; obtain ⟨e21, K21, s21, M21, E21, K21b, s21b, M21b, E21b, rfl, v21⟩ := d1; have xX := X.cell; have zX := X.frozen; go_simp; have SX := StN.mk10 X (.bool e21) (.int .i64 K21) (.bool s21) (.int .u64 M21) (.int .i64 E21) (.int .i64 K21b) (.bool s21b) (.int .u64 M21b) (.int .i64 E21b) (.bool b1)
     exact hK.out undef _ _ rfl SX
   exact Jo.StepsI.nil
 have d0 : (Jo.q9 e D s M E D' s' M' E').P (vs 0) w2 := hd 0 (by decide)
 have d1 : (Jo.Fact.op z b1).P (vs 1) w2 := hd 1 (by decide)
 have d2 : (Jo.q9 e3 J j U V J' j' U' V').P (vs 2) w2 := hd 2 (by decide)
 have d3 : (Jo.Fact.op y b2).P (vs 3) w2 := hd 3 (by decide)
 clear hd; obtain ⟨g8, g9, csp, ep, eq_, hg8, hg9, hneg8, ee, X8, X9⟩ := hpq; simp only [Jo.putl, Jo.zd, Jo.ze, Act.put, Jo.za, Jo.zb, Jo.zc]; simp only [ep, eq_]; clear ep eq_; generalize vs 0 = u0 at d0 ⊢; generalize vs 1 = u1 at d1 ee ⊢; generalize vs 2 = u2 at d2 ⊢; generalize vs 3 = u3 at d3 ⊢; generalize vs 6 = u6 at ⊢; clear vs
 replace d0 : u0 = _ := d0
 subst d0; obtain ⟨e21, K21, s21, M21, E21, K21b, s21b, M21b, E21b, rfl, v21⟩ := d1
 replace d2 : u2 = _ := d2
 subst d2; obtain ⟨e22, K22, s22, M22, E22, K22b, s22b, M22b, E22b, rfl, v22⟩ := d3
 injection ee with ee
 subst ee; replace X3 := X3.below hJ; replace X4 := X4.below hJ; replace X5 := X5.below hJ; replace XR := XR.below hJ; replace XS := XS.below hJ; replace hT := hT.below hJ; replace HB := Hqb HB hJ; have xX9 := X9.cell; have zX90 := X9.frozen
 refine Jo.jnext (i := 7) (o := ⟨none, _, _, _, _, _⟩) (by kernel_rfl) rfl (fun K hK => ?_)
 go_simp; refine hK.out _ _ ?_; clear hK K xX9 zX90; generalize hS : (((((((((w2.setCell _ _).setCell _ _).setCell _ _).setCell _ _).setCell _ _).setCell _ _).setCell _ _).setCell _ _).setCell _ _).setCell _ _ = w3 at *; have SX := StN.of10 X9 hS; replace X3 := X3.stn SX (by omega); replace X4 := X4.stn SX (by omega); replace X5 := X5.stn SX (by omega)
 replace XR := XR.stn SX (by omega); replace XS := XS.stn SX (by omega); replace X8 := X8.stn SX (by omega); replace hT := hT.stn SX (by simp [no8]); replace HB := Hqs HB SX (by omega); replace X9 := SX.box; clear SX hS; refine Jo.jdone (by kernel_rfl) ?_; clear X3 X5 HZ HY hM hM' hU hU'
 go_upto_region 2 with (fail)
 have ltX4 := X4.lt; have ltXR := XR.lt; have ltXS := XS.lt; have ltX8 := X8.lt; have ltX9 := X9.lt; refine Jo.rk [0, 1, 2, 3, 4, 5] [some 15, some 16, some 17, some 18, some 19, some 10, none] [[], [0], [], [], [1, 2, 3], [], []] 7 1 [Jo.q9 e2 G g P Q G' g' P' Q', Jo.Fact.op x b3, Jo.Fact.eq (.agg #[.bool e21, .int .i64 K21, .bool s21, .int .u64 M21, .int .i64 E21, .int .i64 K21b, .bool s21b, .int .u64 M21b, .int .i64 E21b, .bool b1]), Jo.Fact.eq (.agg #[.bool e22, .int .i64 K22, .bool s22, .int .u64 M22, .int .i64 E22, .int .i64 K22b, .bool s22b, .int .u64 M22b, .int .i64 E22b, .bool b2]), Jo.Fact.op a b4, Jo.Fact.bo w3.heap.size #[.bool false, .int .i64 0, .bool false, .int .u64 0, .int .i64 0, .int .i64 0, .bool false, .int .u64 0, .int .i64 0, .bool false] 45, Jo.Fact.any] (by kernel_rfl) (by kernel_rfl) (by decide) rfl ?_ ?_
 · refine Jo.jm rfl ?_ ?_; rotate_left
   refine Jo.jm rfl ?_ ?_
   · rintro wj hJ _ rfl K hK; simp only [Jo.z] at hK ⊢; go_simp; refine (kOp hP hP' HX.out H3.out).mono ?_; rintro ee wk ⟨e23, K23, s23, M23, E23, K23b, s23b, M23b, E23b, rfl, v23, B⟩; exact hK.out _ _ ⟨e23, K23, s23, M23, E23, K23b, s23b, M23b, E23b, rfl, v23⟩ B
   iterate 2 (refine Jo.jm rfl ?_ ?_; rotate_left)
   refine Jo.jm rfl ?_ ?_
   · rintro wj hJ _ ⟨e23, K23, s23, M23, E23, K23b, s23b, M23b, E23b, rfl, v23⟩ _ rfl _ rfl K hK; simp only [Jo.z] at hK ⊢; go_simp; refine (kPart (hT.below hJ) HQ.out v23 v21 v22 H3.out H1.out H2.out HA.out H4.out).mono ?_; rintro ee wk ⟨e24, K24, s24, M24, E24, K24b, s24b, M24b, E24b, rfl, v24, B⟩; exact hK.out _ _ ⟨e24, K24, s24, M24, E24, K24b, s24b, M24b, E24b, rfl, v24⟩ B
   refine Jo.jm rfl ?_ ?_
   · rintro wj hJ K hK; simp only [Jo.z] at hK ⊢; go_simp; exact hK.out _ _ ⟨_, rfl, hJ.size, Bo.new _ _ _⟩ (bel1 _ _)
   exact Jo.Steps.nil
   all_goals (rintro wj hJ; (repeat rintro _ rfl); intro K hK; simp only [Jo.z] at hK ⊢; have xX4 := (X4.below hJ).cell; have xX8 := (X8.below hJ).cell; have xX9 := (X9.below hJ).cell; go_simp; exact hK.out _ _ rfl (br _ _))
 rintro w4 hJ _ rfl _ ⟨e23, K23, s23, M23, E23, K23b, s23b, M23b, E23b, rfl, v23⟩ _ rfl _ rfl _ ⟨e24, K24, s24, M24, E24, K24b, s24b, M24b, E24b, rfl, v24⟩ _ ⟨g10, rfl, hg10, X10⟩ -; simp only [Jo.z]; replace X4 := X4.below hJ; replace XR := XR.below hJ; replace XS := XS.below hJ; replace X8 := X8.below hJ; replace X9 := X9.below hJ; replace hT := hT.below hJ; replace HB := Hqb HB hJ
 have xX10 := X10.cell; have zX100 := X10.frozen
 refine Jo.jnext (i := 6) (o := ⟨none, _, _, _, _, _⟩) (by kernel_rfl) rfl (fun K hK => ?_)
 go_simp; refine hK.out _ _ ?_; clear hK K xX10 zX100; generalize hS : (((((((((w4.setCell _ _).setCell _ _).setCell _ _).setCell _ _).setCell _ _).setCell _ _).setCell _ _).setCell _ _).setCell _ _).setCell _ _ = w5 at *; have SX := StN.of10 X10 hS; replace X4 := X4.stn SX (by omega); replace XR := XR.stn SX (by omega); replace XS := XS.stn SX (by omega)
 replace X8 := X8.stn SX (by omega); replace X9 := X9.stn SX (by omega); replace hT := hT.stn SX (by simp [no8]); replace HB := Hqs HB SX (by omega); replace X10 := SX.box; clear SX hS; refine Jo.jdone (by kernel_rfl) ?_; clear v23
 go_upto_region 3 with (fail)
 have ltX4 := X4.lt; have ltXR := XR.lt; have ltXS := XS.lt; have ltX8 := X8.lt; have ltX9 := X9.lt; have ltX10 := X10.lt; refine Jo.rl (w.heap.size + 1 + 1 + 1) #[.bool e24, .int .i64 K24, .bool s24, .int .u64 M24, .int .i64 E24, .int .i64 K24b, .bool s24b, .int .u64 M24b, .int .i64 E24b] 26 [0, 1, 2, 3, 4, 5, 6, 7] [some 20, some 21, some 22, some 23, some 24, some 25, some 26, none, none] [[], [0], [], [], [], [2, 3, 4], [5], [1], []] 9 1 [Jo.kp g10 0, Jo.k9 e24 K24 s24 M24 E24 K24b s24b M24b E24b, Jo.LFact.eq (.agg #[.bool e22, .int .i64 K22, .bool s22, .int .u64 M22, .int .i64 E22, .int .i64 K22b, .bool s22b, .int .u64 M22b, .int .i64 E22b, .bool b2]), Jo.LFact.eq (.agg #[.bool e21, .int .i64 K21, .bool s21, .int .u64 M21, .int .i64 E21, .int .i64 K21b, .bool s21b, .int .u64 M21b, .int .i64 E21b, .bool b1]), Jo.LFact.eq (.agg #[.bool e24, .int .i64 K24, .bool s24, .int .u64 M24, .int .i64 E24, .int .i64 K24b, .bool s24b, .int .u64 M24b, .int .i64 E24b, .bool b4]), Jo.LFact.op b b5, Jo.LFact.iv b, Jo.LFact.done, Jo.LFact.any] (by kernel_rfl) (by kernel_rfl) (by decide) rfl ?_ ?_
 · refine Jo.lm rfl ?_ ?_
   · rintro wj hJ K hK; simp only [Jo.z] at hK ⊢; go_simp; exact hK.out _ _ rfl (Jo.Off.refl _ _ _ _)
   refine Jo.lm rfl ?_ ?_
   · rintro wj hJ _ rfl K hK; simp only [Jo.z] at hK ⊢; replace X10 := X10.off (by omega) hJ; have xX10 := X10.cell; go_simp; exact hK.out _ _ rfl (Jo.Off.refl _ _ _ _)
   refine Jo.lm rfl ?_ ?_
   · rintro wj hJ K hK; simp only [Jo.z] at hK ⊢; replace X9 := X9.off (by omega) hJ; have xX9 := X9.cell; go_simp; exact hK.out _ _ rfl (Jo.Off.refl _ _ _ _)
   refine Jo.lm rfl ?_ ?_
   · rintro wj hJ K hK; simp only [Jo.z] at hK ⊢; replace X8 := X8.off (by omega) hJ; have xX8 := X8.cell; go_simp; exact hK.out _ _ rfl (Jo.Off.refl _ _ _ _)
   refine Jo.lm rfl ?_ ?_
   · rintro wj hJ K hK; simp only [Jo.z] at hK ⊢; replace X10 := X10.off (by omega) hJ; have xX10 := X10.cell; go_simp; exact hK.out _ _ rfl (Jo.Off.refl _ _ _ _)
   refine Jo.lm rfl ?_ ?_
   · rintro wj hJ _ rfl _ rfl _ rfl K hK; simp only [Jo.z] at hK ⊢; go_simp; refine (kPart (hT.off XR (by simp [no8]) hJ) HQ.out v22 v21 v24 H2.out H1.out H4.out HBB.out H5.out).mono ?_; rintro ee wk ⟨e25, K25, s25, M25, E25, K25b, s25b, M25b, E25b, rfl, v25, B⟩; exact hK.out _ _ ⟨e25, K25, s25, M25, E25, K25b, s25b, M25b, E25b, rfl, v25⟩ (Jo.Off.of_below B (Nat.lt_of_lt_of_le XR.lt hJ.size))
   refine Jo.lm rfl ?_ ?_
   · rintro wj hJ _ ⟨e25, K25, s25, M25, E25, K25b, s25b, M25b, E25b, rfl, v25⟩ K hK; simp only [Jo.z] at hK ⊢; go_simp; exact hK.out _ _ ⟨_, _, _, _, _, _, _, _, _, rfl, v25⟩ (Jo.Off.refl _ _ _ _)
   refine Jo.lm rfl ?_ ?_
   · rintro wj hJ _ rfl K hK; simp only [Jo.z] at hK ⊢
     obtain ⟨v0, v1, v2, v3, v4, v5, v6, v7, v8, XO⟩ : ∃ v0 v1 v2 v3 v4 v5 v6 v7 v8, Bo wj (w.heap.size + 1 + 1 + 1) #[v0, v1, v2, v3, v4, v5, v6, v7, v8] 26 := by
       rcases hJ.own with e | e
       · exact ⟨_, _, _, _, _, _, _, _, _, XR.keep e⟩
       · exact ⟨_, _, _, _, _, _, _, _, _, e⟩
     have xXO := XO.cell; have zXO0 := XO.frozen; go_simp; have SX := StN.mk9 XO (.bool e24) (.int .i64 K24) (.bool s24) (.int .u64 M24) (.int .i64 E24) (.int .i64 K24b) (.bool s24b) (.int .u64 M24b) (.int .i64 E24b); exact hK.out undef _ SX.box (Jo.Off.of_stn SX)
   exact Jo.Steps.nil
 rintro w6 hJ _ _ _ rfl _ rfl _ rfl _ rfl _ ⟨e25, K25, s25, M25, E25, K25b, s25b, M25b, E25b, rfl, v25⟩ _ ⟨e26, K26, s26, M26, E26, K26b, s26b, M26b, E26b, rfl, v26⟩ u7 d7 -; simp only [Jo.z]; replace hT := hT.off XR (by simp [no8]) hJ; replace HB := Lib.hid (hJ.below HB.out (by omega) XR.lt); replace X4 := X4.off (by omega) hJ; replace XS := XS.off (by omega) hJ; replace X8 := X8.off (by omega) hJ
 replace X9 := X9.off (by omega) hJ; replace X10 := X10.off (by omega) hJ
 replace XR : Bo w6 (w.heap.size + 1 + 1 + 1) #[.bool e24, .int .i64 K24, .bool s24, .int .u64 M24, .int .i64 E24, .int .i64 K24b, .bool s24b, .int .u64 M24b, .int .i64 E24b] 26 := d7
 clear hT; have xXS := XS.cell; have zXS0 := XS.frozen
 refine Jo.jnext (i := 8) (o := ⟨none, _, _, _, _, _⟩) (by kernel_rfl) rfl (fun K hK => ?_)
 go_simp; refine hK.out _ _ ?_; clear hK K xXS zXS0; generalize hS : ((((((((w6.setCell _ _).setCell _ _).setCell _ _).setCell _ _).setCell _ _).setCell _ _).setCell _ _).setCell _ _).setCell _ _ = w7 at *; have SX := StN.of9 XS hS; replace X4 := X4.stn SX (by omega); replace XR := XR.stn SX (by omega); replace X8 := X8.stn SX (by omega); replace X9 := X9.stn SX (by omega)
 replace X10 := X10.stn SX (by omega); replace HB := Hqs HB SX (by omega); replace XS := SX.box; clear SX hS; refine Jo.jdone (by kernel_rfl) ?_; go_wp2; exact bodyPost_ret (v := .tuple #[.agg #[.bool e24, .int .i64 K24, .bool s24, .int .u64 M24, .int .i64 E24, .int .i64 K24b, .bool s24b, .int .u64 M24b, .int .i64 E24b], .agg #[.bool e26, .int .i64 K26, .bool s26, .int .u64 M26, .int .i64 E26, .int .i64 K26b, .bool s26b, .int .u64 M26b, .int .i64 E26b]]) (by simp [results, Tryz.results16, go_sem, XR.cell, XS.cell]) rfl ⟨_, _, _, _, _, _, _, _, _, _, _, _, _, _, _, _, _, _, rfl, v24, v26, HB.out⟩
theorem bkOver {w : World} {e : Bool} {D M E D' M' E' : Int} {s s' : Bool} {e2 : Bool} {G P Q G' P' Q' : Int} {g g' : Bool} {e3 : Bool} {J U V J' U' V' : Int} {j j' : Bool} {z x y a b : Sp} {q : Bool → Int → Int → Int} (hT : Tab w) (hq : QF q) (hM : LQ M) (hM' : LQ M') (hP : LQ P) (hP' : LQ P') (hU : LQ U) (hU' : LQ U') (hz : rkI e D s M E D' s' M' E' = z) (hx : rkI e2 G g P Q G' g' P' Q' = x) (hy : rkI e3 J j U V J' j' U' V' = y) (hr : overB q z x y = (a, b)) : Calls Tryz.prog 18 #[VI e D s M E D' s' M' E', VI e2 G g P Q G' g' P' Q', VI e3 J j U V J' j' U' V'] w (PV2 w a b) := by
 delta VI
 rw [over_eq] at hr; obtain ⟨d, hd0⟩ : ∃ d, zout y = d := ⟨_, rfl⟩; obtain ⟨m, hm⟩ : ∃ m, mulI z d = m := ⟨_, rfl⟩; rw [hd0, hm] at hr
 obtain ⟨ha0, hb⟩ : meetI x m = a ∧ partB q d a z = b := by
   injection hr with p1 p2
   rw [p1] at p2; exact ⟨p1, p2⟩
 have ha := meetTwo (by rw [← hx]; exact rkI_ok hP hP') ha0; have HMM := Lib.hid hm; clear ha0 hm; obtain ⟨b1, h1⟩ : ∃ b, hasI z 0 = b := ⟨_, rfl⟩; obtain ⟨b2, h2⟩ : ∃ b, hasI y 0 = b := ⟨_, rfl⟩; obtain ⟨b3, h3⟩ : ∃ b, hasI x 0 = b := ⟨_, rfl⟩; obtain ⟨b4, h4⟩ : ∃ b, hasI a 0 = b := ⟨_, rfl⟩; obtain ⟨b5, h5⟩ : ∃ o, hasI b 0 = o := ⟨_, rfl⟩; clear hr; have HZ := Lib.hid hz; have HX := Lib.hid hx; have HY := Lib.hid hy
 have HQ := Lib.hid hq; have HA := Lib.hid ha; have HBB := Lib.hid hb; have H1 := Lib.hid h1; have H2 := Lib.hid h2; have H3 := Lib.hid h3; have H4 := Lib.hid h4; have H5 := Lib.hid h5; clear hz hx hy hq ha hb h1 h2 h3 h4 h5
 go_enter Tryz.func18, Tryz.ntmps18
 go_upto_region 1 with (fail)
 generalize hW1 : ((((w.alloc _).alloc _).alloc _).alloc _).alloc _ = w1 at *; obtain ⟨X3, X4, X5, XR, XS, HB⟩ := Bo.en5 hW1; replace hT := hT.below HB.out; clear hW1; have ltX3 := X3.lt; have ltX4 := X4.lt; have ltX5 := X5.lt; have ltXR := XR.lt; have ltXS := XS.lt; have hszp := HB.out.size
 refine Jo.region_pair (T := [0, 1, 2, 3, 4, 5, 6]) (ds := [some 11, some 12, some 13, some 14, some 8, some 9, none, none]) (ls := [[], [0], [], [2], [], [], [1, 4, 5], []]) (k := 8) (L := [(some 11, 0), (some 12, 1), (some 13, 2), (some 14, 3), (some 8, 4), (some 9, 5), (none, 6)]) (fuel := 1) (w1 := w1) (p := 4) (q := 5) (s := 6) (e := 1) (old := #[.bool false, .int .i64 0, .bool false, .int .u64 0, .int .i64 0, .int .i64 0, .bool false, .int .u64 0, .int .i64 0, .bool false]) (R := 45)
   (F := [Jo.q9 e D s M E D' s' M' E', Jo.Fact.op z b1, Jo.q9 e3 J j U V J' j' U' V', Jo.Fact.op y b2, Jo.Fact.any, Jo.Fact.any, Jo.Fact.any, Jo.Fact.any])
   (by decide) (by decide) (by decide) (by kernel_rfl) (by kernel_rfl) (by decide) rfl rfl ?_ (fun vs w2 hJ hd hpq => ?_)
 · refine Jo.pcons (i := 0) (o := ⟨some 11, _, _, _, _, _⟩) (di := some 11) (L := []) (f := Jo.q9 e D s M E D' s' M' E') (by decide) (by decide) (by decide) (fun _ _ _ h => h) rfl rfl rfl rfl (fun vs wj hJ hd K hK => ?_) ?_
   · clear hd; simp only [Jo.putl, Jo.ze, Act.put, Jo.za, Jo.zb, Jo.zc] at hK ⊢; have xX3 := (X3.below hJ).cell; go_simp; exact hK.out _ _ rfl (br _ _)
   refine Jo.pcons (i := 1) (o := ⟨some 12, _, _, _, _, _⟩) (di := some 12) (L := [(some 11, 0)]) (f := Jo.Fact.op z b1) (by decide) (by decide) (by decide) (fun _ _ _ h => h) rfl rfl rfl rfl (fun vs wj hJ hd K hK => ?_) ?_
   · have d0 : (Jo.q9 e D s M E D' s' M' E').P (vs 0) wj := hd 0 (by decide)
     clear hd; simp only [Jo.putl, Jo.zd, Jo.ze, Act.put, Jo.za, Jo.zb, Jo.zc] at hK ⊢; generalize vs 0 = u0 at hK d0 ⊢
     replace d0 : u0 = _ := d0
     subst d0; go_simp; refine (kOp hM hM' HZ.out H1.out).mono ?_; rintro ee wk ⟨e21, K21, s21, M21, E21, K21b, s21b, M21b, E21b, rfl, v21, B⟩; exact hK.out _ _ ⟨e21, K21, s21, M21, E21, K21b, s21b, M21b, E21b, rfl, v21⟩ B
   refine Jo.pcons (i := 2) (o := ⟨some 13, _, _, _, _, _⟩) (di := some 13) (L := []) (f := Jo.q9 e3 J j U V J' j' U' V') (by decide) (by decide) (by decide) (fun _ _ _ h => h) rfl rfl rfl rfl (fun vs wj hJ hd K hK => ?_) ?_
   · clear hd; simp only [Jo.putl, Jo.ze, Act.put, Jo.za, Jo.zb, Jo.zc] at hK ⊢; have xX5 := (X5.below hJ).cell; go_simp; exact hK.out _ _ rfl (br _ _)
   refine Jo.pcons (i := 3) (o := ⟨some 14, _, _, _, _, _⟩) (di := some 14) (L := [(some 13, 2)]) (f := Jo.Fact.op y b2) (by decide) (by decide) (by decide) (fun _ _ _ h => h) rfl rfl rfl rfl (fun vs wj hJ hd K hK => ?_) ?_
   · have d2 : (Jo.q9 e3 J j U V J' j' U' V').P (vs 2) wj := hd 2 (by decide)
     clear hd; simp only [Jo.putl, Jo.zd, Jo.ze, Act.put, Jo.za, Jo.zb, Jo.zc] at hK ⊢; generalize vs 2 = u2 at hK d2 ⊢
     replace d2 : u2 = _ := d2
     subst d2; go_simp; refine (kOp hU hU' HY.out H2.out).mono ?_; rintro ee wk ⟨e22, K22, s22, M22, E22, K22b, s22b, M22b, E22b, rfl, v22, B⟩; exact hK.out _ _ ⟨e22, K22, s22, M22, E22, K22b, s22b, M22b, E22b, rfl, v22⟩ B
   refine Jo.pnew (i := 4) (o := ⟨some 8, _, _, _, _, _⟩) (di := some 8) (L := []) (by decide) (by decide) (by decide) (by decide) rfl rfl rfl rfl (fun vs wj K hK => ?_) ?_
   · simp only [Jo.putl, Jo.ze, Act.put, Jo.za, Jo.zb, Jo.zc] at hK ⊢; go_simp; exact hK.out
   refine Jo.pnew (i := 5) (o := ⟨some 9, _, _, _, _, _⟩) (di := some 9) (L := []) (by decide) (by decide) (by decide) (by decide) rfl rfl rfl rfl (fun vs wj K hK => ?_) ?_
   · simp only [Jo.putl, Jo.ze, Act.put, Jo.za, Jo.zb, Jo.zc] at hK ⊢; go_simp; exact hK.out
   refine Jo.psto (o := ⟨none, _, _, _, _, _⟩) (di := none) (L := [(some 12, 1), (some 8, 4), (some 9, 5)]) (by decide) (by decide) (by decide) rfl rfl rfl rfl (fun vs wj hJ hd g hg X K hK => ?_) ?_
   · have d1 : (Jo.Fact.op z b1).P (vs 1) wj := hd 1 (by decide)
     clear hd; simp only [Jo.putl, Jo.zd, Jo.ze, Act.put, Jo.za, Jo.zb, Jo.zc] at hK ⊢; simp only [hg] at hK ⊢; clear hg; generalize vs 1 = u1 at hK d1 ⊢; generalize vs 5 = u5 at hK ⊢; obtain ⟨e21, K21, s21, M21, E21, K21b, s21b, M21b, E21b, rfl, v21⟩ := d1; have xX := X.cell; have zX := X.frozen; go_simp; have SX := StN.mk10 X (.bool e21) (.int .i64 K21) (.bool s21) (.int .u64 M21) (.int .i64 E21) (.int .i64 K21b) (.bool s21b) (.int .u64 M21b) (.int .i64 E21b) (.bool b1)
     exact hK.out undef _ _ rfl SX
   exact Jo.StepsI.nil
 have d0 : (Jo.q9 e D s M E D' s' M' E').P (vs 0) w2 := hd 0 (by decide)
 have d1 : (Jo.Fact.op z b1).P (vs 1) w2 := hd 1 (by decide)
 have d2 : (Jo.q9 e3 J j U V J' j' U' V').P (vs 2) w2 := hd 2 (by decide)
 have d3 : (Jo.Fact.op y b2).P (vs 3) w2 := hd 3 (by decide)
 clear hd; obtain ⟨g8, g9, csp, ep, eq_, hg8, hg9, hneg8, ee, X8, X9⟩ := hpq; simp only [Jo.putl, Jo.zd, Jo.ze, Act.put, Jo.za, Jo.zb, Jo.zc]; simp only [ep, eq_]; clear ep eq_; generalize vs 0 = u0 at d0 ⊢; generalize vs 1 = u1 at d1 ee ⊢; generalize vs 2 = u2 at d2 ⊢; generalize vs 3 = u3 at d3 ⊢; generalize vs 6 = u6 at ⊢; clear vs
 replace d0 : u0 = _ := d0
 subst d0; obtain ⟨e21, K21, s21, M21, E21, K21b, s21b, M21b, E21b, rfl, v21⟩ := d1
 replace d2 : u2 = _ := d2
 subst d2; obtain ⟨e22, K22, s22, M22, E22, K22b, s22b, M22b, E22b, rfl, v22⟩ := d3
 injection ee with ee
 subst ee; replace X3 := X3.below hJ; replace X4 := X4.below hJ; replace X5 := X5.below hJ; replace XR := XR.below hJ; replace XS := XS.below hJ; replace hT := hT.below hJ; replace HB := Hqb HB hJ; have xX9 := X9.cell; have zX90 := X9.frozen
 refine Jo.jnext (i := 7) (o := ⟨none, _, _, _, _, _⟩) (by kernel_rfl) rfl (fun K hK => ?_)
 go_simp; refine hK.out _ _ ?_; clear hK K xX9 zX90; generalize hS : (((((((((w2.setCell _ _).setCell _ _).setCell _ _).setCell _ _).setCell _ _).setCell _ _).setCell _ _).setCell _ _).setCell _ _).setCell _ _ = w3 at *; have SX := StN.of10 X9 hS; replace X3 := X3.stn SX (by omega); replace X4 := X4.stn SX (by omega); replace X5 := X5.stn SX (by omega)
 replace XR := XR.stn SX (by omega); replace XS := XS.stn SX (by omega); replace X8 := X8.stn SX (by omega); replace hT := hT.stn SX (by simp [no8]); replace HB := Hqs HB SX (by omega); replace X9 := SX.box; clear SX hS; refine Jo.jdone (by kernel_rfl) ?_; clear X3 X5 HZ HY hM hM' hU hU'
 go_upto_region 2 with (fail)
 obtain ⟨cz, hcz⟩ : ∃ c, decide (y = some (0, 0)) = c := ⟨_, rfl⟩
 have HC : Hid ((e22 = false ∧ K22 = 0 ∧ s22 = false ∧ M22 = 0 ∧ E22 = 0 ∧ K22b = 0 ∧ s22b = false ∧ M22b = 0 ∧ E22b = 0) ↔ cz = true) := Lib.hid (by
   rw [← hcz, decide_eq_true_iff]
   constructor
   · rintro ⟨rfl, rfl, rfl, rfl, rfl, rfl, rfl, rfl, rfl⟩; exact v22.fn ci_zero
   · rintro rfl; exact v22.uniq ci_zero)
 have HD : Hid ((cz = true → none = d) ∧ (cz = false → y = d)) := Lib.hid ⟨fun h => by rw [← hd0]; unfold zout; rw [if_pos (of_decide_eq_true (hcz.trans h))], fun h => by rw [← hd0]; unfold zout; rw [if_neg (of_decide_eq_false (hcz.trans h))]⟩
 clear hcz hd0; refine Jo.rk [0, 1, 2, 3, 4] [some 15, some 16, some 17, some 18, some 19] [[], [0], [], [2], [1, 3]] 5 0 [Jo.qp g9 0, Jo.q9 e22 K22 s22 M22 E22 K22b s22b M22b E22b, Jo.q4 0 false 0 0, Jo.q9 false 0 false 0 0 0 false 0 0, Jo.qb cz] (by kernel_rfl) (by kernel_rfl) (by decide) rfl ?_ ?_
 · iterate 2 (refine Jo.jm rfl ?_ ?_; rotate_left)
   refine Jo.jm rfl ?_ ?_
   · rintro wj hJ K hK; simp only [Jo.z] at hK ⊢; go_simp; refine (nOf0E).mono ?_; rintro ee wk ⟨rfl, B⟩; exact hK.out _ _ rfl B
   refine Jo.jm rfl ?_ ?_
   · rintro wj hJ _ rfl K hK; simp only [Jo.z] at hK ⊢; go_simp; refine (kvPoint0).mono ?_; rintro ee wk ⟨rfl, B⟩; exact hK.out _ _ rfl B
   refine Jo.jm rfl ?_ ?_
   · rintro wj hJ _ rfl _ rfl K hK; simp only [Jo.z] at hK ⊢; have hc := HC.out; go_simp
     cases cz
     · have hne : ¬ (e22 = false ∧ K22 = 0 ∧ s22 = false ∧ M22 = 0 ∧ E22 = 0 ∧ K22b = 0 ∧ s22b = false ∧ M22b = 0 ∧ E22b = 0) := fun c => ff (hc.1 c)
       repeat' split
       all_goals exact hK.out _ _ (congrArg Value.bool (by first | rfl | (exfalso; simp_all))) (br _ _)
     · obtain ⟨rfl, rfl, rfl, rfl, rfl, rfl, rfl, rfl, rfl⟩ := hc.2 rfl
       repeat' split
       all_goals exact hK.out _ _ (congrArg Value.bool (by first | rfl | (exfalso; simp_all) | simp_all)) (br _ _)
   exact Jo.Steps.nil
   all_goals (rintro wj hJ; (repeat rintro _ rfl); intro K hK; simp only [Jo.z] at hK ⊢; have xX9 := (X9.below hJ).cell; go_simp; exact hK.out _ _ rfl (br _ _))
 rintro w4 hJ _ _ _ rfl _ rfl _ rfl _ rfl -; simp only [Jo.z]; replace X4 := X4.below hJ; replace XR := XR.below hJ; replace XS := XS.below hJ; replace X8 := X8.below hJ; replace X9 := X9.below hJ; replace hT := hT.below hJ; replace HB := Hqb HB hJ; refine Jo.jdone (by kernel_rfl) ?_; clear HC
 go_upto_if 19 with (fail)
 go_cut [] (fun wx => ∃ (e27 : Bool) (K27 : Int) (s27 : Bool) (M27 E27 K27b : Int) (s27b : Bool) (M27b E27b : Int) (b6 : Bool), Ci e27 K27 s27 M27 E27 K27b s27b M27b E27b d ∧ hasI d 0 = b6 ∧ Bo wx (g9) #[.bool e27, .int .i64 K27, .bool s27, .int .u64 M27, .int .i64 E27, .int .i64 K27b, .bool s27b, .int .u64 M27b, .int .i64 E27b, .bool b6] 45 ∧ Bo wx (w.heap.size + 1) #[.bool e2, .int .i64 G, .bool g, .int .u64 P, .int .i64 Q, .int .i64 G', .bool g', .int .u64 P', .int .i64 Q'] 26 ∧ Bo wx (w.heap.size + 1 + 1 + 1) #[.bool false, .int .i64 0, .bool false, .int .u64 0, .int .i64 0, .int .i64 0, .bool false, .int .u64 0, .int .i64 0] 26 ∧ Bo wx (w.heap.size + 1 + 1 + 1 + 1) #[.bool false, .int .i64 0, .bool false, .int .u64 0, .int .i64 0, .int .i64 0, .bool false, .int .u64 0, .int .i64 0] 26 ∧ Bo wx (g8) #[.bool e21, .int .i64 K21, .bool s21, .int .u64 M21, .int .i64 E21, .int .i64 K21b, .bool s21b, .int .u64 M21b, .int .i64 E21b, .bool b1] 45 ∧ Tab wx ∧ Below w.heap.size w wx)
 case first =>
   cases cz
   · obtain rfl : y = d := HD.out.2 rfl
     go_wp2_with fail
     go_meet
     exact ⟨_, _, _, _, _, _, _, _, _, _, v22, H2.out, X9, X4, XR, XS, X8, hT, HB.out⟩
   · obtain rfl : none = d := HD.out.1 rfl
     go_wp2_with fail
     refine (kvNoneE).mono ?_; rintro ee w5 ⟨rfl, B⟩; replace X4 := X4.below B; replace XR := XR.below B; replace XS := XS.below B; replace X8 := X8.below B; replace X9 := X9.below B; replace hT := hT.below B; replace HB := Hqb HB B; clear B
     go_wp2_with fail
     refine (kOp (x := none) (b := false) (by decide) (by decide) rkI_t rfl).mono ?_; rintro ee w6 ⟨e27, K27, s27, M27, E27, K27b, s27b, M27b, E27b, rfl, v27, B⟩; replace X4 := X4.below B; replace XR := XR.below B; replace XS := XS.below B; replace X8 := X8.below B; replace X9 := X9.below B; replace hT := hT.below B; replace HB := Hqb HB B; clear B; have xX9 := X9.cell
     have zX90 := X9.frozen
     go_wp2_with fail
     clear xX9 zX90; generalize hS : (((((((((w6.setCell _ _).setCell _ _).setCell _ _).setCell _ _).setCell _ _).setCell _ _).setCell _ _).setCell _ _).setCell _ _).setCell _ _ = w7 at *; have SX := StN.of10 X9 hS; replace X4 := X4.stn SX (by omega); replace XR := XR.stn SX (by omega); replace XS := XS.stn SX (by omega); replace X8 := X8.stn SX (by omega)
     replace hT := hT.stn SX (by simp [no8]); replace HB := Hqs HB SX (by omega); replace X9 := SX.box; clear SX hS
     go_meet
     exact ⟨_, _, _, _, _, _, _, _, _, _, v27, rfl, X9, X4, XR, XS, X8, hT, HB.out⟩
 case rest =>
   clear X4 XR XS X8 X9 hT HB HD H2 v22; obtain ⟨e27, K27, s27, M27, E27, K27b, s27b, M27b, E27b, b6, v27, h6, X9, X4, XR, XS, X8, hT, hB⟩ := hcut; have HB := Lib.hid hB; have H6 := Lib.hid h6; clear hB h6
   go_upto_region 4 with (fail)
   have ltX4 := X4.lt; have ltXR := XR.lt; have ltXS := XS.lt; have ltX8 := X8.lt; have ltX9 := X9.lt; refine Jo.rk [0, 1, 2, 3, 4, 5, 6, 7, 8, 9] [some 22, some 23, some 24, some 25, some 26, some 27, some 28, some 29, some 30, some 10, none] [[], [], [1], [], [3], [2, 4], [0, 5], [6], [7], [], []] 11 1 [Jo.q9 e2 G g P Q G' g' P' Q', Jo.qp g8 0, Jo.q9 e21 K21 s21 M21 E21 K21b s21b M21b E21b, Jo.qp g9 0, Jo.q9 e27 K27 s27 M27 E27 K27b s27b M27b E27b, Jo.Fact.iv m, Jo.Fact.il8 2 [x, m], Jo.Fact.iv a, Jo.Fact.op a b4, Jo.Fact.bo wc.heap.size #[.bool false, .int .i64 0, .bool false, .int .u64 0, .int .i64 0, .int .i64 0, .bool false, .int .u64 0, .int .i64 0, .bool false] 45, Jo.Fact.any] (by kernel_rfl) (by kernel_rfl) (by decide) rfl ?_ ?_
   · iterate 5 (refine Jo.jm rfl ?_ ?_; rotate_left)
     refine Jo.jm rfl ?_ ?_
     · rintro wj hJ _ rfl _ rfl K hK; simp only [Jo.z] at hK ⊢; go_simp; refine (fkMul v21.top.1 v21.top.2 v27.top.1 v27.top.2 v21.rk v27.rk HMM.out).mono ?_; rintro ee wk ⟨e31, K31, s31, M31, E31, K31b, s31b, M31b, E31b, rfl, v31, B⟩; exact hK.out _ _ ⟨e31, K31, s31, M31, E31, K31b, s31b, M31b, E31b, rfl, v31⟩ B
     refine Jo.jm rfl ?_ ?_
     · rintro wj hJ _ rfl _ ⟨e31, K31, s31, M31, E31, K31b, s31b, M31b, E31b, rfl, v31⟩ K hK; simp only [Jo.z] at hK ⊢; go_simp; exact hK.out _ _ ⟨_, 2, rfl, Il8.lit2 rfl ⟨hP, hP', HX.out⟩ v31.rw⟩ (bel1 _ _)
     refine Jo.jm rfl ?_ ?_
     · rintro wj hJ _ ⟨A6, c6, rfl, h6⟩ K hK; simp only [Jo.z] at hK ⊢; go_simp; refine (kvMeet h6 HA.out).mono ?_; rintro ee wk ⟨e32, K32, s32, M32, E32, K32b, s32b, M32b, E32b, rfl, v32, B⟩; exact hK.out _ _ ⟨e32, K32, s32, M32, E32, K32b, s32b, M32b, E32b, rfl, v32⟩ B
     refine Jo.jm rfl ?_ ?_
     · rintro wj hJ _ ⟨e32, K32, s32, M32, E32, K32b, s32b, M32b, E32b, rfl, v32⟩ K hK; simp only [Jo.z] at hK ⊢; go_simp; refine (kOp v32.top.1 v32.top.2 v32.rk H4.out).mono ?_; rintro ee wk ⟨e33, K33, s33, M33, E33, K33b, s33b, M33b, E33b, rfl, v33, B⟩; exact hK.out _ _ ⟨e33, K33, s33, M33, E33, K33b, s33b, M33b, E33b, rfl, v33⟩ B
     refine Jo.jm rfl ?_ ?_
     · rintro wj hJ K hK; simp only [Jo.z] at hK ⊢; go_simp; exact hK.out _ _ ⟨_, rfl, hJ.size, Bo.new _ _ _⟩ (bel1 _ _)
     exact Jo.Steps.nil
     all_goals (rintro wj hJ; (repeat rintro _ rfl); intro K hK; simp only [Jo.z] at hK ⊢; have xX4 := (X4.below hJ).cell; have xX8 := (X8.below hJ).cell; have xX9 := (X9.below hJ).cell; go_simp; exact hK.out _ _ rfl (br _ _))
   rintro wA hJ _ rfl _ _ _ rfl _ _ _ rfl _ ⟨e31, K31, s31, M31, E31, K31b, s31b, M31b, E31b, rfl, v31⟩ _ ⟨_, _, rfl, _⟩ _ ⟨e32, K32, s32, M32, E32, K32b, s32b, M32b, E32b, rfl, v32⟩ _ ⟨e33, K33, s33, M33, E33, K33b, s33b, M33b, E33b, rfl, v33⟩ _ ⟨g10, rfl, hg10, X10⟩ -; simp only [Jo.z]; replace X4 := X4.below hJ; replace XR := XR.below hJ; replace XS := XS.below hJ; replace X8 := X8.below hJ; replace X9 := X9.below hJ
   replace hT := hT.below hJ; replace HB := Hqb HB hJ; have xX10 := X10.cell; have zX100 := X10.frozen
   refine Jo.jnext (i := 10) (o := ⟨none, _, _, _, _, _⟩) (by kernel_rfl) rfl (fun K hK => ?_)
   go_simp; refine hK.out _ _ ?_; clear hK K xX10 zX100; generalize hS : (((((((((wA.setCell _ _).setCell _ _).setCell _ _).setCell _ _).setCell _ _).setCell _ _).setCell _ _).setCell _ _).setCell _ _).setCell _ _ = wB at *; have SX := StN.of10 X10 hS; replace X4 := X4.stn SX (by omega); replace XR := XR.stn SX (by omega); replace XS := XS.stn SX (by omega)
   replace X8 := X8.stn SX (by omega); replace X9 := X9.stn SX (by omega); replace hT := hT.stn SX (by simp [no8]); replace HB := Hqs HB SX (by omega); replace X10 := SX.box; clear SX hS; refine Jo.jdone (by kernel_rfl) ?_; clear v31 v32
   go_upto_region 5 with (fail)
   have ltX4 := X4.lt; have ltXR := XR.lt; have ltXS := XS.lt; have ltX8 := X8.lt; have ltX9 := X9.lt; have ltX10 := X10.lt; refine Jo.rl (w.heap.size + 1 + 1 + 1) #[.bool e33, .int .i64 K33, .bool s33, .int .u64 M33, .int .i64 E33, .int .i64 K33b, .bool s33b, .int .u64 M33b, .int .i64 E33b] 26 [0, 1, 2, 3, 4, 5, 6, 7] [some 31, some 32, some 33, some 34, some 35, some 36, some 37, none, none] [[], [0], [], [], [], [2, 3, 4], [5], [1], []] 9 1 [Jo.kp g10 0, Jo.k9 e33 K33 s33 M33 E33 K33b s33b M33b E33b, Jo.LFact.eq (.agg #[.bool e27, .int .i64 K27, .bool s27, .int .u64 M27, .int .i64 E27, .int .i64 K27b, .bool s27b, .int .u64 M27b, .int .i64 E27b, .bool b6]), Jo.LFact.eq (.agg #[.bool e33, .int .i64 K33, .bool s33, .int .u64 M33, .int .i64 E33, .int .i64 K33b, .bool s33b, .int .u64 M33b, .int .i64 E33b, .bool b4]), Jo.LFact.eq (.agg #[.bool e21, .int .i64 K21, .bool s21, .int .u64 M21, .int .i64 E21, .int .i64 K21b, .bool s21b, .int .u64 M21b, .int .i64 E21b, .bool b1]), Jo.LFact.op b b5, Jo.LFact.iv b, Jo.LFact.done, Jo.LFact.any] (by kernel_rfl) (by kernel_rfl) (by decide) rfl ?_ ?_
   · refine Jo.lm rfl ?_ ?_
     · rintro wj hJ K hK; simp only [Jo.z] at hK ⊢; go_simp; exact hK.out _ _ rfl (Jo.Off.refl _ _ _ _)
     refine Jo.lm rfl ?_ ?_
     · rintro wj hJ _ rfl K hK; simp only [Jo.z] at hK ⊢; replace X10 := X10.off (by omega) hJ; have xX10 := X10.cell; go_simp; exact hK.out _ _ rfl (Jo.Off.refl _ _ _ _)
     refine Jo.lm rfl ?_ ?_
     · rintro wj hJ K hK; simp only [Jo.z] at hK ⊢; replace X9 := X9.off (by omega) hJ; have xX9 := X9.cell; go_simp; exact hK.out _ _ rfl (Jo.Off.refl _ _ _ _)
     refine Jo.lm rfl ?_ ?_
     · rintro wj hJ K hK; simp only [Jo.z] at hK ⊢; replace X10 := X10.off (by omega) hJ; have xX10 := X10.cell; go_simp; exact hK.out _ _ rfl (Jo.Off.refl _ _ _ _)
     refine Jo.lm rfl ?_ ?_
     · rintro wj hJ K hK; simp only [Jo.z] at hK ⊢; replace X8 := X8.off (by omega) hJ; have xX8 := X8.cell; go_simp; exact hK.out _ _ rfl (Jo.Off.refl _ _ _ _)
     refine Jo.lm rfl ?_ ?_
     · rintro wj hJ _ rfl _ rfl _ rfl K hK; simp only [Jo.z] at hK ⊢; go_simp; refine (kPart (hT.off XR (by simp [no8]) hJ) HQ.out v27 v33 v21 H6.out H4.out H1.out HBB.out H5.out).mono ?_; rintro ee wk ⟨e25, K25, s25, M25, E25, K25b, s25b, M25b, E25b, rfl, v25, B⟩; exact hK.out _ _ ⟨e25, K25, s25, M25, E25, K25b, s25b, M25b, E25b, rfl, v25⟩ (Jo.Off.of_below B (Nat.lt_of_lt_of_le XR.lt hJ.size))
     refine Jo.lm rfl ?_ ?_
     · rintro wj hJ _ ⟨e25, K25, s25, M25, E25, K25b, s25b, M25b, E25b, rfl, v25⟩ K hK; simp only [Jo.z] at hK ⊢; go_simp; exact hK.out _ _ ⟨_, _, _, _, _, _, _, _, _, rfl, v25⟩ (Jo.Off.refl _ _ _ _)
     refine Jo.lm rfl ?_ ?_
     · rintro wj hJ _ rfl K hK; simp only [Jo.z] at hK ⊢
       obtain ⟨v0, v1, v2, v3, v4, v5, v6, v7, v8, XO⟩ : ∃ v0 v1 v2 v3 v4 v5 v6 v7 v8, Bo wj (w.heap.size + 1 + 1 + 1) #[v0, v1, v2, v3, v4, v5, v6, v7, v8] 26 := by
         rcases hJ.own with e | e
         · exact ⟨_, _, _, _, _, _, _, _, _, XR.keep e⟩
         · exact ⟨_, _, _, _, _, _, _, _, _, e⟩
       have xXO := XO.cell; have zXO0 := XO.frozen; go_simp; have SX := StN.mk9 XO (.bool e33) (.int .i64 K33) (.bool s33) (.int .u64 M33) (.int .i64 E33) (.int .i64 K33b) (.bool s33b) (.int .u64 M33b) (.int .i64 E33b); exact hK.out undef _ SX.box (Jo.Off.of_stn SX)
     exact Jo.Steps.nil
   rintro wC hJ _ _ _ rfl _ rfl _ rfl _ rfl _ ⟨e25, K25, s25, M25, E25, K25b, s25b, M25b, E25b, rfl, v25⟩ _ ⟨e26, K26, s26, M26, E26, K26b, s26b, M26b, E26b, rfl, v26⟩ u7 d7 -; simp only [Jo.z]; replace hT := hT.off XR (by simp [no8]) hJ; replace HB := Lib.hid (hJ.below HB.out (by omega) XR.lt); replace X4 := X4.off (by omega) hJ; replace XS := XS.off (by omega) hJ; replace X8 := X8.off (by omega) hJ
   replace X9 := X9.off (by omega) hJ; replace X10 := X10.off (by omega) hJ
   replace XR : Bo wC (w.heap.size + 1 + 1 + 1) #[.bool e33, .int .i64 K33, .bool s33, .int .u64 M33, .int .i64 E33, .int .i64 K33b, .bool s33b, .int .u64 M33b, .int .i64 E33b] 26 := d7
   clear hT; have xXS := XS.cell; have zXS0 := XS.frozen
   refine Jo.jnext (i := 8) (o := ⟨none, _, _, _, _, _⟩) (by kernel_rfl) rfl (fun K hK => ?_)
   go_simp; refine hK.out _ _ ?_; clear hK K xXS zXS0; generalize hS : ((((((((wC.setCell _ _).setCell _ _).setCell _ _).setCell _ _).setCell _ _).setCell _ _).setCell _ _).setCell _ _).setCell _ _ = wD at *; have SX := StN.of9 XS hS; replace X4 := X4.stn SX (by omega); replace XR := XR.stn SX (by omega); replace X8 := X8.stn SX (by omega); replace X9 := X9.stn SX (by omega)
   replace X10 := X10.stn SX (by omega); replace HB := Hqs HB SX (by omega); replace XS := SX.box; clear SX hS; refine Jo.jdone (by kernel_rfl) ?_; go_wp2; exact bodyPost_ret (v := .tuple #[.agg #[.bool e33, .int .i64 K33, .bool s33, .int .u64 M33, .int .i64 E33, .int .i64 K33b, .bool s33b, .int .u64 M33b, .int .i64 E33b], .agg #[.bool e26, .int .i64 K26, .bool s26, .int .u64 M26, .int .i64 E26, .int .i64 K26b, .bool s26b, .int .u64 M26b, .int .i64 E26b]]) (by simp [results, Tryz.results18, go_sem, XR.cell, XS.cell]) rfl ⟨_, _, _, _, _, _, _, _, _, _, _, _, _, _, _, _, _, _, rfl, v33, v26, HB.out⟩
theorem root_whole {r : Bool → Int → Int} (hr : RF r) (up : Bool) {n : Int} (h0 : 0 < n) (h1 : n ≤ 1000000000) : r up (opl (n * n)) = opl n := by
 have hp : (n * n).natAbs ≤ 1000000000 * 1000000000 := by
   rw [Int.natAbs_mul]; exact Nat.mul_le_mul (by omega) (by omega)
 have n0 : 0 < n * n := Int.mul_pos h0 h0
 obtain ⟨a1, a2⟩ := opl_pos (n := n) h0 (by omega); obtain ⟨b1, b2⟩ := opl_pos (n := n * n) n0 (by omega); have h := hr.fin up b1 b2
 have k : Rt up (vr (opl (n * n)) * 2 ^ KK) (opl n) := rt_exact a1 a2 (by
   rw [opl_vr (by omega) (by omega), opl_vr (n := n * n) (by omega) (by omega)]; simp only [Int.mul_assoc, Int.mul_left_comm])
 have l1 := h.mono9 k (Int.le_refl _); have l2 := k.mono9 h (Int.le_refl _)
 omega
theorem opl_lt {a b : Int} (h1 : -9223372036854775807 ≤ a) (h : a < b) (h2 : b ≤ 9223372036854775807) : opl a < opl b := by
 have l := opl_le (a := a) (b := b) (by omega) (by omega) h2
 have n : opl a ≠ opl b := fun e => by
   have := opl_inj h1 (by omega) (by omega) h2 e
   omega
 omega
theorem Zi.meet2 {a b c d : Int} (a1 : -9223372036854775807 ≤ a) (b2 : b ≤ 9223372036854775807) (c1 : -9223372036854775807 ≤ c) (d2 : d ≤ 9223372036854775807) (ab : a ≤ b) (cd : c ≤ d) (h : max a c ≤ min b d) : meetI (Zi a b) (Zi c d) = Zi (max a c) (min b d) := by
 show mkI (max (opl a) (opl c)) (min (opl b) (opl d)) = _
 rw [(opl_min (a := a) (b := c) (by omega) (by omega) (by omega) (by omega)).2, (opl_min (a := b) (b := d) (by omega) (by omega) (by omega) (by omega)).1]; exact (Zi.mk (by omega) h (by omega)).1
theorem Zi.apart {a b c d : Int} (a1 : -9223372036854775807 ≤ a) (b2 : b ≤ 9223372036854775807) (c1 : -9223372036854775807 ≤ c) (d2 : d ≤ 9223372036854775807) (ab : a ≤ b) (cd : c ≤ d) (h : min b d < max a c) : meetI (Zi a b) (Zi c d) = none := by
 show mkI (max (opl a) (opl c)) (min (opl b) (opl d)) = _
 rw [(opl_min (a := a) (b := c) (by omega) (by omega) (by omega) (by omega)).2, (opl_min (a := b) (b := d) (by omega) (by omega) (by omega) (by omega)).1]
 have := opl_lt (a := min b d) (b := max a c) (by omega) h (by omega)
 exact mkI_none (by omega)
theorem aw10_plus : meetI (Zi 0 5) (subI (Zi 3 3) (Zi 1 1)) = Zi 2 2 ∧ meetI (Zi 1 1) (subI (Zi 3 3) (Zi 2 2)) = Zi 1 1 := by
 constructor
 · unfold subI
   rw [Zi.neg (by decide) (by decide) (by decide), Zi.add (by decide) (by decide) (by decide) (by decide) (by decide) (by decide)]; exact Zi.meet2 (by decide) (by decide) (by decide) (by decide) (by decide) (by decide) (by decide)
 · unfold subI
   rw [Zi.neg (by decide) (by decide) (by decide), Zi.add (by decide) (by decide) (by decide) (by decide) (by decide) (by decide)]; exact Zi.meet2 (by decide) (by decide) (by decide) (by decide) (by decide) (by decide) (by decide)
theorem root_meet9 {r : Bool → Int → Int} (h0 : 0 < opl 4) (h : opl 4 ≤ opl 9) : rootI r (Zi 4 9) = mkI (r false (opl 4)) (r true (opl 9)) := by
 have o9 := opl_pos (n := 9) (by decide) (by decide)
 have e : meetI (Zi 4 9) (some (0, 19342822337206103650074625)) = some (opl 4, opl 9) := by
   show mkI (max (opl 4) 0) (min (opl 9) 19342822337206103650074625) = _
   rw [show max (opl 4) 0 = opl 4 by omega, show min (opl 9) 19342822337206103650074625 = opl 9 by omega]
   exact mkI_some h (by omega) (by omega)
 unfold rootI
 rw [e]
theorem aw10_sqr {r : Bool → Int → Int} (hr : RF r) : sqrB r (Zi 4 9) (Zi (-5) 0) = Zi (-3) (-2) := by
 have o4 := opl_pos (n := 4) (by decide) (by decide); have o9 := opl_pos (n := 9) (by decide) (by decide); have l := opl_le (a := 4) (b := 9) (by decide) (by decide) (by decide)
 have e : rootI r (Zi 4 9) = Zi 2 3 := by
   rw [root_meet9 (by omega) (by omega)]; have q2 := root_whole hr false (n := 2) (by decide) (by decide); have q3 := root_whole hr true (n := 3) (by decide) (by decide)
   rw [show (2 : Int) * 2 = 4 from rfl] at q2
   rw [show (3 : Int) * 3 = 9 from rfl] at q3
   rw [q2, q3]; exact (Zi.mk (a := 2) (b := 3) (by decide) (by decide) (by decide)).1
 unfold sqrB
 rw [e, Zi.neg (by decide) (by decide) (by decide), Zi.apart (by decide) (by decide) (by decide) (by decide) (by decide) (by decide) (by decide), Zi.meet2 (by decide) (by decide) (by decide) (by decide) (by decide) (by decide) (by decide)]
 rfl
end Go.Proofs.YtnbliijpjcmbjaaGreatDoor

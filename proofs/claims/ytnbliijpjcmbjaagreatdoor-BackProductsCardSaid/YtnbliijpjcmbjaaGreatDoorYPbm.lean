/-
 Contracts that the proof rests on.
-/
import Derived.Test.YtnbliijpjcmbjaaGreatDoorYPbk
import Derived.Test.YtnbliijpjcmbjaaGreatDoorYPbl
namespace Go.Proofs.YtnbliijpjcmbjaaGreatDoor
set_option maxHeartbeats 8000000
open Go.RowKit
set_option linter.unusedVariables false
set_option linter.unusedSimpArgs false
set_option maxRecDepth 100000
theorem fkEdge {w : World} {K1 M1 E1 K1b M1b E1b K2 M2 E2 K2b M2b E2b : Int} {s1 s1b s2 s2b : Bool} {xa xb ya yb : Int} {z : Sp} {q : Bool → Int → Int → Int} (hT : Tab w) (hq : QF q) (v1 : Ci false K1 s1 M1 E1 K1b s1b M1b E1b (some (xa, xb))) (v2 : Ci false K2 s2 M2 E2 K2b s2b M2b E2b (some (ya, yb)))
   (hd : (0 < yb ∧ ya = 0) ∨ (ya < 0 ∧ yb = 0)) (hp : 0 < xa ∨ xb < 0) (hr : divI q (some (xa, xb)) (some (ya, yb)) = z) :
   Calls Tryz.prog 103 #[VI false K1 s1 M1 E1 K1b s1b M1b E1b, VI false K2 s2 M2 E2 K2b s2b M2b E2b] w (PV w z) := by
 delta VI
 have hxx := v1.ok.2.1; obtain ⟨_, a1, b1, _, _, _⟩ := v1; obtain ⟨_, a2, b2, _, _, _⟩ := v2; have HD := Lib.hid hd; have HPP := Lib.hid hp; have HXX := Lib.hid hxx; have HR0 := Lib.hid hr; have HQ := Lib.hid hq; clear hd hp hxx hr hq
 go_enter Tryz.func103, Tryz.ntmps103
 go_upto_region 1 with (fail)
 generalize hW1 : ((w.alloc _).alloc _).alloc _ = w1 at *; obtain ⟨X2, X3, XR, HB⟩ := Bo.en3 hW1; replace hT := hT.below HB.out; clear hW1; have ltX2 := X2.lt; have ltX3 := X3.lt; have ltXR := XR.lt
 refine Jo.region_inv (T := [0, 1, 2, 3, 4, 5, 6]) (ds := [some 7, some 8, some 9, some 10, some 5, some 6, none, none]) (ls := [[], [0], [], [2], [], [], [1, 4, 5], []]) (k := 8) (L := [(some 7, 0), (some 8, 1), (some 9, 2), (some 10, 3), (some 5, 4), (some 6, 5), (none, 6)]) (fuel := 1)
   (I := Jo.Two2 w1 (.pointer (some ⟨w.heap.size, 1, none⟩)) (.agg #[.int .i64 K1, .bool s1, .int .u64 M1, .int .i64 E1]) (.pointer (some ⟨w.heap.size + 1, 5, none⟩)) (.agg #[.int .i64 K2b, .bool s2b, .int .u64 M2b, .int .i64 E2b]) #[.int .i64 0, .bool false, .int .u64 0, .int .i64 0] #[.int .i64 K1, .bool s1, .int .u64 M1, .int .i64 E1] 24)
   (by kernel_rfl) (by kernel_rfl) (by decide) rfl rfl Jo.Two2.nil ?_ (fun l vs w2 hl hI => ?_)
 · refine Jo.icons (i := 0) (o := ⟨some 7, _, _, _, _, _⟩) (di := some 7) (L := []) rfl rfl rfl (fun l vs wj hI hn hd K hK => ?_) ?_
   · simp only [Jo.putl, Jo.ze, Act.put, Jo.za, Jo.zb, Jo.zc] at hK ⊢; go_simp; exact hK.out _ _ (hI.pure hn (.inl ⟨rfl, rfl⟩))
   refine Jo.icons (i := 1) (o := ⟨some 8, _, _, _, _, _⟩) (di := some 8) (L := [(some 7, 0)]) rfl rfl rfl (fun l vs wj hI hn hd K hK => ?_) ?_
   · have e0 := hI.2.2.1 (hd 0 (by decide)); have y0 := (X2.below hI.1).a 1 (.int .i64 K1) rfl; have y1 := (X2.below hI.1).a 2 (.bool s1) rfl; have y2 := (X2.below hI.1).a 3 (.int .u64 M1) rfl; have y3 := (X2.below hI.1).a 4 (.int .i64 E1) rfl; simp only [Jo.putl, Jo.zd, Jo.ze, Act.put, Jo.za, Jo.zb, Jo.zc] at hK ⊢; simp only [e0] at hK ⊢; go_simp; exact hK.out _ _ (hI.pure hn (.inr (.inl ⟨rfl, rfl⟩)))
   refine Jo.icons (i := 2) (o := ⟨some 9, _, _, _, _, _⟩) (di := some 9) (L := []) rfl rfl rfl (fun l vs wj hI hn hd K hK => ?_) ?_
   · simp only [Jo.putl, Jo.ze, Act.put, Jo.za, Jo.zb, Jo.zc] at hK ⊢; go_simp; exact hK.out _ _ (hI.pure hn (.inr (.inr (.inl ⟨rfl, rfl⟩))))
   refine Jo.icons (i := 3) (o := ⟨some 10, _, _, _, _, _⟩) (di := some 10) (L := [(some 9, 2)]) rfl rfl rfl (fun l vs wj hI hn hd K hK => ?_) ?_
   · have e0 := hI.2.2.2.2.1 (hd 2 (by decide)); have y0 := (X3.below hI.1).a 5 (.int .i64 K2b) rfl; have y1 := (X3.below hI.1).a 6 (.bool s2b) rfl; have y2 := (X3.below hI.1).a 7 (.int .u64 M2b) rfl; have y3 := (X3.below hI.1).a 8 (.int .i64 E2b) rfl; simp only [Jo.putl, Jo.zd, Jo.ze, Act.put, Jo.za, Jo.zb, Jo.zc] at hK ⊢; simp only [e0] at hK ⊢; go_simp; exact hK.out _ _ (hI.pure hn (.inr (.inr (.inr ⟨rfl, rfl⟩))))
   refine Jo.icons (i := 4) (o := ⟨some 5, _, _, _, _, _⟩) (di := some 5) (L := []) rfl rfl rfl (fun l vs wj hI hn hd K hK => ?_) ?_
   · simp only [Jo.putl, Jo.ze, Act.put, Jo.za, Jo.zb, Jo.zc] at hK ⊢; go_simp; exact hK.out _ _ (hI.new4 hn)
   refine Jo.icons (i := 5) (o := ⟨some 6, _, _, _, _, _⟩) (di := some 6) (L := []) rfl rfl rfl (fun l vs wj hI hn hd K hK => ?_) ?_
   · simp only [Jo.putl, Jo.ze, Act.put, Jo.za, Jo.zb, Jo.zc] at hK ⊢; go_simp; exact hK.out _ _ (hI.new5 hn)
   refine Jo.icons (i := 6) (o := ⟨none, _, _, _, _, _⟩) (di := none) (L := [(some 8, 1), (some 5, 4), (some 6, 5)]) rfl rfl rfl (fun l vs wj hI hn hd K hK => ?_) ?_
   · have m4 := hd 4 (by decide); have m5 := hd 5 (by decide); obtain ⟨g, e4, X5⟩ := hI.box4 m4 hn; have e1 := hI.2.2.2.1 (hd 1 (by decide)); have y0 := X5.a 0 (.int .i64 0) rfl; have u0 := X5.frozen 0; have y1 := X5.a 1 (.bool false) rfl; have u1 := X5.frozen 1; have y2 := X5.a 2 (.int .u64 0) rfl; have u2 := X5.frozen 2; have y3 := X5.a 3 (.int .i64 0) rfl; have u3 := X5.frozen 3; simp only [Jo.putl, Jo.zd, Jo.ze, Act.put, Jo.za, Jo.zb, Jo.zc] at hK ⊢
     simp only [e1, e4] at hK ⊢; go_simp; have SX := StN.mk4 X5 (.int .i64 K1) (.bool s1) (.int .u64 M1) (.int .i64 E1); exact hK.out undef _ (hI.sto hn m4 m5 e4 SX)
   exact Jo.StepsI.nil
 obtain ⟨hJ, e0, e1, e2, e3, g5, g6, e4, e5, hB5, hB6, hne, X5, X6⟩ := hI.all hl; simp only [Jo.putl, Jo.zd, Jo.ze, Act.put, Jo.za, Jo.zb, Jo.zc]; simp only [e0, e1, e2, e3, e4, e5]; clear hI hl e0 e1 e2 e3 e4 e5 vs l; replace X2 := X2.below hJ; replace X3 := X3.below hJ; replace XR := XR.below hJ; replace hT := hT.below hJ; replace HB := Hqb HB hJ; have xX6 := X6.cell
 have zX60 := X6.frozen
 refine Jo.jnext (i := 7) (o := ⟨none, _, _, _, _, _⟩) (by kernel_rfl) rfl (fun K hK => ?_)
 go_simp; refine hK.out _ _ ?_; clear hK K xX6 zX60; generalize hS : (((w2.setCell _ _).setCell _ _).setCell _ _).setCell _ _ = w3 at *; have SX := StN.of4 X6 hS; replace X2 := X2.stn SX (by omega); replace X3 := X3.stn SX (by omega); replace XR := XR.stn SX (by omega); replace X5 := X5.stn SX (by omega); replace hT := hT.stn SX (by simp [no8]); replace HB := Hqs HB SX (by omega)
 replace X6 := SX.box; clear SX hS; refine Jo.jdone (by kernel_rfl) ?_
 rcases HD.out with hd | hd
 · rcases HPP.out with hp | hp
   · have hxx := HXX.out; have hr := HR0.out; obtain ⟨hd1, y0⟩ := hd; subst y0; rw [(dvI_up hd1 hxx).1 hp] at hr; obtain ⟨u, hu⟩ : ∃ u, q false xa yb = u := ⟨_, rfl⟩; rw [hu] at hr; have hqt := HQ.out false xa yb; rw [hu] at hqt; have HQT := Lib.hid hqt; have HR := Lib.hid hr
     have HSA : Hid (cmpI (rk K1 s1 M1 E1) 0 = 1) := Lib.hid (by rw [a1.rk]; exact sgn_pos (by omega))
     have HSB : Hid (cmpI (rk K2b s2b M2b E2b) 0 = 1) := Lib.hid (by rw [b2.rk]; exact sgn_pos (by omega))
     have HSN : Hid (cmpI (rk K1 s1 M1 E1) 0 = 1) := Lib.hid (by rw [a1.rk]; exact sgn_pos (by omega))
     have HSE : Hid (cmpI (rk K2b s2b M2b E2b) 0 = 1) := Lib.hid (by rw [b2.rk]; exact sgn_pos (by omega))
     clear hu hqt hr hxx hd1 hp HXX HR0 HQ; have xX5 := X5.cell
     go_wp2_with fail
     refine (nSign a1.top HSA.out).mono ?_; rintro ee w4 ⟨rfl, B⟩; clear xX5; replace X2 := X2.below B; replace X3 := X3.below B; replace XR := XR.below B; replace X5 := X5.below B; replace X6 := X6.below B; replace hT := hT.below B; replace HB := Hqb HB B; clear B; clear HSA; have xX6 := X6.cell
     go_wp2_with fail
     refine (nSign b2.top HSB.out).mono ?_; rintro ee w6 ⟨rfl, B⟩; clear xX6; replace X2 := X2.below B; replace X3 := X3.below B; replace XR := XR.below B; replace X5 := X5.below B; replace X6 := X6.below B; replace hT := hT.below B; replace HB := Hqb HB B; clear B; clear HSB
     go_upto_region 6 with (fail)
     refine Jo.rk [0, 1, 2, 3, 4] [some 21, some 22, some 23, some 24, some 25] [[], [0], [], [2], [1, 3]] 5 0 [Jo.q4 K1 s1 M1 E1, Jo.qi 1, Jo.q4 K2b s2b M2b E2b, Jo.qi 1, Jo.qb true] (by kernel_rfl) (by kernel_rfl) (by decide) rfl ?_ ?_
     · refine Jo.jm rfl ?_ ?_; rotate_left
       refine Jo.jm rfl ?_ ?_
       · rintro wj hJ _ rfl K hK; simp only [Jo.z] at hK ⊢; go_simp; refine (nSign a1.top HSN.out).mono ?_; rintro ee wk ⟨rfl, B⟩; exact hK.out _ _ rfl B
       refine Jo.jm rfl ?_ ?_; rotate_left
       refine Jo.jm rfl ?_ ?_
       · rintro wj hJ _ rfl K hK; simp only [Jo.z] at hK ⊢; go_simp; refine (nSign b2.top HSE.out).mono ?_; rintro ee wk ⟨rfl, B⟩; exact hK.out _ _ rfl B
       refine Jo.jm rfl ?_ ?_
       · rintro wj hJ _ rfl _ rfl K hK; simp only [Jo.z] at hK ⊢; go_simp
         exact hK.out _ _ (by first | rfl | (show Value.bool _ = Value.bool _; simp)) (br _ _)
       exact Jo.Steps.nil
       all_goals (rintro wj hJ; (repeat rintro _ rfl); intro K hK; simp only [Jo.z] at hK ⊢; have xX5 := (X5.below hJ).cell; have xX6 := (X6.below hJ).cell; go_simp; exact hK.out _ _ rfl (br _ _))
     rintro w8 hJ _ rfl _ rfl _ rfl _ rfl _ rfl -; simp only [Jo.z]; replace X2 := X2.below hJ; replace X3 := X3.below hJ; replace XR := XR.below hJ; replace X5 := X5.below hJ; replace X6 := X6.below hJ; replace hT := hT.below hJ; replace HB := Hqb HB hJ; refine Jo.jdone (by kernel_rfl) ?_; clear HSN HSE; have xX5 := X5.cell; have xX6 := X6.cell
     go_wp2_with fail
     refine (kDiv hT a1.top b2.top a1.rk b2.rk HQT.out).mono ?_; rintro ee w9 ⟨K8, s8, M8, E8, rfl, q8, B⟩; clear xX5 xX6; replace X2 := X2.below B; replace X3 := X3.below B; replace XR := XR.below B; replace X5 := X5.below B; replace X6 := X6.below B; replace hT := hT.below B; replace HB := Hqb HB B; clear B
     go_wp2_with fail
     refine (nInf (r := 19342822337206103650074625) (s := false) (by decide)).mono ?_; rintro ee wA ⟨K7, s7, M7, E7, rfl, q7, B⟩; replace X2 := X2.below B; replace X3 := X3.below B; replace XR := XR.below B; replace X5 := X5.below B; replace X6 := X6.below B; replace hT := hT.below B; replace HB := Hqb HB B; clear B
     go_wp2_with fail
     refine (kvMake q8.top q7.top q8.rk q7.rk HR.out).mono ?_; rintro ee wB ⟨e9, K9, s9, M9, E9, K9b, s9b, M9b, E9b, rfl, v9, B⟩; replace X2 := X2.below B; replace X3 := X3.below B; replace XR := XR.below B; replace X5 := X5.below B; replace X6 := X6.below B; replace hT := hT.below B; replace HB := Hqb HB B; clear B; clear hT; have xXR := XR.cell
     have zXR0 := XR.frozen; go_wp2; clear xXR zXR0; have SX := StN.mk9 XR (.bool e9) (.int .i64 K9) (.bool s9) (.int .u64 M9) (.int .i64 E9) (.int .i64 K9b) (.bool s9b) (.int .u64 M9b) (.int .i64 E9b); exact bodyPost_ret (by simp [results, Tryz.results103, go_sem, SX.box.cell]) rfl ⟨_, _, _, _, _, _, _, _, _, rfl, v9, (SX.below HB.out (by omega))⟩
   · have hxx := HXX.out; have hr := HR0.out; obtain ⟨hd1, y0⟩ := hd; subst y0; rw [(dvI_up hd1 hxx).2 hp] at hr; obtain ⟨u, hu⟩ : ∃ u, q true xb yb = u := ⟨_, rfl⟩; rw [hu] at hr; have hqt := HQ.out true xb yb; rw [hu] at hqt; have HQT := Lib.hid hqt; have HR := Lib.hid hr
     have HSA : Hid (cmpI (rk K1 s1 M1 E1) 0 = -1) := Lib.hid (by rw [a1.rk]; exact sgn_neg (by omega))
     have HSB : Hid (cmpI (rk K2b s2b M2b E2b) 0 = 1) := Lib.hid (by rw [b2.rk]; exact sgn_pos (by omega))
     have HSN : Hid (cmpI (rk K1b s1b M1b E1b) 0 = -1) := Lib.hid (by rw [b1.rk]; exact sgn_neg (by omega))
     have HSE : Hid (cmpI (rk K2b s2b M2b E2b) 0 = 1) := Lib.hid (by rw [b2.rk]; exact sgn_pos (by omega))
     clear hu hqt hr hxx hd1 hp HXX HR0 HQ; have xX5 := X5.cell
     go_wp2_with fail
     refine (nSign a1.top HSA.out).mono ?_; rintro ee w4 ⟨rfl, B⟩; clear xX5; replace X2 := X2.below B; replace X3 := X3.below B; replace XR := XR.below B; replace X5 := X5.below B; replace X6 := X6.below B; replace hT := hT.below B; replace HB := Hqb HB B; clear B; clear HSA; have xX2 := X2.cell; have xX5 := X5.cell
     have zX50 := X5.frozen
     go_upto_region 4 with (fail)
     clear xX2 xX5 zX50; generalize hS : (((w4.setCell _ _).setCell _ _).setCell _ _).setCell _ _ = w5 at *; have SX := StN.of4 X5 hS; replace X2 := X2.stn SX (by omega); replace X3 := X3.stn SX (by omega); replace XR := XR.stn SX (by omega); replace X6 := X6.stn SX (by omega); replace hT := hT.stn SX (by simp [no8]); replace HB := Hqs HB SX (by omega)
     replace X5 := SX.box; clear SX hS; have xX6 := X6.cell
     go_wp2_with fail
     refine (nSign b2.top HSB.out).mono ?_; rintro ee w6 ⟨rfl, B⟩; clear xX6; replace X2 := X2.below B; replace X3 := X3.below B; replace XR := XR.below B; replace X5 := X5.below B; replace X6 := X6.below B; replace hT := hT.below B; replace HB := Hqb HB B; clear B; clear HSB
     go_upto_region 6 with (fail)
     refine Jo.rk [0, 1, 2, 3, 4] [some 21, some 22, some 23, some 24, some 25] [[], [0], [], [2], [1, 3]] 5 0 [Jo.q4 K1b s1b M1b E1b, Jo.Fact.eq (.int .i64 (-1)), Jo.q4 K2b s2b M2b E2b, Jo.qi 1, Jo.qb false] (by kernel_rfl) (by kernel_rfl) (by decide) rfl ?_ ?_
     · refine Jo.jm rfl ?_ ?_; rotate_left
       refine Jo.jm rfl ?_ ?_
       · rintro wj hJ _ rfl K hK; simp only [Jo.z] at hK ⊢; go_simp; refine (nSign b1.top HSN.out).mono ?_; rintro ee wk ⟨rfl, B⟩; exact hK.out _ _ rfl B
       refine Jo.jm rfl ?_ ?_; rotate_left
       refine Jo.jm rfl ?_ ?_
       · rintro wj hJ _ rfl K hK; simp only [Jo.z] at hK ⊢; go_simp; refine (nSign b2.top HSE.out).mono ?_; rintro ee wk ⟨rfl, B⟩; exact hK.out _ _ rfl B
       refine Jo.jm rfl ?_ ?_
       · rintro wj hJ _ rfl _ rfl K hK; simp only [Jo.z] at hK ⊢; go_simp
         exact hK.out _ _ (by first | rfl | (show Value.bool _ = Value.bool _; simp)) (br _ _)
       exact Jo.Steps.nil
       all_goals (rintro wj hJ; (repeat rintro _ rfl); intro K hK; simp only [Jo.z] at hK ⊢; have xX5 := (X5.below hJ).cell; have xX6 := (X6.below hJ).cell; go_simp; exact hK.out _ _ rfl (br _ _))
     rintro w8 hJ _ rfl _ rfl _ rfl _ rfl _ rfl -; simp only [Jo.z]; replace X2 := X2.below hJ; replace X3 := X3.below hJ; replace XR := XR.below hJ; replace X5 := X5.below hJ; replace X6 := X6.below hJ; replace hT := hT.below hJ; replace HB := Hqb HB hJ; refine Jo.jdone (by kernel_rfl) ?_; clear HSN HSE
     go_upto_region 8 with (fail)
     refine Jo.rk [0, 1, 2, 3, 4] [some 31, some 32, some 33, some 34, some 35, none] [[], [], [], [1, 2], [0, 3], []] 6 1 [Jo.Fact.num (-19342822337206103650074625), Jo.q4 K1b s1b M1b E1b, Jo.q4 K2b s2b M2b E2b, Jo.Fact.num u, Jo.Fact.iv z, Jo.Fact.any] (by kernel_rfl) (by kernel_rfl) (by decide) rfl ?_ ?_
     · refine Jo.jm rfl ?_ ?_
       · rintro wj hJ K hK; simp only [Jo.z] at hK ⊢; go_simp; refine (nInf (r := -19342822337206103650074625) (s := true) (by decide)).mono ?_; rintro ee wk ⟨K7, s7, M7, E7, rfl, q7, B⟩; exact hK.out _ _ ⟨K7, s7, M7, E7, rfl, q7⟩ B
       iterate 2 (refine Jo.jm rfl ?_ ?_; rotate_left)
       refine Jo.jm rfl ?_ ?_
       · rintro wj hJ _ rfl _ rfl K hK; simp only [Jo.z] at hK ⊢; go_simp; refine (kDiv (hT.below hJ) b1.top b2.top b1.rk b2.rk HQT.out).mono ?_; rintro ee wk ⟨K8, s8, M8, E8, rfl, q8, B⟩; exact hK.out _ _ ⟨K8, s8, M8, E8, rfl, q8⟩ B
       refine Jo.jm rfl ?_ ?_
       · rintro wj hJ _ ⟨K7, s7, M7, E7, rfl, q7⟩ _ ⟨K8, s8, M8, E8, rfl, q8⟩ K hK; simp only [Jo.z] at hK ⊢; go_simp; refine (kvMake q7.top q8.top q7.rk q8.rk HR.out).mono ?_; rintro ee wk ⟨e9, K9, s9, M9, E9, K9b, s9b, M9b, E9b, rfl, v9, B⟩; exact hK.out _ _ ⟨e9, K9, s9, M9, E9, K9b, s9b, M9b, E9b, rfl, v9⟩ B
       exact Jo.Steps.nil
       all_goals (rintro wj hJ; (repeat rintro _ rfl); intro K hK; simp only [Jo.z] at hK ⊢; have xX5 := (X5.below hJ).cell; have xX6 := (X6.below hJ).cell; go_simp; exact hK.out _ _ rfl (br _ _))
     rintro w9 hJ _ ⟨K7, s7, M7, E7, rfl, q7⟩ _ rfl _ rfl _ ⟨K8, s8, M8, E8, rfl, q8⟩ _ ⟨e9, K9, s9, M9, E9, K9b, s9b, M9b, E9b, rfl, v9⟩ -; simp only [Jo.z]; replace X2 := X2.below hJ; replace X3 := X3.below hJ; replace XR := XR.below hJ; replace X5 := X5.below hJ; replace X6 := X6.below hJ; replace hT := hT.below hJ; replace HB := Hqb HB hJ; clear hT; have xXR := XR.cell
     have zXR0 := XR.frozen
     refine Jo.jnext (i := 5) (o := ⟨none, _, _, _, _, _⟩) (by kernel_rfl) rfl (fun K hK => ?_)
     go_simp; refine hK.out _ _ ?_; clear hK K xXR zXR0; have SX := StN.mk9 XR (.bool e9) (.int .i64 K9) (.bool s9) (.int .u64 M9) (.int .i64 E9) (.int .i64 K9b) (.bool s9b) (.int .u64 M9b) (.int .i64 E9b); refine Jo.jdone (by kernel_rfl) ?_; go_wp2; exact bodyPost_ret (by simp [results, Tryz.results103, go_sem, SX.box.cell]) rfl ⟨_, _, _, _, _, _, _, _, _, rfl, v9, (SX.below HB.out (by omega))⟩
 · have hd := And.intro hd.1 hd.2
   rcases HPP.out with hp | hp
   · have hxx := HXX.out; have hr := HR0.out; obtain ⟨hd1, y0⟩ := hd; subst y0; rw [(dvI_dn hd1 hxx).1 hp] at hr; obtain ⟨u, hu⟩ : ∃ u, q true xa ya = u := ⟨_, rfl⟩; rw [hu] at hr; have hqt := HQ.out true xa ya; rw [hu] at hqt; have HQT := Lib.hid hqt; have HR := Lib.hid hr
     have HSA : Hid (cmpI (rk K1 s1 M1 E1) 0 = 1) := Lib.hid (by rw [a1.rk]; exact sgn_pos (by omega))
     have HSB : Hid (cmpI (rk K2b s2b M2b E2b) 0 = 0) := Lib.hid (by rw [b2.rk]; exact sgn_nil)
     have HSN : Hid (cmpI (rk K1 s1 M1 E1) 0 = 1) := Lib.hid (by rw [a1.rk]; exact sgn_pos (by omega))
     have HSE : Hid (cmpI (rk K2 s2 M2 E2) 0 = -1) := Lib.hid (by rw [a2.rk]; exact sgn_neg (by omega))
     clear hu hqt hr hxx hd1 hp HXX HR0 HQ; have xX5 := X5.cell
     go_wp2_with fail
     refine (nSign a1.top HSA.out).mono ?_; rintro ee w4 ⟨rfl, B⟩; clear xX5; replace X2 := X2.below B; replace X3 := X3.below B; replace XR := XR.below B; replace X5 := X5.below B; replace X6 := X6.below B; replace hT := hT.below B; replace HB := Hqb HB B; clear B; clear HSA; have xX6 := X6.cell
     go_wp2_with fail
     refine (nSign b2.top HSB.out).mono ?_; rintro ee w6 ⟨rfl, B⟩; clear xX6; replace X2 := X2.below B; replace X3 := X3.below B; replace XR := XR.below B; replace X5 := X5.below B; replace X6 := X6.below B; replace hT := hT.below B; replace HB := Hqb HB B; clear B; clear HSB; have xX3 := X3.cell; have xX6 := X6.cell
     have zX60 := X6.frozen
     go_upto_region 6 with (fail)
     clear xX3 xX6 zX60; generalize hS : (((w6.setCell _ _).setCell _ _).setCell _ _).setCell _ _ = w7 at *; have SX := StN.of4 X6 hS; replace X2 := X2.stn SX (by omega); replace X3 := X3.stn SX (by omega); replace XR := XR.stn SX (by omega); replace X5 := X5.stn SX (by omega); replace hT := hT.stn SX (by simp [no8]); replace HB := Hqs HB SX (by omega)
     replace X6 := SX.box; clear SX hS; refine Jo.rk [0, 1, 2, 3, 4] [some 21, some 22, some 23, some 24, some 25] [[], [0], [], [2], [1, 3]] 5 0 [Jo.q4 K1 s1 M1 E1, Jo.qi 1, Jo.q4 K2 s2 M2 E2, Jo.Fact.eq (.int .i64 (-1)), Jo.qb false] (by kernel_rfl) (by kernel_rfl) (by decide) rfl ?_ ?_
     · refine Jo.jm rfl ?_ ?_; rotate_left
       refine Jo.jm rfl ?_ ?_
       · rintro wj hJ _ rfl K hK; simp only [Jo.z] at hK ⊢; go_simp; refine (nSign a1.top HSN.out).mono ?_; rintro ee wk ⟨rfl, B⟩; exact hK.out _ _ rfl B
       refine Jo.jm rfl ?_ ?_; rotate_left
       refine Jo.jm rfl ?_ ?_
       · rintro wj hJ _ rfl K hK; simp only [Jo.z] at hK ⊢; go_simp; refine (nSign a2.top HSE.out).mono ?_; rintro ee wk ⟨rfl, B⟩; exact hK.out _ _ rfl B
       refine Jo.jm rfl ?_ ?_
       · rintro wj hJ _ rfl _ rfl K hK; simp only [Jo.z] at hK ⊢; go_simp
         exact hK.out _ _ (by first | rfl | (show Value.bool _ = Value.bool _; simp)) (br _ _)
       exact Jo.Steps.nil
       all_goals (rintro wj hJ; (repeat rintro _ rfl); intro K hK; simp only [Jo.z] at hK ⊢; have xX5 := (X5.below hJ).cell; have xX6 := (X6.below hJ).cell; go_simp; exact hK.out _ _ rfl (br _ _))
     rintro w8 hJ _ rfl _ rfl _ rfl _ rfl _ rfl -; simp only [Jo.z]; replace X2 := X2.below hJ; replace X3 := X3.below hJ; replace XR := XR.below hJ; replace X5 := X5.below hJ; replace X6 := X6.below hJ; replace hT := hT.below hJ; replace HB := Hqb HB hJ; refine Jo.jdone (by kernel_rfl) ?_; clear HSN HSE
     go_upto_region 8 with (fail)
     refine Jo.rk [0, 1, 2, 3, 4] [some 31, some 32, some 33, some 34, some 35, none] [[], [], [], [1, 2], [0, 3], []] 6 1 [Jo.Fact.num (-19342822337206103650074625), Jo.q4 K1 s1 M1 E1, Jo.q4 K2 s2 M2 E2, Jo.Fact.num u, Jo.Fact.iv z, Jo.Fact.any] (by kernel_rfl) (by kernel_rfl) (by decide) rfl ?_ ?_
     · refine Jo.jm rfl ?_ ?_
       · rintro wj hJ K hK; simp only [Jo.z] at hK ⊢; go_simp; refine (nInf (r := -19342822337206103650074625) (s := true) (by decide)).mono ?_; rintro ee wk ⟨K7, s7, M7, E7, rfl, q7, B⟩; exact hK.out _ _ ⟨K7, s7, M7, E7, rfl, q7⟩ B
       iterate 2 (refine Jo.jm rfl ?_ ?_; rotate_left)
       refine Jo.jm rfl ?_ ?_
       · rintro wj hJ _ rfl _ rfl K hK; simp only [Jo.z] at hK ⊢; go_simp; refine (kDiv (hT.below hJ) a1.top a2.top a1.rk a2.rk HQT.out).mono ?_; rintro ee wk ⟨K8, s8, M8, E8, rfl, q8, B⟩; exact hK.out _ _ ⟨K8, s8, M8, E8, rfl, q8⟩ B
       refine Jo.jm rfl ?_ ?_
       · rintro wj hJ _ ⟨K7, s7, M7, E7, rfl, q7⟩ _ ⟨K8, s8, M8, E8, rfl, q8⟩ K hK; simp only [Jo.z] at hK ⊢; go_simp; refine (kvMake q7.top q8.top q7.rk q8.rk HR.out).mono ?_; rintro ee wk ⟨e9, K9, s9, M9, E9, K9b, s9b, M9b, E9b, rfl, v9, B⟩; exact hK.out _ _ ⟨e9, K9, s9, M9, E9, K9b, s9b, M9b, E9b, rfl, v9⟩ B
       exact Jo.Steps.nil
       all_goals (rintro wj hJ; (repeat rintro _ rfl); intro K hK; simp only [Jo.z] at hK ⊢; have xX5 := (X5.below hJ).cell; have xX6 := (X6.below hJ).cell; go_simp; exact hK.out _ _ rfl (br _ _))
     rintro w9 hJ _ ⟨K7, s7, M7, E7, rfl, q7⟩ _ rfl _ rfl _ ⟨K8, s8, M8, E8, rfl, q8⟩ _ ⟨e9, K9, s9, M9, E9, K9b, s9b, M9b, E9b, rfl, v9⟩ -; simp only [Jo.z]; replace X2 := X2.below hJ; replace X3 := X3.below hJ; replace XR := XR.below hJ; replace X5 := X5.below hJ; replace X6 := X6.below hJ; replace hT := hT.below hJ; replace HB := Hqb HB hJ; clear hT; have xXR := XR.cell
     have zXR0 := XR.frozen
     refine Jo.jnext (i := 5) (o := ⟨none, _, _, _, _, _⟩) (by kernel_rfl) rfl (fun K hK => ?_)
     go_simp; refine hK.out _ _ ?_; clear hK K xXR zXR0; have SX := StN.mk9 XR (.bool e9) (.int .i64 K9) (.bool s9) (.int .u64 M9) (.int .i64 E9) (.int .i64 K9b) (.bool s9b) (.int .u64 M9b) (.int .i64 E9b); refine Jo.jdone (by kernel_rfl) ?_; go_wp2; exact bodyPost_ret (by simp [results, Tryz.results103, go_sem, SX.box.cell]) rfl ⟨_, _, _, _, _, _, _, _, _, rfl, v9, (SX.below HB.out (by omega))⟩
   · have hxx := HXX.out; have hr := HR0.out; obtain ⟨hd1, y0⟩ := hd; subst y0; rw [(dvI_dn hd1 hxx).2 hp] at hr; obtain ⟨u, hu⟩ : ∃ u, q false xb ya = u := ⟨_, rfl⟩; rw [hu] at hr; have hqt := HQ.out false xb ya; rw [hu] at hqt; have HQT := Lib.hid hqt; have HR := Lib.hid hr
     have HSA : Hid (cmpI (rk K1 s1 M1 E1) 0 = -1) := Lib.hid (by rw [a1.rk]; exact sgn_neg (by omega))
     have HSB : Hid (cmpI (rk K2b s2b M2b E2b) 0 = 0) := Lib.hid (by rw [b2.rk]; exact sgn_nil)
     have HSN : Hid (cmpI (rk K1b s1b M1b E1b) 0 = -1) := Lib.hid (by rw [b1.rk]; exact sgn_neg (by omega))
     have HSE : Hid (cmpI (rk K2 s2 M2 E2) 0 = -1) := Lib.hid (by rw [a2.rk]; exact sgn_neg (by omega))
     clear hu hqt hr hxx hd1 hp HXX HR0 HQ; have xX5 := X5.cell
     go_wp2_with fail
     refine (nSign a1.top HSA.out).mono ?_; rintro ee w4 ⟨rfl, B⟩; clear xX5; replace X2 := X2.below B; replace X3 := X3.below B; replace XR := XR.below B; replace X5 := X5.below B; replace X6 := X6.below B; replace hT := hT.below B; replace HB := Hqb HB B; clear B; clear HSA; have xX2 := X2.cell; have xX5 := X5.cell
     have zX50 := X5.frozen
     go_upto_region 4 with (fail)
     clear xX2 xX5 zX50; generalize hS : (((w4.setCell _ _).setCell _ _).setCell _ _).setCell _ _ = w5 at *; have SX := StN.of4 X5 hS; replace X2 := X2.stn SX (by omega); replace X3 := X3.stn SX (by omega); replace XR := XR.stn SX (by omega); replace X6 := X6.stn SX (by omega); replace hT := hT.stn SX (by simp [no8]); replace HB := Hqs HB SX (by omega)
     replace X5 := SX.box; clear SX hS; have xX6 := X6.cell
     go_wp2_with fail
     refine (nSign b2.top HSB.out).mono ?_; rintro ee w6 ⟨rfl, B⟩; clear xX6; replace X2 := X2.below B; replace X3 := X3.below B; replace XR := XR.below B; replace X5 := X5.below B; replace X6 := X6.below B; replace hT := hT.below B; replace HB := Hqb HB B; clear B; clear HSB; have xX3 := X3.cell; have xX6 := X6.cell
     have zX60 := X6.frozen
     go_upto_region 6 with (fail)
     clear xX3 xX6 zX60; generalize hS : (((w6.setCell _ _).setCell _ _).setCell _ _).setCell _ _ = w7 at *; have SX := StN.of4 X6 hS; replace X2 := X2.stn SX (by omega); replace X3 := X3.stn SX (by omega); replace XR := XR.stn SX (by omega); replace X5 := X5.stn SX (by omega); replace hT := hT.stn SX (by simp [no8]); replace HB := Hqs HB SX (by omega)
     replace X6 := SX.box; clear SX hS; refine Jo.rk [0, 1, 2, 3, 4] [some 21, some 22, some 23, some 24, some 25] [[], [0], [], [2], [1, 3]] 5 0 [Jo.q4 K1b s1b M1b E1b, Jo.Fact.eq (.int .i64 (-1)), Jo.q4 K2 s2 M2 E2, Jo.Fact.eq (.int .i64 (-1)), Jo.qb true] (by kernel_rfl) (by kernel_rfl) (by decide) rfl ?_ ?_
     · refine Jo.jm rfl ?_ ?_; rotate_left
       refine Jo.jm rfl ?_ ?_
       · rintro wj hJ _ rfl K hK; simp only [Jo.z] at hK ⊢; go_simp; refine (nSign b1.top HSN.out).mono ?_; rintro ee wk ⟨rfl, B⟩; exact hK.out _ _ rfl B
       refine Jo.jm rfl ?_ ?_; rotate_left
       refine Jo.jm rfl ?_ ?_
       · rintro wj hJ _ rfl K hK; simp only [Jo.z] at hK ⊢; go_simp; refine (nSign a2.top HSE.out).mono ?_; rintro ee wk ⟨rfl, B⟩; exact hK.out _ _ rfl B
       refine Jo.jm rfl ?_ ?_
       · rintro wj hJ _ rfl _ rfl K hK; simp only [Jo.z] at hK ⊢; go_simp
         exact hK.out _ _ (by first | rfl | (show Value.bool _ = Value.bool _; simp)) (br _ _)
       exact Jo.Steps.nil
       all_goals (rintro wj hJ; (repeat rintro _ rfl); intro K hK; simp only [Jo.z] at hK ⊢; have xX5 := (X5.below hJ).cell; have xX6 := (X6.below hJ).cell; go_simp; exact hK.out _ _ rfl (br _ _))
     rintro w8 hJ _ rfl _ rfl _ rfl _ rfl _ rfl -; simp only [Jo.z]; replace X2 := X2.below hJ; replace X3 := X3.below hJ; replace XR := XR.below hJ; replace X5 := X5.below hJ; replace X6 := X6.below hJ; replace hT := hT.below hJ; replace HB := Hqb HB hJ; refine Jo.jdone (by kernel_rfl) ?_; clear HSN HSE; have xX5 := X5.cell; have xX6 := X6.cell
     go_wp2_with fail
     refine (kDiv hT b1.top a2.top b1.rk a2.rk HQT.out).mono ?_; rintro ee w9 ⟨K8, s8, M8, E8, rfl, q8, B⟩; clear xX5 xX6; replace X2 := X2.below B; replace X3 := X3.below B; replace XR := XR.below B; replace X5 := X5.below B; replace X6 := X6.below B; replace hT := hT.below B; replace HB := Hqb HB B; clear B
     go_wp2_with fail
     refine (nInf (r := 19342822337206103650074625) (s := false) (by decide)).mono ?_; rintro ee wA ⟨K7, s7, M7, E7, rfl, q7, B⟩; replace X2 := X2.below B; replace X3 := X3.below B; replace XR := XR.below B; replace X5 := X5.below B; replace X6 := X6.below B; replace hT := hT.below B; replace HB := Hqb HB B; clear B
     go_wp2_with fail
     refine (kvMake q8.top q7.top q8.rk q7.rk HR.out).mono ?_; rintro ee wB ⟨e9, K9, s9, M9, E9, K9b, s9b, M9b, E9b, rfl, v9, B⟩; replace X2 := X2.below B; replace X3 := X3.below B; replace XR := XR.below B; replace X5 := X5.below B; replace X6 := X6.below B; replace hT := hT.below B; replace HB := Hqb HB B; clear B; clear hT; have xXR := XR.cell
     have zXR0 := XR.frozen; go_wp2; clear xXR zXR0; have SX := StN.mk9 XR (.bool e9) (.int .i64 K9) (.bool s9) (.int .u64 M9) (.int .i64 E9) (.int .i64 K9b) (.bool s9b) (.int .u64 M9b) (.int .i64 E9b); exact bodyPost_ret (by simp [results, Tryz.results103, go_sem, SX.box.cell]) rfl ⟨_, _, _, _, _, _, _, _, _, rfl, v9, (SX.below HB.out (by omega))⟩
theorem kvPoint0 {w : World} : Calls Tryz.prog 28 #[VQ 0 false 0 0] w (fun e w' => e = .returned (.agg #[.bool false, .int .i64 0, .bool false, .int .u64 0, .int .i64 0, .int .i64 0, .bool false, .int .u64 0, .int .i64 0]) ∧ Below w.heap.size w w') := by
 delta VQ
 refine (kvPoint (x := some (0, 0)) (by decide) Fq.nought.rk (by decide)).mono ?_; rintro ee w2 ⟨e1, K1, s1, M1, E1, K1b, s1b, M1b, E1b, rfl, v1, B⟩; obtain ⟨rfl, rfl, rfl, rfl, rfl, rfl, rfl, rfl, rfl⟩ := v1.uniq ci_zero; exact ⟨rfl, B⟩
theorem opq_div {q : Bool → Int → Int → Int} (hq : QF q) : OpQ 101 q true := ⟨fun _ _ => by first | rfl | kernel_rfl | simp [callFunc, go_sem], fun _ _ _ _ _ _ _ _ _ up x y r hI hM hM' hx hy hr => kDiv (hI rfl) hM hM' hx hy (by rw [← hr]; exact hq up x y)⟩
theorem fkDiv {w : World} {e : Bool} {D M E D' M' E' : Int} {s s' : Bool} {e2 : Bool} {G P Q G' P' Q' : Int} {g g' : Bool} {x y z : Sp} {q : Bool → Int → Int → Int} (hT : Tab w) (hq : QF q) (hM : LQ M) (hM' : LQ M') (hP : LQ P) (hP' : LQ P') (hx : rkI e D s M E D' s' M' E' = x) (hy : rkI e2 G g P Q G' g' P' Q' = y) (hr : divI q x y = z) : Calls Tryz.prog 73 #[VI e D s M E D' s' M' E', VI e2 G g P Q G' g' P' Q'] w (PV w z) := by
 delta VI
 obtain ⟨p, hp⟩ : ∃ p, gone [x, y] = p := ⟨_, rfl⟩; have HP := Lib.hid hp; have HX := Lib.hid hx; have HY := Lib.hid hy; have HQ := Lib.hid hq
 have HZ : Hid (sgi (decide ((0 : Int) < 0)) (lo (0 : Int).natAbs 0) = 0) := Lib.hid rfl
 clear hx hy hp hq
 go_enter Tryz.func73, Tryz.ntmps73
 go_upto_region 1 with (fail)
 generalize hW1 : ((w.alloc _).alloc _).alloc _ = w1 at *; obtain ⟨X2, X3, XR, HB⟩ := Bo.en3 hW1; replace hT := hT.below HB.out; clear hW1
 go_wp2_with fail
 refine (nOf _ (by decide) (by decide) HZ.out).mono ?_; rintro ee w2 ⟨K5, s5, M5, E5, rfl, q5, B⟩; replace X2 := X2.below B; replace X3 := X3.below B; replace XR := XR.below B; replace hT := hT.below B; replace HB := Hqb HB B; clear B; obtain ⟨rfl, rfl, rfl, rfl⟩ := q5.uniq Fq.nought; clear q5 HZ
 go_upto_region 2 with (fail)
 have lX5 := Nat.le_refl (World.heap w2).size; have nX5X2 := X2.lt; have nX5X3 := X3.lt; have nX5XR := XR.lt; generalize hWn : w2.alloc _ = w3 at *; obtain ⟨X5, BW⟩ := Bo.nw hWn; clear hWn; replace X2 := X2.below BW; replace X3 := X3.below BW; replace XR := XR.below BW; replace hT := hT.below BW; replace HB := Hqb HB BW; clear BW; clear lX5
 rcases x with _ | ⟨xa, xb⟩
 · obtain rfl : true = p := HP.out
   replace hr : none = z := hr
   refine Jo.rk [0, 1, 2, 3, 4, 5, 6, 7, 8, 9, 10] [some 8, some 9, some 10, some 11, some 12, some 13, some 14, some 15, some 16, some 17, some 7] [[], [], [0, 1], [2], [3], [4], [4], [4, 6], [4, 5, 7], [4, 8], [9]] 11 0 [Jo.q9 e D s M E D' s' M' E', Jo.q9 e2 G g P Q G' g' P' Q', Jo.Fact.il8 2 [none, y], Jo.qb true, Jo.qb true, Jo.qu, Jo.qu, Jo.qu, Jo.qu, Jo.qb true, Jo.qb true] (by kernel_rfl) (by kernel_rfl) (by decide) rfl ?_ ?_
   · iterate 2 (refine Jo.jm rfl ?_ ?_; rotate_left)
     refine Jo.jm rfl ?_ ?_
     · rintro wj hJ _ rfl _ rfl K hK; simp only [Jo.z] at hK ⊢; go_simp; exact hK.out _ _ ⟨_, 2, rfl, Il8.lit2 rfl ⟨hM, hM', HX.out⟩ ⟨hP, hP', HY.out⟩⟩ (bel1 _ _)
     refine Jo.jm rfl ?_ ?_
     · rintro wj hJ _ ⟨A2, c2, rfl, h2⟩ K hK; simp only [Jo.z] at hK ⊢; go_simp; refine (fkEmpty h2 HP.out).mono ?_; rintro ee wk ⟨rfl, B⟩; exact hK.out _ _ rfl B
     iterate 7 (refine Jo.jm rfl ?_ ?_; rotate_left)
     exact Jo.Steps.nil
     all_goals (rintro wj hJ; (repeat rintro _ rfl); intro K hK; simp only [Jo.z] at hK ⊢; have xX2 := (X2.below hJ).cell; have xX3 := (X3.below hJ).cell; go_simp; exact hK.out _ _ rfl (br _ _))
   rintro w4 hJ _ rfl _ rfl _ ⟨_, _, rfl, _⟩ _ rfl _ rfl _ rfl _ rfl _ rfl _ rfl _ rfl _ rfl -; simp only [Jo.z]; replace X2 := X2.below hJ; replace X3 := X3.below hJ; replace XR := XR.below hJ; replace X5 := X5.below hJ; replace hT := hT.below hJ; replace HB := Hqb HB hJ; refine Jo.jdone (by kernel_rfl) ?_
   obtain rfl : none = z := hr
   clear hT
   go_wp2_with fail
   refine (kvNoneE).mono ?_; rintro ee w8 ⟨rfl, B⟩; replace X2 := X2.below B; replace X3 := X3.below B; replace XR := XR.below B; replace X5 := X5.below B; replace HB := Hqb HB B; clear B; have xXR := XR.cell; have zXR0 := XR.frozen; go_wp2; clear xXR zXR0; have SX := StN.mk9 XR (.bool true) (.int .i64 0) (.bool false) (.int .u64 0) (.int .i64 0) (.int .i64 0) (.bool false) (.int .u64 0) (.int .i64 0)
   exact bodyPost_ret (by simp [results, Tryz.results73, go_sem, SX.box.cell]) rfl ⟨_, _, _, _, _, _, _, _, _, rfl, Ci.none, (SX.below HB.out (by omega))⟩
 · rcases y with _ | ⟨ya, yb⟩
   · obtain rfl : true = p := HP.out
     replace hr : none = z := hr
     refine Jo.rk [0, 1, 2, 3, 4, 5, 6, 7, 8, 9, 10] [some 8, some 9, some 10, some 11, some 12, some 13, some 14, some 15, some 16, some 17, some 7] [[], [], [0, 1], [2], [3], [4], [4], [4, 6], [4, 5, 7], [4, 8], [9]] 11 0 [Jo.q9 e D s M E D' s' M' E', Jo.q9 e2 G g P Q G' g' P' Q', Jo.Fact.il8 2 [(some (xa, xb)), none], Jo.qb true, Jo.qb true, Jo.qu, Jo.qu, Jo.qu, Jo.qu, Jo.qb true, Jo.qb true] (by kernel_rfl) (by kernel_rfl) (by decide) rfl ?_ ?_
     · iterate 2 (refine Jo.jm rfl ?_ ?_; rotate_left)
       refine Jo.jm rfl ?_ ?_
       · rintro wj hJ _ rfl _ rfl K hK; simp only [Jo.z] at hK ⊢; go_simp; exact hK.out _ _ ⟨_, 2, rfl, Il8.lit2 rfl ⟨hM, hM', HX.out⟩ ⟨hP, hP', HY.out⟩⟩ (bel1 _ _)
       refine Jo.jm rfl ?_ ?_
       · rintro wj hJ _ ⟨A2, c2, rfl, h2⟩ K hK; simp only [Jo.z] at hK ⊢; go_simp; refine (fkEmpty h2 HP.out).mono ?_; rintro ee wk ⟨rfl, B⟩; exact hK.out _ _ rfl B
       iterate 7 (refine Jo.jm rfl ?_ ?_; rotate_left)
       exact Jo.Steps.nil
       all_goals (rintro wj hJ; (repeat rintro _ rfl); intro K hK; simp only [Jo.z] at hK ⊢; have xX2 := (X2.below hJ).cell; have xX3 := (X3.below hJ).cell; go_simp; exact hK.out _ _ rfl (br _ _))
     rintro w4 hJ _ rfl _ rfl _ ⟨_, _, rfl, _⟩ _ rfl _ rfl _ rfl _ rfl _ rfl _ rfl _ rfl _ rfl -; simp only [Jo.z]; replace X2 := X2.below hJ; replace X3 := X3.below hJ; replace XR := XR.below hJ; replace X5 := X5.below hJ; replace hT := hT.below hJ; replace HB := Hqb HB hJ; refine Jo.jdone (by kernel_rfl) ?_
     obtain rfl : none = z := hr
     clear hT
     go_wp2_with fail
     refine (kvNoneE).mono ?_; rintro ee w8 ⟨rfl, B⟩; replace X2 := X2.below B; replace X3 := X3.below B; replace XR := XR.below B; replace X5 := X5.below B; replace HB := Hqb HB B; clear B; have xXR := XR.cell; have zXR0 := XR.frozen; go_wp2; clear xXR zXR0; have SX := StN.mk9 XR (.bool true) (.int .i64 0) (.bool false) (.int .u64 0) (.int .i64 0) (.int .i64 0) (.bool false) (.int .u64 0) (.int .i64 0)
     exact bodyPost_ret (by simp [results, Tryz.results73, go_sem, SX.box.cell]) rfl ⟨_, _, _, _, _, _, _, _, _, rfl, Ci.none, (SX.below HB.out (by omega))⟩
   · obtain rfl : false = p := HP.out
     have w1' := ci_some hM hM' HX.out
     have w2' := ci_some hP hP' HY.out
     obtain ⟨rfl, a1, b1, o1, o1l, o1h⟩ := w1'; obtain ⟨rfl, a2, b2, o2, o2l, o2h⟩ := w2'
     have v1 : Ci false D s M E D' s' M' E' (some (xa, xb)) := ⟨rfl, a1, b1, o1, o1l, o1h⟩
     have v2 : Ci false G g P Q G' g' P' Q' (some (ya, yb)) := ⟨rfl, a2, b2, o2, o2l, o2h⟩
     clear HP HX HY
     have hx1 : SpOk (some (xa, xb)) := v1.ok
     have hy1 : SpOk (some (ya, yb)) := v2.ok
     have HPF : Hid (gone [some (xa, xb), some (ya, yb)] = false) := Lib.hid rfl
     clear o1 o1l o1h o2 o2l o2h
     by_cases hz : ya = 0 ∧ yb = 0
     · obtain ⟨rfl, rfl⟩ := hz; rw [dvI_zero ⟨rfl, rfl⟩] at hr; obtain ⟨_, rfl, rfl, rfl, rfl, rfl, rfl, rfl, rfl⟩ := v2.uniq ci_zero; clear a2 b2; refine Jo.rk [0, 1, 2, 3, 4, 5, 6, 7, 8, 9, 10] [some 8, some 9, some 10, some 11, some 12, some 13, some 14, some 15, some 16, some 17, some 7] [[], [], [0, 1], [2], [3], [4], [4], [4, 6], [4, 5, 7], [4, 8], [9]] 11 0 [Jo.q9 false D s M E D' s' M' E', Jo.q9 false 0 false 0 0 0 false 0 0, Jo.Fact.il8 2 [(some (xa, xb)), (some (0, 0))], Jo.qb false, Jo.qb false, Jo.q9 false 0 false 0 0 0 false 0 0, Jo.q4 0 false 0 0, Jo.q9 false 0 false 0 0 0 false 0 0, Jo.qb true, Jo.qb true, Jo.qb true] (by kernel_rfl) (by kernel_rfl) (by decide) rfl ?_ ?_
       · iterate 2 (refine Jo.jm rfl ?_ ?_; rotate_left)
         refine Jo.jm rfl ?_ ?_
         · rintro wj hJ _ rfl _ rfl K hK; simp only [Jo.z] at hK ⊢; go_simp; exact hK.out _ _ ⟨_, 2, rfl, Il8.lit2 rfl v1.rw v2.rw⟩ (bel1 _ _)
         refine Jo.jm rfl ?_ ?_
         · rintro wj hJ _ ⟨A2, c2, rfl, h2⟩ K hK; simp only [Jo.z] at hK ⊢; go_simp; refine (fkEmpty h2 HPF.out).mono ?_; rintro ee wk ⟨rfl, B⟩; exact hK.out _ _ rfl B
         iterate 3 (refine Jo.jm rfl ?_ ?_; rotate_left)
         refine Jo.jm rfl ?_ ?_
         · rintro wj hJ _ rfl _ rfl K hK; simp only [Jo.z] at hK ⊢; go_simp; refine (kvPoint0).mono ?_; rintro ee wk ⟨rfl, B⟩; exact hK.out _ _ rfl B
         refine Jo.jm rfl ?_ ?_
         · rintro wj hJ _ rfl _ rfl _ rfl K hK; simp only [Jo.z] at hK ⊢; go_simp
           repeat' split
           all_goals exact hK.out _ _ (congrArg Value.bool (by first | rfl | (exfalso; simp_all) | simp_all)) (br _ _)
         iterate 2 (refine Jo.jm rfl ?_ ?_; rotate_left)
         exact Jo.Steps.nil
         all_goals (rintro wj hJ; (repeat rintro _ rfl); intro K hK; simp only [Jo.z] at hK ⊢; have xX2 := (X2.below hJ).cell; have xX3 := (X3.below hJ).cell; have xX5 := (X5.below hJ).cell; go_simp; exact hK.out _ _ rfl (br _ _))
       rintro w4 hJ _ rfl _ rfl _ ⟨_, _, rfl, _⟩ _ rfl _ rfl _ rfl _ rfl _ rfl _ rfl _ rfl _ rfl -; simp only [Jo.z]; replace X2 := X2.below hJ; replace X3 := X3.below hJ; replace XR := XR.below hJ; replace X5 := X5.below hJ; replace hT := hT.below hJ; replace HB := Hqb HB hJ; refine Jo.jdone (by kernel_rfl) ?_
       obtain rfl : none = z := hr
       clear hT
       go_wp2_with fail
       refine (kvNoneE).mono ?_; rintro ee w8 ⟨rfl, B⟩; replace X2 := X2.below B; replace X3 := X3.below B; replace XR := XR.below B; replace X5 := X5.below B; replace HB := Hqb HB B; clear B; have xXR := XR.cell; have zXR0 := XR.frozen; go_wp2; clear xXR zXR0; have SX := StN.mk9 XR (.bool true) (.int .i64 0) (.bool false) (.int .u64 0) (.int .i64 0) (.int .i64 0) (.bool false) (.int .u64 0) (.int .i64 0)
       exact bodyPost_ret (by simp [results, Tryz.results73, go_sem, SX.box.cell]) rfl ⟨_, _, _, _, _, _, _, _, _, rfl, Ci.none, (SX.below HB.out (by omega))⟩
     · have hne : G = 0 → g = false → P = 0 → Q = 0 → G' = 0 → g' = false → P' = 0 → ¬ Q' = 0 := by
         rintro rfl rfl rfl rfl rfl rfl rfl rfl; have e := v2.fn ci_zero
         injection e with e
         injection e with e1 e2
         exact hz ⟨e1, e2⟩
       have HNE := Lib.hid hne; clear hne
       refine Jo.region_joint (T := [0, 1, 2, 3, 4, 5, 6, 7, 8, 9, 10]) (ds := [some 8, some 9, some 10, some 11, some 12, some 13, some 14, some 15, some 16, some 17, some 7]) (ls := [[], [], [0, 1], [2], [3], [4], [4], [4, 6], [4, 5, 7], [4, 8], [9]]) (k := 11) (L := [(some 8, 0), (some 9, 1), (some 10, 2), (some 11, 3), (some 12, 4), (some 13, 5), (some 14, 6), (some 15, 7), (some 16, 8), (some 17, 9), (some 7, 10)]) (fuel := 0) (J := fun wj => Below (World.heap w3).size w3 wj)
         (F := [Jo.q9 false D s M E D' s' M' E', Jo.q9 false G g P Q G' g' P' Q', Jo.Fact.il8 2 [(some (xa, xb)), (some (ya, yb))], Jo.qb false, Jo.qb false, Jo.q9 false G g P Q G' g' P' Q', Jo.q4 0 false 0 0, Jo.q9 false 0 false 0 0 0 false 0 0, Jo.qb false, Jo.qb false, Jo.qb false])
         (by kernel_rfl) (by kernel_rfl) (by decide) rfl rfl (fun _ _ h b => bt h b) ((br _ _).drew) ?_ (fun vs w4 hJ hd => ?_)
       · iterate 2 (refine Jo.jm rfl ?_ ?_; rotate_left)
         refine Jo.jm rfl ?_ ?_
         · rintro wj hJ _ rfl _ rfl K hK; simp only [Jo.z] at hK ⊢; go_simp; exact hK.out _ _ ⟨_, 2, rfl, Il8.lit2 rfl v1.rw v2.rw⟩ (bel1 _ _)
         refine Jo.jm rfl ?_ ?_
         · rintro wj hJ _ ⟨A2, c2, rfl, h2⟩ K hK; simp only [Jo.z] at hK ⊢; go_simp; refine (fkEmpty h2 HPF.out).mono ?_; rintro ee wk ⟨rfl, B⟩; exact hK.out _ _ rfl B
         iterate 3 (refine Jo.jm rfl ?_ ?_; rotate_left)
         refine Jo.jm rfl ?_ ?_
         · rintro wj hJ _ rfl _ rfl K hK; simp only [Jo.z] at hK ⊢; go_simp; refine (kvPoint0).mono ?_; rintro ee wk ⟨rfl, B⟩; exact hK.out _ _ rfl B
         refine Jo.jm rfl ?_ ?_
         · rintro wj hJ _ rfl _ rfl _ rfl K hK; simp only [Jo.z] at hK ⊢; have hne := HNE.out; go_simp
           repeat' split
           all_goals exact hK.out _ _ (congrArg Value.bool (by first | rfl | (exfalso; simp_all))) (br _ _)
         iterate 2 (refine Jo.jm rfl ?_ ?_; rotate_left)
         exact Jo.Steps.nil
         all_goals (rintro wj hJ; (repeat rintro _ rfl); intro K hK; simp only [Jo.z] at hK ⊢; have xX2 := (X2.below hJ).cell; have xX3 := (X3.below hJ).cell; have xX5 := (X5.below hJ).cell; go_simp; exact hK.out _ _ rfl (br _ _))
       have d2 : (Jo.Fact.il8 2 [(some (xa, xb)), (some (ya, yb))]).P (vs 2) w4 := hd 2 (by decide)
       simp only [Jo.putl, Jo.zd, Jo.ze, Act.put, Jo.za, Jo.zb, Jo.zc]
       rw [show vs 0 = _ from hd 0 (by decide), show vs 1 = _ from hd 1 (by decide), show vs 3 = _ from hd 3 (by decide), show vs 4 = _ from hd 4 (by decide), show vs 5 = _ from hd 5 (by decide), show vs 6 = _ from hd 6 (by decide), show vs 7 = _ from hd 7 (by decide), show vs 8 = _ from hd 8 (by decide), show vs 9 = _ from hd 9 (by decide), show vs 10 = _ from hd 10 (by decide)]
       clear hd; generalize vs 2 = u2 at d2 ⊢; obtain ⟨_, _, rfl, _⟩ := d2; replace X2 := X2.below hJ; replace X3 := X3.below hJ; replace XR := XR.below hJ; replace X5 := X5.below hJ; replace hT := hT.below hJ; replace HB := Hqb HB hJ; refine Jo.jdone (by kernel_rfl) ?_; clear HNE HPF; obtain ⟨zb, hzb⟩ : ∃ zb, hasI (some (ya, yb)) 0 = zb := ⟨_, rfl⟩; have HZB := Lib.hid hzb; rw [has_zero] at hzb
       have xX3 := X3.cell; have xX5 := X5.cell
       go_wp2_with fail
       refine (kvHas v2.top.1 v2.top.2 (by decide) v2.rk Fq.nought.rk HZB.out).mono ?_; rintro ee w5 ⟨rfl, B⟩; clear xX3 xX5; replace X2 := X2.below B; replace X3 := X3.below B; replace XR := XR.below B; replace X5 := X5.below B; replace hT := hT.below B; replace HB := Hqb HB B; clear B; clear HZB
       rcases Classical.em (ya ≤ 0 ∧ 0 ≤ yb) with hc | hc
       · obtain rfl : true = zb := by rw [← hzb]; simp; omega
         clear hzb; obtain ⟨zi, hzi⟩ : ∃ zi, hasI (some (xa, xb)) 0 = zi := ⟨_, rfl⟩; have HZI := Lib.hid hzi; rw [has_zero] at hzi; have xX2 := X2.cell; have xX5 := X5.cell
         go_wp2_with fail
         refine (kvHas v1.top.1 v1.top.2 (by decide) v1.rk Fq.nought.rk HZI.out).mono ?_; rintro ee w6 ⟨rfl, B⟩; clear xX2 xX5; replace X2 := X2.below B; replace X3 := X3.below B; replace XR := XR.below B; replace X5 := X5.below B; replace hT := hT.below B; replace HB := Hqb HB B; clear B
         by_cases hin : xa ≤ 0 ∧ 0 ≤ xb
         · obtain rfl : true = zi := by rw [← hzi]; simp; omega
           have hw : (xa ≤ 0 ∧ 0 ≤ xb) ∨ (ya < 0 ∧ 0 < yb) := .inl hin
           clear hzi
           obtain rfl : allI = z := by rw [← hr, dvI_all hz hc hw]
           clear hT
           go_wp2_with fail
           refine (kvAll).mono ?_; rintro ee w9 ⟨e9, K9, s9, M9, E9, K9b, s9b, M9b, E9b, rfl, v9, B⟩; replace X2 := X2.below B; replace X3 := X3.below B; replace XR := XR.below B; replace X5 := X5.below B; replace HB := Hqb HB B; clear B; have xXR := XR.cell; have zXR0 := XR.frozen; go_wp2; clear xXR zXR0
           have SX := StN.mk9 XR (.bool e9) (.int .i64 K9) (.bool s9) (.int .u64 M9) (.int .i64 E9) (.int .i64 K9b) (.bool s9b) (.int .u64 M9b) (.int .i64 E9b); exact bodyPost_ret (by simp [results, Tryz.results73, go_sem, SX.box.cell]) rfl ⟨_, _, _, _, _, _, _, _, _, rfl, v9, (SX.below HB.out (by omega))⟩
         · obtain rfl : false = zi := by rw [← hzi]; simp; omega
           clear hzi
           by_cases hs : ya < 0 ∧ 0 < yb
           · have HS : Hid (cmpI (rk G g P Q) 0 = -1) := Lib.hid (by rw [a2.rk]; exact sgn_neg hs.1)
             have HS2 : Hid (cmpI (rk G' g' P' Q') 0 = 1) := Lib.hid (by rw [b2.rk]; exact sgn_pos hs.2)
             have hw : (xa ≤ 0 ∧ 0 ≤ xb) ∨ (ya < 0 ∧ 0 < yb) := .inr hs
             obtain rfl : allI = z := by rw [← hr, dvI_all hz hc hw]
             have xX3 := X3.cell
             go_wp2_with fail
             refine (nSign a2.top HS.out).mono ?_; rintro ee w7 ⟨rfl, B⟩; clear xX3; replace X2 := X2.below B; replace X3 := X3.below B; replace XR := XR.below B; replace X5 := X5.below B; replace hT := hT.below B; replace HB := Hqb HB B; clear B; have xX3 := X3.cell
             go_wp2_with fail
             refine (nSign b2.top HS2.out).mono ?_; rintro ee w8 ⟨rfl, B⟩; clear xX3; replace X2 := X2.below B; replace X3 := X3.below B; replace XR := XR.below B; replace X5 := X5.below B; replace hT := hT.below B; replace HB := Hqb HB B; clear B; clear hT
             go_wp2_with fail
             refine (kvAll).mono ?_; rintro ee w9 ⟨e9, K9, s9, M9, E9, K9b, s9b, M9b, E9b, rfl, v9, B⟩; replace X2 := X2.below B; replace X3 := X3.below B; replace XR := XR.below B; replace X5 := X5.below B; replace HB := Hqb HB B; clear B; have xXR := XR.cell; have zXR0 := XR.frozen; go_wp2; clear xXR zXR0
             have SX := StN.mk9 XR (.bool e9) (.int .i64 K9) (.bool s9) (.int .u64 M9) (.int .i64 E9) (.int .i64 K9b) (.bool s9b) (.int .u64 M9b) (.int .i64 E9b); exact bodyPost_ret (by simp [results, Tryz.results73, go_sem, SX.box.cell]) rfl ⟨_, _, _, _, _, _, _, _, _, rfl, v9, (SX.below HB.out (by omega))⟩
           · rcases (by omega : (0 < yb ∧ ya = 0) ∨ (ya < 0 ∧ yb = 0)) with hd | hd
             · have HS : Hid (cmpI (rk G g P Q) 0 = 0) := Lib.hid (by rw [a2.rk]; exact (by rw [hd.2]; exact sgn_nil))
               have HS2 : Hid (cmpI (rk G' g' P' Q') 0 = 1) := Lib.hid (by rw [b2.rk]; exact sgn_pos hd.1)
               have HDD : Hid ((0 < yb ∧ ya = 0) ∨ (ya < 0 ∧ yb = 0)) := Lib.hid (.inl hd)
               have HPX : Hid (0 < xa ∨ xb < 0) := Lib.hid (by have := hx1.2.1; omega)
               have HR := Lib.hid hr; clear hd hr hc hz hs hin; have xX3 := X3.cell
               go_wp2_with fail
               refine (nSign a2.top HS.out).mono ?_; rintro ee w7 ⟨rfl, B⟩; clear xX3; replace X2 := X2.below B; replace X3 := X3.below B; replace XR := XR.below B; replace X5 := X5.below B; replace hT := hT.below B; replace HB := Hqb HB B; clear B; clear HS HS2 HZI a1 b1 a2 b2 hM hM' hP hP' hx1 hy1; have xX2 := X2.cell
               have xX3 := X3.cell
               go_wp2_with fail
               refine (fkEdge hT HQ.out v1 v2 HDD.out HPX.out HR.out).mono ?_; rintro ee w9 ⟨e9, K9, s9, M9, E9, K9b, s9b, M9b, E9b, rfl, v9, B⟩; clear xX2 xX3; replace X2 := X2.below B; replace X3 := X3.below B; replace XR := XR.below B; replace X5 := X5.below B; replace hT := hT.below B; replace HB := Hqb HB B
               clear B; clear hT; have xXR := XR.cell; have zXR0 := XR.frozen; go_wp2; clear xXR zXR0; have SX := StN.mk9 XR (.bool e9) (.int .i64 K9) (.bool s9) (.int .u64 M9) (.int .i64 E9) (.int .i64 K9b) (.bool s9b) (.int .u64 M9b) (.int .i64 E9b); exact bodyPost_ret (by simp [results, Tryz.results73, go_sem, SX.box.cell]) rfl ⟨_, _, _, _, _, _, _, _, _, rfl, v9, (SX.below HB.out (by omega))⟩
             · have HS : Hid (cmpI (rk G g P Q) 0 = -1) := Lib.hid (by rw [a2.rk]; exact sgn_neg hd.1)
               have HS2 : Hid (cmpI (rk G' g' P' Q') 0 = 0) := Lib.hid (by rw [b2.rk]; exact (by rw [hd.2]; exact sgn_nil))
               have HDD : Hid ((0 < yb ∧ ya = 0) ∨ (ya < 0 ∧ yb = 0)) := Lib.hid (.inr hd)
               have HPX : Hid (0 < xa ∨ xb < 0) := Lib.hid (by have := hx1.2.1; omega)
               have HR := Lib.hid hr; clear hd hr hc hz hs hin; have xX3 := X3.cell
               go_wp2_with fail
               refine (nSign a2.top HS.out).mono ?_; rintro ee w7 ⟨rfl, B⟩; clear xX3; replace X2 := X2.below B; replace X3 := X3.below B; replace XR := XR.below B; replace X5 := X5.below B; replace hT := hT.below B; replace HB := Hqb HB B; clear B; have xX3 := X3.cell
               go_wp2_with fail
               refine (nSign b2.top HS2.out).mono ?_; rintro ee w8 ⟨rfl, B⟩; clear xX3; replace X2 := X2.below B; replace X3 := X3.below B; replace XR := XR.below B; replace X5 := X5.below B; replace hT := hT.below B; replace HB := Hqb HB B; clear B; clear HS HS2 HZI a1 b1 a2 b2 hM hM' hP hP' hx1 hy1; have xX2 := X2.cell
               have xX3 := X3.cell
               go_wp2_with fail
               refine (fkEdge hT HQ.out v1 v2 HDD.out HPX.out HR.out).mono ?_; rintro ee w9 ⟨e9, K9, s9, M9, E9, K9b, s9b, M9b, E9b, rfl, v9, B⟩; clear xX2 xX3; replace X2 := X2.below B; replace X3 := X3.below B; replace XR := XR.below B; replace X5 := X5.below B; replace hT := hT.below B; replace HB := Hqb HB B
               clear B; clear hT; have xXR := XR.cell; have zXR0 := XR.frozen; go_wp2; clear xXR zXR0; have SX := StN.mk9 XR (.bool e9) (.int .i64 K9) (.bool s9) (.int .u64 M9) (.int .i64 E9) (.int .i64 K9b) (.bool s9b) (.int .u64 M9b) (.int .i64 E9b); exact bodyPost_ret (by simp [results, Tryz.results73, go_sem, SX.box.cell]) rfl ⟨_, _, _, _, _, _, _, _, _, rfl, v9, (SX.below HB.out (by omega))⟩
       · obtain rfl : false = zb := by rw [← hzb]; simp; omega
         rw [dvI_cor hc] at hr; have HR := Lib.hid hr; clear hzb hr hc hz hx1 hy1 a1 b1 a2 b2 hM hM' hP hP'; have xX2 := X2.cell; have xX3 := X3.cell
         go_wp2_with fail
         refine (fkOf (opq_div HQ.out) (fun _ => hT) v1 v2 ⟨(HQ.out.in _ _ _).2, (HQ.out.in _ _ _).1⟩ HR.out).mono ?_
         rintro ee w6 ⟨e9, K9, s9, M9, E9, K9b, s9b, M9b, E9b, rfl, v9, B⟩; clear xX2 xX3; replace X2 := X2.below B; replace X3 := X3.below B; replace XR := XR.below B; replace X5 := X5.below B; replace hT := hT.below B; replace HB := Hqb HB B; clear B; clear hT; have xXR := XR.cell
         have zXR0 := XR.frozen; go_wp2; clear xXR zXR0; have SX := StN.mk9 XR (.bool e9) (.int .i64 K9) (.bool s9) (.int .u64 M9) (.int .i64 E9) (.int .i64 K9b) (.bool s9b) (.int .u64 M9b) (.int .i64 E9b); exact bodyPost_ret (by simp [results, Tryz.results73, go_sem, SX.box.cell]) rfl ⟨_, _, _, _, _, _, _, _, _, rfl, v9, (SX.below HB.out (by omega))⟩
end Go.Proofs.YtnbliijpjcmbjaaGreatDoor

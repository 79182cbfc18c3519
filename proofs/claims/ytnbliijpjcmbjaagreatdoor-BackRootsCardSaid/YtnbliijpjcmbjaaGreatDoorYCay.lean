/-
 Contracts that the proof rests on.
-/
import Derived.Test.YtnbliijpjcmbjaaGreatDoorYCax
namespace Go.Proofs.YtnbliijpjcmbjaaGreatDoor
set_option maxHeartbeats 8000000
open Go.RowKit
set_option linter.unusedVariables false
set_option linter.unusedSimpArgs false
set_option maxRecDepth 100000
theorem gFair {w : World} {D M E : Int} {s : Bool} {r : Int} (hM : LQ M) (hr : rk D s M E = r) : Calls Tryz.prog 95 #[VQ D s M E] w (PN w r) := by
 delta VQ
 by_cases hm : MayQ D s M E
 · have HQ := rk_fq hM hm; rw [hr] at HQ
   have HC := Lib.hid (show decide (MayQ D s M E) = true from decide_eq_true hm)
   clear hm hr hM
   go_enter Tryz.func95, Tryz.ntmps95
   go_upto_region 1 with (fail)
   generalize hW1 : (w.alloc _).alloc _ = w1 at *; obtain ⟨X1, XR, HB⟩ := Bo.en2 hW1; clear hW1; have xX1 := X1.cell
   go_wp2_with fail
   refine (yMay HC.out).mono ?_; rintro ee w2 ⟨rfl, B⟩; clear xX1; replace X1 := X1.below B; replace XR := XR.below B; replace HB := Hqb HB B; clear B; have xXR := XR.cell; have zXR0 := XR.frozen; have xX1 := X1.cell; go_wp2; clear xXR zXR0 xX1; have SX := StN.mk4 XR (.int .i64 D) (.bool s) (.int .u64 M) (.int .i64 E)
   exact bodyPost_ret (by simp [results, Tryz.results95, go_sem, SX.box.cell]) rfl ⟨D, s, M, E, rfl, HQ, (SX.below HB.out (by omega))⟩
 · rw [rk_not hm] at hr; subst hr
   have HC := Lib.hid (show decide (MayQ D s M E) = false from decide_eq_false hm)
   clear hm hM
   go_enter Tryz.func95, Tryz.ntmps95
   go_upto_region 1 with (fail)
   generalize hW1 : (w.alloc _).alloc _ = w1 at *; obtain ⟨X1, XR, HB⟩ := Bo.en2 hW1; clear hW1; have xX1 := X1.cell
   go_wp2_with fail
   refine (yMay HC.out).mono ?_; rintro ee w2 ⟨rfl, B⟩; clear xX1; replace X1 := X1.below B; replace XR := XR.below B; replace HB := Hqb HB B; clear B; have xXR := XR.cell; have zXR0 := XR.frozen; have xX1 := X1.cell; go_wp2; clear xXR zXR0 xX1; have SX := StN.mk4 XR (.int .i64 0) (.bool false) (.int .u64 0) (.int .i64 0)
   exact bodyPost_ret (by simp [results, Tryz.results95, go_sem, SX.box.cell]) rfl ⟨_, _, _, _, rfl, Fq.nought, (SX.below HB.out (by omega))⟩
theorem fq_inf {D : Int} {s : Bool} {M E x : Int} (q : Fq D s M E x) : infp x = (D == 2) := by
 have htp := TP_eq
 rcases q.cases with ⟨rfl, rfl, rfl, rfl, h0⟩ | ⟨rfl, h1, h2, h3, h4, ⟨rfl, h5⟩ | ⟨rfl, h5⟩⟩ | ⟨rfl, rfl, rfl, ⟨rfl, h5⟩ | ⟨rfl, h5⟩⟩ <;> unfold infp <;> rw [Bool.eq_iff_iff] <;> simp <;> omega
theorem fq_fin {D : Int} {s : Bool} {M E x : Int} (q : Fq D s M E x) (h : D ≠ 2) : 0 ≤ M ∧ exb D s M E = true ∧ exq D s M E = ep x := by
 have hb : exb D s M E = true := by
   unfold exb
   rw [decide_eq_true q.1, Bool.true_and]
   simpa using h
 exact ⟨by rcases q.cases with ⟨_, _, h, _⟩ | ⟨_, h, _⟩ | ⟨_, h, _⟩ <;> omega, hb, exq_ep q hb⟩
theorem fq_same {s s' : Bool} {M M' E E' x y : Int} (q : Fq 2 s M E x) (q' : Fq 2 s' M' E' y) : x = y ↔ s = s' := by
 have htp := TP_eq
 rcases q.cases with ⟨h, _⟩ | ⟨h, _⟩ | ⟨_, rfl, rfl, ⟨rfl, h5⟩ | ⟨rfl, h5⟩⟩
 · omega
 · omega
 all_goals
   rcases q'.cases with ⟨h, _⟩ | ⟨h, _⟩ | ⟨_, rfl, rfl, ⟨rfl, k5⟩ | ⟨rfl, k5⟩⟩
   · omega
   · omega
   · constructor <;> intro e <;> first | rfl | omega | exact absurd e (by decide)
   · constructor <;> intro e <;> first | rfl | omega | exact absurd e (by decide)
theorem gAdd {w : World} {D D' M M' E E' : Int} {s s' : Bool} {up : Bool} {x y r : Int} (hM : LQ M) (hM' : LQ M') (hx : rk D s M E = x) (hy : rk D' s' M' E' = y) (hne : infp x = false → infp y = false → Near (ep x) (ep y)) (hr : addp up x y = r) : Calls Tryz.prog 72 #[VQ D s M E, VQ D' s' M' E', .bool up] w (PN w r) := by
 delta VQ
 have HX := Lib.hid hx; have HY := Lib.hid hy; clear hx hy
 go_enter Tryz.func72, Tryz.ntmps72
 go_upto_region 1 with (fail)
 generalize hW1 : ((w.alloc _).alloc _).alloc _ = w1 at *; obtain ⟨X1, X2, XR, HB⟩ := Bo.en3 hW1; clear hW1; have xX1 := X1.cell
 go_wp2_with fail
 refine (gFair hM HX.out).mono ?_; rintro ee w2 ⟨K1, s1, M1, E1, rfl, q1, B⟩; clear xX1; replace X1 := X1.below B; replace X2 := X2.below B; replace XR := XR.below B; replace HB := Hqb HB B; clear B
 go_upto_region 2 with (fail)
 have lX7 := Nat.le_refl (World.heap w2).size; have nX7X1 := X1.lt; have nX7X2 := X2.lt; have nX7XR := XR.lt; generalize hWn : w2.alloc _ = w3 at *; obtain ⟨X7, BW⟩ := Bo.nw hWn; clear hWn; replace X1 := X1.below BW; replace X2 := X2.below BW; replace XR := XR.below BW; replace HB := Hqb HB BW; clear BW; have xX2 := X2.cell
 go_wp2_with fail
 refine (gFair hM' HY.out).mono ?_; rintro ee w4 ⟨K2, s2, M2, E2, rfl, q2, B⟩; clear xX2; replace X1 := X1.below B; replace X2 := X2.below B; replace XR := XR.below B; replace X7 := X7.below B; replace HB := Hqb HB B; clear B
 go_upto_region 3 with (fail)
 have lX8 := Nat.le_refl (World.heap w4).size; have nX8X1 := X1.lt; have nX8X2 := X2.lt; have nX8XR := XR.lt; have nX8X7 := X7.lt; generalize hWn : w4.alloc _ = w5 at *; obtain ⟨X8, BW⟩ := Bo.nw hWn; clear hWn; replace X1 := X1.below BW; replace X2 := X2.below BW; replace XR := XR.below BW; replace X7 := X7.below BW; replace HB := Hqb HB BW; clear BW; clear lX7 lX8; have i1 := fq_inf q1
 have i2 := fq_inf q2
 by_cases k1 : K1 = 2
 · subst k1
   have j1 : infp x = true := i1
   by_cases k2 : K2 = 2
   · subst k2
     have j2 : infp y = true := i2
     by_cases ks : s1 = s2
     · rw [addp_same up j1 ((fq_same q1 q2).2 ks)] at hr; subst hr; subst ks; clear i1 i2 j1 j2 q2; have xXR := XR.cell; have zXR0 := XR.frozen; have xX7 := X7.cell; have xX8 := X8.cell; go_wp2; clear xXR zXR0 xX7 xX8; have SX := StN.mk4 XR (.int .i64 2) (.bool s1) (.int .u64 M1) (.int .i64 E1)
       exact bodyPost_ret (by simp [results, Tryz.results72, go_sem, SX.box.cell]) rfl ⟨_, _, _, _, rfl, q1, (SX.below HB.out (by omega))⟩
     · rw [addp_diff up j1 j2 (fun e => ks ((fq_same q1 q2).1 e))] at hr
       obtain rfl : (!s1) = s2 := by cases s1 <;> cases s2 <;> first | rfl | exact absurd rfl ks
       have e2 : (s1 == !s1) = false := by cases s1 <;> rfl
       have HRR := Lib.hid hr; clear i1 i2 j1 j2 q1 q2 hr ks; have xX7 := X7.cell; have xX8 := X8.cell
       go_wp2_with fail
       refine (yInf (s := !up) HRR.out).mono ?_; rintro ee w6 ⟨K3, s3, M3, E3, rfl, q3, B⟩; clear xX7 xX8; replace XR := XR.below B; replace X7 := X7.below B; replace X8 := X8.below B; replace HB := Hqb HB B; clear B; have xXR := XR.cell; have zXR0 := XR.frozen; go_wp2; clear xXR zXR0; have SX := StN.mk4 XR (.int .i64 K3) (.bool s3) (.int .u64 M3) (.int .i64 E3)
       exact bodyPost_ret (by simp [results, Tryz.results72, go_sem, SX.box.cell]) rfl ⟨_, _, _, _, rfl, q3, (SX.below HB.out (by omega))⟩
   · have e2 : (K2 == 2) = false := by simpa using k2
     rw [e2] at i2; rw [addp_tf up j1 i2] at hr; subst hr; clear i1 i2 j1 q2 k2; have xXR := XR.cell; have zXR0 := XR.frozen; have xX7 := X7.cell; have xX8 := X8.cell; go_wp2; clear xXR zXR0 xX7 xX8; have SX := StN.mk4 XR (.int .i64 2) (.bool s1) (.int .u64 M1) (.int .i64 E1); exact bodyPost_ret (by simp [results, Tryz.results72, go_sem, SX.box.cell]) rfl ⟨_, _, _, _, rfl, q1, (SX.below HB.out (by omega))⟩
 · have e1 : (K1 == 2) = false := by simpa using k1
   rw [e1] at i1
   by_cases k2 : K2 = 2
   · subst k2
     have j2 : infp y = true := i2
     rw [addp_ft up i1 j2] at hr; subst hr; clear i1 i2 j2 q1 k1; have xXR := XR.cell; have zXR0 := XR.frozen; have xX7 := X7.cell; have xX8 := X8.cell; go_wp2; clear xXR zXR0 xX7 xX8; have SX := StN.mk4 XR (.int .i64 2) (.bool s2) (.int .u64 M2) (.int .i64 E2); exact bodyPost_ret (by simp [results, Tryz.results72, go_sem, SX.box.cell]) rfl ⟨_, _, _, _, rfl, q2, (SX.below HB.out (by omega))⟩
   · have e2 : (K2 == 2) = false := by simpa using k2
     rw [e2] at i2; rw [addp_ff up i1 i2] at hr; have hnear := hne i1 i2; clear hne i1 i2; obtain ⟨m1, b1, x1⟩ := fq_fin q1 k1; obtain ⟨m2, b2, x2⟩ := fq_fin q2 k2; obtain ⟨N1, hN1⟩ : ∃ N, (ep x).1 = N := ⟨_, rfl⟩; obtain ⟨F1, hF1⟩ : ∃ N, (ep x).2 = N := ⟨_, rfl⟩; obtain ⟨N2, hN2⟩ : ∃ N, (ep y).1 = N := ⟨_, rfl⟩; obtain ⟨F2, hF2⟩ : ∃ N, (ep y).2 = N := ⟨_, rfl⟩
     have g1 : mk N1 F1 = ep x := by rw [← hN1, ← hF1]; exact ep_nf x
     have g2 : mk N2 F2 = ep y := by rw [← hN2, ← hF2]; exact ep_nf y
     have HB1 := Lib.hid b1; have HB2 := Lib.hid b2
     have HN1 := Lib.hid (show (exq K1 s1 M1 E1).1 = N1 by rw [x1, hN1])
     have HF1 := Lib.hid (show (exq K1 s1 M1 E1).2 = F1 by rw [x1, hF1])
     have HN2 := Lib.hid (show (exq K2 s2 M2 E2).1 = N2 by rw [x2, hN2])
     have HF2 := Lib.hid (show (exq K2 s2 M2 E2).2 = F2 by rw [x2, hF2])
     obtain ⟨P, hP⟩ : ∃ P, pl (ep x) (ep y) = P := ⟨_, rfl⟩
     have hPn : mk P.1 P.2 = P := by rw [← hP]; exact pl_nf (ep_nf x) (ep_nf y)
     have HP1 := Lib.hid (show (pl (mk N1 F1) (mk N2 F2)).1 = P.1 by rw [g1, g2, hP])
     have HP2 := Lib.hid (show (pl (mk N1 F1) (mk N2 F2)).2 = P.2 by rw [g1, g2, hP])
     rw [hP] at hr
     have HRR := Lib.hid (show rnd up (mk P.1 P.2).1 (mk P.1 P.2).2 = r by rw [hPn]; exact hr)
     have HNE := Lib.hid (show Near (mk N1 F1) (mk N2 F2) by rw [g1, g2]; exact hnear)
     clear hnear; clear b1 b2 x1 x2 hN1 hF1 hN2 hF2 hP hPn hr g1 g2; have xX7 := X7.cell; have xX8 := X8.cell
     go_wp2_with fail
     refine (yExact0 m1 q1.top HB1.out HN1.out HF1.out).mono ?_; rintro ee w6 ⟨sa, Aa, na, ca, rfl, pa, ka, B⟩; clear xX7 xX8; replace XR := XR.below B; replace X7 := X7.below B; replace X8 := X8.below B; replace HB := Hqb HB B; clear B
     go_upto_region 10 with (fail)
     have lX9 := Nat.le_refl (World.heap w6).size; have nX9XR := XR.lt; have nX9X7 := X7.lt; have nX9X8 := X8.lt; generalize hWn : w6.alloc _ = w7 at *; obtain ⟨X9, BW⟩ := Bo.nw hWn; clear hWn; replace XR := XR.below BW; replace X7 := X7.below BW; replace X8 := X8.below BW; replace pa := pa.below BW; replace HB := Hqb HB BW; clear BW; have xX8 := X8.cell
     go_wp2_with fail
     refine (yExact0 m2 q2.top HB2.out HN2.out HF2.out).mono ?_; rintro ee w8 ⟨sb, Ab, nb, cb, rfl, pb, kb, B⟩; clear xX8; replace XR := XR.below B; replace X7 := X7.below B; replace X8 := X8.below B; replace X9 := X9.below B; replace pa := pa.below B; replace HB := Hqb HB B; clear B
     go_upto_region 11 with (fail)
     have lX11 := Nat.le_refl (World.heap w8).size; have nX11XR := XR.lt; have nX11X7 := X7.lt; have nX11X8 := X8.lt; have nX11X9 := X9.lt; generalize hWn : w8.alloc _ = w9 at *; obtain ⟨X11, BW⟩ := Bo.nw hWn; clear hWn; replace XR := XR.below BW; replace X7 := X7.below BW; replace X8 := X8.below BW; replace X9 := X9.below BW; replace pa := pa.below BW; replace pb := pb.below BW; replace HB := Hqb HB BW
     clear BW; clear lX9 lX11; have xX9 := X9.cell; have xX11 := X11.cell
     go_wp2_with fail
     refine (q3Two pa.wr pb.wr (by omega) (by omega) HNE.out HP1.out HP2.out).mono ?_; rintro ee w10 ⟨sc, Ac, nc, cc, rfl, pc, kc, B⟩; clear xX9 xX11; replace XR := XR.below B; replace X7 := X7.below B; replace X8 := X8.below B; replace X9 := X9.below B; replace X11 := X11.below B; replace pa := pa.below B; replace pb := pb.below B; replace HB := Hqb HB B; clear B
     go_wp2_with fail
     refine (yRound pc.wr (by omega) rfl rfl HRR.out).mono ?_; rintro ee w11 ⟨K3, s3, M3, E3, rfl, q3, B⟩; replace XR := XR.below B; replace X7 := X7.below B; replace X8 := X8.below B; replace X9 := X9.below B; replace X11 := X11.below B; replace pc := pc.below B; replace HB := Hqb HB B; clear B; have xXR := XR.cell; have zXR0 := XR.frozen; go_wp2; clear xXR zXR0
     have SX := StN.mk4 XR (.int .i64 K3) (.bool s3) (.int .u64 M3) (.int .i64 E3); exact bodyPost_ret (by simp [results, Tryz.results72, go_sem, SX.box.cell]) rfl ⟨_, _, _, _, rfl, q3, (SX.below HB.out (by omega))⟩
theorem gMul {w : World} {D D' M M' E E' : Int} {s s' : Bool} {up : Bool} {x y r : Int} (hM : LQ M) (hM' : LQ M') (hx : rk D s M E = x) (hy : rk D' s' M' E' = y) (hr : mulp up x y = r) : Calls Tryz.prog 77 #[VQ D s M E, VQ D' s' M' E', .bool up] w (PN w r) := by
 delta VQ
 have HX := Lib.hid hx; have HY := Lib.hid hy; clear hx hy
 go_enter Tryz.func77, Tryz.ntmps77
 go_upto_region 1 with (fail)
 generalize hW1 : ((w.alloc _).alloc _).alloc _ = w1 at *; obtain ⟨X1, X2, XR, HB⟩ := Bo.en3 hW1; clear hW1; have xX1 := X1.cell
 go_wp2_with fail
 refine (gFair hM HX.out).mono ?_; rintro ee w2 ⟨K1, s1, M1, E1, rfl, q1, B⟩; clear xX1; replace X1 := X1.below B; replace X2 := X2.below B; replace XR := XR.below B; replace HB := Hqb HB B; clear B
 go_upto_region 2 with (fail)
 have lX7 := Nat.le_refl (World.heap w2).size; have nX7X1 := X1.lt; have nX7X2 := X2.lt; have nX7XR := XR.lt; generalize hWn : w2.alloc _ = w3 at *; obtain ⟨X7, BW⟩ := Bo.nw hWn; clear hWn; replace X1 := X1.below BW; replace X2 := X2.below BW; replace XR := XR.below BW; replace HB := Hqb HB BW; clear BW; have xX2 := X2.cell
 go_wp2_with fail
 refine (gFair hM' HY.out).mono ?_; rintro ee w4 ⟨K2, s2, M2, E2, rfl, q2, B⟩; clear xX2; replace X1 := X1.below B; replace X2 := X2.below B; replace XR := XR.below B; replace X7 := X7.below B; replace HB := Hqb HB B; clear B
 go_upto_region 3 with (fail)
 have lX8 := Nat.le_refl (World.heap w4).size; have nX8X1 := X1.lt; have nX8X2 := X2.lt; have nX8XR := XR.lt; have nX8X7 := X7.lt; generalize hWn : w4.alloc _ = w5 at *; obtain ⟨X8, BW⟩ := Bo.nw hWn; clear hWn; replace X1 := X1.below BW; replace X2 := X2.below BW; replace XR := XR.below BW; replace X7 := X7.below BW; replace HB := Hqb HB BW; clear BW; clear lX7 lX8; have i1 := fq_inf q1
 have i2 := fq_inf q2; have z1 := q1.zero_iff; have z2 := q2.zero_iff
 by_cases k0 : K1 = 0
 · subst k0; rw [mulp_zero up (.inl (z1.1 rfl))] at hr; subst hr; clear i1 i2 z1 z2 q1 q2; have xXR := XR.cell; have zXR0 := XR.frozen; have xX7 := X7.cell; have xX8 := X8.cell; go_wp2; clear xXR zXR0 xX7 xX8; have SX := StN.mk4 XR (.int .i64 0) (.bool false) (.int .u64 0) (.int .i64 0); exact bodyPost_ret (by simp [results, Tryz.results77, go_sem, SX.box.cell]) rfl ⟨_, _, _, _, rfl, Fq.nought, (SX.below HB.out (by omega))⟩
 · have e0 : (K1 == 0) = false := by simpa using k0
   by_cases l0 : K2 = 0
   · subst l0; rw [mulp_zero up (.inr (z2.1 rfl))] at hr; subst hr; clear i1 i2 z1 z2 q1 q2; have xXR := XR.cell; have zXR0 := XR.frozen; have xX7 := X7.cell; have xX8 := X8.cell; go_wp2; clear xXR zXR0 xX7 xX8; have SX := StN.mk4 XR (.int .i64 0) (.bool false) (.int .u64 0) (.int .i64 0)
     exact bodyPost_ret (by simp [results, Tryz.results77, go_sem, SX.box.cell]) rfl ⟨_, _, _, _, rfl, Fq.nought, (SX.below HB.out (by omega))⟩
   · have f0 : (K2 == 0) = false := by simpa using l0
     have hnz : ¬ (x = 0 ∨ y = 0) := fun c => c.elim (fun c => k0 (z1.2 c)) (fun c => l0 (z2.2 c))
     have sx : decide (x < 0) = s1 := by
       rcases q1.three with ⟨a, _⟩ | ⟨_, rfl, b⟩ | ⟨_, rfl, b⟩
       · exact absurd a k0
       · exact decide_eq_false (by omega)
       · exact decide_eq_true b
     have sy : decide (y < 0) = s2 := by
       rcases q2.three with ⟨a, _⟩ | ⟨_, rfl, b⟩ | ⟨_, rfl, b⟩
       · exact absurd a l0
       · exact decide_eq_false (by omega)
       · exact decide_eq_true b
     clear z1 z2
     by_cases k1 : K1 = 2
     · subst k1
       have j1 : infp x = true := i1
       rw [mulp_inf up hnz (.inl j1), sx, sy] at hr; have HRR := Lib.hid hr; clear i1 i2 j1 q1 q2 hr k0 l0 sx sy hnz; have xX7 := X7.cell; have xX8 := X8.cell
       go_wp2_with fail
       refine (yInf (s := s1 != s2) HRR.out).mono ?_; rintro ee w6 ⟨K3, s3, M3, E3, rfl, q3, B⟩; clear xX7 xX8; replace XR := XR.below B; replace X7 := X7.below B; replace X8 := X8.below B; replace HB := Hqb HB B; clear B; have xXR := XR.cell; have zXR0 := XR.frozen; go_wp2; clear xXR zXR0; have SX := StN.mk4 XR (.int .i64 K3) (.bool s3) (.int .u64 M3) (.int .i64 E3)
       exact bodyPost_ret (by simp [results, Tryz.results77, go_sem, SX.box.cell]) rfl ⟨_, _, _, _, rfl, q3, (SX.below HB.out (by omega))⟩
     · by_cases k2 : K2 = 2
       · subst k2
         have e1 : (K1 == 2) = false := by simpa using k1
         have j2 : infp y = true := i2
         rw [mulp_inf up hnz (.inr j2), sx, sy] at hr; have HRR := Lib.hid hr; clear i1 i2 j2 q1 q2 hr k0 l0 k1 sx sy hnz; have xX7 := X7.cell; have xX8 := X8.cell
         go_wp2_with fail
         refine (yInf (s := s1 != s2) HRR.out).mono ?_; rintro ee w6 ⟨K3, s3, M3, E3, rfl, q3, B⟩; clear xX7 xX8; replace XR := XR.below B; replace X7 := X7.below B; replace X8 := X8.below B; replace HB := Hqb HB B; clear B; have xXR := XR.cell; have zXR0 := XR.frozen; go_wp2; clear xXR zXR0; have SX := StN.mk4 XR (.int .i64 K3) (.bool s3) (.int .u64 M3) (.int .i64 E3)
         exact bodyPost_ret (by simp [results, Tryz.results77, go_sem, SX.box.cell]) rfl ⟨_, _, _, _, rfl, q3, (SX.below HB.out (by omega))⟩
       · have e1 : (K1 == 2) = false := by simpa using k1
         have e2 : (K2 == 2) = false := by simpa using k2
         rw [e1] at i1; rw [e2] at i2; rw [mulp_fin up hnz (by rw [i1, i2]; simp)] at hr; clear i1 i2 sx sy hnz; obtain ⟨m1, b1, x1⟩ := fq_fin q1 k1; obtain ⟨m2, b2, x2⟩ := fq_fin q2 k2; obtain ⟨N1, hN1⟩ : ∃ N, (ep x).1 = N := ⟨_, rfl⟩; obtain ⟨F1, hF1⟩ : ∃ N, (ep x).2 = N := ⟨_, rfl⟩; obtain ⟨N2, hN2⟩ : ∃ N, (ep y).1 = N := ⟨_, rfl⟩; obtain ⟨F2, hF2⟩ : ∃ N, (ep y).2 = N := ⟨_, rfl⟩
         have g1 : mk N1 F1 = ep x := by rw [← hN1, ← hF1]; exact ep_nf x
         have g2 : mk N2 F2 = ep y := by rw [← hN2, ← hF2]; exact ep_nf y
         have HB1 := Lib.hid b1; have HB2 := Lib.hid b2
         have HN1 := Lib.hid (show (exq K1 s1 M1 E1).1 = N1 by rw [x1, hN1])
         have HF1 := Lib.hid (show (exq K1 s1 M1 E1).2 = F1 by rw [x1, hF1])
         have HN2 := Lib.hid (show (exq K2 s2 M2 E2).1 = N2 by rw [x2, hN2])
         have HF2 := Lib.hid (show (exq K2 s2 M2 E2).2 = F2 by rw [x2, hF2])
         obtain ⟨P, hP⟩ : ∃ P, ml (ep x) (ep y) = P := ⟨_, rfl⟩
         have hPn : mk P.1 P.2 = P := by rw [← hP]; exact mk_nf _ _
         have HP1 := Lib.hid (show (ml (mk N1 F1) (mk N2 F2)).1 = P.1 by rw [g1, g2, hP])
         have HP2 := Lib.hid (show (ml (mk N1 F1) (mk N2 F2)).2 = P.2 by rw [g1, g2, hP])
         rw [hP] at hr
         have HRR := Lib.hid (show rnd up (mk P.1 P.2).1 (mk P.1 P.2).2 = r by rw [hPn]; exact hr)
         clear b1 b2 x1 x2 hN1 hF1 hN2 hF2 hP hPn hr g1 g2; have xX7 := X7.cell; have xX8 := X8.cell
         go_wp2_with fail
         refine (yExact0 m1 q1.top HB1.out HN1.out HF1.out).mono ?_; rintro ee w6 ⟨sa, Aa, na, ca, rfl, pa, ka, B⟩; clear xX7 xX8; replace XR := XR.below B; replace X7 := X7.below B; replace X8 := X8.below B; replace HB := Hqb HB B; clear B
         go_upto_region 8 with (fail)
         have lX9 := Nat.le_refl (World.heap w6).size; have nX9XR := XR.lt; have nX9X7 := X7.lt; have nX9X8 := X8.lt; generalize hWn : w6.alloc _ = w7 at *; obtain ⟨X9, BW⟩ := Bo.nw hWn; clear hWn; replace XR := XR.below BW; replace X7 := X7.below BW; replace X8 := X8.below BW; replace pa := pa.below BW; replace HB := Hqb HB BW; clear BW; have xX8 := X8.cell
         go_wp2_with fail
         refine (yExact0 m2 q2.top HB2.out HN2.out HF2.out).mono ?_; rintro ee w8 ⟨sb, Ab, nb, cb, rfl, pb, kb, B⟩; clear xX8; replace XR := XR.below B; replace X7 := X7.below B; replace X8 := X8.below B; replace X9 := X9.below B; replace pa := pa.below B; replace HB := Hqb HB B; clear B
         go_upto_region 9 with (fail)
         have lX11 := Nat.le_refl (World.heap w8).size; have nX11XR := XR.lt; have nX11X7 := X7.lt; have nX11X8 := X8.lt; have nX11X9 := X9.lt; generalize hWn : w8.alloc _ = w9 at *; obtain ⟨X11, BW⟩ := Bo.nw hWn; clear hWn; replace XR := XR.below BW; replace X7 := X7.below BW; replace X8 := X8.below BW; replace X9 := X9.below BW; replace pa := pa.below BW; replace pb := pb.below BW; replace HB := Hqb HB BW
         clear BW; clear lX9 lX11; have xX9 := X9.cell; have xX11 := X11.cell
         go_wp2_with fail
         refine (q3Mul pa.wr pb.wr (by omega) (by omega) HP1.out HP2.out).mono ?_; rintro ee w10 ⟨sc, Ac, nc, cc, rfl, pc, kc, B⟩; clear xX9 xX11; replace XR := XR.below B; replace X7 := X7.below B; replace X8 := X8.below B; replace X9 := X9.below B; replace X11 := X11.below B; replace pa := pa.below B; replace pb := pb.below B; replace HB := Hqb HB B; clear B
         go_wp2_with fail
         refine (yRound pc.wr (by omega) rfl rfl HRR.out).mono ?_; rintro ee w11 ⟨K3, s3, M3, E3, rfl, q3, B⟩; replace XR := XR.below B; replace X7 := X7.below B; replace X8 := X8.below B; replace X9 := X9.below B; replace X11 := X11.below B; replace pc := pc.below B; replace HB := Hqb HB B; clear B; have xXR := XR.cell; have zXR0 := XR.frozen; go_wp2; clear xXR zXR0
         have SX := StN.mk4 XR (.int .i64 K3) (.bool s3) (.int .u64 M3) (.int .i64 E3); exact bodyPost_ret (by simp [results, Tryz.results77, go_sem, SX.box.cell]) rfl ⟨_, _, _, _, rfl, q3, (SX.below HB.out (by omega))⟩
def PR2 (w : World) (v : Nat) (e : Ending) (w' : World) : Prop := ∃ A, e = .returned (.slice A 2 2) ∧ Rd w' A 2 2 v ∧ Below w.heap.size w w'
theorem qLimbs {w : World} {M : Int} {N : Nat} (hM : (N : Int) = M) (h : N < 18446744073709551616) : Calls Tryz.prog 112 #[.int .u64 M] w (PR2 w N) := by
 subst hM
 go_enter Tryz.func112, Tryz.ntmps112
 go_wp2
 go_ret
 exact ⟨_, rfl, two_rd _ (by simp) (k := N) (by omega) (by omega) h, bel1 _ _⟩
theorem fq_tk7 {D : Int} {s : Bool} {M E : Int} (hM : LQ M) : ∃ K1 s1 M1 E1, Fq K1 s1 M1 E1 (rk D s M E) := by
 by_cases hm : MayQ D s M E
 · exact ⟨_, _, _, _, rk_fq hM hm⟩
 · rw [rk_not hm]; exact ⟨_, _, _, _, Fq.nought⟩
theorem qTaken {w : World} {D M E : Int} {s : Bool} {K1 M1 E1 x : Int} {s1 : Bool} (hM : LQ M) (q : Fq K1 s1 M1 E1 x) (hx : rk D s M E = x) : Calls Tryz.prog 110 #[VQ D s M E] w (fun e w' => e = .returned (.agg #[.int .i64 K1, .bool s1, .int .u64 M1, .int .i64 E1]) ∧ Below w.heap.size w w') := by
 delta VQ
 by_cases hm : MayQ D s M E
 · obtain ⟨rfl, rfl, rfl, rfl⟩ := q.uniq (hx ▸ rk_fq hM hm)
   have HC := Lib.hid (show decide (MayQ K1 s1 M1 E1) = true from decide_eq_true hm)
   clear hm hx hM q
   go_enter Tryz.func110, Tryz.ntmps110
   go_upto_region 1 with (fail)
   generalize hW1 : (w.alloc _).alloc _ = w1 at *; obtain ⟨X1, XR, HB⟩ := Bo.en2 hW1; clear hW1; have xX1 := X1.cell
   go_wp2_with fail
   refine (nMay HC.out).mono ?_; rintro ee w2 ⟨rfl, B⟩; clear xX1; replace X1 := X1.below B; replace XR := XR.below B; replace HB := Hqb HB B; clear B; have xXR := XR.cell; have zXR0 := XR.frozen; have xX1 := X1.cell; go_wp2; clear xXR zXR0 xX1; have SX := StN.mk4 XR (.int .i64 K1) (.bool s1) (.int .u64 M1) (.int .i64 E1)
   exact bodyPost_ret (v := .agg #[.int .i64 K1, .bool s1, .int .u64 M1, .int .i64 E1]) (by simp [results, Tryz.results110, go_sem, SX.box.cell]) rfl ⟨rfl, (SX.below HB.out (by omega))⟩
 · rw [rk_not hm] at hx; subst hx; obtain ⟨rfl, rfl, rfl, rfl⟩ := q.uniq Fq.nought
   have HC := Lib.hid (show decide (MayQ D s M E) = false from decide_eq_false hm)
   clear hm hM q
   go_enter Tryz.func110, Tryz.ntmps110
   go_upto_region 1 with (fail)
   generalize hW1 : (w.alloc _).alloc _ = w1 at *; obtain ⟨X1, XR, HB⟩ := Bo.en2 hW1; clear hW1; have xX1 := X1.cell
   go_wp2_with fail
   refine (nMay HC.out).mono ?_; rintro ee w2 ⟨rfl, B⟩; clear xX1; replace X1 := X1.below B; replace XR := XR.below B; replace HB := Hqb HB B; clear B; have xXR := XR.cell; have zXR0 := XR.frozen; have xX1 := X1.cell; go_wp2; clear xXR zXR0 xX1; have SX := StN.mk4 XR (.int .i64 0) (.bool false) (.int .u64 0) (.int .i64 0)
   exact bodyPost_ret (v := .agg #[.int .i64 0, .bool false, .int .u64 0, .int .i64 0]) (by simp [results, Tryz.results110, go_sem, SX.box.cell]) rfl ⟨rfl, (SX.below HB.out (by omega))⟩
end Go.Proofs.YtnbliijpjcmbjaaGreatDoor
namespace Go.Proofs.YtnbliijpjcmbjaaGreatDoor.Jo
open Go Go.RowKit
set_option linter.unusedVariables false
section
variable {P : Program} {md : Region.Mode} {ops : Array Oper} {Q : Exit → Act → World → Prop} {a0 : Act} {T : List Nat} {dst : Nat → Option Tmp} {D : Nat → List Nat} {k : Nat} {I : List Nat → (Nat → Value) → World → Prop}
end
section
variable {P : Program} {ops : Array Oper} {Q : Exit → Act → World → Prop} {a0 : Act} {T : List Nat} {ds : List (Option Tmp)} {ls : List (List Nat)} {k : Nat} {I : List Nat → (Nat → Value) → World → Prop}
end
def Two2 (w1 : World) (p0 n0 p2 n2 : Value) (old new : Array Value) (R : TypeId) (l : List Nat) (vs : Nat → Value) (w : World) : Prop :=
 Below w1.heap.size w1 w ∧ (6 ∈ l → 4 ∈ l ∧ 5 ∈ l) ∧ (0 ∈ l → vs 0 = p0) ∧ (1 ∈ l → vs 1 = n0) ∧ (2 ∈ l → vs 2 = p2) ∧ (3 ∈ l → vs 3 = n2) ∧
   (4 ∈ l → ∃ g, vs 4 = .pointer (some ⟨g, 0, none⟩) ∧ w1.heap.size ≤ g ∧ (6 ∈ l → Bo w g new R) ∧ (6 ∉ l → Bo w g old R)) ∧
   (5 ∈ l → ∃ g, vs 5 = .pointer (some ⟨g, 0, none⟩) ∧ w1.heap.size ≤ g ∧ Bo w g old R) ∧ (4 ∈ l → 5 ∈ l → vs 4 ≠ vs 5)
section
variable {w1 w w' : World} {p0 n0 p2 n2 v : Value} {old new : Array Value} {R : TypeId} {l : List Nat} {vs : Nat → Value} {i : Nat}
theorem Two2.all (h : Two2 w1 p0 n0 p2 n2 old new R l vs w) (hl : ∀ j, j ∈ l ↔ j ∈ [0, 1, 2, 3, 4, 5, 6]) : Below w1.heap.size w1 w ∧ vs 0 = p0 ∧ vs 1 = n0 ∧ vs 2 = p2 ∧ vs 3 = n2 ∧ ∃ g g', vs 4 = .pointer (some ⟨g, 0, none⟩) ∧ vs 5 = .pointer (some ⟨g', 0, none⟩) ∧ w1.heap.size ≤ g ∧ w1.heap.size ≤ g' ∧ g ≠ g' ∧ Bo w g new R ∧ Bo w g' old R := by
 obtain ⟨h1, h2, h3, h4, h5, h6, h7, h8, h9⟩ := h; have m4 := (hl 4).2 (by decide); have m5 := (hl 5).2 (by decide); have m6 := (hl 6).2 (by decide); obtain ⟨g, e, hb, X0, _⟩ := h7 m4; obtain ⟨g', e', hb', X'⟩ := h8 m5; have X := X0 m6
 exact ⟨h1, h3 ((hl 0).2 (by decide)), h4 ((hl 1).2 (by decide)), h5 ((hl 2).2 (by decide)), h6 ((hl 3).2 (by decide)), g, g', e, e', hb, hb', fun c => h9 m4 m5 (by rw [e, e', c]), X, X'⟩
end
def Pair (w1 : World) (F : List Fact) (p q s e : Nat) (old : Array Value) (R : TypeId) (l : List Nat) (vs : Nat → Value) (w : World) : Prop :=
 Below w1.heap.size w1 w ∧ (∀ j ∈ l, ∀ u, phi F j (vs j) u) ∧ (s ∈ l → p ∈ l ∧ q ∈ l ∧ e ∈ l) ∧
   (p ∈ l → ∃ g, vs p = .pointer (some ⟨g, 0, none⟩) ∧ w1.heap.size ≤ g ∧ (s ∉ l → Bo w g old R) ∧ (s ∈ l → ∃ cs, vs e = .agg cs ∧ Bo w g cs R)) ∧
   (q ∈ l → ∃ g, vs q = .pointer (some ⟨g, 0, none⟩) ∧ w1.heap.size ≤ g ∧ Bo w g old R) ∧ (p ∈ l → q ∈ l → vs p ≠ vs q)
section
variable {w1 w w' : World} {F : List Fact} {p q s e i : Nat} {l : List Nat} {vs : Nat → Value} {v : Value} {cs old : Array Value} {R : TypeId}
theorem far {g h : Nat} (hg : g < h) : (.pointer (some ⟨h, 0, none⟩) : Value) ≠ .pointer (some ⟨g, 0, none⟩) := by
 intro c
 injection c with c
 injection c with c
 injection c with c
 omega
theorem Pair.all (h : Pair w1 F p q s e old R l vs w) (mp : p ∈ l) (mq : q ∈ l) (ms : s ∈ l) : ∃ g g' cs, vs p = .pointer (some ⟨g, 0, none⟩) ∧ vs q = .pointer (some ⟨g', 0, none⟩) ∧ w1.heap.size ≤ g ∧ w1.heap.size ≤ g' ∧ g ≠ g' ∧ vs e = .agg cs ∧ Bo w g cs R ∧ Bo w g' old R := by
 obtain ⟨h1, h2, h3, h4, h5, h6⟩ := h; obtain ⟨g, e1, e2, _, e3⟩ := h4 mp; obtain ⟨cs, e4, e5⟩ := e3 ms; obtain ⟨g', f1, f2, f3⟩ := h5 mq
 exact ⟨g, g', cs, e1, f1, e2, f2, fun c => h6 mp mq (by rw [e1, f1, c]), e4, e5, f3⟩
end
section
variable {P : Program} {ops : Array Oper} {Q : Exit → Act → World → Prop} {a0 : Act} {T : List Nat} {ds : List (Option Tmp)} {ls : List (List Nat)} {k : Nat} {F : List Fact} {w1 : World} {p q s e : Nat} {old : Array Value} {R : TypeId}
end
end Go.Proofs.YtnbliijpjcmbjaaGreatDoor.Jo

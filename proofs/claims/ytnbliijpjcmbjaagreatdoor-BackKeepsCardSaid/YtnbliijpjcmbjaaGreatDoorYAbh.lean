/-
 Contracts that the proof rests on.
-/
import Derived.Test.YtnbliijpjcmbjaaGreatDoorYAbg
namespace Go.Proofs.YtnbliijpjcmbjaaGreatDoor
set_option maxHeartbeats 4000000
open Go.RowKit
set_option linter.unusedVariables false
set_option linter.unusedSimpArgs false
set_option maxRecDepth 100000
theorem fkAbs {w : World} {e : Bool} {D M E D' M' E' : Int} {s s' : Bool} {x z : Sp} (hM : LQ M) (hM' : LQ M') (hx : rkI e D s M E D' s' M' E' = x) (hr : absI x = z) : Calls Tryz.prog 64 #[VI e D s M E D' s' M' E'] w (PV w z) := by
 delta VI
 obtain ⟨p, hp⟩ : ∃ p, gone [x] = p := ⟨_, rfl⟩; have HP := Lib.hid hp; have HX := Lib.hid hx; clear hx hp
 go_enter Tryz.func64, Tryz.ntmps64
 go_upto_region 1 with (fail)
 generalize hW1 : (w.alloc _).alloc _ = w1 at *; obtain ⟨X1, XR, HB⟩ := Bo.en2 hW1; clear hW1; have xX1 := X1.cell
 go_wp2_with fail
 refine (fkEmpty (Il8.lit1 rfl ⟨hM, hM', HX.out⟩) HP.out).mono ?_; rintro ee w2 ⟨rfl, B⟩; replace B := bt (bel1 _ (.cells #[.bool e, .int .i64 D, .bool s, .int .u64 M, .int .i64 E, .int .i64 D', .bool s', .int .u64 M', .int .i64 E'] 26)) B; clear xX1; replace X1 := X1.below B; replace XR := XR.below B; replace HB := Hqb HB B; clear B
 rcases x with _ | ⟨xa, xb⟩
 · obtain rfl : true = p := HP.out
   obtain rfl : none = z := hr
   clear HP
   go_wp2_with fail
   refine (kvNoneE).mono ?_; rintro ee w3 ⟨rfl, B⟩; replace X1 := X1.below B; replace XR := XR.below B; replace HB := Hqb HB B; clear B; have xXR := XR.cell; have zXR0 := XR.frozen; go_wp2; clear xXR zXR0; have SX := StN.mk9 XR (.bool true) (.int .i64 0) (.bool false) (.int .u64 0) (.int .i64 0) (.int .i64 0) (.bool false) (.int .u64 0) (.int .i64 0)
   exact bodyPost_ret (by simp [results, Tryz.results64, go_sem, SX.box.cell]) rfl ⟨_, _, _, _, _, _, _, _, _, rfl, Ci.none, (SX.below HB.out (by omega))⟩
 · obtain ⟨rfl, a1, b1, o1, o1l, o1h⟩ := ci_some hM hM' HX.out
   obtain rfl : false = p := HP.out
   clear HP HX
   have hr2 : (if 0 ≤ xa then some (xa, xb) else if xb ≤ 0 then negI (some (xa, xb)) else mkI 0 (max xb (-xa))) = z := hr
   obtain ⟨σ, hσ⟩ : ∃ σ, cmpI xa 0 = σ := ⟨_, rfl⟩; have ht := cmp_geE hσ
   have HS : Hid (cmpI (rk D s M E) 0 = σ) := Lib.hid (by rw [a1.rk]; exact hσ)
   clear hσ hr; have xX1 := X1.cell
   go_wp2_with fail
   refine (nSign a1.top HS.out).mono ?_; rintro ee w4 ⟨rfl, B⟩; clear xX1; replace X1 := X1.below B; replace XR := XR.below B; replace HB := Hqb HB B; clear B; clear HS
   by_cases h0 : 0 ≤ xa
   · rw [decide_eq_true h0] at ht; rw [if_pos h0] at hr2
     obtain rfl : some (xa, xb) = z := hr2
     clear h0; have xXR := XR.cell; have zXR0 := XR.frozen; have xX1 := X1.cell; go_wp2; clear xXR zXR0 xX1; have SX := StN.mk9 XR (.bool false) (.int .i64 D) (.bool s) (.int .u64 M) (.int .i64 E) (.int .i64 D') (.bool s') (.int .u64 M') (.int .i64 E')
     exact bodyPost_ret (v := .agg #[.bool false, .int .i64 D, .bool s, .int .u64 M, .int .i64 E, .int .i64 D', .bool s', .int .u64 M', .int .i64 E']) (by simp [results, Tryz.results64, go_sem, SX.box.cell]) rfl ⟨_, _, _, _, _, _, _, _, _, rfl, ⟨rfl, a1, b1, o1, o1l, o1h⟩, (SX.below HB.out (by omega))⟩
   · rw [decide_eq_false h0] at ht; rw [if_neg h0] at hr2; obtain ⟨τ, hτ⟩ : ∃ τ, cmpI xb 0 = τ := ⟨_, rfl⟩; have ht2 := cmp_le hτ
     have HS2 : Hid (cmpI (rk D' s' M' E') 0 = τ) := Lib.hid (by rw [b1.rk]; exact hτ)
     clear hτ h0; have xX1 := X1.cell
     go_wp2_with fail
     refine (nSign b1.top HS2.out).mono ?_; rintro ee w5 ⟨rfl, B⟩; clear xX1; replace X1 := X1.below B; replace XR := XR.below B; replace HB := Hqb HB B; clear B; clear HS2
     by_cases h1 : xb ≤ 0
     · rw [decide_eq_true h1] at ht2; rw [if_pos h1] at hr2; have HN := Lib.hid hr2
       have hci : Ci false D s M E D' s' M' E' (some (xa, xb)) := ⟨rfl, a1, b1, o1, o1l, o1h⟩
       clear hr2 h1 o1 o1l o1h; have xX1 := X1.cell
       go_wp2_with fail
       refine (fkNeg a1.top b1.top hci.rk HN.out).mono ?_; rintro ee w6 ⟨e2, K2, s2, M2, E2, K2b, s2b, M2b, E2b, rfl, v2, B⟩; clear xX1; replace X1 := X1.below B; replace XR := XR.below B; replace HB := Hqb HB B; clear B; clear hci HN; have xXR := XR.cell; have zXR0 := XR.frozen; go_wp2; clear xXR zXR0
       have SX := StN.mk9 XR (.bool e2) (.int .i64 K2) (.bool s2) (.int .u64 M2) (.int .i64 E2) (.int .i64 K2b) (.bool s2b) (.int .u64 M2b) (.int .i64 E2b); exact bodyPost_ret (by simp [results, Tryz.results64, go_sem, SX.box.cell]) rfl ⟨_, _, _, _, _, _, _, _, _, rfl, v2, (SX.below HB.out (by omega))⟩
     · rw [decide_eq_false h1] at ht2; rw [if_neg h1] at hr2; obtain ⟨m, hm⟩ : ∃ m, -xa = m := ⟨_, rfl⟩
       have hu : mxp [xb, m] = max xb m := mxp_two b1.bd.1
       obtain ⟨u, hu2⟩ : ∃ u, max xb m = u := ⟨_, rfl⟩; rw [hu2] at hu
       have hr3 : mkI 0 u = z := by rw [← hu2, ← hm]; exact hr2
       have H0 : Hid (sgi (decide ((0 : Int) < 0)) (lo (0 : Int).natAbs 0) = 0) := Lib.hid rfl
       have HNG : Hid (-rk D s M E = m) := Lib.hid (by rw [a1.rk]; exact hm)
       have HU := Lib.hid hu; have HR := Lib.hid hr3; clear hm hu hu2 hr2 hr3 h1 o1 o1l o1h; have xX1 := X1.cell
       go_upto_region 7 with (fail)
       clear xX1; refine Jo.rk [0, 1, 2, 3, 4, 5, 6, 7, 8] [some 21, some 22, some 23, some 24, some 25, some 26, some 27, some 28, some 29, none] [[], [], [1], [], [3], [4], [2, 5], [6], [0, 7], []] 10 1 [Jo.Fact.num 0, Jo.qp w.heap.size 5, Jo.q4 D' s' M' E', Jo.qp w.heap.size 1, Jo.q4 D s M E, Jo.Fact.num m, Jo.Fact.nl 2 [xb, m], Jo.Fact.num u, Jo.Fact.iv z, Jo.Fact.any] (by kernel_rfl) (by kernel_rfl) (by decide) rfl ?_ ?_
       · refine Jo.jm rfl ?_ ?_
         · rintro wj hJ K hK; simp only [Jo.z] at hK ⊢; go_simp; refine (nOf _ (by decide) (by decide) H0.out).mono ?_; rintro ee wk ⟨K5, s5, M5, E5, rfl, q5, B⟩; exact hK.out _ _ ⟨K5, s5, M5, E5, rfl, q5⟩ B
         iterate 4 (refine Jo.jm rfl ?_ ?_; rotate_left)
         refine Jo.jm rfl ?_ ?_
         · rintro wj hJ _ rfl K hK; simp only [Jo.z] at hK ⊢; go_simp; refine (nNeg a1.top HNG.out).mono ?_; rintro ee wk ⟨K2, s2, M2, E2, rfl, q2, B⟩; exact hK.out _ _ ⟨K2, s2, M2, E2, rfl, q2⟩ B
         refine Jo.jm rfl ?_ ?_
         · rintro wj hJ _ rfl _ ⟨K2, s2, M2, E2, rfl, q2⟩ K hK; simp only [Jo.z] at hK ⊢; go_simp; exact hK.out _ _ ⟨_, 2, rfl, Nl.lit2 rfl b1.top q2.top b1.rk q2.rk⟩ (bel1 _ _)
         refine Jo.jm rfl ?_ ?_
         · rintro wj hJ _ ⟨A6, c6, rfl, h6⟩ K hK; simp only [Jo.z] at hK ⊢; go_simp; refine (nMost h6 HU.out).mono ?_; rintro ee wk ⟨K3, s3, M3, E3, rfl, q3, B⟩; exact hK.out _ _ ⟨K3, s3, M3, E3, rfl, q3⟩ B
         refine Jo.jm rfl ?_ ?_
         · rintro wj hJ _ ⟨K5, s5, M5, E5, rfl, q5⟩ _ ⟨K3, s3, M3, E3, rfl, q3⟩ K hK; simp only [Jo.z] at hK ⊢; go_simp; refine (kvMake q5.top q3.top q5.rk q3.rk HR.out).mono ?_; rintro ee wk ⟨e4, K4, s4, M4, E4, K4b, s4b, M4b, E4b, rfl, v4, B⟩; exact hK.out _ _ ⟨e4, K4, s4, M4, E4, K4b, s4b, M4b, E4b, rfl, v4⟩ B
         exact Jo.Steps.nil
         all_goals (rintro wj hJ; (repeat rintro _ rfl); intro K hK; simp only [Jo.z] at hK ⊢; have xX1 := (X1.below hJ).cell; go_simp; exact hK.out _ _ rfl (br _ _))
       rintro w8 hJ _ ⟨K5, s5, M5, E5, rfl, q5⟩ _ _ _ rfl _ _ _ rfl _ ⟨K2, s2, M2, E2, rfl, q2⟩ _ ⟨A6, c6, rfl, _⟩ _ ⟨K3, s3, M3, E3, rfl, q3⟩ _ ⟨e4, K4, s4, M4, E4, K4b, s4b, M4b, E4b, rfl, v4⟩ -; simp only [Jo.z]; replace X1 := X1.below hJ; replace XR := XR.below hJ; replace HB := Hqb HB hJ; have xXR := XR.cell; have zXR0 := XR.frozen
       refine Jo.jnext (i := 9) (o := ⟨none, _, _, _, _, _⟩) (by kernel_rfl) rfl (fun K hK => ?_)
       go_simp; refine hK.out _ _ ?_; clear hK K xXR zXR0; have SX := StN.mk9 XR (.bool e4) (.int .i64 K4) (.bool s4) (.int .u64 M4) (.int .i64 E4) (.int .i64 K4b) (.bool s4b) (.int .u64 M4b) (.int .i64 E4b); refine Jo.jdone (by kernel_rfl) ?_; go_wp2; exact bodyPost_ret (by simp [results, Tryz.results64, go_sem, SX.box.cell]) rfl ⟨_, _, _, _, _, _, _, _, _, rfl, v4, (SX.below HB.out (by omega))⟩
theorem fkSqr {w : World} {e : Bool} {D M E D' M' E' : Int} {s s' : Bool} {x z : Sp} (hM : LQ M) (hM' : LQ M') (hx : rkI e D s M E D' s' M' E' = x) (hr : sqrI x = z) : Calls Tryz.prog 32 #[VI e D s M E D' s' M' E'] w (PV w z) := by
 delta VI
 rw [sqr_abs] at hr; obtain ⟨m, hm⟩ : ∃ m, absI x = m := ⟨_, rfl⟩; rw [hm] at hr; have HX := Lib.hid hx; have HA := Lib.hid hm; clear hx hm
 go_enter Tryz.func32, Tryz.ntmps32
 go_upto_region 1 with (fail)
 generalize hW1 : (w.alloc _).alloc _ = w1 at *; obtain ⟨X1, XR, HB⟩ := Bo.en2 hW1; clear hW1; have xX1 := X1.cell
 go_wp2_with fail
 refine (fkAbs hM hM' HX.out HA.out).mono ?_; rintro ee w2 ⟨e1, K1, s1, M1, E1, K1b, s1b, M1b, E1b, rfl, v1, B⟩; clear xX1; replace X1 := X1.below B; replace XR := XR.below B; replace HB := Hqb HB B; clear B
 go_upto_region 2 with (fail)
 have lX3 := Nat.le_refl (World.heap w2).size; have nX3X1 := X1.lt; have nX3XR := XR.lt; generalize hWn : w2.alloc _ = w3 at *; obtain ⟨X3, BW⟩ := Bo.nw hWn; clear hWn; replace X1 := X1.below BW; replace XR := XR.below BW; replace HB := Hqb HB BW; clear BW; clear lX3 HX HA hM hM'
 rcases m with _ | ⟨ma, mb⟩
 · obtain ⟨rfl, y1, y1b⟩ := v1
   obtain rfl : none = z := hr
   obtain ⟨_, rfl, rfl, rfl, rfl, rfl, rfl, rfl, rfl⟩ := (show Ci true K1 s1 M1 E1 K1b s1b M1b E1b none from ⟨rfl, y1, y1b⟩).uniq Ci.none
   clear y1 y1b; refine Jo.rk [0, 1, 2] [some 6, some 7, some 8] [[], [], [0, 1]] 3 0 [Jo.q9 true 0 false 0 0 0 false 0 0, Jo.q9 true 0 false 0 0 0 false 0 0, Jo.qb true] (by kernel_rfl) (by kernel_rfl) (by decide) rfl ?_ ?_
   · refine Jo.jm rfl ?_ ?_
     · rintro wj hJ K hK; simp only [Jo.z] at hK ⊢; have xX3 := (X3.below hJ).cell; go_simp; exact hK.out _ _ rfl (br _ _)
     refine Jo.jm rfl ?_ ?_
     · rintro wj hJ K hK; simp only [Jo.z] at hK ⊢; go_simp; refine (kvNoneE).mono ?_; rintro ee wk ⟨rfl, B⟩; exact hK.out _ _ rfl B
     refine Jo.jm rfl ?_ ?_
     · rintro wj hJ _ rfl _ rfl K hK; simp only [Jo.z] at hK ⊢; go_simp
       repeat' split
       all_goals exact hK.out _ _ (congrArg Value.bool (by first | rfl | (exfalso; simp_all) | simp_all)) (br _ _)
     exact Jo.Steps.nil
   rintro w4 hJ _ rfl _ rfl _ rfl -; simp only [Jo.z]; replace XR := XR.below hJ; replace X3 := X3.below hJ; replace HB := Hqb HB hJ; refine Jo.jdone (by kernel_rfl) ?_; have xXR := XR.cell; have zXR0 := XR.frozen; have xX3 := X3.cell; go_wp2; clear xXR zXR0 xX3
   have SX := StN.mk9 XR (.bool true) (.int .i64 0) (.bool false) (.int .u64 0) (.int .i64 0) (.int .i64 0) (.bool false) (.int .u64 0) (.int .i64 0); exact bodyPost_ret (by simp [results, Tryz.results32, go_sem, SX.box.cell]) rfl ⟨_, _, _, _, _, _, _, _, _, rfl, Ci.none, (SX.below HB.out (by omega))⟩
 · obtain ⟨rfl, a1, b1, o1, o1l, o1h⟩ := v1; obtain ⟨u, hu⟩ : ∃ u, mulp false ma ma = u := ⟨_, rfl⟩; obtain ⟨l, hl⟩ : ∃ l, mulp true mb mb = l := ⟨_, rfl⟩
   have hr2 : mkI u l = z := by rw [← hu, ← hl]; exact hr
   have HU := Lib.hid hu; have HL := Lib.hid hl; have HR := Lib.hid hr2; clear hu hl hr hr2 o1 o1l o1h; refine Jo.rk [0, 1, 2] [some 6, some 7, some 8] [[], [], [0, 1]] 3 0 [Jo.q9 false K1 s1 M1 E1 K1b s1b M1b E1b, Jo.q9 true 0 false 0 0 0 false 0 0, Jo.qb false] (by kernel_rfl) (by kernel_rfl) (by decide) rfl ?_ ?_
   · refine Jo.jm rfl ?_ ?_
     · rintro wj hJ K hK; simp only [Jo.z] at hK ⊢; have xX3 := (X3.below hJ).cell; go_simp; exact hK.out _ _ rfl (br _ _)
     refine Jo.jm rfl ?_ ?_
     · rintro wj hJ K hK; simp only [Jo.z] at hK ⊢; go_simp; refine (kvNoneE).mono ?_; rintro ee wk ⟨rfl, B⟩; exact hK.out _ _ rfl B
     refine Jo.jm rfl ?_ ?_
     · rintro wj hJ _ rfl _ rfl K hK; simp only [Jo.z] at hK ⊢; go_simp
       repeat' split
       all_goals exact hK.out _ _ (congrArg Value.bool (by first | rfl | (exfalso; simp_all))) (br _ _)
     exact Jo.Steps.nil
   rintro w4 hJ _ rfl _ rfl _ rfl -; simp only [Jo.z]; replace XR := XR.below hJ; replace X3 := X3.below hJ; replace HB := Hqb HB hJ; refine Jo.jdone (by kernel_rfl) ?_
   go_upto_region 4 with (fail)
   refine Jo.rk [0, 1, 2, 3, 4, 5, 6, 7, 8, 9, 10] [some 10, some 11, some 12, some 13, some 14, some 15, some 16, some 17, some 18, some 19, some 20, none] [[], [0], [], [2], [1, 3], [], [5], [], [7], [6, 8], [4, 9], []] 12 1 [Jo.qp w2.heap.size 1, Jo.q4 K1 s1 M1 E1, Jo.qp w2.heap.size 1, Jo.q4 K1 s1 M1 E1, Jo.Fact.num u, Jo.qp w2.heap.size 5, Jo.q4 K1b s1b M1b E1b, Jo.qp w2.heap.size 5, Jo.q4 K1b s1b M1b E1b, Jo.Fact.num l, Jo.Fact.iv z, Jo.Fact.any] (by kernel_rfl) (by kernel_rfl) (by decide) rfl ?_ ?_
   · iterate 4 (refine Jo.jm rfl ?_ ?_; rotate_left)
     refine Jo.jm rfl ?_ ?_
     · rintro wj hJ _ rfl _ rfl K hK; simp only [Jo.z] at hK ⊢; go_simp; refine (aMul a1.top a1.top a1.rk a1.rk HU.out).mono ?_; rintro ee wk ⟨K2, s2, M2, E2, rfl, q2, B⟩; exact hK.out _ _ ⟨K2, s2, M2, E2, rfl, q2⟩ B
     iterate 4 (refine Jo.jm rfl ?_ ?_; rotate_left)
     refine Jo.jm rfl ?_ ?_
     · rintro wj hJ _ rfl _ rfl K hK; simp only [Jo.z] at hK ⊢; go_simp; refine (aMul b1.top b1.top b1.rk b1.rk HL.out).mono ?_; rintro ee wk ⟨K3, s3, M3, E3, rfl, q3, B⟩; exact hK.out _ _ ⟨K3, s3, M3, E3, rfl, q3⟩ B
     refine Jo.jm rfl ?_ ?_
     · rintro wj hJ _ ⟨K2, s2, M2, E2, rfl, q2⟩ _ ⟨K3, s3, M3, E3, rfl, q3⟩ K hK; simp only [Jo.z] at hK ⊢; go_simp; refine (kvMake q2.top q3.top q2.rk q3.rk HR.out).mono ?_; rintro ee wk ⟨e4, K4, s4, M4, E4, K4b, s4b, M4b, E4b, rfl, v4, B⟩; exact hK.out _ _ ⟨e4, K4, s4, M4, E4, K4b, s4b, M4b, E4b, rfl, v4⟩ B
     exact Jo.Steps.nil
     all_goals (rintro wj hJ; (repeat rintro _ rfl); intro K hK; simp only [Jo.z] at hK ⊢; have xX3 := (X3.below hJ).cell; go_simp; exact hK.out _ _ rfl (br _ _))
   rintro w8 hJ _ _ _ rfl _ _ _ rfl _ ⟨K2, s2, M2, E2, rfl, q2⟩ _ _ _ rfl _ _ _ rfl _ ⟨K3, s3, M3, E3, rfl, q3⟩ _ ⟨e4, K4, s4, M4, E4, K4b, s4b, M4b, E4b, rfl, v4⟩ -; simp only [Jo.z]; replace XR := XR.below hJ; replace X3 := X3.below hJ; replace HB := Hqb HB hJ; have xXR := XR.cell; have zXR0 := XR.frozen
   refine Jo.jnext (i := 11) (o := ⟨none, _, _, _, _, _⟩) (by kernel_rfl) rfl (fun K hK => ?_)
   go_simp; refine hK.out _ _ ?_; clear hK K xXR zXR0; have SX := StN.mk9 XR (.bool e4) (.int .i64 K4) (.bool s4) (.int .u64 M4) (.int .i64 E4) (.int .i64 K4b) (.bool s4b) (.int .u64 M4b) (.int .i64 E4b); refine Jo.jdone (by kernel_rfl) ?_; go_wp2; exact bodyPost_ret (by simp [results, Tryz.results32, go_sem, SX.box.cell]) rfl ⟨_, _, _, _, _, _, _, _, _, rfl, v4, (SX.below HB.out (by omega))⟩
theorem fkRoot {w : World} {e : Bool} {D M E D' M' E' : Int} {s s' : Bool} {x z : Sp} {r : Bool → Int → Int} (hT : Tab w) (hq : RF r) (hM : LQ M) (hM' : LQ M') (hx : rkI e D s M E D' s' M' E' = x) (hr : rootI r x = z) : Calls Tryz.prog 48 #[VI e D s M E D' s' M' E'] w (PV w z) := by
 delta VI
 rw [root_meet] at hr; obtain ⟨m, hm⟩ : ∃ m, meetI x (some (0, 19342822337206103650074625)) = m := ⟨_, rfl⟩
 have h0 : ∀ a b, m = some (a, b) → 0 ≤ a ∧ a ≤ b := fun a b e => meet_nn (hm.trans e)
 have hml : meetL [x, some (0, 19342822337206103650074625)] = m := by
   show meetI (meetI allI x) _ = m
   rw [meet_all (by rw [← hx]; exact rkI_ok hM hM')]; exact hm
 rw [hm] at hr; have HX := Lib.hid hx; have HMM := Lib.hid hml; have H0 := Lib.hid h0
 have HZ : Hid (sgi (decide ((0 : Int) < 0)) (lo (0 : Int).natAbs 0) = 0) := Lib.hid rfl
 have HI : Hid (mkI 0 19342822337206103650074625 = some (0, 19342822337206103650074625)) := Lib.hid (mkI_some (by decide) (by decide) (by decide))
 clear hx hm hml h0
 go_enter Tryz.func48, Tryz.ntmps48
 go_upto_region 1 with (fail)
 generalize hW1 : (w.alloc _).alloc _ = w1 at *; obtain ⟨X1, XR, HB⟩ := Bo.en2 hW1; replace hT := hT.below HB.out; clear hW1; have lt1 := X1.lt; have ltR := XR.lt; refine Jo.rk [0, 1, 2, 3, 4, 5, 6] [some 8, some 9, some 10, some 11, some 12, some 13, some 3, none] [[], [], [], [1, 2], [0, 3], [4], [], []] 8 1 [Jo.q9 e D s M E D' s' M' E', Jo.Fact.num 0, Jo.q4 2 false 0 0, Jo.Fact.iv (some (0, 19342822337206103650074625)), Jo.Fact.il8 2 [x, (some (0, 19342822337206103650074625))], Jo.Fact.iv m, Jo.Fact.bo w1.heap.size #[.bool false, .int .i64 0, .bool false, .int .u64 0, .int .i64 0, .int .i64 0, .bool false, .int .u64 0, .int .i64 0] 26, Jo.Fact.any] (by kernel_rfl) (by kernel_rfl) (by decide) rfl ?_ ?_
 · refine Jo.jm rfl ?_ ?_
   · rintro wj hJ K hK; simp only [Jo.z] at hK ⊢; have xX1 := (X1.below hJ).cell; go_simp; exact hK.out _ _ rfl (br _ _)
   refine Jo.jm rfl ?_ ?_
   · rintro wj hJ K hK; simp only [Jo.z] at hK ⊢; go_simp; refine (nOf _ (by decide) (by decide) HZ.out).mono ?_; rintro ee wk ⟨K5, s5, M5, E5, rfl, q5, B⟩; exact hK.out _ _ ⟨K5, s5, M5, E5, rfl, q5⟩ B
   refine Jo.jm rfl ?_ ?_
   · rintro wj hJ K hK; simp only [Jo.z] at hK ⊢; go_simp; refine (nInfE false).mono ?_; rintro ee wk ⟨rfl, B⟩; exact hK.out _ _ rfl B
   refine Jo.jm rfl ?_ ?_
   · rintro wj hJ _ ⟨K5, s5, M5, E5, rfl, q5⟩ _ rfl K hK; simp only [Jo.z] at hK ⊢; go_simp; refine (kvMake (b := 19342822337206103650074625) q5.top (by decide) q5.rk (fq_inf2 false).rk HI.out).mono ?_; rintro ee wk ⟨e6, K6, s6, M6, E6, K6b, s6b, M6b, E6b, rfl, v6, B⟩; exact hK.out _ _ ⟨e6, K6, s6, M6, E6, K6b, s6b, M6b, E6b, rfl, v6⟩ B
   refine Jo.jm rfl ?_ ?_
   · rintro wj hJ _ rfl _ ⟨e6, K6, s6, M6, E6, K6b, s6b, M6b, E6b, rfl, v6⟩ K hK; simp only [Jo.z] at hK ⊢; go_simp; exact hK.out _ _ ⟨_, 2, rfl, Il8.lit2 rfl ⟨hM, hM', HX.out⟩ v6.rw⟩ (bel1 _ _)
   refine Jo.jm rfl ?_ ?_
   · rintro wj hJ _ ⟨A4, c4, rfl, h4⟩ K hK; simp only [Jo.z] at hK ⊢; go_simp; refine (kvMeet h4 HMM.out).mono ?_; rintro ee wk ⟨e1, K1, s1, M1, E1, K1b, s1b, M1b, E1b, rfl, v1, B⟩; exact hK.out _ _ ⟨e1, K1, s1, M1, E1, K1b, s1b, M1b, E1b, rfl, v1⟩ B
   refine Jo.jm rfl ?_ ?_
   · rintro wj hJ K hK; simp only [Jo.z] at hK ⊢; go_simp; exact hK.out _ _ ⟨_, rfl, hJ.size, Bo.new _ _ _⟩ (bel1 _ _)
   exact Jo.Steps.nil
 rintro w2 hJ _ rfl _ ⟨K5, s5, M5, E5, rfl, q5⟩ _ rfl _ ⟨e6, K6, s6, M6, E6, K6b, s6b, M6b, E6b, rfl, v6⟩ _ ⟨_, _, rfl, _⟩ _ ⟨e1, K1, s1, M1, E1, K1b, s1b, M1b, E1b, rfl, v1⟩ _ ⟨g3, rfl, hg3, X3⟩ -; simp only [Jo.z]; replace X1 := X1.below hJ; replace XR := XR.below hJ; replace hT := hT.below hJ; replace HB := Hqb HB hJ; have xX3 := X3.cell
 have zX30 := X3.frozen
 refine Jo.jnext (i := 7) (o := ⟨none, _, _, _, _, _⟩) (by kernel_rfl) rfl (fun K hK => ?_)
 go_simp; refine hK.out _ _ ?_; clear hK K xX3 zX30; generalize hS : ((((((((w2.setCell _ _).setCell _ _).setCell _ _).setCell _ _).setCell _ _).setCell _ _).setCell _ _).setCell _ _).setCell _ _ = w3 at *; have SX := StN.of9 X3 hS; replace X1 := X1.stn SX (by omega); replace XR := XR.stn SX (by omega); replace hT := hT.stn SX (by simp [no8]); replace HB := Hqs HB SX (by omega)
 replace X3 := SX.box; clear SX hS; refine Jo.jdone (by kernel_rfl) ?_; clear HX HMM hM hM'; clear lt1
 rcases m with _ | ⟨ma, mb⟩
 · obtain ⟨rfl, y1, y1b⟩ := v1; go_wp2
   obtain rfl : none = z := hr
   obtain ⟨_, rfl, rfl, rfl, rfl, rfl, rfl, rfl, rfl⟩ := (show Ci true K1 s1 M1 E1 K1b s1b M1b E1b none from ⟨rfl, y1, y1b⟩).uniq Ci.none
   clear y1 y1b; refine Jo.rk [0, 1, 2] [some 14, some 15, some 16] [[], [], [0, 1]] 3 0 [Jo.q9 true 0 false 0 0 0 false 0 0, Jo.q9 true 0 false 0 0 0 false 0 0, Jo.qb true] (by kernel_rfl) (by kernel_rfl) (by decide) rfl ?_ ?_
   · refine Jo.jm rfl ?_ ?_
     · rintro wj hJ K hK; simp only [Jo.z] at hK ⊢; have xX3 := (X3.below hJ).cell; go_simp; exact hK.out _ _ rfl (br _ _)
     refine Jo.jm rfl ?_ ?_
     · rintro wj hJ K hK; simp only [Jo.z] at hK ⊢; go_simp; refine (kvNoneE).mono ?_; rintro ee wk ⟨rfl, B⟩; exact hK.out _ _ rfl B
     refine Jo.jm rfl ?_ ?_
     · rintro wj hJ _ rfl _ rfl K hK; simp only [Jo.z] at hK ⊢; go_simp
       repeat' split
       all_goals exact hK.out _ _ (congrArg Value.bool (by first | rfl | (exfalso; simp_all) | simp_all)) (br _ _)
     exact Jo.Steps.nil
   rintro w4 hJ _ rfl _ rfl _ rfl -; simp only [Jo.z]; replace XR := XR.below hJ; replace X3 := X3.below hJ; replace hT := hT.below hJ; replace HB := Hqb HB hJ; refine Jo.jdone (by kernel_rfl) ?_; have xXR := XR.cell; have zXR0 := XR.frozen; have xX3 := X3.cell; go_wp2; clear xXR zXR0 xX3
   have SX := StN.mk9 XR (.bool true) (.int .i64 0) (.bool false) (.int .u64 0) (.int .i64 0) (.int .i64 0) (.bool false) (.int .u64 0) (.int .i64 0); exact bodyPost_ret (by simp [results, Tryz.results48, go_sem, SX.box.cell]) rfl ⟨_, _, _, _, _, _, _, _, _, rfl, Ci.none, (SX.below HB.out (by omega))⟩
 · obtain ⟨rfl, a1, b1, o1, o1l, o1h⟩ := v1; obtain ⟨i1, i2⟩ := H0.out _ _ rfl; have e1 := hq false ma i1; have e2 := hq true mb (Int.le_trans i1 i2); obtain ⟨u, hu⟩ : ∃ u, r false ma = u := ⟨_, rfl⟩; obtain ⟨l, hl⟩ : ∃ l, r true mb = l := ⟨_, rfl⟩
   have hr2 : mkI u l = z := by rw [← hu, ← hl]; exact hr
   rw [hu] at e1; rw [hl] at e2; have HU := Lib.hid e1; have HL := Lib.hid e2; have HR := Lib.hid hr2; clear hu hl hr hr2 e1 e2 i1 i2 o1 o1l o1h; go_wp2; refine Jo.rk [0, 1, 2] [some 14, some 15, some 16] [[], [], [0, 1]] 3 0 [Jo.q9 false K1 s1 M1 E1 K1b s1b M1b E1b, Jo.q9 true 0 false 0 0 0 false 0 0, Jo.qb false] (by kernel_rfl) (by kernel_rfl) (by decide) rfl ?_ ?_
   · refine Jo.jm rfl ?_ ?_
     · rintro wj hJ K hK; simp only [Jo.z] at hK ⊢; have xX3 := (X3.below hJ).cell; go_simp; exact hK.out _ _ rfl (br _ _)
     refine Jo.jm rfl ?_ ?_
     · rintro wj hJ K hK; simp only [Jo.z] at hK ⊢; go_simp; refine (kvNoneE).mono ?_; rintro ee wk ⟨rfl, B⟩; exact hK.out _ _ rfl B
     refine Jo.jm rfl ?_ ?_
     · rintro wj hJ _ rfl _ rfl K hK; simp only [Jo.z] at hK ⊢; go_simp
       repeat' split
       all_goals exact hK.out _ _ (congrArg Value.bool (by first | rfl | (exfalso; simp_all))) (br _ _)
     exact Jo.Steps.nil
   rintro w4 hJ _ rfl _ rfl _ rfl -; simp only [Jo.z]; replace XR := XR.below hJ; replace X3 := X3.below hJ; replace hT := hT.below hJ; replace HB := Hqb HB hJ; refine Jo.jdone (by kernel_rfl) ?_; have xX3 := X3.cell
   go_wp2_with fail
   refine (kRoot hT a1.top a1.rk HU.out).mono ?_; rintro ee w5 ⟨K2, s2, M2, E2, rfl, q2, B⟩; clear xX3; replace XR := XR.below B; replace X3 := X3.below B; replace hT := hT.below B; replace HB := Hqb HB B; clear B
   go_upto_region 5 with (fail)
   have lX4 := Nat.le_refl (World.heap w5).size; have nX4XR := XR.lt; have nX4X3 := X3.lt; generalize hWn : w5.alloc _ = w6 at *; obtain ⟨X4, BW⟩ := Bo.nw hWn; clear hWn; replace XR := XR.below BW; replace X3 := X3.below BW; replace hT := hT.below BW; replace HB := Hqb HB BW; clear BW; clear lX4; have xX3 := X3.cell
   go_wp2_with fail
   refine (kRoot hT b1.top b1.rk HL.out).mono ?_; rintro ee w7 ⟨K3, s3, M3, E3, rfl, q3, B⟩; clear xX3; replace XR := XR.below B; replace X3 := X3.below B; replace X4 := X4.below B; replace hT := hT.below B; replace HB := Hqb HB B; clear B
   go_upto_region 6 with (fail)
   have lX6 := Nat.le_refl (World.heap w7).size; have nX6XR := XR.lt; have nX6X3 := X3.lt; have nX6X4 := X4.lt; generalize hWn : w7.alloc _ = w8 at *; obtain ⟨X6, BW⟩ := Bo.nw hWn; clear hWn; replace XR := XR.below BW; replace X3 := X3.below BW; replace X4 := X4.below BW; replace hT := hT.below BW; replace HB := Hqb HB BW; clear BW; clear lX6; have xX4 := X4.cell
   have xX6 := X6.cell
   go_wp2_with fail
   refine (kvMake q2.top q3.top q2.rk q3.rk HR.out).mono ?_; rintro ee w9 ⟨e4, K4, s4, M4, E4, K4b, s4b, M4b, E4b, rfl, v4, B⟩; clear xX4 xX6; replace XR := XR.below B; replace X3 := X3.below B; replace X4 := X4.below B; replace X6 := X6.below B; replace hT := hT.below B; replace HB := Hqb HB B; clear B; clear hT; have xXR := XR.cell
   have zXR0 := XR.frozen; go_wp2; clear xXR zXR0; have SX := StN.mk9 XR (.bool e4) (.int .i64 K4) (.bool s4) (.int .u64 M4) (.int .i64 E4) (.int .i64 K4b) (.bool s4b) (.int .u64 M4b) (.int .i64 E4b); exact bodyPost_ret (by simp [results, Tryz.results48, go_sem, SX.box.cell]) rfl ⟨_, _, _, _, _, _, _, _, _, rfl, v4, (SX.below HB.out (by omega))⟩
def PV2 (w : World) (x y : Sp) (e : Ending) (w' : World) : Prop := ∃ e0 K s M E K' s' M' E' e1 G g P Q G' g' P' Q', e = .returned (.tuple #[.agg #[.bool e0, .int .i64 K, .bool s, .int .u64 M, .int .i64 E, .int .i64 K', .bool s', .int .u64 M', .int .i64 E'], .agg #[.bool e1, .int .i64 G, .bool g, .int .u64 P, .int .i64 Q, .int .i64 G', .bool g', .int .u64 P', .int .i64 Q']]) ∧ Ci e0 K s M E K' s' M' E' x ∧ Ci e1 G g P Q G' g' P' Q' y ∧ Below w.heap.size w w'
end Go.Proofs.YtnbliijpjcmbjaaGreatDoor

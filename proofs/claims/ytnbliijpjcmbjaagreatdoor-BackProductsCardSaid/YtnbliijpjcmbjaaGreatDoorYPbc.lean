/-
 Contracts that the proof rests on.
-/
import Derived.Test.YtnbliijpjcmbjaaGreatDoorYPbb
namespace Go.Proofs.YtnbliijpjcmbjaaGreatDoor
set_option maxHeartbeats 8000000
open Go.RowKit
set_option linter.unusedVariables false
set_option linter.unusedSimpArgs false
set_option maxRecDepth 100000
theorem fq_tk {D : Int} {s : Bool} {M E : Int} (hM : LQ M) : ∃ K1 s1 M1 E1, Fq K1 s1 M1 E1 (rk D s M E) := by
 by_cases hm : MayQ D s M E
 · exact ⟨_, _, _, _, rk_fq hM hm⟩
 · rw [rk_not hm]; exact ⟨_, _, _, _, Fq.nought⟩
theorem aTaken {w : World} {D M E : Int} {s : Bool} {K1 M1 E1 x : Int} {s1 : Bool} (hM : LQ M) (q : Fq K1 s1 M1 E1 x) (hx : rk D s M E = x) : Calls Tryz.prog 90 #[VQ D s M E] w (fun e w' => e = .returned (.agg #[.int .i64 K1, .bool s1, .int .u64 M1, .int .i64 E1]) ∧ Below w.heap.size w w') := by
 delta VQ
 by_cases hm : MayQ D s M E
 · obtain ⟨rfl, rfl, rfl, rfl⟩ := q.uniq (hx ▸ rk_fq hM hm)
   have HC := Lib.hid (show decide (MayQ K1 s1 M1 E1) = true from decide_eq_true hm)
   clear hm hx hM q
   go_enter Tryz.func90, Tryz.ntmps90
   go_upto_region 1 with (fail)
   generalize hW1 : (w.alloc _).alloc _ = w1 at *; obtain ⟨X1, XR, HB⟩ := Bo.en2 hW1; clear hW1; have xX1 := X1.cell
   go_wp2_with fail
   refine (nMay HC.out).mono ?_; rintro ee w2 ⟨rfl, B⟩; clear xX1; replace X1 := X1.below B; replace XR := XR.below B; replace HB := Hqb HB B; clear B; have xXR := XR.cell; have zXR0 := XR.frozen; have xX1 := X1.cell; go_wp2; clear xXR zXR0 xX1; have SX := StN.mk4 XR (.int .i64 K1) (.bool s1) (.int .u64 M1) (.int .i64 E1)
   exact bodyPost_ret (v := .agg #[.int .i64 K1, .bool s1, .int .u64 M1, .int .i64 E1]) (by simp [results, Tryz.results90, go_sem, SX.box.cell]) rfl ⟨rfl, (SX.below HB.out (by omega))⟩
 · rw [rk_not hm] at hx; subst hx; obtain ⟨rfl, rfl, rfl, rfl⟩ := q.uniq Fq.nought
   have HC := Lib.hid (show decide (MayQ D s M E) = false from decide_eq_false hm)
   clear hm hM q
   go_enter Tryz.func90, Tryz.ntmps90
   go_upto_region 1 with (fail)
   generalize hW1 : (w.alloc _).alloc _ = w1 at *; obtain ⟨X1, XR, HB⟩ := Bo.en2 hW1; clear hW1; have xX1 := X1.cell
   go_wp2_with fail
   refine (nMay HC.out).mono ?_; rintro ee w2 ⟨rfl, B⟩; clear xX1; replace X1 := X1.below B; replace XR := XR.below B; replace HB := Hqb HB B; clear B; have xXR := XR.cell; have zXR0 := XR.frozen; have xX1 := X1.cell; go_wp2; clear xXR zXR0 xX1; have SX := StN.mk4 XR (.int .i64 0) (.bool false) (.int .u64 0) (.int .i64 0)
   exact bodyPost_ret (v := .agg #[.int .i64 0, .bool false, .int .u64 0, .int .i64 0]) (by simp [results, Tryz.results90, go_sem, SX.box.cell]) rfl ⟨rfl, (SX.below HB.out (by omega))⟩
theorem aAdd {w : World} {D D' M M' E E' : Int} {s s' : Bool} {up : Bool} {x y r : Int} (hT : Tb w) (hM : LQ M) (hM' : LQ M') (hx : rk D s M E = x) (hy : rk D' s' M' E' = y) (hr : addp up x y = r) : Calls Tryz.prog 88 #[VQ D s M E, VQ D' s' M' E', .bool up] w (PN w r) := by
 delta VQ
 obtain ⟨K1, s1, M1, E1, q1⟩ := fq_tk (D := D) (s := s) (M := M) (E := E) hM; obtain ⟨K2, s2, M2, E2, q2⟩ := fq_tk (D := D') (s := s') (M := M') (E := E') hM'; rw [hx] at q1; rw [hy] at q2; have HX := Lib.hid hx; have HY := Lib.hid hy; clear hx hy
 go_enter Tryz.func88, Tryz.ntmps88
 go_upto_region 1 with (fail)
 generalize hW1 : ((w.alloc _).alloc _).alloc _ = w1 at *; obtain ⟨X3, X4, XR, HB⟩ := Bo.en3 hW1; replace hT := hT.below HB.out; clear hW1; refine Jo.rk [0, 1, 2, 3] [some 7, some 8, some 9, some 10, none, none] [[], [0], [], [2], [], []] 6 2 [Jo.q4 D s M E, Jo.q4 K1 s1 M1 E1, Jo.q4 D' s' M' E', Jo.q4 K2 s2 M2 E2, Jo.Fact.any, Jo.Fact.any] (by kernel_rfl) (by kernel_rfl) (by decide) rfl ?_ ?_
 · refine Jo.jm rfl ?_ ?_; rotate_left
   refine Jo.jm rfl ?_ ?_
   · rintro wj hJ _ rfl K hK; simp only [Jo.z] at hK ⊢; go_simp; refine (aTaken hM q1 HX.out).mono ?_; rintro ee wk ⟨rfl, B⟩; exact hK.out _ _ rfl B
   refine Jo.jm rfl ?_ ?_; rotate_left
   refine Jo.jm rfl ?_ ?_
   · rintro wj hJ _ rfl K hK; simp only [Jo.z] at hK ⊢; go_simp; refine (aTaken hM' q2 HY.out).mono ?_; rintro ee wk ⟨rfl, B⟩; exact hK.out _ _ rfl B
   exact Jo.Steps.nil
   all_goals (rintro wj hJ; (repeat rintro _ rfl); intro K hK; simp only [Jo.z] at hK ⊢; have xX3 := (X3.below hJ).cell; have xX4 := (X4.below hJ).cell; go_simp; exact hK.out _ _ rfl (br _ _))
 rintro w2 hJ _ rfl _ rfl _ rfl _ rfl -; simp only [Jo.z]; replace X3 := X3.below hJ; replace X4 := X4.below hJ; replace XR := XR.below hJ; replace hT := hT.below hJ; replace HB := Hqb HB hJ; have xX3 := X3.cell; have zX30 := X3.frozen
 refine Jo.jnext (i := 4) (o := ⟨none, _, _, _, _, _⟩) (by kernel_rfl) rfl (fun K hK => ?_)
 go_simp; refine hK.out _ _ ?_; clear hK K xX3 zX30; generalize hS : (((w2.setCell _ _).setCell _ _).setCell _ _).setCell _ _ = w3 at *; have SX := StN.of4 X3 hS; replace X4 := X4.stn SX (by omega); replace XR := XR.stn SX (by omega); replace hT := hT.stn SX (by simp [no8]); replace HB := Hqs HB SX (by omega); replace X3 := SX.box; clear SX hS; have xX4 := X4.cell
 have zX40 := X4.frozen
 refine Jo.jnext (i := 5) (o := ⟨none, _, _, _, _, _⟩) (by kernel_rfl) rfl (fun K hK => ?_)
 go_simp; refine hK.out _ _ ?_; clear hK K xX4 zX40; generalize hS : (((w3.setCell _ _).setCell _ _).setCell _ _).setCell _ _ = w4 at *; have SX := StN.of4 X4 hS; replace X3 := X3.stn SX (by omega); replace XR := XR.stn SX (by omega); replace hT := hT.stn SX (by simp [no8]); replace HB := Hqs HB SX (by omega); replace X4 := SX.box; clear SX hS; refine Jo.jdone (by kernel_rfl) ?_
 clear HX HY hM hM'; have i1 := fq_inf q1; have i2 := fq_inf q2; have z1 := q1.zero_iff; have z2 := q2.zero_iff; have d1 := q1.bd; have d2 := q2.bd
 have kk1 : K1 = 2 ∨ K1 = 0 ∨ K1 = 1 := by rcases q1.cases with ⟨h, _⟩ | ⟨h, _⟩ | ⟨h, _⟩ <;> omega
 have kk2 : K2 = 2 ∨ K2 = 0 ∨ K2 = 1 := by rcases q2.cases with ⟨h, _⟩ | ⟨h, _⟩ | ⟨h, _⟩ <;> omega
 rcases kk1 with rfl | rfl | rfl
 · rcases kk2 with rfl | rfl | rfl
   · by_cases ks : s1 = s2
     · rw [addp_same up i1 ((fq_same q1 q2).2 ks)] at hr; subst hr; subst ks; clear i1 i2 z1 z2 d1 d2 q2; have xXR := XR.cell; have zXR0 := XR.frozen; have xX3 := X3.cell; have xX4 := X4.cell; go_wp2; clear xXR zXR0 xX3 xX4; have SX := StN.mk4 XR (.int .i64 2) (.bool s1) (.int .u64 M1) (.int .i64 E1)
       exact bodyPost_ret (by simp [results, Tryz.results88, go_sem, SX.box.cell]) rfl ⟨_, _, _, _, rfl, q1, (SX.below HB.out (by omega))⟩
     · rw [addp_diff up i1 i2 (fun e => ks ((fq_same q1 q2).1 e))] at hr
       obtain rfl : (!s1) = s2 := by cases s1 <;> cases s2 <;> first | rfl | exact absurd rfl ks
       have e2 : (s1 == !s1) = false := by cases s1 <;> rfl
       have HRR := Lib.hid hr; clear i1 i2 z1 z2 d1 d2 q1 q2 hr ks; have xX3 := X3.cell; have xX4 := X4.cell
       go_wp2_with fail
       refine (nInf (s := !up) HRR.out).mono ?_; rintro ee w5 ⟨K3, s3, M3, E3, rfl, q3, B⟩; clear xX3 xX4; replace X3 := X3.below B; replace X4 := X4.below B; replace XR := XR.below B; replace HB := Hqb HB B; clear B; have xXR := XR.cell; have zXR0 := XR.frozen; go_wp2; clear xXR zXR0; have SX := StN.mk4 XR (.int .i64 K3) (.bool s3) (.int .u64 M3) (.int .i64 E3)
       exact bodyPost_ret (by simp [results, Tryz.results88, go_sem, SX.box.cell]) rfl ⟨_, _, _, _, rfl, q3, (SX.below HB.out (by omega))⟩
   · rw [addp_tf up i1 i2] at hr; subst hr; clear i1 i2 z1 z2 d1 d2 q2; have xXR := XR.cell; have zXR0 := XR.frozen; have xX3 := X3.cell; have xX4 := X4.cell; go_wp2; clear xXR zXR0 xX3 xX4; have SX := StN.mk4 XR (.int .i64 2) (.bool s1) (.int .u64 M1) (.int .i64 E1); exact bodyPost_ret (by simp [results, Tryz.results88, go_sem, SX.box.cell]) rfl ⟨_, _, _, _, rfl, q1, (SX.below HB.out (by omega))⟩
   · rw [addp_tf up i1 i2] at hr; subst hr; clear i1 i2 z1 z2 d1 d2 q2; have xXR := XR.cell; have zXR0 := XR.frozen; have xX3 := X3.cell; have xX4 := X4.cell; go_wp2; clear xXR zXR0 xX3 xX4; have SX := StN.mk4 XR (.int .i64 2) (.bool s1) (.int .u64 M1) (.int .i64 E1); exact bodyPost_ret (by simp [results, Tryz.results88, go_sem, SX.box.cell]) rfl ⟨_, _, _, _, rfl, q1, (SX.below HB.out (by omega))⟩
 · rcases kk2 with rfl | rfl | rfl
   · rw [addp_ft up i1 i2] at hr; subst hr; clear i1 i2 z1 z2 d1 d2 q1; have xXR := XR.cell; have zXR0 := XR.frozen; have xX3 := X3.cell; have xX4 := X4.cell; go_wp2; clear xXR zXR0 xX3 xX4; have SX := StN.mk4 XR (.int .i64 2) (.bool s2) (.int .u64 M2) (.int .i64 E2); exact bodyPost_ret (by simp [results, Tryz.results88, go_sem, SX.box.cell]) rfl ⟨_, _, _, _, rfl, q2, (SX.below HB.out (by omega))⟩
   · rw [z2.1 rfl, addp_zero up d1.1 d1.2] at hr; subst hr; clear i1 i2 z1 z2 d1 d2 q2; have xXR := XR.cell; have zXR0 := XR.frozen; have xX3 := X3.cell; have xX4 := X4.cell; go_wp2; clear xXR zXR0 xX3 xX4; have SX := StN.mk4 XR (.int .i64 0) (.bool s1) (.int .u64 M1) (.int .i64 E1); exact bodyPost_ret (by simp [results, Tryz.results88, go_sem, SX.box.cell]) rfl ⟨_, _, _, _, rfl, q1, (SX.below HB.out (by omega))⟩
   · rw [z1.1 rfl, addp_comm, addp_zero up d2.1 d2.2] at hr; subst hr; clear i1 i2 z1 z2 d1 d2 q1; have xXR := XR.cell; have zXR0 := XR.frozen; have xX3 := X3.cell; have xX4 := X4.cell; go_wp2; clear xXR zXR0 xX3 xX4; have SX := StN.mk4 XR (.int .i64 1) (.bool s2) (.int .u64 M2) (.int .i64 E2)
     exact bodyPost_ret (by simp [results, Tryz.results88, go_sem, SX.box.cell]) rfl ⟨_, _, _, _, rfl, q2, (SX.below HB.out (by omega))⟩
 · rcases kk2 with rfl | rfl | rfl
   · rw [addp_ft up i1 i2] at hr; subst hr; clear i1 i2 z1 z2 d1 d2 q1; have xXR := XR.cell; have zXR0 := XR.frozen; have xX3 := X3.cell; have xX4 := X4.cell; go_wp2; clear xXR zXR0 xX3 xX4; have SX := StN.mk4 XR (.int .i64 2) (.bool s2) (.int .u64 M2) (.int .i64 E2); exact bodyPost_ret (by simp [results, Tryz.results88, go_sem, SX.box.cell]) rfl ⟨_, _, _, _, rfl, q2, (SX.below HB.out (by omega))⟩
   · rw [z2.1 rfl, addp_zero up d1.1 d1.2] at hr; subst hr; clear i1 i2 z1 z2 d1 d2 q2; have xXR := XR.cell; have zXR0 := XR.frozen; have xX3 := X3.cell; have xX4 := X4.cell; go_wp2; clear xXR zXR0 xX3 xX4; have SX := StN.mk4 XR (.int .i64 1) (.bool s1) (.int .u64 M1) (.int .i64 E1); exact bodyPost_ret (by simp [results, Tryz.results88, go_sem, SX.box.cell]) rfl ⟨_, _, _, _, rfl, q1, (SX.below HB.out (by omega))⟩
   · have HRR := Lib.hid hr; clear i1 i2 z1 z2 d1 d2 hr; have xX3 := X3.cell; have xX4 := X4.cell
     go_wp2_with fail
     refine (aSum2 hT q1 q2).mono ?_; rintro ee w5 ⟨s3, H3, L3, x3, rfl, p3, B⟩; clear xX3 xX4; replace X3 := X3.below B; replace X4 := X4.below B; replace XR := XR.below B; replace hT := hT.below B; replace HB := Hqb HB B; clear B
     go_wp2_with fail
     refine (aRound p3 HRR.out).mono ?_; rintro ee w6 ⟨K4, s4, M4, E4, rfl, q4, B⟩; replace X3 := X3.below B; replace X4 := X4.below B; replace XR := XR.below B; replace HB := Hqb HB B; clear B; have xXR := XR.cell; have zXR0 := XR.frozen; go_wp2; clear xXR zXR0; have SX := StN.mk4 XR (.int .i64 K4) (.bool s4) (.int .u64 M4) (.int .i64 E4); exact bodyPost_ret (by simp [results, Tryz.results88, go_sem, SX.box.cell]) rfl ⟨_, _, _, _, rfl, q4, (SX.below HB.out (by omega))⟩
theorem aMul {w : World} {D D' M M' E E' : Int} {s s' : Bool} {up : Bool} {x y r : Int} (hM : LQ M) (hM' : LQ M') (hx : rk D s M E = x) (hy : rk D' s' M' E' = y) (hr : mulp up x y = r) : Calls Tryz.prog 63 #[VQ D s M E, VQ D' s' M' E', .bool up] w (PN w r) := by
 delta VQ
 obtain ⟨K1, s1, M1, E1, q1⟩ := fq_tk (D := D) (s := s) (M := M) (E := E) hM; obtain ⟨K2, s2, M2, E2, q2⟩ := fq_tk (D := D') (s := s') (M := M') (E := E') hM'; rw [hx] at q1; rw [hy] at q2; have HX := Lib.hid hx; have HY := Lib.hid hy; clear hx hy
 go_enter Tryz.func63, Tryz.ntmps63
 go_upto_region 1 with (fail)
 generalize hW1 : ((w.alloc _).alloc _).alloc _ = w1 at *; obtain ⟨X3, X4, XR, HB⟩ := Bo.en3 hW1; clear hW1; refine Jo.rk [0, 1, 2, 3] [some 7, some 8, some 9, some 10, none, none] [[], [0], [], [2], [], []] 6 2 [Jo.q4 D s M E, Jo.q4 K1 s1 M1 E1, Jo.q4 D' s' M' E', Jo.q4 K2 s2 M2 E2, Jo.Fact.any, Jo.Fact.any] (by kernel_rfl) (by kernel_rfl) (by decide) rfl ?_ ?_
 · refine Jo.jm rfl ?_ ?_; rotate_left
   refine Jo.jm rfl ?_ ?_
   · rintro wj hJ _ rfl K hK; simp only [Jo.z] at hK ⊢; go_simp; refine (aTaken hM q1 HX.out).mono ?_; rintro ee wk ⟨rfl, B⟩; exact hK.out _ _ rfl B
   refine Jo.jm rfl ?_ ?_; rotate_left
   refine Jo.jm rfl ?_ ?_
   · rintro wj hJ _ rfl K hK; simp only [Jo.z] at hK ⊢; go_simp; refine (aTaken hM' q2 HY.out).mono ?_; rintro ee wk ⟨rfl, B⟩; exact hK.out _ _ rfl B
   exact Jo.Steps.nil
   all_goals (rintro wj hJ; (repeat rintro _ rfl); intro K hK; simp only [Jo.z] at hK ⊢; have xX3 := (X3.below hJ).cell; have xX4 := (X4.below hJ).cell; go_simp; exact hK.out _ _ rfl (br _ _))
 rintro w2 hJ _ rfl _ rfl _ rfl _ rfl -; simp only [Jo.z]; replace X3 := X3.below hJ; replace X4 := X4.below hJ; replace XR := XR.below hJ; replace HB := Hqb HB hJ; have xX3 := X3.cell; have zX30 := X3.frozen
 refine Jo.jnext (i := 4) (o := ⟨none, _, _, _, _, _⟩) (by kernel_rfl) rfl (fun K hK => ?_)
 go_simp; refine hK.out _ _ ?_; clear hK K xX3 zX30; generalize hS : (((w2.setCell _ _).setCell _ _).setCell _ _).setCell _ _ = w3 at *; have SX := StN.of4 X3 hS; replace X4 := X4.stn SX (by omega); replace XR := XR.stn SX (by omega); replace HB := Hqs HB SX (by omega); replace X3 := SX.box; clear SX hS; have xX4 := X4.cell; have zX40 := X4.frozen
 refine Jo.jnext (i := 5) (o := ⟨none, _, _, _, _, _⟩) (by kernel_rfl) rfl (fun K hK => ?_)
 go_simp; refine hK.out _ _ ?_; clear hK K xX4 zX40; generalize hS : (((w3.setCell _ _).setCell _ _).setCell _ _).setCell _ _ = w4 at *; have SX := StN.of4 X4 hS; replace X3 := X3.stn SX (by omega); replace XR := XR.stn SX (by omega); replace HB := Hqs HB SX (by omega); replace X4 := SX.box; clear SX hS; refine Jo.jdone (by kernel_rfl) ?_; clear HX HY hM hM'; have i1 := fq_inf q1
 have i2 := fq_inf q2; have z1 := q1.zero_iff; have z2 := q2.zero_iff; have d1 := q1.bd; have d2 := q2.bd
 have kk1 : K1 = 2 ∨ K1 = 0 ∨ K1 = 1 := by rcases q1.cases with ⟨h, _⟩ | ⟨h, _⟩ | ⟨h, _⟩ <;> omega
 have kk2 : K2 = 2 ∨ K2 = 0 ∨ K2 = 1 := by rcases q2.cases with ⟨h, _⟩ | ⟨h, _⟩ | ⟨h, _⟩ <;> omega
 rcases kk1 with rfl | rfl | rfl
 · rcases kk2 with rfl | rfl | rfl
   · have hnz : ¬ (x = 0 ∨ y = 0) := fun c => c.elim (fun c => absurd (z1.2 c) (by decide)) (fun c => absurd (z2.2 c) (by decide))
     have sx : decide (x < 0) = s1 := by
       rcases q1.three with ⟨a, _⟩ | ⟨_, rfl, b⟩ | ⟨_, rfl, b⟩
       · exact absurd a (by decide)
       · exact decide_eq_false (by omega)
       · exact decide_eq_true b
     have sy : decide (y < 0) = s2 := by
       rcases q2.three with ⟨a, _⟩ | ⟨_, rfl, b⟩ | ⟨_, rfl, b⟩
       · exact absurd a (by decide)
       · exact decide_eq_false (by omega)
       · exact decide_eq_true b
     rw [mulp_inf up hnz (.inl i1), sx, sy] at hr; have HRR := Lib.hid hr; clear i1 i2 z1 z2 d1 d2 q1 q2 hr sx sy hnz; have xX3 := X3.cell; have xX4 := X4.cell
     go_wp2_with fail
     refine (nInf (s := s1 != s2) HRR.out).mono ?_; rintro ee w5 ⟨K3, s3, M3, E3, rfl, q3, B⟩; clear xX3 xX4; replace X3 := X3.below B; replace X4 := X4.below B; replace XR := XR.below B; replace HB := Hqb HB B; clear B; have xXR := XR.cell; have zXR0 := XR.frozen; go_wp2; clear xXR zXR0; have SX := StN.mk4 XR (.int .i64 K3) (.bool s3) (.int .u64 M3) (.int .i64 E3)
     exact bodyPost_ret (by simp [results, Tryz.results63, go_sem, SX.box.cell]) rfl ⟨_, _, _, _, rfl, q3, (SX.below HB.out (by omega))⟩
   · rw [mulp_zero up (.inr (z2.1 rfl))] at hr; subst hr; clear i1 i2 z1 z2 d1 d2 q1 q2; have xXR := XR.cell; have zXR0 := XR.frozen; have xX3 := X3.cell; have xX4 := X4.cell; go_wp2; clear xXR zXR0 xX3 xX4; have SX := StN.mk4 XR (.int .i64 0) (.bool false) (.int .u64 0) (.int .i64 0); exact bodyPost_ret (by simp [results, Tryz.results63, go_sem, SX.box.cell]) rfl ⟨_, _, _, _, rfl, Fq.nought, (SX.below HB.out (by omega))⟩
   · have hnz : ¬ (x = 0 ∨ y = 0) := fun c => c.elim (fun c => absurd (z1.2 c) (by decide)) (fun c => absurd (z2.2 c) (by decide))
     have sx : decide (x < 0) = s1 := by
       rcases q1.three with ⟨a, _⟩ | ⟨_, rfl, b⟩ | ⟨_, rfl, b⟩
       · exact absurd a (by decide)
       · exact decide_eq_false (by omega)
       · exact decide_eq_true b
     have sy : decide (y < 0) = s2 := by
       rcases q2.three with ⟨a, _⟩ | ⟨_, rfl, b⟩ | ⟨_, rfl, b⟩
       · exact absurd a (by decide)
       · exact decide_eq_false (by omega)
       · exact decide_eq_true b
     rw [mulp_inf up hnz (.inl i1), sx, sy] at hr; have HRR := Lib.hid hr; clear i1 i2 z1 z2 d1 d2 q1 q2 hr sx sy hnz; have xX3 := X3.cell; have xX4 := X4.cell
     go_wp2_with fail
     refine (nInf (s := s1 != s2) HRR.out).mono ?_; rintro ee w5 ⟨K3, s3, M3, E3, rfl, q3, B⟩; clear xX3 xX4; replace X3 := X3.below B; replace X4 := X4.below B; replace XR := XR.below B; replace HB := Hqb HB B; clear B; have xXR := XR.cell; have zXR0 := XR.frozen; go_wp2; clear xXR zXR0; have SX := StN.mk4 XR (.int .i64 K3) (.bool s3) (.int .u64 M3) (.int .i64 E3)
     exact bodyPost_ret (by simp [results, Tryz.results63, go_sem, SX.box.cell]) rfl ⟨_, _, _, _, rfl, q3, (SX.below HB.out (by omega))⟩
 · rcases kk2 with rfl | rfl | rfl
   · rw [mulp_zero up (.inl (z1.1 rfl))] at hr; subst hr; clear i1 i2 z1 z2 d1 d2 q1 q2; have xXR := XR.cell; have zXR0 := XR.frozen; have xX3 := X3.cell; have xX4 := X4.cell; go_wp2; clear xXR zXR0 xX3 xX4; have SX := StN.mk4 XR (.int .i64 0) (.bool false) (.int .u64 0) (.int .i64 0); exact bodyPost_ret (by simp [results, Tryz.results63, go_sem, SX.box.cell]) rfl ⟨_, _, _, _, rfl, Fq.nought, (SX.below HB.out (by omega))⟩
   · rw [mulp_zero up (.inl (z1.1 rfl))] at hr; subst hr; clear i1 i2 z1 z2 d1 d2 q1 q2; have xXR := XR.cell; have zXR0 := XR.frozen; have xX3 := X3.cell; have xX4 := X4.cell; go_wp2; clear xXR zXR0 xX3 xX4; have SX := StN.mk4 XR (.int .i64 0) (.bool false) (.int .u64 0) (.int .i64 0); exact bodyPost_ret (by simp [results, Tryz.results63, go_sem, SX.box.cell]) rfl ⟨_, _, _, _, rfl, Fq.nought, (SX.below HB.out (by omega))⟩
   · rw [mulp_zero up (.inl (z1.1 rfl))] at hr; subst hr; clear i1 i2 z1 z2 d1 d2 q1 q2; have xXR := XR.cell; have zXR0 := XR.frozen; have xX3 := X3.cell; have xX4 := X4.cell; go_wp2; clear xXR zXR0 xX3 xX4; have SX := StN.mk4 XR (.int .i64 0) (.bool false) (.int .u64 0) (.int .i64 0); exact bodyPost_ret (by simp [results, Tryz.results63, go_sem, SX.box.cell]) rfl ⟨_, _, _, _, rfl, Fq.nought, (SX.below HB.out (by omega))⟩
 · rcases kk2 with rfl | rfl | rfl
   · have hnz : ¬ (x = 0 ∨ y = 0) := fun c => c.elim (fun c => absurd (z1.2 c) (by decide)) (fun c => absurd (z2.2 c) (by decide))
     have sx : decide (x < 0) = s1 := by
       rcases q1.three with ⟨a, _⟩ | ⟨_, rfl, b⟩ | ⟨_, rfl, b⟩
       · exact absurd a (by decide)
       · exact decide_eq_false (by omega)
       · exact decide_eq_true b
     have sy : decide (y < 0) = s2 := by
       rcases q2.three with ⟨a, _⟩ | ⟨_, rfl, b⟩ | ⟨_, rfl, b⟩
       · exact absurd a (by decide)
       · exact decide_eq_false (by omega)
       · exact decide_eq_true b
     rw [mulp_inf up hnz (.inr i2), sx, sy] at hr; have HRR := Lib.hid hr; clear i1 i2 z1 z2 d1 d2 q1 q2 hr sx sy hnz; have xX3 := X3.cell; have xX4 := X4.cell
     go_wp2_with fail
     refine (nInf (s := s1 != s2) HRR.out).mono ?_; rintro ee w5 ⟨K3, s3, M3, E3, rfl, q3, B⟩; clear xX3 xX4; replace X3 := X3.below B; replace X4 := X4.below B; replace XR := XR.below B; replace HB := Hqb HB B; clear B; have xXR := XR.cell; have zXR0 := XR.frozen; go_wp2; clear xXR zXR0; have SX := StN.mk4 XR (.int .i64 K3) (.bool s3) (.int .u64 M3) (.int .i64 E3)
     exact bodyPost_ret (by simp [results, Tryz.results63, go_sem, SX.box.cell]) rfl ⟨_, _, _, _, rfl, q3, (SX.below HB.out (by omega))⟩
   · rw [mulp_zero up (.inr (z2.1 rfl))] at hr; subst hr; clear i1 i2 z1 z2 d1 d2 q1 q2; have xXR := XR.cell; have zXR0 := XR.frozen; have xX3 := X3.cell; have xX4 := X4.cell; go_wp2; clear xXR zXR0 xX3 xX4; have SX := StN.mk4 XR (.int .i64 0) (.bool false) (.int .u64 0) (.int .i64 0); exact bodyPost_ret (by simp [results, Tryz.results63, go_sem, SX.box.cell]) rfl ⟨_, _, _, _, rfl, Fq.nought, (SX.below HB.out (by omega))⟩
   · have HRR := Lib.hid hr; clear i1 i2 z1 z2 d1 d2 hr; have xX3 := X3.cell; have xX4 := X4.cell
     go_wp2_with fail
     refine (aProduct q1 q2).mono ?_; rintro ee w5 ⟨s3, H3, L3, x3, rfl, p3, B⟩; clear xX3 xX4; replace X3 := X3.below B; replace X4 := X4.below B; replace XR := XR.below B; replace HB := Hqb HB B; clear B
     go_wp2_with fail
     refine (aRound p3 HRR.out).mono ?_; rintro ee w6 ⟨K4, s4, M4, E4, rfl, q4, B⟩; replace X3 := X3.below B; replace X4 := X4.below B; replace XR := XR.below B; replace HB := Hqb HB B; clear B; have xXR := XR.cell; have zXR0 := XR.frozen; go_wp2; clear xXR zXR0; have SX := StN.mk4 XR (.int .i64 K4) (.bool s4) (.int .u64 M4) (.int .i64 E4); exact bodyPost_ret (by simp [results, Tryz.results63, go_sem, SX.box.cell]) rfl ⟨_, _, _, _, rfl, q4, (SX.below HB.out (by omega))⟩
def smA (up : Bool) (l : List Int) : Int := l.foldl (addp up) 0
theorem smA_take (up : Bool) {l : List Int} {k : Nat} (h : k < l.length) : smA up (l.take (k + 1)) = addp up (smA up (l.take k)) (l.getD k 0) := by
 unfold smA
 rw [List.take_succ_eq_append_getElem h, List.foldl_append]
 simp [List.getD_eq_getElem?_getD, h]
theorem aSum {w : World} {A : Option Addr} {n c : Nat} {l : List Int} {up : Bool} {r : Int} (hT : Tb w) (h : Nl w A n c l) (hr : smA up l = r) : Calls Tryz.prog 61 #[.bool up, .slice A n c] w (PN w r) := by
 have HR := Lib.hid hr; have HLn := Lib.hid h.1; have hcap := h.2.1; have hbig := h.2.2.1; have hD0 := h; have hT0 := hT; clear hr
 go_enter Tryz.func61, Tryz.ntmps61
 go_upto_region 1 with (fail)
 generalize hW1 : w.alloc _ = w1 at *; obtain ⟨XR, HB⟩ := Bo.en1 hW1; replace h := h.below HB.out; replace hT := hT.below HB.out; clear hW1
 go_upto_region 2 with (fail)
 have hg3 := XR.lt; have lX3 := Nat.le_refl (World.heap w1).size; have nX3XR := XR.lt; generalize hWn : w1.alloc _ = w3 at *; obtain ⟨X3, BW⟩ := Bo.nw hWn; clear hWn; replace XR := XR.below BW; replace h := h.below BW; replace hT := hT.below BW; replace HB := Hqb HB BW; clear BW
 go_wp2_with fail
 generalize w1.heap.size = g3 at *; clear h hT w1
 go_loopw [11] (fun i wr => ∃ k : Nat, k ≤ n ∧ i = .int .i64 k ∧ NInv w g3 (smA up (l.take k)) wr) (fun i _ => n - (intOf i).toNat)
 case atStart => exact ⟨0, Nat.zero_le _, rfl, _, _, _, _, XR, X3, Fq.nought, HB.out⟩
 clear HB XR X3 lX3
 case round =>
   obtain ⟨k, hk, rfl, hI⟩ := hrel; obtain ⟨K1, s1, M1, E1, XR, X3, q1, hB⟩ := hI; have HB := Lib.hid hB; have h := hD0.below hB; have hT := hT0.below hB; clear hB
   by_cases hlt : k < n
   · obtain ⟨b, o, rfl, hcell⟩ := h.2.2.2 (by omega); obtain ⟨D, s, M, E, c0, c1, c2, c3, hM, hx⟩ := hcell k hlt; clear hcell h hD0
     have i1 : (k : Int) < n := by omega
     have i2 : (0 : Int) ≤ k := by omega
     have hst := smA_take up (l := l) (k := k) (by rw [HLn.out]; exact hlt); rw [← hx] at hst; generalize smA up (l.take k) = R at *; obtain ⟨x, hX⟩ : ∃ x, rk D s M E = x := ⟨_, rfl⟩; rw [hX] at hst; obtain ⟨r2, hr2⟩ : ∃ r2, addp up R x = r2 := ⟨_, rfl⟩; rw [hr2] at hst; have HX := Lib.hid hX; have HST := Lib.hid hst; have HAD := Lib.hid hr2; clear hst hX hx hr2
     go_upto_region 5 with (fail)
     have hgd := X3.lt; have lX5 := Nat.le_refl (World.heap wr).size; have nX5XR := XR.lt; have nX5X3 := X3.lt; generalize hWn : wr.alloc _ = w3 at *; obtain ⟨X5, BW⟩ := Bo.nw hWn; clear hWn; replace XR := XR.below BW; replace X3 := X3.below BW; replace hT := hT.below BW; replace HB := Hqb HB BW; clear BW; clear c0 c1 c2 c3 lX5; have xX3 := X3.cell; have xX5 := X5.cell
     go_wp2_with fail
     refine (aAdd hT q1.top hM q1.rk HX.out HAD.out).mono ?_; rintro ee w4 ⟨K2, s2, M2, E2, rfl, q2, B⟩; clear xX3 xX5; replace XR := XR.below B; replace X3 := X3.below B; replace X5 := X5.below B; replace hT := hT.below B; replace HB := Hqb HB B; clear B; have xX3 := X3.cell; have zX30 := X3.frozen
     go_upto_region 6 with (fail)
     clear xX3 zX30; generalize hS : (((w4.setCell _ _).setCell _ _).setCell _ _).setCell _ _ = w5 at *; have SX := StN.of4 X3 hS; replace XR := XR.stn SX (by omega); replace X5 := X5.stn SX (by omega); replace HB := Hqs HB SX (by omega); replace X3 := SX.box; clear SX hS; go_wp2
     go_roundw
     case rel =>
       refine ⟨k + 1, by omega, by go_num, K2, s2, M2, E2, XR, X3, ?_, HB.out⟩
       rw [HST.out]; exact q2
     case measure => simp [intOf]; omega
   · obtain rfl : k = n := by omega
     rw [List.take_of_length_le (by rw [HLn.out]; omega), HR.out] at q1; have xXR := XR.cell; have zXR0 := XR.frozen; have xX3 := X3.cell; go_wp2; clear xXR zXR0 xX3; have SX := StN.mk4 XR (.int .i64 K1) (.bool s1) (.int .u64 M1) (.int .i64 E1); exact bodyPost_ret (by simp [results, Tryz.results61, go_sem, SX.box.cell]) rfl ⟨_, _, _, _, rfl, q1, (SX.below HB.out (by omega))⟩
def Fz (x : Int) (h : Nat) : Prop := infp x = true ∨ Fit h (ep x)
theorem Fz.mono {x : Int} {h k : Nat} (f : Fz x h) (hk : h ≤ k) : Fz x k := f.imp id fun g => g.mono hk
theorem Fz.zero (h : Nat) : Fz 0 h := .inr (by rw [ep_zero]; exact Fit.zero h)
theorem dn_le_up {X r t : Int} (h : Dn X r) (k : Up X t) : r ≤ t := by
 obtain ⟨h1, h2, h3, h4⟩ := h; obtain ⟨k1, k2, k3, k4⟩ := k
 rcases Int.lt_or_le t r with q | q
 · exfalso
   have a := h3 (by omega); have b := k3 (by omega); rw [vr_neg] at b
   have := vr_lt q
   omega
 · exact q
theorem addp_le {x y : Int} (x1 : -19342822337206103650074625 ≤ x) (x2 : x ≤ 19342822337206103650074625) (y1 : -19342822337206103650074625 ≤ y) (y2 : y ≤ 19342822337206103650074625) : addp false x y ≤ addp true x y := by
 have htp := TP_eq
 cases hx : infp x <;> cases hy : infp y
 · obtain ⟨a1, a2⟩ := infp_false x1 x2 hx; obtain ⟨b1, b2⟩ := infp_false y1 y2 hy; obtain ⟨u, v⟩ := addp_spec (x := x) (y := y) true a1 a2 b1 b2; exact dn_le_up u v
 · rw [addp_ft _ hx hy, addp_ft _ hx hy]; exact Int.le_refl _
 · rw [addp_tf _ hx hy, addp_tf _ hx hy]; exact Int.le_refl _
 · by_cases e : x = y
   · rw [addp_same _ hx e, addp_same _ hx e]; exact Int.le_refl _
   · rw [addp_diff _ hx hy e, addp_diff _ hx hy e, show (!false) = true from rfl, show (!true) = false from rfl, wsg_f, wsg_t]
     omega
theorem meet_stuck : ∀ l : List Sp, l.foldl meetI none = none
 | [] => rfl
 | _ :: l => meet_stuck l
def In (x : Int) : Prop := -19342822337206103650074625 ≤ x ∧ x ≤ 19342822337206103650074625
theorem mkI_in {a b : Int} (ha : In a) (hb : In b) : SpOk (mkI a b) := mkI_ok ha.1 hb.2
theorem SpOk.in1 {a b : Int} (h : SpOk (some (a, b))) : In a ∧ In b := by
 obtain ⟨h1, h2, h3, h4, h5⟩ := h; exact ⟨⟨by omega, by omega⟩, ⟨by omega, by omega⟩⟩
theorem has_zero {a b : Int} : hasI (some (a, b)) 0 = (decide (a ≤ 0) && decide (0 ≤ b)) := by
 simp only [hasI, infp_zero, Bool.not_false, Bool.true_and]
def negI (x : Sp) : Sp := match x with
 | none => none
 | some (a, b) => mkI (-b) (-a)
def addI (x y : Sp) : Sp := match x, y with
 | some (a, b), some (c, d) => mkI (addp false a c) (addp true b d)
 | _, _ => none
def addL (l : List Sp) : Sp := match l with
 | [] => some (0, 0)
 | x :: l => l.foldl addI x
def subI (x y : Sp) : Sp := addI x (negI y)
def cor (f : Bool → Int → Int → Int) (a b c d : Int) : Sp := mkI (min (min (f false a c) (f false a d)) (min (f false b c) (f false b d))) (max (max (f true a c) (f true a d)) (max (f true b c) (f true b d)))
def mulI (x y : Sp) : Sp := match x, y with
 | some (a, b), some (c, d) => cor mulp a b c d
 | _, _ => none
theorem negI_some {a b : Int} (h : SpOk (some (a, b))) : negI (some (a, b)) = some (-b, -a) := by
 obtain ⟨h1, h2, h3, h4, h5⟩ := h; exact mkI_some (by omega) (by omega) (by omega)
theorem negI_ok {x : Sp} (h : SpOk x) : SpOk (negI x) := by
 rcases x with _ | ⟨a, b⟩
 · exact trivial
 · obtain ⟨⟨h1, h2⟩, h3, h4⟩ := h.in1; exact mkI_in ⟨by omega, by omega⟩ ⟨by omega, by omega⟩
theorem neg_neg {x : Sp} (h : SpOk x) : negI (negI x) = x := by
 rcases x with _ | ⟨a, b⟩
 · rfl
 · have k := negI_ok h; rw [negI_some h] at k ⊢; rw [negI_some k, Int.neg_neg, Int.neg_neg]
theorem add_none (x : Sp) : addI x none = none := by cases x <;> rfl
theorem add_comm (x y : Sp) : addI x y = addI y x := by
 rcases x with _ | ⟨a, b⟩ <;> rcases y with _ | ⟨c, d⟩ <;> first | rfl | skip
 show mkI _ _ = mkI _ _
 rw [addp_comm (x := a), addp_comm (x := b)]
theorem addp_le2 {x y z t : Int} (up : Bool) (hx : In x) (hy : In y) (hz : In z) (ht : In t) (h : x ≤ y) (k : z ≤ t) : addp up x z ≤ addp up y t := by
 refine Int.le_trans (addp_mono up hx.1 hx.2 hy.1 hy.2 hz.1 hz.2 h) ?_; rw [addp_comm (x := y), addp_comm (x := y)]; exact addp_mono up hz.1 hz.2 ht.1 ht.2 hy.1 hy.2 k
theorem mul_comm (x y : Sp) : mulI x y = mulI y x := by
 rcases x with _ | ⟨a, b⟩ <;> rcases y with _ | ⟨c, d⟩ <;> first | rfl | skip
 show cor mulp a b c d = cor mulp c d a b
 unfold cor
 simp only [mulp_comm (x := c), mulp_comm (x := d)]
 congr 1 <;> omega
def FzI (x : Sp) (h : Nat) : Prop := ∀ a b, x = some (a, b) → Fz a h ∧ Fz b h
theorem FzI.mono {x : Sp} {h k : Nat} (f : FzI x h) (hk : h ≤ k) : FzI x k := fun a b e => ⟨(f a b e).1.mono hk, (f a b e).2.mono hk⟩
theorem StN.trans {w w' w'' : World} {g : Nat} {a b c : Array Value} {T : TypeId} (h : StN w w' g a b T) (k : StN w' w'' g b c T) : StN w w'' g a c T :=
 ⟨h.1, k.2.1, fun j hj => (k.2.2.1 j hj).trans (h.2.2.1 j hj), fun B x hB hb => k.2.2.2 B x hB (h.2.2.2 B x hB hb)⟩
theorem StN.mk9 {w : World} {g : Nat} {T : TypeId} {a0 a1 a2 a3 a4 a5 a6 a7 a8 : Value} (X : Bo w g #[a0, a1, a2, a3, a4, a5, a6, a7, a8] T) (v0 v1 v2 v3 v4 v5 v6 v7 v8 : Value) :
   StN w (((((((((w.setCell ⟨g, 0, none⟩ v0).setCell ⟨g, 1, none⟩ v1).setCell ⟨g, 2, none⟩ v2).setCell ⟨g, 3, none⟩ v3).setCell ⟨g, 4, none⟩ v4).setCell ⟨g, 5, none⟩ v5).setCell ⟨g, 6, none⟩ v6).setCell ⟨g, 7, none⟩ v7).setCell ⟨g, 8, none⟩ v8) g #[a0, a1, a2, a3, a4, a5, a6, a7, a8] #[v0, v1, v2, v3, v4, v5, v6, v7, v8] T := by
 have t0 : StN w (w.setCell ⟨g, 0, none⟩ v0) g #[a0, a1, a2, a3, a4, a5, a6, a7, a8] #[v0, a1, a2, a3, a4, a5, a6, a7, a8] T := StN.at4 X 0 v0
 have s0 := t0
 have t1 : StN (w.setCell ⟨g, 0, none⟩ v0) ((w.setCell ⟨g, 0, none⟩ v0).setCell ⟨g, 1, none⟩ v1) g #[v0, a1, a2, a3, a4, a5, a6, a7, a8] #[v0, v1, a2, a3, a4, a5, a6, a7, a8] T := StN.at4 s0.box 1 v1
 have s1 := s0.trans t1
 have t2 : StN ((w.setCell ⟨g, 0, none⟩ v0).setCell ⟨g, 1, none⟩ v1) (((w.setCell ⟨g, 0, none⟩ v0).setCell ⟨g, 1, none⟩ v1).setCell ⟨g, 2, none⟩ v2) g #[v0, v1, a2, a3, a4, a5, a6, a7, a8] #[v0, v1, v2, a3, a4, a5, a6, a7, a8] T := StN.at4 s1.box 2 v2
 have s2 := s1.trans t2
 have t3 : StN (((w.setCell ⟨g, 0, none⟩ v0).setCell ⟨g, 1, none⟩ v1).setCell ⟨g, 2, none⟩ v2) ((((w.setCell ⟨g, 0, none⟩ v0).setCell ⟨g, 1, none⟩ v1).setCell ⟨g, 2, none⟩ v2).setCell ⟨g, 3, none⟩ v3) g #[v0, v1, v2, a3, a4, a5, a6, a7, a8] #[v0, v1, v2, v3, a4, a5, a6, a7, a8] T := StN.at4 s2.box 3 v3
 have s3 := s2.trans t3
 have t4 : StN ((((w.setCell ⟨g, 0, none⟩ v0).setCell ⟨g, 1, none⟩ v1).setCell ⟨g, 2, none⟩ v2).setCell ⟨g, 3, none⟩ v3) (((((w.setCell ⟨g, 0, none⟩ v0).setCell ⟨g, 1, none⟩ v1).setCell ⟨g, 2, none⟩ v2).setCell ⟨g, 3, none⟩ v3).setCell ⟨g, 4, none⟩ v4) g #[v0, v1, v2, v3, a4, a5, a6, a7, a8] #[v0, v1, v2, v3, v4, a5, a6, a7, a8] T := StN.at4 s3.box 4 v4
 have s4 := s3.trans t4
 have t5 : StN (((((w.setCell ⟨g, 0, none⟩ v0).setCell ⟨g, 1, none⟩ v1).setCell ⟨g, 2, none⟩ v2).setCell ⟨g, 3, none⟩ v3).setCell ⟨g, 4, none⟩ v4) ((((((w.setCell ⟨g, 0, none⟩ v0).setCell ⟨g, 1, none⟩ v1).setCell ⟨g, 2, none⟩ v2).setCell ⟨g, 3, none⟩ v3).setCell ⟨g, 4, none⟩ v4).setCell ⟨g, 5, none⟩ v5) g #[v0, v1, v2, v3, v4, a5, a6, a7, a8] #[v0, v1, v2, v3, v4, v5, a6, a7, a8] T := StN.at4 s4.box 5 v5
 have s5 := s4.trans t5
 have t6 : StN ((((((w.setCell ⟨g, 0, none⟩ v0).setCell ⟨g, 1, none⟩ v1).setCell ⟨g, 2, none⟩ v2).setCell ⟨g, 3, none⟩ v3).setCell ⟨g, 4, none⟩ v4).setCell ⟨g, 5, none⟩ v5) (((((((w.setCell ⟨g, 0, none⟩ v0).setCell ⟨g, 1, none⟩ v1).setCell ⟨g, 2, none⟩ v2).setCell ⟨g, 3, none⟩ v3).setCell ⟨g, 4, none⟩ v4).setCell ⟨g, 5, none⟩ v5).setCell ⟨g, 6, none⟩ v6) g #[v0, v1, v2, v3, v4, v5, a6, a7, a8] #[v0, v1, v2, v3, v4, v5, v6, a7, a8] T := StN.at4 s5.box 6 v6
 have s6 := s5.trans t6
 have t7 : StN (((((((w.setCell ⟨g, 0, none⟩ v0).setCell ⟨g, 1, none⟩ v1).setCell ⟨g, 2, none⟩ v2).setCell ⟨g, 3, none⟩ v3).setCell ⟨g, 4, none⟩ v4).setCell ⟨g, 5, none⟩ v5).setCell ⟨g, 6, none⟩ v6) ((((((((w.setCell ⟨g, 0, none⟩ v0).setCell ⟨g, 1, none⟩ v1).setCell ⟨g, 2, none⟩ v2).setCell ⟨g, 3, none⟩ v3).setCell ⟨g, 4, none⟩ v4).setCell ⟨g, 5, none⟩ v5).setCell ⟨g, 6, none⟩ v6).setCell ⟨g, 7, none⟩ v7) g #[v0, v1, v2, v3, v4, v5, v6, a7, a8] #[v0, v1, v2, v3, v4, v5, v6, v7, a8] T := StN.at4 s6.box 7 v7
 have s7 := s6.trans t7
 have t8 : StN ((((((((w.setCell ⟨g, 0, none⟩ v0).setCell ⟨g, 1, none⟩ v1).setCell ⟨g, 2, none⟩ v2).setCell ⟨g, 3, none⟩ v3).setCell ⟨g, 4, none⟩ v4).setCell ⟨g, 5, none⟩ v5).setCell ⟨g, 6, none⟩ v6).setCell ⟨g, 7, none⟩ v7) (((((((((w.setCell ⟨g, 0, none⟩ v0).setCell ⟨g, 1, none⟩ v1).setCell ⟨g, 2, none⟩ v2).setCell ⟨g, 3, none⟩ v3).setCell ⟨g, 4, none⟩ v4).setCell ⟨g, 5, none⟩ v5).setCell ⟨g, 6, none⟩ v6).setCell ⟨g, 7, none⟩ v7).setCell ⟨g, 8, none⟩ v8) g #[v0, v1, v2, v3, v4, v5, v6, v7, a8] #[v0, v1, v2, v3, v4, v5, v6, v7, v8] T := StN.at4 s7.box 8 v8
 have s8 := s7.trans t8; exact s8
def Ci (e : Bool) (K : Int) (s : Bool) (M E K' : Int) (s' : Bool) (M' E' : Int) : Sp → Prop
 | none => e = true ∧ Fq K s M E 0 ∧ Fq K' s' M' E' 0
 | some (a, b) => e = false ∧ Fq K s M E a ∧ Fq K' s' M' E' b ∧ a ≤ b ∧ a < 19342822337206103650074625 ∧ -19342822337206103650074625 < b
section
variable {e e2 : Bool} {K M E K' M' E' K2 M2 E2 K2' M2' E2' : Int} {s s' s2 s2' : Bool} {x y : Sp}
theorem Ci.ok (h : Ci e K s M E K' s' M' E' x) : SpOk x := by
 rcases x with _ | ⟨a, b⟩
 · exact trivial
 · obtain ⟨_, q1, q2, h1, h2, h3⟩ := h; exact ⟨q1.bd.1, h1, q2.bd.2, h2, h3⟩
theorem Ci.top (h : Ci e K s M E K' s' M' E' x) : M < 18446744073709551616 ∧ M' < 18446744073709551616 := by
 rcases x with _ | ⟨a, b⟩
 · exact ⟨h.2.1.top, h.2.2.top⟩
 · exact ⟨h.2.1.top, h.2.2.1.top⟩
theorem Ci.uniq (h : Ci e K s M E K' s' M' E' x) (k : Ci e2 K2 s2 M2 E2 K2' s2' M2' E2' x) : e = e2 ∧ K = K2 ∧ s = s2 ∧ M = M2 ∧ E = E2 ∧ K' = K2' ∧ s' = s2' ∧ M' = M2' ∧ E' = E2' := by
 rcases x with _ | ⟨a, b⟩
 · obtain ⟨h1, q1, q2⟩ := h; obtain ⟨k1, p1, p2⟩ := k; obtain ⟨c1, c2, c3, c4⟩ := q1.uniq p1; obtain ⟨d1, d2, d3, d4⟩ := q2.uniq p2; exact ⟨h1.trans k1.symm, c1, c2, c3, c4, d1, d2, d3, d4⟩
 · obtain ⟨h1, q1, q2, _⟩ := h; obtain ⟨k1, p1, p2, _⟩ := k; obtain ⟨c1, c2, c3, c4⟩ := q1.uniq p1; obtain ⟨d1, d2, d3, d4⟩ := q2.uniq p2; exact ⟨h1.trans k1.symm, c1, c2, c3, c4, d1, d2, d3, d4⟩
theorem Ci.fn (h : Ci e K s M E K' s' M' E' x) (k : Ci e K s M E K' s' M' E' y) : x = y := by
 rcases x with _ | ⟨a, b⟩ <;> rcases y with _ | ⟨c, d⟩
 · rfl
 · have := h.1.symm.trans k.1
   cases this
 · have := h.1.symm.trans k.1
   cases this
 · rw [← h.2.1.rk, ← h.2.2.1.rk, ← k.2.1.rk, ← k.2.2.1.rk]
end
theorem Ci.none : Ci true 0 false 0 0 0 false 0 0 none := ⟨rfl, Fq.nought, Fq.nought⟩
def rkI (e : Bool) (K : Int) (s : Bool) (M E K' : Int) (s' : Bool) (M' E' : Int) : Sp := if e = true then none else if MayQ K s M E ∧ MayQ K' s' M' E' then mkI (rk K s M E) (rk K' s' M' E') else none
def mayI (e : Bool) (K : Int) (s : Bool) (M E K' : Int) (s' : Bool) (M' E' : Int) : Bool := if e = true then (decide (K = 0 ∧ s = false ∧ M = 0 ∧ E = 0) && decide (K' = 0 ∧ s' = false ∧ M' = 0 ∧ E' = 0)) else decide (rkI e K s M E K' s' M' E' ≠ none)
section
variable {e : Bool} {K M E K' M' E' : Int} {s s' : Bool} {x : Sp}
theorem rkI_t : rkI true K s M E K' s' M' E' = none := if_pos rfl
theorem rkI_f : rkI false K s M E K' s' M' E' = if MayQ K s M E ∧ MayQ K' s' M' E' then mkI (rk K s M E) (rk K' s' M' E') else none := if_neg ff
theorem rkI_ok (hM : LQ M) (hM' : LQ M') : SpOk (rkI e K s M E K' s' M' E') := by
 cases e
 · rw [rkI_f]
   by_cases h : MayQ K s M E ∧ MayQ K' s' M' E'
   · rw [if_pos h]; exact mkI_ok (rk_fq hM h.1).bd.1 (rk_fq hM' h.2).bd.2
   · rw [if_neg h]; exact trivial
 · exact trivial
theorem mayI_ci (hM : LQ M) (hM' : LQ M') (h : mayI e K s M E K' s' M' E' = true) : Ci e K s M E K' s' M' E' (rkI e K s M E K' s' M' E') := by
 unfold mayI at h
 cases e
 · rw [if_neg ff, decide_eq_true_iff] at h; rw [rkI_f] at h ⊢
   by_cases hq : MayQ K s M E ∧ MayQ K' s' M' E'
   · rw [if_pos hq] at h ⊢
     by_cases hc : rk K s M E ≤ rk K' s' M' E' ∧ rk K s M E < 19342822337206103650074625 ∧ -19342822337206103650074625 < rk K' s' M' E'
     · rw [mkI_some hc.1 hc.2.1 hc.2.2]; exact ⟨rfl, rk_fq hM hq.1, rk_fq hM' hq.2, hc⟩
     · exact absurd (mkI_none hc) h
   · rw [if_neg hq] at h; exact absurd rfl h
 · rw [if_pos rfl, Bool.and_eq_true, decide_eq_true_iff, decide_eq_true_iff] at h; obtain ⟨⟨rfl, rfl, rfl, rfl⟩, rfl, rfl, rfl, rfl⟩ := h; exact Ci.none
theorem mayI_no (h : mayI e K s M E K' s' M' E' = false) : rkI e K s M E K' s' M' E' = none := by
 cases e
 · unfold mayI at h
   rw [if_neg ff, decide_eq_false_iff_not] at h; exact Decidable.not_not.1 h
 · exact rkI_t
theorem Ci.rk (h : Ci e K s M E K' s' M' E' x) : rkI e K s M E K' s' M' E' = x := by
 rcases x with _ | ⟨a, b⟩
 · obtain ⟨rfl, _⟩ := h; exact rkI_t
 · obtain ⟨rfl, q1, q2, h1, h2, h3⟩ := h; rw [rkI_f, if_pos ⟨q1.1, q2.1⟩, q1.rk, q2.rk, mkI_some h1 h2 h3]
theorem Ci.may (h : Ci e K s M E K' s' M' E' x) : mayI e K s M E K' s' M' E' = true := by
 have hr := h.rk
 unfold mayI
 rcases x with _ | ⟨a, b⟩
 · obtain ⟨rfl, q1, q2⟩ := h; obtain ⟨rfl, rfl, rfl, rfl⟩ := q1.uniq Fq.nought; obtain ⟨rfl, rfl, rfl, rfl⟩ := q2.uniq Fq.nought
   rfl
 · obtain ⟨rfl, _⟩ := h; rw [if_neg ff, hr]
   rfl
end
def PV (w : World) (x : Sp) (e : Ending) (w' : World) : Prop := ∃ e0 K s M E K' s' M' E', e = .returned (.agg #[.bool e0, .int .i64 K, .bool s, .int .u64 M, .int .i64 E, .int .i64 K', .bool s', .int .u64 M', .int .i64 E']) ∧ Ci e0 K s M E K' s' M' E' x ∧ Below w.heap.size w w'
def Jo.Fact.iv (x : Sp) : Jo.Fact := ⟨fun v w => ∃ e0 K s M E K' s' M' E', v = .agg #[.bool e0, .int .i64 K, .bool s, .int .u64 M, .int .i64 E, .int .i64 K', .bool s', .int .u64 M', .int .i64 E'] ∧ Ci e0 K s M E K' s' M' E' x, fun v w w' h b => h⟩
def Il8 (w : World) (A : Option Addr) (n c : Nat) (l : List Sp) : Prop :=
 l.length = n ∧ n ≤ c ∧ n ≤ 1099511627776 ∧ (0 < n → ∃ b o, A = some ⟨b, o, none⟩ ∧ ∀ k, k < n → ∃ e K s M E K' s' M' E', w.cell? ⟨b, o + k * 9, none⟩ = some (.bool e) ∧ w.cell? ⟨b, o + k * 9 + 1, none⟩ = some (.int .i64 K) ∧ w.cell? ⟨b, o + k * 9 + 2, none⟩ = some (.bool s) ∧ w.cell? ⟨b, o + k * 9 + 3, none⟩ = some (.int .u64 M) ∧ w.cell? ⟨b, o + k * 9 + 4, none⟩ = some (.int .i64 E) ∧ w.cell? ⟨b, o + k * 9 + 5, none⟩ = some (.int .i64 K') ∧ w.cell? ⟨b, o + k * 9 + 6, none⟩ = some (.bool s') ∧ w.cell? ⟨b, o + k * 9 + 7, none⟩ = some (.int .u64 M') ∧ w.cell? ⟨b, o + k * 9 + 8, none⟩ = some (.int .i64 E') ∧ M < 18446744073709551616 ∧ M' < 18446744073709551616 ∧ rkI e K s M E K' s' M' E' = l.getD k none)
theorem Il8.below {w w' : World} {A : Option Addr} {n c : Nat} {l : List Sp} (h : Il8 w A n c l) (hb : Below w.heap.size w w') : Il8 w' A n c l := by
 obtain ⟨h1, h2, h3, h4⟩ := h
 refine ⟨h1, h2, h3, fun hn => ?_⟩
 obtain ⟨b, o, e, hc⟩ := h4 hn
 refine ⟨b, o, e, fun k hk => ?_⟩
 obtain ⟨e, K, s, M, E, K', s', M', E', c0, c1, c2, c3, c4, c5, c6, c7, c8, hM, hM', hr⟩ := hc k hk
 have t : ∀ {i : Nat} {v : Value}, w.cell? ⟨b, i, none⟩ = some v → w'.cell? ⟨b, i, none⟩ = some v := fun c => (hb.cell (p := ⟨b, _, none⟩) (block_lt_of_cell c)).trans c
 exact ⟨e, K, s, M, E, K', s', M', E', t c0, t c1, t c2, t c3, t c4, t c5, t c6, t c7, t c8, hM, hM', hr⟩
theorem Il8.ok {w : World} {A : Option Addr} {n c : Nat} {l : List Sp} (h : Il8 w A n c l) : ∀ y ∈ l, SpOk y := by
 intro y hy
 obtain ⟨k, hk, e⟩ := List.getElem_of_mem hy; obtain ⟨h1, h2, h3, h4⟩ := h; obtain ⟨b, o, _, hc⟩ := h4 (by omega); obtain ⟨e0, K, s, M, E, K', s', M', E', _, _, _, _, _, _, _, _, _, hM, hM', hr⟩ := hc k (by omega)
 have : l.getD k none = y := by
   rw [List.getD_eq_getElem?_getD, List.getElem?_eq_getElem hk, e]
   rfl
 rw [← this, ← hr]; exact rkI_ok hM hM'
theorem StN.of9 {w w1 : World} {g : Nat} {T : TypeId} {a0 a1 a2 a3 a4 a5 a6 a7 a8 v0 v1 v2 v3 v4 v5 v6 v7 v8 : Value} (X : Bo w g #[a0, a1, a2, a3, a4, a5, a6, a7, a8] T) (h : ((((((((w.setCell ⟨g, 0, none⟩ v0).setCell ⟨g, 1, none⟩ v1).setCell ⟨g, 2, none⟩ v2).setCell ⟨g, 3, none⟩ v3).setCell ⟨g, 4, none⟩ v4).setCell ⟨g, 5, none⟩ v5).setCell ⟨g, 6, none⟩ v6).setCell ⟨g, 7, none⟩ v7).setCell ⟨g, 8, none⟩ v8 = w1) : StN w w1 g #[a0, a1, a2, a3, a4, a5, a6, a7, a8] #[v0, v1, v2, v3, v4, v5, v6, v7, v8] T := h ▸ StN.mk9 X v0 v1 v2 v3 v4 v5 v6 v7 v8
def lo1 : Sp → List Int
 | none => []
 | some (a, _) => [a]
def hi1 : Sp → List Int
 | none => []
 | some (_, b) => [b]
def lowL : List Sp → List Int
 | [] => []
 | x :: l => lo1 x ++ lowL l
def highL : List Sp → List Int
 | [] => []
 | x :: l => hi1 x ++ highL l
theorem lowL_append : ∀ (l m : List Sp), lowL (l ++ m) = lowL l ++ lowL m
 | [], m => rfl
 | x :: l, m => by
   show lo1 x ++ lowL (l ++ m) = (lo1 x ++ lowL l) ++ lowL m
   rw [lowL_append l m, List.append_assoc]
theorem highL_append : ∀ (l m : List Sp), highL (l ++ m) = highL l ++ highL m
 | [], m => rfl
 | x :: l, m => by
   show hi1 x ++ highL (l ++ m) = (hi1 x ++ highL l) ++ highL m
   rw [highL_append l m, List.append_assoc]
theorem lowL_take {l : List Sp} {k : Nat} (h : k < l.length) : lowL (l.take (k + 1)) = lowL (l.take k) ++ lo1 (l.getD k none) := by
 rw [List.take_succ_eq_append_getElem h, lowL_append, List.getD_eq_getElem?_getD, List.getElem?_eq_getElem h]; exact congrArg _ (List.append_nil _)
theorem highL_take {l : List Sp} {k : Nat} (h : k < l.length) : highL (l.take (k + 1)) = highL (l.take k) ++ hi1 (l.getD k none) := by
 rw [List.take_succ_eq_append_getElem h, highL_append, List.getD_eq_getElem?_getD, List.getElem?_eq_getElem h]; exact congrArg _ (List.append_nil _)
theorem len_lo : ∀ l : List Sp, (lowL l).length ≤ l.length
 | [] => Nat.le_refl _
 | none :: l => Nat.le_succ_of_le (len_lo l)
 | some (a, b) :: l => Nat.succ_le_succ (len_lo l)
theorem meetI_mk (A B a b : Int) : meetI (mkI A B) (some (a, b)) = mkI (max A a) (min B b) := by
 by_cases h : A ≤ B ∧ A < 19342822337206103650074625 ∧ -19342822337206103650074625 < B
 · rw [mkI_some h.1 h.2.1 h.2.2]
   rfl
 · rw [mkI_none h, mkI_none (fun c => h (by omega))]
   rfl
theorem meet_fold : ∀ (l : List Sp) (A B : Int), (lowL l).length = l.length → l.foldl meetI (mkI A B) = mkI ((lowL l).foldl max A) ((highL l).foldl min B)
 | [], A, B, _ => rfl
 | none :: l, A, B, h => by
   have h1 : (lowL l).length = l.length + 1 := h
   have h2 := len_lo l
   omega
 | some (a, b) :: l, A, B, h => by
   show l.foldl meetI (meetI (mkI A B) (some (a, b))) = _
   rw [meetI_mk]; exact meet_fold l (max A a) (min B b) (Nat.succ_inj.1 h)
theorem meet_some {l : List Sp} (h : (lowL l).length = l.length) : meetL l = mkI (mxp (lowL l)) (mnp (highL l)) := by
 have e : allI = mkI (-19342822337206103650074625) 19342822337206103650074625 := (mkI_some (by omega) (by omega) (by omega)).symm
 unfold meetL mxp mnp
 rw [e, TP_eq]; exact meet_fold l _ _ h
theorem meet_gone : ∀ (l : List Sp) (x : Sp), (lowL l).length < l.length → l.foldl meetI x = none
 | [], x, h => absurd h (Nat.lt_irrefl _)
 | none :: l, x, h => by
   show l.foldl meetI (meetI x none) = none
   rw [meetI_none]; exact meet_stuck l
 | some (a, b) :: l, x, h => meet_gone l _ (Nat.lt_of_succ_lt_succ h)
theorem meet_no {l : List Sp} (h : (lowL l).length < l.length) : meetL l = none := meet_gone l allI h
theorem hullI_mk {A B a b : Int} (h : A = 19342822337206103650074625 ∧ B = -19342822337206103650074625 ∨ A ≤ B ∧ A < 19342822337206103650074625 ∧ -19342822337206103650074625 < B) (k : SpOk (some (a, b))) :
   hullI (mkI A B) (some (a, b)) = mkI (min A a) (max B b) ∧ (min A a ≤ max B b ∧ min A a < 19342822337206103650074625 ∧ -19342822337206103650074625 < max B b) := by
 obtain ⟨k1, k2, k3, k4, k5⟩ := k; refine ⟨?_, by omega, by omega, by omega⟩
 rcases h with ⟨rfl, rfl⟩ | ⟨h1, h2, h3⟩
 · rw [mkI_none (by omega), mkI_some (by omega) (by omega) (by omega)]
   have e1 : min 19342822337206103650074625 a = a := by omega
   have e2 : max (-19342822337206103650074625) b = b := by omega
   rw [e1, e2]
   rfl
 · rw [mkI_some h1 h2 h3]
   rfl
theorem hull_fold : ∀ (l : List Sp) (A B : Int), (A = 19342822337206103650074625 ∧ B = -19342822337206103650074625 ∨ A ≤ B ∧ A < 19342822337206103650074625 ∧ -19342822337206103650074625 < B) → (∀ y ∈ l, SpOk y) → l.foldl hullI (mkI A B) = mkI ((lowL l).foldl min A) ((highL l).foldl max B)
 | [], A, B, _, _ => rfl
 | none :: l, A, B, h, k => by
   show l.foldl hullI (hullI (mkI A B) none) = _
   rw [hullI_none]
   exact hull_fold l A B h (fun y hy => k y (List.mem_cons_of_mem _ hy))
 | some (a, b) :: l, A, B, h, k => by
   obtain ⟨e, g⟩ := hullI_mk h (k _ (List.mem_cons_self ..))
   show l.foldl hullI (hullI (mkI A B) (some (a, b))) = _
   rw [e]
   exact hull_fold l _ _ (.inr g) (fun y hy => k y (List.mem_cons_of_mem _ hy))
theorem hull_ends {l : List Sp} (h : ∀ y ∈ l, SpOk y) : hullL l = mkI (mnp (lowL l)) (mxp (highL l)) := by
 have e : (none : Sp) = mkI 19342822337206103650074625 (-19342822337206103650074625) := (mkI_none (by omega)).symm
 unfold hullL mxp mnp
 rw [e, TP_eq]; exact hull_fold l _ _ (.inl ⟨rfl, rfl⟩) h
def nrow : List (Int × Bool × Int × Int) → List Value
 | [] => []
 | (K, s, M, E) :: l => .int .i64 K :: .bool s :: .int .u64 M :: .int .i64 E :: nrow l
theorem nrow_append : ∀ l m, nrow (l ++ m) = nrow l ++ nrow m
 | [], m => rfl
 | (K, s, M, E) :: l, m => by
   show _ :: _ :: _ :: _ :: nrow (l ++ m) = _
   rw [nrow_append l m]
   rfl
theorem nrow_at : ∀ (l : List (Int × Bool × Int × Int)) (k : Nat) (K : Int) (s : Bool) (M E : Int), l[k]? = some (K, s, M, E) → (nrow l)[k * 4]? = some (.int .i64 K) ∧ (nrow l)[k * 4 + 1]? = some (.bool s) ∧ (nrow l)[k * 4 + 2]? = some (.int .u64 M) ∧ (nrow l)[k * 4 + 3]? = some (.int .i64 E)
 | [], k, _, _, _, _, h => by cases h
 | (K, s, M, E) :: l, 0, _, _, _, _, h => by
   cases h
   exact ⟨rfl, rfl, rfl, rfl⟩
 | (K, s, M, E) :: l, k + 1, K2, s2, M2, E2, h => by
   have := nrow_at l k K2 s2 M2 E2 h
   have e : (k + 1) * 4 = k * 4 + 4 := by omega
   rw [e]; exact this
def Na (w : World) (base : Nat) (A : Option Addr) (n c : Nat) (l : List Int) : Prop :=
 ∃ r : List (Int × Bool × Int × Int), w.ownsRow base 24 4 (.slice A n c) n (nrow r) ∧ r.length = n ∧ l.length = n ∧ ∀ k, k < n → ∃ K s M E, r[k]? = some (K, s, M, E) ∧ Fq K s M E (l.getD k 0)
theorem Na.nil (w : World) (base : Nat) : Na w base none 0 0 [] := ⟨[], World.ownsRow_nil w base _ 4, rfl, rfl, fun k h => absurd h (Nat.not_lt_zero _)⟩
theorem Na.len {w : World} {base n c : Nat} {A : Option Addr} {l : List Int} (h : Na w base A n c l) : l.length = n := by
 obtain ⟨_, _, _, h, _⟩ := h; exact h
theorem Na.below {w w' : World} {base n c : Nat} {A : Option Addr} {l : List Int} (h : Na w base A n c l) (hb : Below w.heap.size w w') : Na w' base A n c l := by
 obtain ⟨r, h1, h2⟩ := h; refine ⟨r, ⟨h1.1, ?_⟩, h2⟩
 rcases h1.2 with h3 | ⟨g, cap, cur, hv, hg, hh, q⟩
 · exact .inl h3
 · refine .inr ⟨g, cap, cur, hv, hg, ?_, q⟩; rw [hb.block g (Array.getElem?_eq_some_iff.1 hh).1]; exact hh
theorem Na.nl {w : World} {base n c : Nat} {A : Option Addr} {l : List Int} (h : Na w base A n c l) (hn : n ≤ 1099511627776) : Nl w A n c l := by
 obtain ⟨r, h1, h2, h3, h4⟩ := h
 rcases h1.2 with ⟨e1, e2⟩ | ⟨g, cap, cur, hv, hg, hh, hc, hm, hs, ht⟩
 · injection e1 with a1 a2 a3
   subst a1; subst a2; subst a3
   exact ⟨h3, Nat.le_refl _, by omega, fun h => absurd h (Nat.lt_irrefl _)⟩
 · injection hv with a1 a2 a3
   subst a1; subst a3
   refine ⟨h3, hc, hn, fun _ => ⟨g, 0, rfl, fun k hk => ?_⟩⟩
   obtain ⟨K, s, M, E, hr, q⟩ := h4 k hk; obtain ⟨c0, c1, c2, c3⟩ := nrow_at r k K s M E hr
   have cell : ∀ j v, (nrow r)[j]? = some v → w.cell? ⟨g, 0 + j, none⟩ = some v := by
     intro j v hv
     rw [cell_of_row w g (0 + j) _ _ (0, 0) hh, Nat.zero_add, ← Array.getElem?_toList]; rw [← ht, List.getElem?_take] at hv
     split at hv
     · exact hv
     · cases hv
   exact ⟨K, s, M, E, cell _ _ c0, by rw [Nat.add_assoc]; exact cell _ _ c1, by rw [Nat.add_assoc]; exact cell _ _ c2, by rw [Nat.add_assoc]; exact cell _ _ c3, q.top, q.rk⟩
end Go.Proofs.YtnbliijpjcmbjaaGreatDoor

/-
 Contracts that the proof rests on.
-/
import Derived.Test.YtnbliijpjcmbjaaGreatDoorYAax
namespace Go.Proofs.YtnbliijpjcmbjaaGreatDoor
set_option maxHeartbeats 8000000
open Go.RowKit
set_option linter.unusedVariables false
set_option linter.unusedSimpArgs false
set_option maxRecDepth 100000
theorem fq_tk {D : Int} {s : Bool} {M E : Int} (hM : LQ M) : ∃ K1 s1 M1 E1, Fq K1 s1 M1 E1 (rk D s M E) := by
 by_cases hm : MayQ D s M E
 · exact ⟨_, _, _, _, rk_fq hM hm⟩
 · rw [rk_not hm]; exact ⟨_, _, _, _, Fq.nought⟩
theorem aTaken {w : World} {D M E : Int} {s : Bool} {K1 M1 E1 x : Int} {s1 : Bool} (hM : LQ M) (q : Fq K1 s1 M1 E1 x) (hx : rk D s M E = x) : Calls Tryz.prog 90 #[VQ D s M E] w (fun e w' => e = .returned (.agg #[.int .i64 K1, .bool s1, .int .u64 M1, .int .i64 E1]) ∧ Below w.heap.size w w') := by
 delta VQ
 by_cases hm : MayQ D s M E
 · obtain ⟨rfl, rfl, rfl, rfl⟩ := q.uniq (hx ▸ rk_fq hM hm)
   have HC := Lib.hid (show decide (MayQ K1 s1 M1 E1) = true from decide_eq_true hm)
   clear hm hx hM q
   go_enter Tryz.func90, Tryz.ntmps90
   go_upto_region 1 with (fail)
   generalize hW1 : (w.alloc _).alloc _ = w1 at *; obtain ⟨X1, XR, HB⟩ := Bo.en2 hW1; clear hW1; have xX1 := X1.cell
   go_wp2_with fail
   refine (nMay HC.out).mono ?_; rintro ee w2 ⟨rfl, B⟩; clear xX1; replace X1 := X1.below B; replace XR := XR.below B; replace HB := Hqb HB B; clear B; have xXR := XR.cell; have zXR0 := XR.frozen; have xX1 := X1.cell; go_wp2; clear xXR zXR0 xX1; have SX := StN.mk4 XR (.int .i64 K1) (.bool s1) (.int .u64 M1) (.int .i64 E1)
   exact bodyPost_ret (v := .agg #[.int .i64 K1, .bool s1, .int .u64 M1, .int .i64 E1]) (by simp [results, Tryz.results90, go_sem, SX.box.cell]) rfl ⟨rfl, (SX.below HB.out (by omega))⟩
 · rw [rk_not hm] at hx; subst hx; obtain ⟨rfl, rfl, rfl, rfl⟩ := q.uniq Fq.nought
   have HC := Lib.hid (show decide (MayQ D s M E) = false from decide_eq_false hm)
   clear hm hM q
   go_enter Tryz.func90, Tryz.ntmps90
   go_upto_region 1 with (fail)
   generalize hW1 : (w.alloc _).alloc _ = w1 at *; obtain ⟨X1, XR, HB⟩ := Bo.en2 hW1; clear hW1; have xX1 := X1.cell
   go_wp2_with fail
   refine (nMay HC.out).mono ?_; rintro ee w2 ⟨rfl, B⟩; clear xX1; replace X1 := X1.below B; replace XR := XR.below B; replace HB := Hqb HB B; clear B; have xXR := XR.cell; have zXR0 := XR.frozen; have xX1 := X1.cell; go_wp2; clear xXR zXR0 xX1; have SX := StN.mk4 XR (.int .i64 0) (.bool false) (.int .u64 0) (.int .i64 0)
   exact bodyPost_ret (v := .agg #[.int .i64 0, .bool false, .int .u64 0, .int .i64 0]) (by simp [results, Tryz.results90, go_sem, SX.box.cell]) rfl ⟨rfl, (SX.below HB.out (by omega))⟩
theorem aAdd {w : World} {D D' M M' E E' : Int} {s s' : Bool} {up : Bool} {x y r : Int} (hT : Tb w) (hM : LQ M) (hM' : LQ M') (hx : rk D s M E = x) (hy : rk D' s' M' E' = y) (hr : addp up x y = r) : Calls Tryz.prog 88 #[VQ D s M E, VQ D' s' M' E', .bool up] w (PN w r) := by
 delta VQ
 obtain ⟨K1, s1, M1, E1, q1⟩ := fq_tk (D := D) (s := s) (M := M) (E := E) hM; obtain ⟨K2, s2, M2, E2, q2⟩ := fq_tk (D := D') (s := s') (M := M') (E := E') hM'; rw [hx] at q1; rw [hy] at q2; have HX := Lib.hid hx; have HY := Lib.hid hy; clear hx hy
 go_enter Tryz.func88, Tryz.ntmps88
 go_upto_region 1 with (fail)
 generalize hW1 : ((w.alloc _).alloc _).alloc _ = w1 at *; obtain ⟨X3, X4, XR, HB⟩ := Bo.en3 hW1; replace hT := hT.below HB.out; clear hW1; refine Jo.rk [0, 1, 2, 3] [some 7, some 8, some 9, some 10, none, none] [[], [0], [], [2], [], []] 6 2 [Jo.q4 D s M E, Jo.q4 K1 s1 M1 E1, Jo.q4 D' s' M' E', Jo.q4 K2 s2 M2 E2, Jo.Fact.any, Jo.Fact.any] (by kernel_rfl) (by kernel_rfl) (by decide) rfl ?_ ?_
 · refine Jo.jm rfl ?_ ?_; rotate_left
   refine Jo.jm rfl ?_ ?_
   · rintro wj hJ _ rfl K hK; simp only [Jo.z] at hK ⊢; go_simp; refine (aTaken hM q1 HX.out).mono ?_; rintro ee wk ⟨rfl, B⟩; exact hK.out _ _ rfl B
   refine Jo.jm rfl ?_ ?_; rotate_left
   refine Jo.jm rfl ?_ ?_
   · rintro wj hJ _ rfl K hK; simp only [Jo.z] at hK ⊢; go_simp; refine (aTaken hM' q2 HY.out).mono ?_; rintro ee wk ⟨rfl, B⟩; exact hK.out _ _ rfl B
   exact Jo.Steps.nil
   all_goals (rintro wj hJ; (repeat rintro _ rfl); intro K hK; simp only [Jo.z] at hK ⊢; have xX3 := (X3.below hJ).cell; have xX4 := (X4.below hJ).cell; go_simp; exact hK.out _ _ rfl (br _ _))
 rintro w2 hJ _ rfl _ rfl _ rfl _ rfl -; simp only [Jo.z]; replace X3 := X3.below hJ; replace X4 := X4.below hJ; replace XR := XR.below hJ; replace hT := hT.below hJ; replace HB := Hqb HB hJ; have xX3 := X3.cell; have zX30 := X3.frozen
 refine Jo.jnext (i := 4) (o := ⟨none, _, _, _, _, _⟩) (by kernel_rfl) rfl (fun K hK => ?_)
 go_simp; refine hK.out _ _ ?_; clear hK K xX3 zX30; generalize hS : (((w2.setCell _ _).setCell _ _).setCell _ _).setCell _ _ = w3 at *; have SX := StN.of4 X3 hS; replace X4 := X4.stn SX (by omega); replace XR := XR.stn SX (by omega); replace hT := hT.stn SX (by simp [no8]); replace HB := Hqs HB SX (by omega); replace X3 := SX.box; clear SX hS; have xX4 := X4.cell
 have zX40 := X4.frozen
 refine Jo.jnext (i := 5) (o := ⟨none, _, _, _, _, _⟩) (by kernel_rfl) rfl (fun K hK => ?_)
 go_simp; refine hK.out _ _ ?_; clear hK K xX4 zX40; generalize hS : (((w3.setCell _ _).setCell _ _).setCell _ _).setCell _ _ = w4 at *; have SX := StN.of4 X4 hS; replace X3 := X3.stn SX (by omega); replace XR := XR.stn SX (by omega); replace hT := hT.stn SX (by simp [no8]); replace HB := Hqs HB SX (by omega); replace X4 := SX.box; clear SX hS; refine Jo.jdone (by kernel_rfl) ?_
 clear HX HY hM hM'; have i1 := fq_inf q1; have i2 := fq_inf q2; have z1 := q1.zero_iff; have z2 := q2.zero_iff; have d1 := q1.bd; have d2 := q2.bd
 have kk1 : K1 = 2 ∨ K1 = 0 ∨ K1 = 1 := by rcases q1.cases with ⟨h, _⟩ | ⟨h, _⟩ | ⟨h, _⟩ <;> omega
 have kk2 : K2 = 2 ∨ K2 = 0 ∨ K2 = 1 := by rcases q2.cases with ⟨h, _⟩ | ⟨h, _⟩ | ⟨h, _⟩ <;> omega
 rcases kk1 with rfl | rfl | rfl
 · rcases kk2 with rfl | rfl | rfl
   · by_cases ks : s1 = s2
     · rw [addp_same up i1 ((fq_same q1 q2).2 ks)] at hr; subst hr; subst ks; clear i1 i2 z1 z2 d1 d2 q2; have xXR := XR.cell; have zXR0 := XR.frozen; have xX3 := X3.cell; have xX4 := X4.cell; go_wp2; clear xXR zXR0 xX3 xX4; have SX := StN.mk4 XR (.int .i64 2) (.bool s1) (.int .u64 M1) (.int .i64 E1)
       exact bodyPost_ret (by simp [results, Tryz.results88, go_sem, SX.box.cell]) rfl ⟨_, _, _, _, rfl, q1, (SX.below HB.out (by omega))⟩
     · rw [addp_diff up i1 i2 (fun e => ks ((fq_same q1 q2).1 e))] at hr
       obtain rfl : (!s1) = s2 := by cases s1 <;> cases s2 <;> first | rfl | exact absurd rfl ks
       have e2 : (s1 == !s1) = false := by cases s1 <;> rfl
       have HRR := Lib.hid hr; clear i1 i2 z1 z2 d1 d2 q1 q2 hr ks; have xX3 := X3.cell; have xX4 := X4.cell
       go_wp2_with fail
       refine (nInf (s := !up) HRR.out).mono ?_; rintro ee w5 ⟨K3, s3, M3, E3, rfl, q3, B⟩; clear xX3 xX4; replace X3 := X3.below B; replace X4 := X4.below B; replace XR := XR.below B; replace HB := Hqb HB B; clear B; have xXR := XR.cell; have zXR0 := XR.frozen; go_wp2; clear xXR zXR0; have SX := StN.mk4 XR (.int .i64 K3) (.bool s3) (.int .u64 M3) (.int .i64 E3)
       exact bodyPost_ret (by simp [results, Tryz.results88, go_sem, SX.box.cell]) rfl ⟨_, _, _, _, rfl, q3, (SX.below HB.out (by omega))⟩
   · rw [addp_tf up i1 i2] at hr; subst hr; clear i1 i2 z1 z2 d1 d2 q2; have xXR := XR.cell; have zXR0 := XR.frozen; have xX3 := X3.cell; have xX4 := X4.cell; go_wp2; clear xXR zXR0 xX3 xX4; have SX := StN.mk4 XR (.int .i64 2) (.bool s1) (.int .u64 M1) (.int .i64 E1); exact bodyPost_ret (by simp [results, Tryz.results88, go_sem, SX.box.cell]) rfl ⟨_, _, _, _, rfl, q1, (SX.below HB.out (by omega))⟩
   · rw [addp_tf up i1 i2] at hr; subst hr; clear i1 i2 z1 z2 d1 d2 q2; have xXR := XR.cell; have zXR0 := XR.frozen; have xX3 := X3.cell; have xX4 := X4.cell; go_wp2; clear xXR zXR0 xX3 xX4; have SX := StN.mk4 XR (.int .i64 2) (.bool s1) (.int .u64 M1) (.int .i64 E1); exact bodyPost_ret (by simp [results, Tryz.results88, go_sem, SX.box.cell]) rfl ⟨_, _, _, _, rfl, q1, (SX.below HB.out (by omega))⟩
 · rcases kk2 with rfl | rfl | rfl
   · rw [addp_ft up i1 i2] at hr; subst hr; clear i1 i2 z1 z2 d1 d2 q1; have xXR := XR.cell; have zXR0 := XR.frozen; have xX3 := X3.cell; have xX4 := X4.cell; go_wp2; clear xXR zXR0 xX3 xX4; have SX := StN.mk4 XR (.int .i64 2) (.bool s2) (.int .u64 M2) (.int .i64 E2); exact bodyPost_ret (by simp [results, Tryz.results88, go_sem, SX.box.cell]) rfl ⟨_, _, _, _, rfl, q2, (SX.below HB.out (by omega))⟩
   · rw [z2.1 rfl, addp_zero up d1.1 d1.2] at hr; subst hr; clear i1 i2 z1 z2 d1 d2 q2; have xXR := XR.cell; have zXR0 := XR.frozen; have xX3 := X3.cell; have xX4 := X4.cell; go_wp2; clear xXR zXR0 xX3 xX4; have SX := StN.mk4 XR (.int .i64 0) (.bool s1) (.int .u64 M1) (.int .i64 E1); exact bodyPost_ret (by simp [results, Tryz.results88, go_sem, SX.box.cell]) rfl ⟨_, _, _, _, rfl, q1, (SX.below HB.out (by omega))⟩
   · rw [z1.1 rfl, addp_comm, addp_zero up d2.1 d2.2] at hr; subst hr; clear i1 i2 z1 z2 d1 d2 q1; have xXR := XR.cell; have zXR0 := XR.frozen; have xX3 := X3.cell; have xX4 := X4.cell; go_wp2; clear xXR zXR0 xX3 xX4; have SX := StN.mk4 XR (.int .i64 1) (.bool s2) (.int .u64 M2) (.int .i64 E2)
     exact bodyPost_ret (by simp [results, Tryz.results88, go_sem, SX.box.cell]) rfl ⟨_, _, _, _, rfl, q2, (SX.below HB.out (by omega))⟩
 · rcases kk2 with rfl | rfl | rfl
   · rw [addp_ft up i1 i2] at hr; subst hr; clear i1 i2 z1 z2 d1 d2 q1; have xXR := XR.cell; have zXR0 := XR.frozen; have xX3 := X3.cell; have xX4 := X4.cell; go_wp2; clear xXR zXR0 xX3 xX4; have SX := StN.mk4 XR (.int .i64 2) (.bool s2) (.int .u64 M2) (.int .i64 E2); exact bodyPost_ret (by simp [results, Tryz.results88, go_sem, SX.box.cell]) rfl ⟨_, _, _, _, rfl, q2, (SX.below HB.out (by omega))⟩
   · rw [z2.1 rfl, addp_zero up d1.1 d1.2] at hr; subst hr; clear i1 i2 z1 z2 d1 d2 q2; have xXR := XR.cell; have zXR0 := XR.frozen; have xX3 := X3.cell; have xX4 := X4.cell; go_wp2; clear xXR zXR0 xX3 xX4; have SX := StN.mk4 XR (.int .i64 1) (.bool s1) (.int .u64 M1) (.int .i64 E1); exact bodyPost_ret (by simp [results, Tryz.results88, go_sem, SX.box.cell]) rfl ⟨_, _, _, _, rfl, q1, (SX.below HB.out (by omega))⟩
   · have HRR := Lib.hid hr; clear i1 i2 z1 z2 d1 d2 hr; have xX3 := X3.cell; have xX4 := X4.cell
     go_wp2_with fail
     refine (aSum2 hT q1 q2).mono ?_; rintro ee w5 ⟨s3, H3, L3, x3, rfl, p3, B⟩; clear xX3 xX4; replace X3 := X3.below B; replace X4 := X4.below B; replace XR := XR.below B; replace hT := hT.below B; replace HB := Hqb HB B; clear B
     go_wp2_with fail
     refine (aRound p3 HRR.out).mono ?_; rintro ee w6 ⟨K4, s4, M4, E4, rfl, q4, B⟩; replace X3 := X3.below B; replace X4 := X4.below B; replace XR := XR.below B; replace HB := Hqb HB B; clear B; have xXR := XR.cell; have zXR0 := XR.frozen; go_wp2; clear xXR zXR0; have SX := StN.mk4 XR (.int .i64 K4) (.bool s4) (.int .u64 M4) (.int .i64 E4); exact bodyPost_ret (by simp [results, Tryz.results88, go_sem, SX.box.cell]) rfl ⟨_, _, _, _, rfl, q4, (SX.below HB.out (by omega))⟩
theorem aMul {w : World} {D D' M M' E E' : Int} {s s' : Bool} {up : Bool} {x y r : Int} (hM : LQ M) (hM' : LQ M') (hx : rk D s M E = x) (hy : rk D' s' M' E' = y) (hr : mulp up x y = r) : Calls Tryz.prog 63 #[VQ D s M E, VQ D' s' M' E', .bool up] w (PN w r) := by
 delta VQ
 obtain ⟨K1, s1, M1, E1, q1⟩ := fq_tk (D := D) (s := s) (M := M) (E := E) hM; obtain ⟨K2, s2, M2, E2, q2⟩ := fq_tk (D := D') (s := s') (M := M') (E := E') hM'; rw [hx] at q1; rw [hy] at q2; have HX := Lib.hid hx; have HY := Lib.hid hy; clear hx hy
 go_enter Tryz.func63, Tryz.ntmps63
 go_upto_region 1 with (fail)
 generalize hW1 : ((w.alloc _).alloc _).alloc _ = w1 at *; obtain ⟨X3, X4, XR, HB⟩ := Bo.en3 hW1; clear hW1; refine Jo.rk [0, 1, 2, 3] [some 7, some 8, some 9, some 10, none, none] [[], [0], [], [2], [], []] 6 2 [Jo.q4 D s M E, Jo.q4 K1 s1 M1 E1, Jo.q4 D' s' M' E', Jo.q4 K2 s2 M2 E2, Jo.Fact.any, Jo.Fact.any] (by kernel_rfl) (by kernel_rfl) (by decide) rfl ?_ ?_
 · refine Jo.jm rfl ?_ ?_; rotate_left
   refine Jo.jm rfl ?_ ?_
   · rintro wj hJ _ rfl K hK; simp only [Jo.z] at hK ⊢; go_simp; refine (aTaken hM q1 HX.out).mono ?_; rintro ee wk ⟨rfl, B⟩; exact hK.out _ _ rfl B
   refine Jo.jm rfl ?_ ?_; rotate_left
   refine Jo.jm rfl ?_ ?_
   · rintro wj hJ _ rfl K hK; simp only [Jo.z] at hK ⊢; go_simp; refine (aTaken hM' q2 HY.out).mono ?_; rintro ee wk ⟨rfl, B⟩; exact hK.out _ _ rfl B
   exact Jo.Steps.nil
   all_goals (rintro wj hJ; (repeat rintro _ rfl); intro K hK; simp only [Jo.z] at hK ⊢; have xX3 := (X3.below hJ).cell; have xX4 := (X4.below hJ).cell; go_simp; exact hK.out _ _ rfl (br _ _))
 rintro w2 hJ _ rfl _ rfl _ rfl _ rfl -; simp only [Jo.z]; replace X3 := X3.below hJ; replace X4 := X4.below hJ; replace XR := XR.below hJ; replace HB := Hqb HB hJ; have xX3 := X3.cell; have zX30 := X3.frozen
 refine Jo.jnext (i := 4) (o := ⟨none, _, _, _, _, _⟩) (by kernel_rfl) rfl (fun K hK => ?_)
 go_simp; refine hK.out _ _ ?_; clear hK K xX3 zX30; generalize hS : (((w2.setCell _ _).setCell _ _).setCell _ _).setCell _ _ = w3 at *; have SX := StN.of4 X3 hS; replace X4 := X4.stn SX (by omega); replace XR := XR.stn SX (by omega); replace HB := Hqs HB SX (by omega); replace X3 := SX.box; clear SX hS; have xX4 := X4.cell; have zX40 := X4.frozen
 refine Jo.jnext (i := 5) (o := ⟨none, _, _, _, _, _⟩) (by kernel_rfl) rfl (fun K hK => ?_)
 go_simp; refine hK.out _ _ ?_; clear hK K xX4 zX40; generalize hS : (((w3.setCell _ _).setCell _ _).setCell _ _).setCell _ _ = w4 at *; have SX := StN.of4 X4 hS; replace X3 := X3.stn SX (by omega); replace XR := XR.stn SX (by omega); replace HB := Hqs HB SX (by omega); replace X4 := SX.box; clear SX hS; refine Jo.jdone (by kernel_rfl) ?_; clear HX HY hM hM'; have i1 := fq_inf q1
 have i2 := fq_inf q2; have z1 := q1.zero_iff; have z2 := q2.zero_iff; have d1 := q1.bd; have d2 := q2.bd
 have kk1 : K1 = 2 ∨ K1 = 0 ∨ K1 = 1 := by rcases q1.cases with ⟨h, _⟩ | ⟨h, _⟩ | ⟨h, _⟩ <;> omega
 have kk2 : K2 = 2 ∨ K2 = 0 ∨ K2 = 1 := by rcases q2.cases with ⟨h, _⟩ | ⟨h, _⟩ | ⟨h, _⟩ <;> omega
 rcases kk1 with rfl | rfl | rfl
 · rcases kk2 with rfl | rfl | rfl
   · have hnz : ¬ (x = 0 ∨ y = 0) := fun c => c.elim (fun c => absurd (z1.2 c) (by decide)) (fun c => absurd (z2.2 c) (by decide))
     have sx : decide (x < 0) = s1 := by
       rcases q1.three with ⟨a, _⟩ | ⟨_, rfl, b⟩ | ⟨_, rfl, b⟩
       · exact absurd a (by decide)
       · exact decide_eq_false (by omega)
       · exact decide_eq_true b
     have sy : decide (y < 0) = s2 := by
       rcases q2.three with ⟨a, _⟩ | ⟨_, rfl, b⟩ | ⟨_, rfl, b⟩
       · exact absurd a (by decide)
       · exact decide_eq_false (by omega)
       · exact decide_eq_true b
     rw [mulp_inf up hnz (.inl i1), sx, sy] at hr; have HRR := Lib.hid hr; clear i1 i2 z1 z2 d1 d2 q1 q2 hr sx sy hnz; have xX3 := X3.cell; have xX4 := X4.cell
     go_wp2_with fail
     refine (nInf (s := s1 != s2) HRR.out).mono ?_; rintro ee w5 ⟨K3, s3, M3, E3, rfl, q3, B⟩; clear xX3 xX4; replace X3 := X3.below B; replace X4 := X4.below B; replace XR := XR.below B; replace HB := Hqb HB B; clear B; have xXR := XR.cell; have zXR0 := XR.frozen; go_wp2; clear xXR zXR0; have SX := StN.mk4 XR (.int .i64 K3) (.bool s3) (.int .u64 M3) (.int .i64 E3)
     exact bodyPost_ret (by simp [results, Tryz.results63, go_sem, SX.box.cell]) rfl ⟨_, _, _, _, rfl, q3, (SX.below HB.out (by omega))⟩
   · rw [mulp_zero up (.inr (z2.1 rfl))] at hr; subst hr; clear i1 i2 z1 z2 d1 d2 q1 q2; have xXR := XR.cell; have zXR0 := XR.frozen; have xX3 := X3.cell; have xX4 := X4.cell; go_wp2; clear xXR zXR0 xX3 xX4; have SX := StN.mk4 XR (.int .i64 0) (.bool false) (.int .u64 0) (.int .i64 0); exact bodyPost_ret (by simp [results, Tryz.results63, go_sem, SX.box.cell]) rfl ⟨_, _, _, _, rfl, Fq.nought, (SX.below HB.out (by omega))⟩
   · have hnz : ¬ (x = 0 ∨ y = 0) := fun c => c.elim (fun c => absurd (z1.2 c) (by decide)) (fun c => absurd (z2.2 c) (by decide))
     have sx : decide (x < 0) = s1 := by
       rcases q1.three with ⟨a, _⟩ | ⟨_, rfl, b⟩ | ⟨_, rfl, b⟩
       · exact absurd a (by decide)
       · exact decide_eq_false (by omega)
       · exact decide_eq_true b
     have sy : decide (y < 0) = s2 := by
       rcases q2.three with ⟨a, _⟩ | ⟨_, rfl, b⟩ | ⟨_, rfl, b⟩
       · exact absurd a (by decide)
       · exact decide_eq_false (by omega)
       · exact decide_eq_true b
     rw [mulp_inf up hnz (.inl i1), sx, sy] at hr; have HRR := Lib.hid hr; clear i1 i2 z1 z2 d1 d2 q1 q2 hr sx sy hnz; have xX3 := X3.cell; have xX4 := X4.cell
     go_wp2_with fail
     refine (nInf (s := s1 != s2) HRR.out).mono ?_; rintro ee w5 ⟨K3, s3, M3, E3, rfl, q3, B⟩; clear xX3 xX4; replace X3 := X3.below B; replace X4 := X4.below B; replace XR := XR.below B; replace HB := Hqb HB B; clear B; have xXR := XR.cell; have zXR0 := XR.frozen; go_wp2; clear xXR zXR0; have SX := StN.mk4 XR (.int .i64 K3) (.bool s3) (.int .u64 M3) (.int .i64 E3)
     exact bodyPost_ret (by simp [results, Tryz.results63, go_sem, SX.box.cell]) rfl ⟨_, _, _, _, rfl, q3, (SX.below HB.out (by omega))⟩
 · rcases kk2 with rfl | rfl | rfl
   · rw [mulp_zero up (.inl (z1.1 rfl))] at hr; subst hr; clear i1 i2 z1 z2 d1 d2 q1 q2; have xXR := XR.cell; have zXR0 := XR.frozen; have xX3 := X3.cell; have xX4 := X4.cell; go_wp2; clear xXR zXR0 xX3 xX4; have SX := StN.mk4 XR (.int .i64 0) (.bool false) (.int .u64 0) (.int .i64 0); exact bodyPost_ret (by simp [results, Tryz.results63, go_sem, SX.box.cell]) rfl ⟨_, _, _, _, rfl, Fq.nought, (SX.below HB.out (by omega))⟩
   · rw [mulp_zero up (.inl (z1.1 rfl))] at hr; subst hr; clear i1 i2 z1 z2 d1 d2 q1 q2; have xXR := XR.cell; have zXR0 := XR.frozen; have xX3 := X3.cell; have xX4 := X4.cell; go_wp2; clear xXR zXR0 xX3 xX4; have SX := StN.mk4 XR (.int .i64 0) (.bool false) (.int .u64 0) (.int .i64 0); exact bodyPost_ret (by simp [results, Tryz.results63, go_sem, SX.box.cell]) rfl ⟨_, _, _, _, rfl, Fq.nought, (SX.below HB.out (by omega))⟩
   · rw [mulp_zero up (.inl (z1.1 rfl))] at hr; subst hr; clear i1 i2 z1 z2 d1 d2 q1 q2; have xXR := XR.cell; have zXR0 := XR.frozen; have xX3 := X3.cell; have xX4 := X4.cell; go_wp2; clear xXR zXR0 xX3 xX4; have SX := StN.mk4 XR (.int .i64 0) (.bool false) (.int .u64 0) (.int .i64 0); exact bodyPost_ret (by simp [results, Tryz.results63, go_sem, SX.box.cell]) rfl ⟨_, _, _, _, rfl, Fq.nought, (SX.below HB.out (by omega))⟩
 · rcases kk2 with rfl | rfl | rfl
   · have hnz : ¬ (x = 0 ∨ y = 0) := fun c => c.elim (fun c => absurd (z1.2 c) (by decide)) (fun c => absurd (z2.2 c) (by decide))
     have sx : decide (x < 0) = s1 := by
       rcases q1.three with ⟨a, _⟩ | ⟨_, rfl, b⟩ | ⟨_, rfl, b⟩
       · exact absurd a (by decide)
       · exact decide_eq_false (by omega)
       · exact decide_eq_true b
     have sy : decide (y < 0) = s2 := by
       rcases q2.three with ⟨a, _⟩ | ⟨_, rfl, b⟩ | ⟨_, rfl, b⟩
       · exact absurd a (by decide)
       · exact decide_eq_false (by omega)
       · exact decide_eq_true b
     rw [mulp_inf up hnz (.inr i2), sx, sy] at hr; have HRR := Lib.hid hr; clear i1 i2 z1 z2 d1 d2 q1 q2 hr sx sy hnz; have xX3 := X3.cell; have xX4 := X4.cell
     go_wp2_with fail
     refine (nInf (s := s1 != s2) HRR.out).mono ?_; rintro ee w5 ⟨K3, s3, M3, E3, rfl, q3, B⟩; clear xX3 xX4; replace X3 := X3.below B; replace X4 := X4.below B; replace XR := XR.below B; replace HB := Hqb HB B; clear B; have xXR := XR.cell; have zXR0 := XR.frozen; go_wp2; clear xXR zXR0; have SX := StN.mk4 XR (.int .i64 K3) (.bool s3) (.int .u64 M3) (.int .i64 E3)
     exact bodyPost_ret (by simp [results, Tryz.results63, go_sem, SX.box.cell]) rfl ⟨_, _, _, _, rfl, q3, (SX.below HB.out (by omega))⟩
   · rw [mulp_zero up (.inr (z2.1 rfl))] at hr; subst hr; clear i1 i2 z1 z2 d1 d2 q1 q2; have xXR := XR.cell; have zXR0 := XR.frozen; have xX3 := X3.cell; have xX4 := X4.cell; go_wp2; clear xXR zXR0 xX3 xX4; have SX := StN.mk4 XR (.int .i64 0) (.bool false) (.int .u64 0) (.int .i64 0); exact bodyPost_ret (by simp [results, Tryz.results63, go_sem, SX.box.cell]) rfl ⟨_, _, _, _, rfl, Fq.nought, (SX.below HB.out (by omega))⟩
   · have HRR := Lib.hid hr; clear i1 i2 z1 z2 d1 d2 hr; have xX3 := X3.cell; have xX4 := X4.cell
     go_wp2_with fail
     refine (aProduct q1 q2).mono ?_; rintro ee w5 ⟨s3, H3, L3, x3, rfl, p3, B⟩; clear xX3 xX4; replace X3 := X3.below B; replace X4 := X4.below B; replace XR := XR.below B; replace HB := Hqb HB B; clear B
     go_wp2_with fail
     refine (aRound p3 HRR.out).mono ?_; rintro ee w6 ⟨K4, s4, M4, E4, rfl, q4, B⟩; replace X3 := X3.below B; replace X4 := X4.below B; replace XR := XR.below B; replace HB := Hqb HB B; clear B; have xXR := XR.cell; have zXR0 := XR.frozen; go_wp2; clear xXR zXR0; have SX := StN.mk4 XR (.int .i64 K4) (.bool s4) (.int .u64 M4) (.int .i64 E4); exact bodyPost_ret (by simp [results, Tryz.results63, go_sem, SX.box.cell]) rfl ⟨_, _, _, _, rfl, q4, (SX.below HB.out (by omega))⟩
def smA (up : Bool) (l : List Int) : Int := l.foldl (addp up) 0
theorem smA_take (up : Bool) {l : List Int} {k : Nat} (h : k < l.length) : smA up (l.take (k + 1)) = addp up (smA up (l.take k)) (l.getD k 0) := by
 unfold smA
 rw [List.take_succ_eq_append_getElem h, List.foldl_append]
 simp [List.getD_eq_getElem?_getD, h]
theorem aSum {w : World} {A : Option Addr} {n c : Nat} {l : List Int} {up : Bool} {r : Int} (hT : Tb w) (h : Nl w A n c l) (hr : smA up l = r) : Calls Tryz.prog 61 #[.bool up, .slice A n c] w (PN w r) := by
 have HR := Lib.hid hr; have HLn := Lib.hid h.1; have hcap := h.2.1; have hbig := h.2.2.1; have hD0 := h; have hT0 := hT; clear hr
 go_enter Tryz.func61, Tryz.ntmps61
 go_upto_region 1 with (fail)
 generalize hW1 : w.alloc _ = w1 at *; obtain ⟨XR, HB⟩ := Bo.en1 hW1; replace h := h.below HB.out; replace hT := hT.below HB.out; clear hW1
 go_upto_region 2 with (fail)
 have hg3 := XR.lt; have lX3 := Nat.le_refl (World.heap w1).size; have nX3XR := XR.lt; generalize hWn : w1.alloc _ = w3 at *; obtain ⟨X3, BW⟩ := Bo.nw hWn; clear hWn; replace XR := XR.below BW; replace h := h.below BW; replace hT := hT.below BW; replace HB := Hqb HB BW; clear BW
 go_wp2_with fail
 generalize w1.heap.size = g3 at *; clear h hT w1
 go_loopw [11] (fun i wr => ∃ k : Nat, k ≤ n ∧ i = .int .i64 k ∧ NInv w g3 (smA up (l.take k)) wr) (fun i _ => n - (intOf i).toNat)
 case atStart => exact ⟨0, Nat.zero_le _, rfl, _, _, _, _, XR, X3, Fq.nought, HB.out⟩
 clear HB XR X3 lX3
 case round =>
   obtain ⟨k, hk, rfl, hI⟩ := hrel; obtain ⟨K1, s1, M1, E1, XR, X3, q1, hB⟩ := hI; have HB := Lib.hid hB; have h := hD0.below hB; have hT := hT0.below hB; clear hB
   by_cases hlt : k < n
   · obtain ⟨b, o, rfl, hcell⟩ := h.2.2.2 (by omega); obtain ⟨D, s, M, E, c0, c1, c2, c3, hM, hx⟩ := hcell k hlt; clear hcell h hD0
     have i1 : (k : Int) < n := by omega
     have i2 : (0 : Int) ≤ k := by omega
     have hst := smA_take up (l := l) (k := k) (by rw [HLn.out]; exact hlt); rw [← hx] at hst; generalize smA up (l.take k) = R at *; obtain ⟨x, hX⟩ : ∃ x, rk D s M E = x := ⟨_, rfl⟩; rw [hX] at hst; obtain ⟨r2, hr2⟩ : ∃ r2, addp up R x = r2 := ⟨_, rfl⟩; rw [hr2] at hst; have HX := Lib.hid hX; have HST := Lib.hid hst; have HAD := Lib.hid hr2; clear hst hX hx hr2
     go_upto_region 5 with (fail)
     have hgd := X3.lt; have lX5 := Nat.le_refl (World.heap wr).size; have nX5XR := XR.lt; have nX5X3 := X3.lt; generalize hWn : wr.alloc _ = w3 at *; obtain ⟨X5, BW⟩ := Bo.nw hWn; clear hWn; replace XR := XR.below BW; replace X3 := X3.below BW; replace hT := hT.below BW; replace HB := Hqb HB BW; clear BW; clear c0 c1 c2 c3 lX5; have xX3 := X3.cell; have xX5 := X5.cell
     go_wp2_with fail
     refine (aAdd hT q1.top hM q1.rk HX.out HAD.out).mono ?_; rintro ee w4 ⟨K2, s2, M2, E2, rfl, q2, B⟩; clear xX3 xX5; replace XR := XR.below B; replace X3 := X3.below B; replace X5 := X5.below B; replace hT := hT.below B; replace HB := Hqb HB B; clear B; have xX3 := X3.cell; have zX30 := X3.frozen
     go_upto_region 6 with (fail)
     clear xX3 zX30; generalize hS : (((w4.setCell _ _).setCell _ _).setCell _ _).setCell _ _ = w5 at *; have SX := StN.of4 X3 hS; replace XR := XR.stn SX (by omega); replace X5 := X5.stn SX (by omega); replace HB := Hqs HB SX (by omega); replace X3 := SX.box; clear SX hS; go_wp2
     go_roundw
     case rel =>
       refine ⟨k + 1, by omega, by go_num, K2, s2, M2, E2, XR, X3, ?_, HB.out⟩
       rw [HST.out]; exact q2
     case measure => simp [intOf]; omega
   · obtain rfl : k = n := by omega
     rw [List.take_of_length_le (by rw [HLn.out]; omega), HR.out] at q1; have xXR := XR.cell; have zXR0 := XR.frozen; have xX3 := X3.cell; go_wp2; clear xXR zXR0 xX3; have SX := StN.mk4 XR (.int .i64 K1) (.bool s1) (.int .u64 M1) (.int .i64 E1); exact bodyPost_ret (by simp [results, Tryz.results61, go_sem, SX.box.cell]) rfl ⟨_, _, _, _, rfl, q1, (SX.below HB.out (by omega))⟩
theorem mulp_up {x y z : Int} (up : Bool) (x1 : -19342822337206103650074625 ≤ x) (x2 : x ≤ 19342822337206103650074625) (y1 : -19342822337206103650074625 ≤ y) (y2 : y ≤ 19342822337206103650074625) (hz : 0 ≤ z) (z2 : z ≤ 19342822337206103650074625) (h : x ≤ y) : mulp up x z ≤ mulp up y z := by
 by_cases h0 : z = 0
 · rw [mulp_zero up (.inr h0), mulp_zero up (.inr h0)]; exact Int.le_refl _
 · exact mulp_mono up x1 x2 y1 y2 (by omega) z2 h
def Fz (x : Int) (h : Nat) : Prop := infp x = true ∨ Fit h (ep x)
theorem Fz.mono {x : Int} {h k : Nat} (f : Fz x h) (hk : h ≤ k) : Fz x k := f.imp id fun g => g.mono hk
theorem Fz.zero (h : Nat) : Fz 0 h := .inr (by rw [ep_zero]; exact Fit.zero h)
theorem rnd_fz {P : Int × Int} {h : Nat} (up : Bool) (hh : h ≤ 100000) (f : Fit h P) : Fz (rnd up P.1 P.2) (h + 65) := by
 rcases f.nf.cases with e | ⟨h0, ho, e1, e2⟩
 · subst e; rw [rnd_nought]; exact Fz.zero _
 · right
   have hm : P.1.natAbs ≠ 0 := by omega
   have lo1 := f.lo
   have hb0 : blen P.1.natAbs ≠ 0 := fun e => hm (blen_eq_zero.1 e)
   have hbl : blen P.1.natAbs - 1 + (P.2 + (h : Int)).toNat < 2 * h := by
     have l1 := Nat.mul_le_mul_right (2 ^ (P.2 + (h : Int)).toNat) (blen_le hm); rw [← Nat.pow_add] at l1; exact (Nat.pow_lt_pow_iff_right (by decide)).1 (Nat.lt_of_le_of_lt l1 f.2.2)
   have g1 := tp_ge hm; have g2 := tp_lt P.1.natAbs
   have hx : xp P.1.natAbs P.2 = P.2 + (blen P.1.natAbs : Nat) - 64 := rfl
   have el : lo P.1.natAbs P.2 = (tp P.1.natAbs : Int) - 9223372036854775808 + 1 + (xp P.1.natAbs P.2 + 1048576) * 9223372036854775808 := by
     unfold lo
     rw [if_neg hm, if_neg (by omega), if_neg (by omega)]
   obtain ⟨h1, h2⟩ := hi_bd P.1.natAbs P.2; obtain ⟨s, hs⟩ : ∃ s, s = decide (P.1 < 0) := ⟨_, rfl⟩
   have hr : ∃ l, (rnd up P.1 P.2 = sgi s l) ∧ lo P.1.natAbs P.2 ≤ l ∧ l ≤ lo P.1.natAbs P.2 + 1 := by
     by_cases hu : s = up
     · exact ⟨_, rnd_same hs hu, by omega, by omega⟩
     · have hu2 : up = !s := by cases s <;> cases up <;> first | rfl | exact absurd rfl hu
       exact ⟨_, by rw [hu2]; exact rnd_diff hs, h1, h2⟩
   obtain ⟨l, er, l1, l2⟩ := hr; rw [el] at l1 l2; clear el h1 h2 hs
   have hab : ((rnd up P.1 P.2).natAbs : Int) = l := by
     rw [er, sgi_abs s (by omega)]
     omega
   revert hab
   generalize rnd up P.1 P.2 = r
   intro hab
   unfold ep
   rw [if_neg (by omega)]; obtain ⟨M, hM⟩ : ∃ M, ((r.natAbs : Int) - 1) % 9223372036854775808 + 9223372036854775808 = M := ⟨_, rfl⟩; obtain ⟨E, hE⟩ : ∃ E, ((r.natAbs : Int) - 1) / 9223372036854775808 - 1048576 = E := ⟨_, rfl⟩; rw [hM, hE]
   have b1 : xp P.1.natAbs P.2 ≤ E ∧ E ≤ xp P.1.natAbs P.2 + 1 := by omega
   have b2 : 0 ≤ M ∧ M < 18446744073709551616 := by omega
   clear hM hE er l1 l2 hab; refine (mk_fit (h := h + 65) (by omega) (by omega) ?_).1; rw [sgi_abs _ b2.1]
   have : M.toNat < 2 ^ 64 := by omega
   have := Nat.mul_lt_mul_of_pos_right this (Nat.pow_pos (n := (E + ((h + 65 : Nat) : Int)).toNat) (show 0 < 2 by decide))
   rw [← Nat.pow_add] at this; exact Nat.lt_of_lt_of_le this (Nat.pow_le_pow_right (by decide) (by omega))
theorem addp_fz {x y : Int} {h : Nat} (up : Bool) (hh : h ≤ 90000) (fx : Fz x h) (fy : Fz y h) : Fz (addp up x y) (h + 66) := by
 cases hx : infp x
 · cases hy : infp y
   · rw [addp_ff up hx hy]
     rcases fx with fx | fx
     · rw [hx] at fx; cases fx
     · rcases fy with fy | fy
       · rw [hy] at fy; cases fy
       · exact rnd_fz up (by omega) (pl_fit (by omega) fx fy).1
   · rw [addp_ft up hx hy]; exact .inl hy
 · cases hy : infp y
   · rw [addp_tf up hx hy]; exact .inl hx
   · by_cases e : x = y
     · rw [addp_same up hx e]; exact .inl hx
     · rw [addp_diff up hx hy e]; exact .inl (fq_inf (Fq.inf _))
theorem dn_le_up {X r t : Int} (h : Dn X r) (k : Up X t) : r ≤ t := by
 obtain ⟨h1, h2, h3, h4⟩ := h; obtain ⟨k1, k2, k3, k4⟩ := k
 rcases Int.lt_or_le t r with q | q
 · exfalso
   have a := h3 (by omega); have b := k3 (by omega); rw [vr_neg] at b
   have := vr_lt q
   omega
 · exact q
theorem addp_le {x y : Int} (x1 : -19342822337206103650074625 ≤ x) (x2 : x ≤ 19342822337206103650074625) (y1 : -19342822337206103650074625 ≤ y) (y2 : y ≤ 19342822337206103650074625) : addp false x y ≤ addp true x y := by
 have htp := TP_eq
 cases hx : infp x <;> cases hy : infp y
 · obtain ⟨a1, a2⟩ := infp_false x1 x2 hx; obtain ⟨b1, b2⟩ := infp_false y1 y2 hy; obtain ⟨u, v⟩ := addp_spec (x := x) (y := y) true a1 a2 b1 b2; exact dn_le_up u v
 · rw [addp_ft _ hx hy, addp_ft _ hx hy]; exact Int.le_refl _
 · rw [addp_tf _ hx hy, addp_tf _ hx hy]; exact Int.le_refl _
 · by_cases e : x = y
   · rw [addp_same _ hx e, addp_same _ hx e]; exact Int.le_refl _
   · rw [addp_diff _ hx hy e, addp_diff _ hx hy e, show (!false) = true from rfl, show (!true) = false from rfl, wsg_f, wsg_t]
     omega
theorem has_in {a b n : Int} (h1 : -19342822337206103650074625 < n) (h2 : n < 19342822337206103650074625) (h3 : a ≤ n) (h4 : n ≤ b) : hasI (some (a, b)) n = true := by
 simp [hasI, infp_fin h1 h2]
 omega
theorem meet_stuck : ∀ l : List Sp, l.foldl meetI none = none
 | [] => rfl
 | _ :: l => meet_stuck l
def In (x : Int) : Prop := -19342822337206103650074625 ≤ x ∧ x ≤ 19342822337206103650074625
theorem wit_mk {a b c d : Int} (h : c ≤ a) (k : b ≤ d) : witI (mkI a b) (mkI c d) = true := by
 by_cases q : a ≤ b ∧ a < 19342822337206103650074625 ∧ -19342822337206103650074625 < b
 · rw [mkI_some q.1 q.2.1 q.2.2, mkI_some (by omega) (by omega) (by omega)]
   simp [witI, h, k]
 · rw [mkI_none q]
   rfl
theorem wit_iff {a b c d : Int} : witI (some (a, b)) (some (c, d)) = true ↔ (c ≤ a ∧ b ≤ d) := by simp [witI]
theorem wit_some {x : Sp} {a b : Int} (h : witI (some (a, b)) x = true) : ∃ c d, x = some (c, d) ∧ c ≤ a ∧ b ≤ d := by
 rcases x with _ | ⟨c, d⟩
 · cases h
 · exact ⟨c, d, rfl, wit_iff.1 h⟩
theorem all_mk : allI = mkI (-19342822337206103650074625) 19342822337206103650074625 := by decide
theorem mkI_in {a b : Int} (ha : In a) (hb : In b) : SpOk (mkI a b) := mkI_ok ha.1 hb.2
theorem SpOk.in1 {a b : Int} (h : SpOk (some (a, b))) : In a ∧ In b := by
 obtain ⟨h1, h2, h3, h4, h5⟩ := h; exact ⟨⟨by omega, by omega⟩, ⟨by omega, by omega⟩⟩
theorem wit_all {x : Sp} (h : SpOk x) : witI x allI = true := by
 rcases x with _ | ⟨a, b⟩
 · rfl
 · exact wit_iff.2 ⟨h.in1.1.1, h.in1.2.2⟩
theorem wit_trans {x y z : Sp} (h : witI x y = true) (k : witI y z = true) : witI x z = true := by
 rcases x with _ | ⟨a, b⟩
 · rfl
 · obtain ⟨c, d, rfl, h1, h2⟩ := wit_some h; obtain ⟨e, f, rfl, k1, k2⟩ := wit_some k; exact wit_iff.2 ⟨by omega, by omega⟩
theorem wit_has {x y : Sp} {n : Int} (h : witI x y = true) (k : hasI x n = true) : hasI y n = true := by
 rcases x with _ | ⟨a, b⟩
 · cases k
 · obtain ⟨c, d, rfl, h1, h2⟩ := wit_some h; simp only [hasI, Bool.and_eq_true, decide_eq_true_eq] at k ⊢; exact ⟨⟨k.1.1, by omega⟩, by omega⟩
theorem has_mk {a b n : Int} (h1 : -19342822337206103650074625 < n) (h2 : n < 19342822337206103650074625) (ha : a ≤ n) (hb : n ≤ b) : hasI (mkI a b) n = true := by
 rw [mkI_some (by omega) (by omega) (by omega)]; exact has_in h1 h2 ha hb
theorem has_out {a b n : Int} (h : hasI (some (a, b)) n = true) (hn : In n) : -19342822337206103650074625 < n ∧ n < 19342822337206103650074625 ∧ a ≤ n ∧ n ≤ b := by
 simp only [hasI, Bool.and_eq_true, decide_eq_true_eq, Bool.not_eq_true'] at h
 have := infp_false hn.1 hn.2 h.1.1
 exact ⟨this.1, this.2, h.1.2, h.2⟩
theorem has_zero {a b : Int} : hasI (some (a, b)) 0 = (decide (a ≤ 0) && decide (0 ≤ b)) := by
 simp only [hasI, infp_zero, Bool.not_false, Bool.true_and]
def negI (x : Sp) : Sp := match x with
 | none => none
 | some (a, b) => mkI (-b) (-a)
def addI (x y : Sp) : Sp := match x, y with
 | some (a, b), some (c, d) => mkI (addp false a c) (addp true b d)
 | _, _ => none
def addL (l : List Sp) : Sp := match l with
 | [] => some (0, 0)
 | x :: l => l.foldl addI x
def subI (x y : Sp) : Sp := addI x (negI y)
def cor (f : Bool → Int → Int → Int) (a b c d : Int) : Sp := mkI (min (min (f false a c) (f false a d)) (min (f false b c) (f false b d))) (max (max (f true a c) (f true a d)) (max (f true b c) (f true b d)))
def mulI (x y : Sp) : Sp := match x, y with
 | some (a, b), some (c, d) => cor mulp a b c d
 | _, _ => none
theorem negI_some {a b : Int} (h : SpOk (some (a, b))) : negI (some (a, b)) = some (-b, -a) := by
 obtain ⟨h1, h2, h3, h4, h5⟩ := h; exact mkI_some (by omega) (by omega) (by omega)
theorem negI_ok {x : Sp} (h : SpOk x) : SpOk (negI x) := by
 rcases x with _ | ⟨a, b⟩
 · exact trivial
 · obtain ⟨⟨h1, h2⟩, h3, h4⟩ := h.in1; exact mkI_in ⟨by omega, by omega⟩ ⟨by omega, by omega⟩
theorem neg_neg {x : Sp} (h : SpOk x) : negI (negI x) = x := by
 rcases x with _ | ⟨a, b⟩
 · rfl
 · have k := negI_ok h; rw [negI_some h] at k ⊢; rw [negI_some k, Int.neg_neg, Int.neg_neg]
theorem add_none (x : Sp) : addI x none = none := by cases x <;> rfl
theorem add_comm (x y : Sp) : addI x y = addI y x := by
 rcases x with _ | ⟨a, b⟩ <;> rcases y with _ | ⟨c, d⟩ <;> first | rfl | skip
 show mkI _ _ = mkI _ _
 rw [addp_comm (x := a), addp_comm (x := b)]
theorem add_ok {x y : Sp} (hx : SpOk x) (hy : SpOk y) : SpOk (addI x y) := by
 rcases x with _ | ⟨a, b⟩
 · exact trivial
 rcases y with _ | ⟨c, d⟩
 · exact trivial
 obtain ⟨⟨h1, h2⟩, h3, h4⟩ := hx.in1; obtain ⟨⟨k1, k2⟩, k3, k4⟩ := hy.in1; exact mkI_in (addp_bd false h1 h2 k1 k2) (addp_bd true h3 h4 k3 k4)
theorem addp_le2 {x y z t : Int} (up : Bool) (hx : In x) (hy : In y) (hz : In z) (ht : In t) (h : x ≤ y) (k : z ≤ t) : addp up x z ≤ addp up y t := by
 refine Int.le_trans (addp_mono up hx.1 hx.2 hy.1 hy.2 hz.1 hz.2 h) ?_; rw [addp_comm (x := y), addp_comm (x := y)]; exact addp_mono up hz.1 hz.2 ht.1 ht.2 hy.1 hy.2 k
theorem sub_ok {x y : Sp} (hx : SpOk x) (hy : SpOk y) : SpOk (subI x y) := add_ok hx (negI_ok hy)
theorem mkI_neg (a b : Int) : negI (mkI a b) = mkI (-b) (-a) := by
 by_cases q : a ≤ b ∧ a < 19342822337206103650074625 ∧ -19342822337206103650074625 < b
 · rw [mkI_some q.1 q.2.1 q.2.2]
   rfl
 · rw [mkI_none q, mkI_none (by omega)]
   rfl
theorem sub_neg {x y : Sp} (hx : SpOk x) (hy : SpOk y) : subI x y = negI (subI y x) := by
 rcases x with _ | ⟨a, b⟩
 · unfold subI
   show none = negI (addI y none)
   rw [add_none]
   rfl
 rcases y with _ | ⟨c, d⟩
 · rfl
 unfold subI
 rw [negI_some hx, negI_some hy]
 show mkI (addp false a (-d)) (addp true b (-c)) = negI (mkI (addp false c (-b)) (addp true d (-a)))
 rw [mkI_neg]; have e1 := addp_neg (x := d) (y := -a) true; have e2 := addp_neg (x := c) (y := -b) false; rw [Int.neg_neg] at e1 e2; rw [← e1, ← e2, addp_comm (x := a), addp_comm (x := b)]
 rfl
def Mono (f : Int → Int) (a b : Int) : Prop := (∀ x y, a ≤ x → x ≤ y → y ≤ b → f x ≤ f y) ∨ (∀ x y, a ≤ x → x ≤ y → y ≤ b → f y ≤ f x)
theorem Mono.lo {f : Int → Int} {a b x : Int} (h : Mono f a b) (h1 : a ≤ x) (h2 : x ≤ b) : min (f a) (f b) ≤ f x := by
 rcases h with h | h
 · have := h a x (Int.le_refl _) h1 h2
   omega
 · have := h x b h1 h2 (Int.le_refl _)
   omega
theorem Mono.hi {f : Int → Int} {a b x : Int} (h : Mono f a b) (h1 : a ≤ x) (h2 : x ≤ b) : f x ≤ max (f a) (f b) := by
 rcases h with h | h
 · have := h x b h1 h2 (Int.le_refl _)
   omega
 · have := h a x (Int.le_refl _) h1 h2
   omega
theorem cor_lo {f : Int → Int → Int} {a b c d x y : Int} (hf : ∀ z, c ≤ z → z ≤ d → Mono (fun x => f x z) a b) (hg : ∀ z, a ≤ z → z ≤ b → Mono (fun y => f z y) c d) (h1 : a ≤ x) (h2 : x ≤ b) (h3 : c ≤ y) (h4 : y ≤ d) :
   min (min (f a c) (f a d)) (min (f b c) (f b d)) ≤ f x y ∧ f x y ≤ max (max (f a c) (f a d)) (max (f b c) (f b d)) := by
 have p : min (f a y) (f b y) ≤ f x y := (hf y h3 h4).lo h1 h2
 have q : f x y ≤ max (f a y) (f b y) := (hf y h3 h4).hi h1 h2
 have r : min (f a c) (f a d) ≤ f a y := (hg a (Int.le_refl _) (by omega)).lo h3 h4
 have s : min (f b c) (f b d) ≤ f b y := (hg b (by omega) (Int.le_refl _)).lo h3 h4
 have t : f a y ≤ max (f a c) (f a d) := (hg a (Int.le_refl _) (by omega)).hi h3 h4
 have u : f b y ≤ max (f b c) (f b d) := (hg b (by omega) (Int.le_refl _)).hi h3 h4
 constructor <;> omega
theorem cor_wit {f : Bool → Int → Int → Int} {a b c d a2 b2 c2 d2 : Int} (hf : ∀ up z, c2 ≤ z → z ≤ d2 → Mono (fun x => f up x z) a2 b2) (hg : ∀ up z, a2 ≤ z → z ≤ b2 → Mono (fun y => f up z y) c2 d2)
   (h0 : a ≤ b) (k0 : c ≤ d) (h1 : a2 ≤ a) (h2 : b ≤ b2) (k1 : c2 ≤ c) (k2 : d ≤ d2) : witI (cor f a b c d) (cor f a2 b2 c2 d2) = true := by
 have L : ∀ up x y, a2 ≤ x → x ≤ b2 → c2 ≤ y → y ≤ d2 → min (min (f up a2 c2) (f up a2 d2)) (min (f up b2 c2) (f up b2 d2)) ≤ f up x y ∧ f up x y ≤ max (max (f up a2 c2) (f up a2 d2)) (max (f up b2 c2) (f up b2 d2)) :=
   fun up x y => cor_lo (hf up) (hg up)
 have p1 := L false a c h1 (by omega) k1 (by omega); have p2 := L false a d h1 (by omega) (by omega) k2; have p3 := L false b c (by omega) h2 k1 (by omega); have p4 := L false b d (by omega) h2 (by omega) k2; have q1 := L true a c h1 (by omega) k1 (by omega); have q2 := L true a d h1 (by omega) (by omega) k2; have q3 := L true b c (by omega) h2 k1 (by omega); have q4 := L true b d (by omega) h2 (by omega) k2
 exact wit_mk (by omega) (by omega)
theorem cor_ok {f : Bool → Int → Int → Int} (hf : ∀ up x y, In (f up x y)) (a b c d : Int) : SpOk (cor f a b c d) := by
 have h1 := hf false a c; have h2 := hf false a d; have h3 := hf false b c; have h4 := hf false b d; have k1 := hf true a c; have k2 := hf true a d; have k3 := hf true b c; have k4 := hf true b d
 unfold In at *
 exact mkI_in ⟨by omega, by omega⟩ ⟨by omega, by omega⟩
theorem mul_ok {x y : Sp} : SpOk (mulI x y) := by
 rcases x with _ | ⟨a, b⟩
 · exact trivial
 rcases y with _ | ⟨c, d⟩
 · exact trivial
 show SpOk (cor mulp a b c d)
 exact cor_ok (f := mulp) (fun up _ _ => mulp_bd up) a b c d
theorem mul_comm (x y : Sp) : mulI x y = mulI y x := by
 rcases x with _ | ⟨a, b⟩ <;> rcases y with _ | ⟨c, d⟩ <;> first | rfl | skip
 show cor mulp a b c d = cor mulp c d a b
 unfold cor
 simp only [mulp_comm (x := c), mulp_comm (x := d)]
 congr 1 <;> omega
def FzI (x : Sp) (h : Nat) : Prop := ∀ a b, x = some (a, b) → Fz a h ∧ Fz b h
theorem FzI.mono {x : Sp} {h k : Nat} (f : FzI x h) (hk : h ≤ k) : FzI x k := fun a b e => ⟨(f a b e).1.mono hk, (f a b e).2.mono hk⟩
theorem FzI.mk {a b : Int} {h : Nat} (f : Fz a h) (g : Fz b h) : FzI (mkI a b) h := fun c d e => by
 unfold mkI at e
 split at e
 · cases e
   exact ⟨f, g⟩
 · cases e
theorem FzI.add {x y : Sp} {h : Nat} (hh : h ≤ 90000) (f : FzI x h) (g : FzI y h) : FzI (addI x y) (h + 66) := by
 rcases x with _ | ⟨a, b⟩
 · exact fun _ _ e => by cases e
 rcases y with _ | ⟨c, d⟩
 · exact fun _ _ e => by cases e
 exact FzI.mk (addp_fz false hh (f a b rfl).1 (g c d rfl).1) (addp_fz true hh (f a b rfl).2 (g c d rfl).2)
end Go.Proofs.YtnbliijpjcmbjaaGreatDoor

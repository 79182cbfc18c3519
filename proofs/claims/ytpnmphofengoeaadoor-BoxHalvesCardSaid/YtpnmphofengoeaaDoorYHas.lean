/-
  Contracts and words that the statement's proof rests on: Cm.
-/
import Derived.Test.YtpnmphofengoeaaDoorYHar
namespace Go.Proofs.YtpnmphofengoeaaDoor
set_option maxHeartbeats 8000000
open Go.RowKit
set_option linter.unusedVariables false
set_option linter.unusedSimpArgs false
set_option maxRecDepth 100000

theorem kvAllE {w : World} : Calls Tryd.prog 49 #[] w (fun e w' => e = .returned (.agg #[.bool false, .int .i64 2, .bool true, .int .u64 0, .int .i64 0, .int .i64 2, .bool false, .int .u64 0, .int .i64 0]) ∧ Below w.heap.size w w') := by
  refine kvAll.mono ?_; rintro ee w2 ⟨e1, K1, s1, M1, E1, K1b, s1b, M1b, E1b, rfl, v1, B⟩; obtain ⟨rfl, rfl, rfl, rfl, rfl, rfl, rfl, rfl, rfl⟩ := v1.uniq ci_all; exact ⟨rfl, B⟩
theorem smA_two {a b : Int} (ha : -19342822337206103650074625 ≤ a ∧ a ≤ 19342822337206103650074625) : smA false [a, b] = addp false a b := by
  show addp false (addp false 0 a) b = _
  rw [addp_comm (x := 0) false, addp_zero false ha.1 ha.2]
theorem kvMid {w : World} {e : Bool} {D M E D' M' E' : Int} {s s' : Bool} {x : Sp} {r : Int} (hT : Tb w) (hM : M < 18446744073709551616) (hM' : M' < 18446744073709551616) (hx : rkI e D s M E D' s' M' E' = x) (hr : midI x = r) : Calls Tryd.prog 23 #[.agg #[.bool e, .int .i64 D, .bool s, .int .u64 M, .int .i64 E, .int .i64 D', .bool s', .int .u64 M', .int .i64 E']] w (PN w r) := by
  have HX := Lib.hid hx; clear hx
  go_enter Tryd.func23, Tryd.ntmps23
  go_upto_region 1 with (fail)
  generalize hW1 : (w.alloc _).alloc _ = w1 at *; obtain ⟨X1, XR, HB⟩ := Bo.en2 hW1; replace hT := hT.below HB.out; clear hW1; have xX1 := X1.cell
  go_wp2_with fail
  refine (kvOrE hM hM' HX.out).mono ?_; rintro ee w2 ⟨e1, K1, s1, M1, E1, K1b, s1b, M1b, E1b, rfl, v1, B⟩; clear xX1; replace X1 := X1.below B; replace XR := XR.below B; replace hT := hT.below B; replace HB := Hqb HB B; clear B; have xX1 := X1.cell; have zX10 := X1.frozen
  go_upto_region 2 with (fail)
  clear xX1 zX10; generalize hS : ((((((((w2.setCell _ _).setCell _ _).setCell _ _).setCell _ _).setCell _ _).setCell _ _).setCell _ _).setCell _ _).setCell _ _ = w3 at *; have SX := StN.of9 X1 hS; replace XR := XR.stn SX (by omega); replace hT := hT.stn SX (by simp [no8]); replace HB := Hqs HB SX (by omega); replace X1 := SX.box; clear SX hS
  clear HX hM hM'
  rcases x with _ | ⟨xa, xb⟩
  · obtain ⟨rfl, y1, y1b⟩ := v1
    obtain rfl : 0 = r := hr
    obtain ⟨_, rfl, rfl, rfl, rfl, rfl, rfl, rfl, rfl⟩ := (show Ci true K1 s1 M1 E1 K1b s1b M1b E1b none from ⟨rfl, y1, y1b⟩).uniq Ci.none
    clear y1 y1b; refine Jo.rk [0, 1, 2, 3, 4, 5, 6, 7, 8] [some 7, some 8, some 9, some 10, some 11, some 12, some 13, some 14, some 6] [[], [], [0, 1], [2], [3], [3], [3, 4, 5], [3, 6], [7]] 9 0 [Jo.q9 true 0 false 0 0 0 false 0 0, Jo.q9 true 0 false 0 0 0 false 0 0, Jo.qb true, Jo.qb true, Jo.qu, Jo.qu, Jo.qu, Jo.qb true, Jo.qb true] (by kernel_rfl) (by kernel_rfl) (by decide) rfl ?_ ?_
    · refine Jo.jm rfl ?_ ?_; rotate_left
      refine Jo.jm rfl ?_ ?_
      · rintro wj hJ K hK; simp only [Jo.z] at hK ⊢; go_simp; refine (kvNoneE).mono ?_; rintro ee wk ⟨rfl, B⟩; exact hK.out _ _ rfl B
      refine Jo.jm rfl ?_ ?_
      · rintro wj hJ _ rfl _ rfl K hK; simp only [Jo.z] at hK ⊢; go_simp
        repeat' split
        all_goals exact hK.out _ _ (congrArg Value.bool (by first | rfl | (exfalso; simp_all) | simp_all)) (br _ _)
      iterate 6 (refine Jo.jm rfl ?_ ?_; rotate_left)
      exact Jo.Steps.nil
      all_goals (rintro wj hJ; (repeat rintro _ rfl); intro K hK; simp only [Jo.z] at hK ⊢; have xX1 := (X1.below hJ).cell; go_simp; exact hK.out _ _ rfl (br _ _))
    rintro w4 hJ _ rfl _ rfl _ rfl _ rfl _ rfl _ rfl _ rfl _ rfl _ rfl -; simp only [Jo.z]; replace X1 := X1.below hJ; replace XR := XR.below hJ; replace hT := hT.below hJ; replace HB := Hqb HB hJ; refine Jo.jdone (by kernel_rfl) ?_; have xXR := XR.cell; have zXR0 := XR.frozen; go_wp2; clear xXR zXR0; have SX := StN.mk4 XR (.int .i64 0) (.bool false) (.int .u64 0) (.int .i64 0)
    exact bodyPost_ret (by simp [results, Tryd.results23, go_sem, SX.box.cell]) rfl ⟨_, _, _, _, rfl, Fq.nought, (SX.below HB.out (by omega))⟩
  · obtain ⟨rfl, a1, b1, o1, o1l, o1h⟩ := v1; rw [mid_some] at hr
    by_cases hall : xa = -19342822337206103650074625 ∧ xb = 19342822337206103650074625
    · obtain ⟨rfl, rfl⟩ := hall; rw [if_pos ⟨rfl, rfl⟩] at hr
      obtain rfl : 0 = r := hr
      obtain ⟨rfl, rfl, rfl, rfl⟩ := a1.uniq (show Fq 2 true 0 0 (-19342822337206103650074625) from fq_inf2 true)
      obtain ⟨rfl, rfl, rfl, rfl⟩ := b1.uniq (show Fq 2 false 0 0 19342822337206103650074625 from fq_inf2 false)
      refine Jo.rk [0, 1, 2, 3, 4, 5, 6, 7, 8] [some 7, some 8, some 9, some 10, some 11, some 12, some 13, some 14, some 6] [[], [], [0, 1], [2], [3], [3], [3, 4, 5], [3, 6], [7]] 9 0 [Jo.q9 false 2 true 0 0 2 false 0 0, Jo.q9 true 0 false 0 0 0 false 0 0, Jo.qb false, Jo.qb false, Jo.q9 false 2 true 0 0 2 false 0 0, Jo.q9 false 2 true 0 0 2 false 0 0, Jo.qb true, Jo.qb true, Jo.qb true] (by kernel_rfl) (by kernel_rfl) (by decide) rfl ?_ ?_
      · refine Jo.jm rfl ?_ ?_; rotate_left
        refine Jo.jm rfl ?_ ?_
        · rintro wj hJ K hK; simp only [Jo.z] at hK ⊢; go_simp; refine (kvNoneE).mono ?_; rintro ee wk ⟨rfl, B⟩; exact hK.out _ _ rfl B
        refine Jo.jm rfl ?_ ?_
        · rintro wj hJ _ rfl _ rfl K hK; simp only [Jo.z] at hK ⊢; go_simp
          repeat' split
          all_goals exact hK.out _ _ (congrArg Value.bool (by first | rfl | (exfalso; simp_all))) (br _ _)
        iterate 2 (refine Jo.jm rfl ?_ ?_; rotate_left)
        refine Jo.jm rfl ?_ ?_
        · rintro wj hJ _ rfl K hK; simp only [Jo.z] at hK ⊢; go_simp; refine (kvAllE).mono ?_; rintro ee wk ⟨rfl, B⟩; exact hK.out _ _ rfl B
        refine Jo.jm rfl ?_ ?_
        · rintro wj hJ _ rfl _ rfl _ rfl K hK; simp only [Jo.z] at hK ⊢; go_simp
          repeat' split
          all_goals exact hK.out _ _ (congrArg Value.bool (by first | rfl | (exfalso; simp_all) | simp_all)) (br _ _)
        iterate 2 (refine Jo.jm rfl ?_ ?_; rotate_left)
        exact Jo.Steps.nil
        all_goals (rintro wj hJ; (repeat rintro _ rfl); intro K hK; simp only [Jo.z] at hK ⊢; have xX1 := (X1.below hJ).cell; go_simp; exact hK.out _ _ rfl (br _ _))
      rintro w4 hJ _ rfl _ rfl _ rfl _ rfl _ rfl _ rfl _ rfl _ rfl _ rfl -; simp only [Jo.z]; replace X1 := X1.below hJ; replace XR := XR.below hJ; replace hT := hT.below hJ; replace HB := Hqb HB hJ; refine Jo.jdone (by kernel_rfl) ?_; have xXR := XR.cell; have zXR0 := XR.frozen; go_wp2; clear xXR zXR0; have SX := StN.mk4 XR (.int .i64 0) (.bool false) (.int .u64 0) (.int .i64 0)
      exact bodyPost_ret (by simp [results, Tryd.results23, go_sem, SX.box.cell]) rfl ⟨_, _, _, _, rfl, Fq.nought, (SX.below HB.out (by omega))⟩
    · rw [if_neg hall] at hr
      have hne : ¬ (K1 = 2 ∧ s1 = true ∧ M1 = 0 ∧ E1 = 0 ∧ K1b = 2 ∧ s1b = false ∧ M1b = 0 ∧ E1b = 0) := by
        rintro ⟨rfl, rfl, rfl, rfl, rfl, rfl, rfl, rfl⟩; exact hall ⟨by rw [← a1.rk]; exact (fq_inf2 true).rk, by rw [← b1.rk]; exact (fq_inf2 false).rk⟩
      have HNE := Lib.hid hne; have i1 := fq_inf a1; have i2 := fq_inf b1; have htp := TP_eq
      have j1 : xa = -19342822337206103650074625 ↔ infp xa = true := by
        constructor
        · rintro rfl
          rfl
        · intro c
          rcases infp_true c with e | e <;> omega
      have j2 : xb = 19342822337206103650074625 ↔ infp xb = true := by
        constructor
        · rintro rfl
          rfl
        · intro c
          rcases infp_true c with e | e <;> omega
      rw [i1] at j1; rw [i2] at j2; clear hne hall htp i1 i2; refine Jo.rk [0, 1, 2, 3, 4, 5, 6, 7, 8] [some 7, some 8, some 9, some 10, some 11, some 12, some 13, some 14, some 6] [[], [], [0, 1], [2], [3], [3], [3, 4, 5], [3, 6], [7]] 9 0 [Jo.q9 false K1 s1 M1 E1 K1b s1b M1b E1b, Jo.q9 true 0 false 0 0 0 false 0 0, Jo.qb false, Jo.qb false, Jo.q9 false K1 s1 M1 E1 K1b s1b M1b E1b, Jo.q9 false 2 true 0 0 2 false 0 0, Jo.qb false, Jo.qb false, Jo.qb false] (by kernel_rfl) (by kernel_rfl) (by decide) rfl ?_ ?_
      · refine Jo.jm rfl ?_ ?_; rotate_left
        refine Jo.jm rfl ?_ ?_
        · rintro wj hJ K hK; simp only [Jo.z] at hK ⊢; go_simp; refine (kvNoneE).mono ?_; rintro ee wk ⟨rfl, B⟩; exact hK.out _ _ rfl B
        refine Jo.jm rfl ?_ ?_
        · rintro wj hJ _ rfl _ rfl K hK; simp only [Jo.z] at hK ⊢; go_simp
          repeat' split
          all_goals exact hK.out _ _ (congrArg Value.bool (by first | rfl | (exfalso; simp_all))) (br _ _)
        iterate 2 (refine Jo.jm rfl ?_ ?_; rotate_left)
        refine Jo.jm rfl ?_ ?_
        · rintro wj hJ _ rfl K hK; simp only [Jo.z] at hK ⊢; go_simp; refine (kvAllE).mono ?_; rintro ee wk ⟨rfl, B⟩; exact hK.out _ _ rfl B
        refine Jo.jm rfl ?_ ?_
        · rintro wj hJ _ rfl _ rfl _ rfl K hK; simp only [Jo.z] at hK ⊢; have hne := HNE.out; go_simp
          repeat' split
          all_goals exact hK.out _ _ (congrArg Value.bool (by first | rfl | (exfalso; simp_all))) (br _ _)
        iterate 2 (refine Jo.jm rfl ?_ ?_; rotate_left)
        exact Jo.Steps.nil
        all_goals (rintro wj hJ; (repeat rintro _ rfl); intro K hK; simp only [Jo.z] at hK ⊢; have xX1 := (X1.below hJ).cell; go_simp; exact hK.out _ _ rfl (br _ _))
      rintro w4 hJ _ rfl _ rfl _ rfl _ rfl _ rfl _ rfl _ rfl _ rfl _ rfl -; simp only [Jo.z]; replace X1 := X1.below hJ; replace XR := XR.below hJ; replace hT := hT.below hJ; replace HB := Hqb HB hJ; refine Jo.jdone (by kernel_rfl) ?_; clear HNE
      by_cases k1 : K1 = 2
      · subst k1; rw [if_pos (j1.2 rfl)] at hr
        obtain rfl : xb = r := hr
        clear j1 j2 o1 o1l o1h; have xXR := XR.cell; have zXR0 := XR.frozen; have xX1 := X1.cell; go_wp2; clear xXR zXR0 xX1; have SX := StN.mk4 XR (.int .i64 K1b) (.bool s1b) (.int .u64 M1b) (.int .i64 E1b); exact bodyPost_ret (by simp [results, Tryd.results23, go_sem, SX.box.cell]) rfl ⟨_, _, _, _, rfl, b1, (SX.below HB.out (by omega))⟩
      · have e1 : (K1 == 2) = false := by simpa using k1
        rw [if_neg (fun c => by have := j1.1 c; rw [e1] at this; cases this)] at hr
        clear j1
        by_cases k2 : K1b = 2
        · subst k2; rw [if_pos (j2.2 rfl)] at hr
          obtain rfl : xa = r := hr
          clear j2 o1 o1l o1h; have xXR := XR.cell; have zXR0 := XR.frozen; have xX1 := X1.cell; go_wp2; clear xXR zXR0 xX1; have SX := StN.mk4 XR (.int .i64 K1) (.bool s1) (.int .u64 M1) (.int .i64 E1); exact bodyPost_ret (by simp [results, Tryd.results23, go_sem, SX.box.cell]) rfl ⟨_, _, _, _, rfl, a1, (SX.below HB.out (by omega))⟩
        · have e2 : (K1b == 2) = false := by simpa using k2
          rw [if_neg (fun c => by have := j2.1 c; rw [e2] at this; cases this)] at hr
          clear j2; have bda := a1.bd; have bdb := b1.bd; obtain ⟨u, hu⟩ : ∃ u, addp false xa xb = u := ⟨_, rfl⟩; rw [hu] at hr; obtain ⟨m, hm⟩ : ∃ m, mulp false u hlf = m := ⟨_, rfl⟩; rw [hm] at hr
          have hu2 : smA false [xa, xb] = u := (smA_two bda).trans hu
          obtain ⟨q, hq⟩ : ∃ q, max m xa = q := ⟨_, rfl⟩
          have hr2 : min q xb = r := by rw [← hq, clp_min o1]; exact hr
          have HU := Lib.hid hu2; have HMM := Lib.hid hm; have HQ0 := Lib.hid hq; have HR0 := Lib.hid hr2; have HO := Lib.hid o1; clear hu hm hu2 hq hr2 hr o1 o1l o1h; have xX1 := X1.cell
          go_wp2_with fail
          refine (aSum (hT.below (bel1 _ (.cells #[.int .i64 K1, .bool s1, .int .u64 M1, .int .i64 E1, .int .i64 K1b, .bool s1b, .int .u64 M1b, .int .i64 E1b] 38))) (Nl.lit2 rfl a1.top b1.top a1.rk b1.rk) HU.out).mono ?_; rintro ee w5 ⟨K5, s5, M5, E5, rfl, q5, B⟩; replace B := bt (bel1 _ (.cells #[.int .i64 K1, .bool s1, .int .u64 M1, .int .i64 E1, .int .i64 K1b, .bool s1b, .int .u64 M1b, .int .i64 E1b] 38)) B
          clear xX1; replace X1 := X1.below B; replace XR := XR.below B; replace hT := hT.below B; replace HB := Hqb HB B; clear B
          go_wp2_with fail
          refine (aHalf q5.top q5.rk HMM.out).mono ?_; rintro ee w6 ⟨K3, s3, M3, E3, rfl, q3, B⟩; replace X1 := X1.below B; replace XR := XR.below B; replace hT := hT.below B; replace HB := Hqb HB B; clear B; clear HU HMM q5
          go_upto_region 9 with (fail)
          have lX3 := Nat.le_refl (World.heap w6).size; have nX3X1 := X1.lt; have nX3XR := XR.lt; generalize hWn : w6.alloc _ = w7 at *; obtain ⟨X3, BW⟩ := Bo.nw hWn; clear hWn; replace X1 := X1.below BW; replace XR := XR.below BW; replace hT := hT.below BW; replace HB := Hqb HB BW; clear BW; clear lX3
          have hq2 : mxp [m, xa] = q := (mxp_two q3.bd.1).trans HQ0.out
          have hqx : q ≤ 19342822337206103650074625 := by have := HQ0.out; have := q3.bd; omega
          have hr3 : mnp [q, xb] = r := (mnp_two hqx).trans HR0.out
          have HQ := Lib.hid hq2; have HR := Lib.hid hr3; clear hq2 hr3 HQ0 HR0 hqx bda bdb HO; refine Jo.rk [0, 1, 2, 3, 4, 5, 6, 7, 8] [some 37, some 38, some 39, some 40, some 41, some 42, some 43, some 44, some 45, none] [[], [], [1], [0, 2], [3], [], [5], [4, 6], [7], []] 10 1 [Jo.q4 K3 s3 M3 E3, Jo.qp w.heap.size 1, Jo.q4 K1 s1 M1 E1, Jo.Fact.nl 2 [m, xa], Jo.Fact.num q, Jo.qp w.heap.size 5, Jo.q4 K1b s1b M1b E1b, Jo.Fact.nl 2 [q, xb], Jo.Fact.num r, Jo.Fact.any] (by kernel_rfl) (by kernel_rfl) (by decide) rfl ?_ ?_
          · iterate 3 (refine Jo.jm rfl ?_ ?_; rotate_left)
            refine Jo.jm rfl ?_ ?_
            · rintro wj hJ _ rfl _ rfl K hK; simp only [Jo.z] at hK ⊢; go_simp; exact hK.out _ _ ⟨_, 2, rfl, (Nl.lit2 rfl q3.top a1.top q3.rk a1.rk)⟩ (bel1 _ _)
            refine Jo.jm rfl ?_ ?_
            · rintro wj hJ _ ⟨A4, c4, rfl, h4⟩ K hK; simp only [Jo.z] at hK ⊢; go_simp; refine (nMost h4 HQ.out).mono ?_; rintro ee wk ⟨K6, s6, M6, E6, rfl, q6, B⟩; exact hK.out _ _ ⟨K6, s6, M6, E6, rfl, q6⟩ B
            iterate 2 (refine Jo.jm rfl ?_ ?_; rotate_left)
            refine Jo.jm rfl ?_ ?_
            · rintro wj hJ _ ⟨K6, s6, M6, E6, rfl, q6⟩ _ rfl K hK; simp only [Jo.z] at hK ⊢; go_simp; exact hK.out _ _ ⟨_, 2, rfl, (Nl.lit2 rfl q6.top b1.top q6.rk b1.rk)⟩ (bel1 _ _)
            refine Jo.jm rfl ?_ ?_
            · rintro wj hJ _ ⟨A5, c5, rfl, h5⟩ K hK; simp only [Jo.z] at hK ⊢; go_simp; refine (nLeast h5 HR.out).mono ?_; rintro ee wk ⟨K7, s7, M7, E7, rfl, q7, B⟩; exact hK.out _ _ ⟨K7, s7, M7, E7, rfl, q7⟩ B
            exact Jo.Steps.nil
            all_goals (rintro wj hJ; (repeat rintro _ rfl); intro K hK; simp only [Jo.z] at hK ⊢; have xX3 := (X3.below hJ).cell; have xX1 := (X1.below hJ).cell; go_simp; exact hK.out _ _ rfl (br _ _))
          rintro w8 hJ _ rfl _ _ _ rfl _ ⟨A4, c4, rfl, _⟩ _ ⟨K6, s6, M6, E6, rfl, q6⟩ _ _ _ rfl _ ⟨A5, c5, rfl, _⟩ _ ⟨K7, s7, M7, E7, rfl, q7⟩ -; simp only [Jo.z]; replace X1 := X1.below hJ; replace XR := XR.below hJ; replace X3 := X3.below hJ; replace hT := hT.below hJ; replace HB := Hqb HB hJ; have xXR := XR.cell; have zXR0 := XR.frozen
          refine Jo.jnext (i := 9) (o := ⟨none, _, _, _, _, _⟩) (by kernel_rfl) rfl (fun K hK => ?_)
          go_simp; refine hK.out _ _ ?_; clear hK K xXR zXR0; have SX := StN.mk4 XR (.int .i64 K7) (.bool s7) (.int .u64 M7) (.int .i64 E7); refine Jo.jdone (by kernel_rfl) ?_; go_wp2; exact bodyPost_ret (by simp [results, Tryd.results23, go_sem, SX.box.cell]) rfl ⟨_, _, _, _, rfl, q7, (SX.below HB.out (by omega))⟩
theorem kvWidth {w : World} {e : Bool} {D M E D' M' E' : Int} {s s' : Bool} {x : Sp} {r : Int} (hT : Tb w) (hM : M < 18446744073709551616) (hM' : M' < 18446744073709551616) (hx : rkI e D s M E D' s' M' E' = x) (hr : widI x = r) : Calls Tryd.prog 46 #[.agg #[.bool e, .int .i64 D, .bool s, .int .u64 M, .int .i64 E, .int .i64 D', .bool s', .int .u64 M', .int .i64 E']] w (PN w r) := by
  have HX := Lib.hid hx; clear hx
  go_enter Tryd.func46, Tryd.ntmps46
  go_upto_region 1 with (fail)
  generalize hW1 : (w.alloc _).alloc _ = w1 at *; obtain ⟨X1, XR, HB⟩ := Bo.en2 hW1; replace hT := hT.below HB.out; clear hW1; have xX1 := X1.cell
  go_wp2_with fail
  refine (kvOrE hM hM' HX.out).mono ?_; rintro ee w2 ⟨e1, K1, s1, M1, E1, K1b, s1b, M1b, E1b, rfl, v1, B⟩; clear xX1; replace X1 := X1.below B; replace XR := XR.below B; replace hT := hT.below B; replace HB := Hqb HB B; clear B; have xX1 := X1.cell; have zX10 := X1.frozen
  go_upto_region 2 with (fail)
  clear xX1 zX10; generalize hS : ((((((((w2.setCell _ _).setCell _ _).setCell _ _).setCell _ _).setCell _ _).setCell _ _).setCell _ _).setCell _ _).setCell _ _ = w3 at *; have SX := StN.of9 X1 hS; replace XR := XR.stn SX (by omega); replace hT := hT.stn SX (by simp [no8]); replace HB := Hqs HB SX (by omega); replace X1 := SX.box; clear SX hS
  clear HX hM hM'
  rcases x with _ | ⟨xa, xb⟩
  · obtain ⟨rfl, y1, y1b⟩ := v1
    obtain rfl : 0 = r := hr
    have xX1 := X1.cell
    go_wp2_with fail
    refine (aSub hT y1b.top y1.top y1b.rk (y := 0) (by rw [y1.rk]; rfl) (r := 0) (addp_zero true (by omega) (by omega))).mono ?_; rintro ee w4 ⟨K2, s2, M2, E2, rfl, q2, B⟩; clear xX1; replace X1 := X1.below B; replace XR := XR.below B; replace hT := hT.below B; replace HB := Hqb HB B; clear B; have xXR := XR.cell; have zXR0 := XR.frozen
    go_wp2; clear xXR zXR0; have SX := StN.mk4 XR (.int .i64 K2) (.bool s2) (.int .u64 M2) (.int .i64 E2); exact bodyPost_ret (by simp [results, Tryd.results46, go_sem, SX.box.cell]) rfl ⟨_, _, _, _, rfl, q2, (SX.below HB.out (by omega))⟩
  · obtain ⟨rfl, a1, b1, o1, o1l, o1h⟩ := v1
    have HR := Lib.hid (show addp true xb (-xa) = r from hr)
    clear hr o1 o1l o1h; have xX1 := X1.cell
    go_wp2_with fail
    refine (aSub hT b1.top a1.top b1.rk (by rw [a1.rk]) HR.out).mono ?_; rintro ee w4 ⟨K2, s2, M2, E2, rfl, q2, B⟩; clear xX1; replace X1 := X1.below B; replace XR := XR.below B; replace hT := hT.below B; replace HB := Hqb HB B; clear B; have xXR := XR.cell; have zXR0 := XR.frozen; go_wp2; clear xXR zXR0; have SX := StN.mk4 XR (.int .i64 K2) (.bool s2) (.int .u64 M2) (.int .i64 E2)
    exact bodyPost_ret (by simp [results, Tryd.results46, go_sem, SX.box.cell]) rfl ⟨_, _, _, _, rfl, q2, (SX.below HB.out (by omega))⟩
theorem kvSplit {w : World} {e : Bool} {D M E D' M' E' : Int} {s s' : Bool} {x y z : Sp} (hT : Tb w) (hM : M < 18446744073709551616) (hM' : M' < 18446744073709551616) (hx : rkI e D s M E D' s' M' E' = x) (hy : loI x = y) (hz : hiI x = z) : Calls Tryd.prog 44 #[.agg #[.bool e, .int .i64 D, .bool s, .int .u64 M, .int .i64 E, .int .i64 D', .bool s', .int .u64 M', .int .i64 E']] w (PV2 w y z) := by
  have HX := Lib.hid hx; clear hx
  go_enter Tryd.func44, Tryd.ntmps44
  go_upto_region 1 with (fail)
  generalize hW1 : ((w.alloc _).alloc _).alloc _ = w1 at *; obtain ⟨X1, XR, XS, HB⟩ := Bo.en3 hW1; replace hT := hT.below HB.out; clear hW1; have xX1 := X1.cell
  go_wp2_with fail
  refine (kvOrE hM hM' HX.out).mono ?_; rintro ee w2 ⟨e1, K1, s1, M1, E1, K1b, s1b, M1b, E1b, rfl, v1, B⟩; clear xX1; replace X1 := X1.below B; replace XR := XR.below B; replace XS := XS.below B; replace hT := hT.below B; replace HB := Hqb HB B; clear B; have xX1 := X1.cell; have zX10 := X1.frozen
  go_upto_region 2 with (fail)
  clear xX1 zX10; generalize hS : ((((((((w2.setCell _ _).setCell _ _).setCell _ _).setCell _ _).setCell _ _).setCell _ _).setCell _ _).setCell _ _).setCell _ _ = w3 at *; have SX := StN.of9 X1 hS; replace XR := XR.stn SX (by omega); replace XS := XS.stn SX (by omega); replace hT := hT.stn SX (by simp [no8]); replace HB := Hqs HB SX (by omega)
  replace X1 := SX.box; clear SX hS; clear HX hM hM'
  rcases x with _ | ⟨xa, xb⟩
  · obtain ⟨rfl, y1, y1b⟩ := v1
    obtain rfl : none = y := hy
    obtain rfl : none = z := hz
    obtain ⟨_, rfl, rfl, rfl, rfl, rfl, rfl, rfl, rfl⟩ := (show Ci true K1 s1 M1 E1 K1b s1b M1b E1b none from ⟨rfl, y1, y1b⟩).uniq Ci.none
    clear y1 y1b; refine Jo.rk [0, 1, 2] [some 7, some 8, some 9] [[], [], [0, 1]] 3 0 [Jo.q9 true 0 false 0 0 0 false 0 0, Jo.q9 true 0 false 0 0 0 false 0 0, Jo.qb true] (by kernel_rfl) (by kernel_rfl) (by decide) rfl ?_ ?_
    · refine Jo.jm rfl ?_ ?_
      · rintro wj hJ K hK; simp only [Jo.z] at hK ⊢; have xX1 := (X1.below hJ).cell; go_simp; exact hK.out _ _ rfl (br _ _)
      refine Jo.jm rfl ?_ ?_
      · rintro wj hJ K hK; simp only [Jo.z] at hK ⊢; go_simp; refine (kvNoneE).mono ?_; rintro ee wk ⟨rfl, B⟩; exact hK.out _ _ rfl B
      refine Jo.jm rfl ?_ ?_
      · rintro wj hJ _ rfl _ rfl K hK; simp only [Jo.z] at hK ⊢; go_simp
        repeat' split
        all_goals exact hK.out _ _ (congrArg Value.bool (by first | rfl | (exfalso; simp_all) | simp_all)) (br _ _)
      exact Jo.Steps.nil
    rintro w4 hJ _ rfl _ rfl _ rfl -; simp only [Jo.z]; replace X1 := X1.below hJ; replace XR := XR.below hJ; replace XS := XS.below hJ; replace hT := hT.below hJ; replace HB := Hqb HB hJ; refine Jo.jdone (by kernel_rfl) ?_
    go_wp2_with fail
    refine (kvNoneE).mono ?_; rintro ee w5 ⟨rfl, B⟩; replace X1 := X1.below B; replace XR := XR.below B; replace XS := XS.below B; replace hT := hT.below B; replace HB := Hqb HB B; clear B
    go_wp2_with fail
    refine (kvNoneE).mono ?_; rintro ee w6 ⟨rfl, B⟩; replace X1 := X1.below B; replace XR := XR.below B; replace XS := XS.below B; replace hT := hT.below B; replace HB := Hqb HB B; clear B; have xXR := XR.cell; have zXR0 := XR.frozen; have xXS := XS.cell; have zXS0 := XS.frozen; go_wp2
    clear xXR zXR0 xXS zXS0; generalize hS : ((((((((w6.setCell _ _).setCell _ _).setCell _ _).setCell _ _).setCell _ _).setCell _ _).setCell _ _).setCell _ _).setCell _ _ = w7 at *; have SX := StN.of9 XR hS; replace X1 := X1.stn SX (by omega); replace XS := XS.stn SX (by omega); replace hT := hT.stn SX (by simp [no8])
    replace HB := Hqs HB SX (by omega); replace XR := SX.box; clear SX hS; generalize hS : ((((((((w7.setCell _ _).setCell _ _).setCell _ _).setCell _ _).setCell _ _).setCell _ _).setCell _ _).setCell _ _).setCell _ _ = w8 at *; have SX := StN.of9 XS hS; replace X1 := X1.stn SX (by omega); replace XR := XR.stn SX (by omega); replace hT := hT.stn SX (by simp [no8]); replace HB := Hqs HB SX (by omega)
    replace XS := SX.box; clear SX hS; exact bodyPost_ret (v := .tuple #[.agg #[.bool true, .int .i64 0, .bool false, .int .u64 0, .int .i64 0, .int .i64 0, .bool false, .int .u64 0, .int .i64 0], .agg #[.bool true, .int .i64 0, .bool false, .int .u64 0, .int .i64 0, .int .i64 0, .bool false, .int .u64 0, .int .i64 0]]) (by simp [results, Tryd.results44, go_sem, XR.cell, XS.cell]) rfl ⟨_, _, _, _, _, _, _, _, _, _, _, _, _, _, _, _, _, _, rfl, Ci.none, Ci.none, HB.out⟩
  · obtain ⟨rfl, a1, b1, o1, o1l, o1h⟩ := v1; obtain ⟨m, hm⟩ : ∃ m, midI (some (xa, xb)) = m := ⟨_, rfl⟩
    have hy2 : mkI xa m = y := by rw [← hm]; exact hy
    have hz2 : mkI m xb = z := by rw [← hm]; exact hz
    have HMD := Lib.hid hm; have HY := Lib.hid hy2; have HZ := Lib.hid hz2
    have hci : Ci false K1 s1 M1 E1 K1b s1b M1b E1b (some (xa, xb)) := ⟨rfl, a1, b1, o1, o1l, o1h⟩
    clear hy hz hm hy2 hz2 o1 o1l o1h; refine Jo.rk [0, 1, 2] [some 7, some 8, some 9] [[], [], [0, 1]] 3 0 [Jo.q9 false K1 s1 M1 E1 K1b s1b M1b E1b, Jo.q9 true 0 false 0 0 0 false 0 0, Jo.qb false] (by kernel_rfl) (by kernel_rfl) (by decide) rfl ?_ ?_
    · refine Jo.jm rfl ?_ ?_
      · rintro wj hJ K hK; simp only [Jo.z] at hK ⊢; have xX1 := (X1.below hJ).cell; go_simp; exact hK.out _ _ rfl (br _ _)
      refine Jo.jm rfl ?_ ?_
      · rintro wj hJ K hK; simp only [Jo.z] at hK ⊢; go_simp; refine (kvNoneE).mono ?_; rintro ee wk ⟨rfl, B⟩; exact hK.out _ _ rfl B
      refine Jo.jm rfl ?_ ?_
      · rintro wj hJ _ rfl _ rfl K hK; simp only [Jo.z] at hK ⊢; go_simp
        repeat' split
        all_goals exact hK.out _ _ (congrArg Value.bool (by first | rfl | (exfalso; simp_all))) (br _ _)
      exact Jo.Steps.nil
    rintro w4 hJ _ rfl _ rfl _ rfl -; simp only [Jo.z]; replace X1 := X1.below hJ; replace XR := XR.below hJ; replace XS := XS.below hJ; replace hT := hT.below hJ; replace HB := Hqb HB hJ; refine Jo.jdone (by kernel_rfl) ?_; have xX1 := X1.cell
    go_wp2_with fail
    refine (kvMid hT hci.top.1 hci.top.2 hci.rk HMD.out).mono ?_; rintro ee w5 ⟨K2, s2, M2, E2, rfl, q2, B⟩; clear xX1; replace X1 := X1.below B; replace XR := XR.below B; replace XS := XS.below B; replace hT := hT.below B; replace HB := Hqb HB B; clear B; clear HMD hci
    go_upto_region 5 with (fail)
    have lX5 := Nat.le_refl (World.heap w5).size; have nX5X1 := X1.lt; have nX5XR := XR.lt; have nX5XS := XS.lt; generalize hWn : w5.alloc _ = w6 at *; obtain ⟨X5, BW⟩ := Bo.nw hWn; clear hWn; replace X1 := X1.below BW; replace XR := XR.below BW; replace XS := XS.below BW; replace hT := hT.below BW; replace HB := Hqb HB BW; clear BW; clear lX5; refine Jo.rk [0, 1, 2, 3, 4, 5, 6, 7] [some 14, some 15, some 16, some 17, some 18, some 19, some 20, some 21, none, none] [[], [0], [], [1, 2], [], [], [5], [4, 6], [], []] 10 2 [Jo.qp w.heap.size 1, Jo.q4 K1 s1 M1 E1, Jo.q4 K2 s2 M2 E2, Jo.Fact.iv y, Jo.q4 K2 s2 M2 E2, Jo.qp w.heap.size 5, Jo.q4 K1b s1b M1b E1b, Jo.Fact.iv z, Jo.Fact.any, Jo.Fact.any] (by kernel_rfl) (by kernel_rfl) (by decide) rfl ?_ ?_
    · iterate 3 (refine Jo.jm rfl ?_ ?_; rotate_left)
      refine Jo.jm rfl ?_ ?_
      · rintro wj hJ _ rfl _ rfl K hK; simp only [Jo.z] at hK ⊢; go_simp; refine (kvMake a1.top q2.top a1.rk q2.rk HY.out).mono ?_; rintro ee wk ⟨e3, K3, s3, M3, E3, K3b, s3b, M3b, E3b, rfl, v3, B⟩; exact hK.out _ _ ⟨e3, K3, s3, M3, E3, K3b, s3b, M3b, E3b, rfl, v3⟩ B
      iterate 3 (refine Jo.jm rfl ?_ ?_; rotate_left)
      refine Jo.jm rfl ?_ ?_
      · rintro wj hJ _ rfl _ rfl K hK; simp only [Jo.z] at hK ⊢; go_simp; refine (kvMake q2.top b1.top q2.rk b1.rk HZ.out).mono ?_; rintro ee wk ⟨e4, K4, s4, M4, E4, K4b, s4b, M4b, E4b, rfl, v4, B⟩; exact hK.out _ _ ⟨e4, K4, s4, M4, E4, K4b, s4b, M4b, E4b, rfl, v4⟩ B
      exact Jo.Steps.nil
      all_goals (rintro wj hJ; (repeat rintro _ rfl); intro K hK; simp only [Jo.z] at hK ⊢; have xX1 := (X1.below hJ).cell; have xX5 := (X5.below hJ).cell; go_simp; exact hK.out _ _ rfl (br _ _))
    rintro w8 hJ _ _ _ rfl _ rfl _ ⟨e3, K3, s3, M3, E3, K3b, s3b, M3b, E3b, rfl, v3⟩ _ rfl _ _ _ rfl _ ⟨e4, K4, s4, M4, E4, K4b, s4b, M4b, E4b, rfl, v4⟩ -; simp only [Jo.z]; replace X1 := X1.below hJ; replace XR := XR.below hJ; replace XS := XS.below hJ; replace X5 := X5.below hJ; replace hT := hT.below hJ; replace HB := Hqb HB hJ; have xXR := XR.cell
    have zXR0 := XR.frozen
    refine Jo.jnext (i := 8) (o := ⟨none, _, _, _, _, _⟩) (by kernel_rfl) rfl (fun K hK => ?_)
    go_simp; refine hK.out _ _ ?_; clear hK K xXR zXR0; generalize hS : ((((((((w8.setCell _ _).setCell _ _).setCell _ _).setCell _ _).setCell _ _).setCell _ _).setCell _ _).setCell _ _).setCell _ _ = w9 at *; have SX := StN.of9 XR hS; replace X1 := X1.stn SX (by omega); replace XS := XS.stn SX (by omega); replace X5 := X5.stn SX (by omega); replace hT := hT.stn SX (by simp [no8])
    replace HB := Hqs HB SX (by omega); replace XR := SX.box; clear SX hS; have xXS := XS.cell; have zXS0 := XS.frozen
    refine Jo.jnext (i := 9) (o := ⟨none, _, _, _, _, _⟩) (by kernel_rfl) rfl (fun K hK => ?_)
    go_simp; refine hK.out _ _ ?_; clear hK K xXS zXS0; generalize hS : ((((((((w9.setCell _ _).setCell _ _).setCell _ _).setCell _ _).setCell _ _).setCell _ _).setCell _ _).setCell _ _).setCell _ _ = wA at *; have SX := StN.of9 XS hS; replace X1 := X1.stn SX (by omega); replace XR := XR.stn SX (by omega); replace X5 := X5.stn SX (by omega); replace hT := hT.stn SX (by simp [no8])
    replace HB := Hqs HB SX (by omega); replace XS := SX.box; clear SX hS; refine Jo.jdone (by kernel_rfl) ?_; go_wp2; exact bodyPost_ret (v := .tuple #[.agg #[.bool e3, .int .i64 K3, .bool s3, .int .u64 M3, .int .i64 E3, .int .i64 K3b, .bool s3b, .int .u64 M3b, .int .i64 E3b], .agg #[.bool e4, .int .i64 K4, .bool s4, .int .u64 M4, .int .i64 E4, .int .i64 K4b, .bool s4b, .int .u64 M4b, .int .i64 E4b]]) (by simp [results, Tryd.results44, go_sem, XR.cell, XS.cell]) rfl ⟨_, _, _, _, _, _, _, _, _, _, _, _, _, _, _, _, _, _, rfl, v3, v4, HB.out⟩
end Go.Proofs.YtpnmphofengoeaaDoor

/-
  Contracts and words that the statement's proof rests on, several texts in one: Cm.
-/
import Derived.Test.YthhlccdmflgbbaaGreatDoorYBas
import Derived.Test.YthhlccdmflgbbaaGreatDoorYBau
import Derived.Test.YthhlccdmflgbbaaGreatDoorYBav
/-
  What iv's Mid, Width, Split and Inflate do.
-/
namespace Go.Proofs.YthhlccdmflgbbaaGreatDoor
open Go.RowKit
set_option linter.unusedVariables false
set_option linter.unusedSimpArgs false
set_option maxRecDepth 100000

theorem kvAllE {w : World} : Calls Tryz.prog 26 #[] w (fun e w' => e = .returned (.agg #[.bool false, .int .i64 2, .bool true, .int .u64 0, .int .i64 0, .int .i64 2, .bool false, .int .u64 0, .int .i64 0]) ∧ Below w.heap.size w w') := by
  refine kvAll.mono ?_; rintro ee w2 ⟨e1, K1, s1, M1, E1, K1b, s1b, M1b, E1b, rfl, v1, B⟩; obtain ⟨rfl, rfl, rfl, rfl, rfl, rfl, rfl, rfl, rfl⟩ := v1.uniq ci_all; exact ⟨rfl, B⟩
theorem cmp_ltE {x y c : Int} (h : cmpI x y = c) : decide (c < 0) = decide (x < y) := by
  rw [← h]
  by_cases e : x < y
  · rw [decide_eq_true e]
    exact decide_eq_true (by rcases cmpI_tri x y with ⟨a, b⟩ | ⟨a, b⟩ | ⟨a, b⟩ <;> rw [b] <;> omega)
  · rw [decide_eq_false e]
    exact decide_eq_false (by rcases cmpI_tri x y with ⟨a, b⟩ | ⟨a, b⟩ | ⟨a, b⟩ <;> rw [b] <;> omega)
theorem smA_two {a b : Int} (ha : -19342822337206103650074625 ≤ a ∧ a ≤ 19342822337206103650074625) : smA false [a, b] = addp false a b := by
  show addp false (addp false 0 a) b = _
  rw [addp_comm (x := 0) false, addp_zero false ha.1 ha.2]
set_option maxHeartbeats 8000000 in
theorem kvMid {w : World} {e : Bool} {D M E D' M' E' : Int} {s s' : Bool} {x : Sp} {r : Int} (hT : Tb w) (hM : M < 18446744073709551616) (hM' : M' < 18446744073709551616) (hx : rkI e D s M E D' s' M' E' = x) (hr : midI x = r) : Calls Tryz.prog 9 #[.agg #[.bool e, .int .i64 D, .bool s, .int .u64 M, .int .i64 E, .int .i64 D', .bool s', .int .u64 M', .int .i64 E']] w (PN w r) := by
  have HX := Lib.hid hx; clear hx
  go_enter Tryz.func9, Tryz.ntmps9
  go_upto_region 1 with (fail)
  generalize hW1 : (w.alloc _).alloc _ = w1 at *; obtain ⟨X1, XR, HB⟩ := Bo.en2 hW1; replace hT := hT.below HB.out; clear hW1; obtain ⟨xX10, xX11, xX12, xX13, xX14, xX15, xX16, xX17, xX18⟩ := X1.u9
  go_wp2_with fail
  refine (kvOrE hM hM' HX.out).mono ?_; rintro ee w2 ⟨e1, K1, s1, M1, E1, K1b, s1b, M1b, E1b, rfl, v1, B⟩; clear xX10 xX11 xX12 xX13 xX14 xX15 xX16 xX17 xX18; replace X1 := X1.below B; replace XR := XR.below B; replace hT := hT.below B; replace HB := Lib.hid (bt HB.out B); clear B; obtain ⟨xX10, xX11, xX12, xX13, xX14, xX15, xX16, xX17, xX18⟩ := X1.u9; have zX10 := X1.frozen
  go_upto_region 2 with (fail)
  clear xX10 zX10 xX11 xX12 xX13 xX14 xX15 xX16 xX17 xX18; generalize hS : ((((((((w2.setCell _ _).setCell _ _).setCell _ _).setCell _ _).setCell _ _).setCell _ _).setCell _ _).setCell _ _).setCell _ _ = w3 at *; have SX := StN.of9 X1 hS; replace XR := XR.stn SX (by omega); replace hT := hT.stn SX (by simp [no8]); replace HB := Lib.hid (SX.below HB.out (by omega)); replace X1 := SX.box; clear SX hS
  clear HX hM hM'
  rcases x with _ | ⟨xa, xb⟩
  · obtain ⟨rfl, y1, y1b⟩ := v1
    obtain rfl : 0 = r := hr
    obtain ⟨_, rfl, rfl, rfl, rfl, rfl, rfl, rfl, rfl⟩ := (show Ci true K1 s1 M1 E1 K1b s1b M1b E1b none from ⟨rfl, y1, y1b⟩).uniq Ci.none
    clear y1 y1b; refine Jo.rj [0, 1, 2, 3, 4, 5, 6, 7, 8] [some 7, some 8, some 9, some 10, some 11, some 12, some 13, some 14, some 6] [[], [], [0, 1], [2], [3], [3], [3, 4, 5], [3, 6], [7]] 9 [(some 7, 0), (some 8, 1), (some 9, 2), (some 10, 3), (some 11, 4), (some 12, 5), (some 13, 6), (some 14, 7), (some 6, 8)] 0 [Jo.q9 true 0 false 0 0 0 false 0 0, Jo.q9 true 0 false 0 0 0 false 0 0, Jo.qb true, Jo.qb true, Jo.qu, Jo.qu, Jo.qu, Jo.qb true, Jo.qb true] (by kernel_rfl) (by kernel_rfl) (by decide) rfl rfl ?_ ?_
    · refine Jo.jn 0 (some 7) [] _ rfl rfl rfl rfl ?_ ?_
      · rintro wj hJ K hK; simp only [Jo.z] at hK ⊢; obtain ⟨xX10, xX11, xX12, xX13, xX14, xX15, xX16, xX17, xX18⟩ := (X1.below hJ).u9; go_simp; exact hK.out _ _ rfl (br _ _)
      refine Jo.jn 1 (some 8) [] _ rfl rfl rfl rfl ?_ ?_
      · rintro wj hJ K hK; simp only [Jo.z] at hK ⊢; go_simp; refine (kvNoneE).mono ?_; rintro ee wk ⟨rfl, B⟩; exact hK.out _ _ rfl B
      refine Jo.jn 2 (some 9) [(some 7, 0), (some 8, 1)] _ rfl rfl rfl rfl ?_ ?_
      · rintro wj hJ _ rfl _ rfl K hK; simp only [Jo.z] at hK ⊢; go_simp
        repeat' split
        all_goals exact hK.out _ _ (congrArg Value.bool (by first | rfl | (exfalso; simp_all) | simp_all)) (br _ _)
      refine Jo.jn 3 (some 10) [(some 9, 2)] _ rfl rfl rfl rfl ?_ ?_
      · rintro wj hJ _ rfl K hK; simp only [Jo.z] at hK ⊢; go_simp; exact hK.out _ _ rfl (br _ _)
      refine Jo.jn 4 (some 11) [(some 10, 3)] _ rfl rfl rfl rfl ?_ ?_
      · rintro wj hJ _ rfl K hK; simp only [Jo.z] at hK ⊢; go_simp; exact hK.out _ _ rfl (br _ _)
      refine Jo.jn 5 (some 12) [(some 10, 3)] _ rfl rfl rfl rfl ?_ ?_
      · rintro wj hJ _ rfl K hK; simp only [Jo.z] at hK ⊢; go_simp; exact hK.out _ _ rfl (br _ _)
      refine Jo.jn 6 (some 13) [(some 10, 3), (some 11, 4), (some 12, 5)] _ rfl rfl rfl rfl ?_ ?_
      · rintro wj hJ _ rfl _ rfl _ rfl K hK; simp only [Jo.z] at hK ⊢; go_simp; exact hK.out _ _ rfl (br _ _)
      refine Jo.jn 7 (some 14) [(some 10, 3), (some 13, 6)] _ rfl rfl rfl rfl ?_ ?_
      · rintro wj hJ _ rfl _ rfl K hK; simp only [Jo.z] at hK ⊢; go_simp; exact hK.out _ _ rfl (br _ _)
      refine Jo.jn 8 (some 6) [(some 14, 7)] _ rfl rfl rfl rfl ?_ ?_
      · rintro wj hJ _ rfl K hK; simp only [Jo.z] at hK ⊢; go_simp; exact hK.out _ _ rfl (br _ _)
      exact Jo.Steps.nil
    rintro w4 hJ _ rfl _ rfl _ rfl _ rfl _ rfl _ rfl _ rfl _ rfl _ rfl -; simp only [Jo.z]; replace X1 := X1.below hJ; replace XR := XR.below hJ; replace hT := hT.below hJ; replace HB := Lib.hid (bt HB.out hJ); refine Jo.jdone (by kernel_rfl) ?_; obtain ⟨xXR0, xXR1, xXR2, xXR3⟩ := XR.u4; have zXR0 := XR.frozen; go_wp2; clear xXR0 zXR0 xXR1 xXR2 xXR3; have SX := StN.mk4 XR (.int .i64 0) (.bool false) (.int .u64 0) (.int .i64 0)
    exact bodyPost_ret (by simp [results, Tryz.results9, go_sem, SX.box.cell]) rfl ⟨_, _, _, _, rfl, Fq.nought, (SX.below HB.out (by omega))⟩
  · obtain ⟨rfl, a1, b1, o1, o1l, o1h⟩ := v1; rw [mid_some] at hr
    by_cases hall : xa = -19342822337206103650074625 ∧ xb = 19342822337206103650074625
    · obtain ⟨rfl, rfl⟩ := hall; rw [if_pos ⟨rfl, rfl⟩] at hr
      obtain rfl : 0 = r := hr
      obtain ⟨rfl, rfl, rfl, rfl⟩ := a1.uniq (show Fq 2 true 0 0 (-19342822337206103650074625) from fq_inf2 true)
      obtain ⟨rfl, rfl, rfl, rfl⟩ := b1.uniq (show Fq 2 false 0 0 19342822337206103650074625 from fq_inf2 false)
      refine Jo.rj [0, 1, 2, 3, 4, 5, 6, 7, 8] [some 7, some 8, some 9, some 10, some 11, some 12, some 13, some 14, some 6] [[], [], [0, 1], [2], [3], [3], [3, 4, 5], [3, 6], [7]] 9 [(some 7, 0), (some 8, 1), (some 9, 2), (some 10, 3), (some 11, 4), (some 12, 5), (some 13, 6), (some 14, 7), (some 6, 8)] 0 [Jo.q9 false 2 true 0 0 2 false 0 0, Jo.q9 true 0 false 0 0 0 false 0 0, Jo.qb false, Jo.qb false, Jo.q9 false 2 true 0 0 2 false 0 0, Jo.q9 false 2 true 0 0 2 false 0 0, Jo.qb true, Jo.qb true, Jo.qb true] (by kernel_rfl) (by kernel_rfl) (by decide) rfl rfl ?_ ?_
      · refine Jo.jn 0 (some 7) [] _ rfl rfl rfl rfl ?_ ?_
        · rintro wj hJ K hK; simp only [Jo.z] at hK ⊢; obtain ⟨xX10, xX11, xX12, xX13, xX14, xX15, xX16, xX17, xX18⟩ := (X1.below hJ).u9; go_simp; exact hK.out _ _ rfl (br _ _)
        refine Jo.jn 1 (some 8) [] _ rfl rfl rfl rfl ?_ ?_
        · rintro wj hJ K hK; simp only [Jo.z] at hK ⊢; go_simp; refine (kvNoneE).mono ?_; rintro ee wk ⟨rfl, B⟩; exact hK.out _ _ rfl B
        refine Jo.jn 2 (some 9) [(some 7, 0), (some 8, 1)] _ rfl rfl rfl rfl ?_ ?_
        · rintro wj hJ _ rfl _ rfl K hK; simp only [Jo.z] at hK ⊢; go_simp
          repeat' split
          all_goals exact hK.out _ _ (congrArg Value.bool (by first | rfl | (exfalso; simp_all))) (br _ _)
        refine Jo.jn 3 (some 10) [(some 9, 2)] _ rfl rfl rfl rfl ?_ ?_
        · rintro wj hJ _ rfl K hK; simp only [Jo.z] at hK ⊢; go_simp; exact hK.out _ _ rfl (br _ _)
        refine Jo.jn 4 (some 11) [(some 10, 3)] _ rfl rfl rfl rfl ?_ ?_
        · rintro wj hJ _ rfl K hK; simp only [Jo.z] at hK ⊢; obtain ⟨xX10, xX11, xX12, xX13, xX14, xX15, xX16, xX17, xX18⟩ := (X1.below hJ).u9; go_simp; exact hK.out _ _ rfl (br _ _)
        refine Jo.jn 5 (some 12) [(some 10, 3)] _ rfl rfl rfl rfl ?_ ?_
        · rintro wj hJ _ rfl K hK; simp only [Jo.z] at hK ⊢; go_simp; refine (kvAllE).mono ?_; rintro ee wk ⟨rfl, B⟩; exact hK.out _ _ rfl B
        refine Jo.jn 6 (some 13) [(some 10, 3), (some 11, 4), (some 12, 5)] _ rfl rfl rfl rfl ?_ ?_
        · rintro wj hJ _ rfl _ rfl _ rfl K hK; simp only [Jo.z] at hK ⊢; go_simp
          repeat' split
          all_goals exact hK.out _ _ (congrArg Value.bool (by first | rfl | (exfalso; simp_all) | simp_all)) (br _ _)
        refine Jo.jn 7 (some 14) [(some 10, 3), (some 13, 6)] _ rfl rfl rfl rfl ?_ ?_
        · rintro wj hJ _ rfl _ rfl K hK; simp only [Jo.z] at hK ⊢; go_simp; exact hK.out _ _ rfl (br _ _)
        refine Jo.jn 8 (some 6) [(some 14, 7)] _ rfl rfl rfl rfl ?_ ?_
        · rintro wj hJ _ rfl K hK; simp only [Jo.z] at hK ⊢; go_simp; exact hK.out _ _ rfl (br _ _)
        exact Jo.Steps.nil
      rintro w4 hJ _ rfl _ rfl _ rfl _ rfl _ rfl _ rfl _ rfl _ rfl _ rfl -; simp only [Jo.z]; replace X1 := X1.below hJ; replace XR := XR.below hJ; replace hT := hT.below hJ; replace HB := Lib.hid (bt HB.out hJ); refine Jo.jdone (by kernel_rfl) ?_; obtain ⟨xXR0, xXR1, xXR2, xXR3⟩ := XR.u4; have zXR0 := XR.frozen; go_wp2; clear xXR0 zXR0 xXR1 xXR2 xXR3; have SX := StN.mk4 XR (.int .i64 0) (.bool false) (.int .u64 0) (.int .i64 0)
      exact bodyPost_ret (by simp [results, Tryz.results9, go_sem, SX.box.cell]) rfl ⟨_, _, _, _, rfl, Fq.nought, (SX.below HB.out (by omega))⟩
    · rw [if_neg hall] at hr
      have hne : ¬ (K1 = 2 ∧ s1 = true ∧ M1 = 0 ∧ E1 = 0 ∧ K1b = 2 ∧ s1b = false ∧ M1b = 0 ∧ E1b = 0) := by
        rintro ⟨rfl, rfl, rfl, rfl, rfl, rfl, rfl, rfl⟩; exact hall ⟨by rw [← a1.rk]; exact (fq_inf2 true).rk, by rw [← b1.rk]; exact (fq_inf2 false).rk⟩
      have HNE := Lib.hid hne; have i1 := fq_inf a1; have i2 := fq_inf b1; have htp := TP_eq
      have j1 : xa = -19342822337206103650074625 ↔ infp xa = true := by
        constructor
        · rintro rfl
          rfl
        · intro c
          rcases infp_true c with e | e <;> omega
      have j2 : xb = 19342822337206103650074625 ↔ infp xb = true := by
        constructor
        · rintro rfl
          rfl
        · intro c
          rcases infp_true c with e | e <;> omega
      rw [i1] at j1; rw [i2] at j2; clear hne hall htp i1 i2
      refine Jo.region_joint (T := [0, 1, 2, 3, 4, 5, 6, 7, 8]) (ds := [some 7, some 8, some 9, some 10, some 11, some 12, some 13, some 14, some 6]) (ls := [[], [], [0, 1], [2], [3], [3], [3, 4, 5], [3, 6], [7]]) (k := 9) (L := [(some 7, 0), (some 8, 1), (some 9, 2), (some 10, 3), (some 11, 4), (some 12, 5), (some 13, 6), (some 14, 7), (some 6, 8)]) (fuel := 0) (J := fun wj => Below (World.heap w3).size w3 wj)
        (F := [Jo.q9 false K1 s1 M1 E1 K1b s1b M1b E1b, Jo.q9 true 0 false 0 0 0 false 0 0, Jo.qb false, Jo.qb false, Jo.q9 false K1 s1 M1 E1 K1b s1b M1b E1b, Jo.q9 false 2 true 0 0 2 false 0 0, Jo.qb false, Jo.qb false, Jo.qb false])
        (by kernel_rfl) (by kernel_rfl) (by decide) rfl rfl (fun _ _ h b => bt h b) ((br _ _).drew) ?_ (fun vs w4 hJ hd => ?_)
      · refine Jo.jn 0 (some 7) [] _ rfl rfl rfl rfl ?_ ?_
        · rintro wj hJ K hK; simp only [Jo.z] at hK ⊢; obtain ⟨xX10, xX11, xX12, xX13, xX14, xX15, xX16, xX17, xX18⟩ := (X1.below hJ).u9; go_simp; exact hK.out _ _ rfl (br _ _)
        refine Jo.jn 1 (some 8) [] _ rfl rfl rfl rfl ?_ ?_
        · rintro wj hJ K hK; simp only [Jo.z] at hK ⊢; go_simp; refine (kvNoneE).mono ?_; rintro ee wk ⟨rfl, B⟩; exact hK.out _ _ rfl B
        refine Jo.jn 2 (some 9) [(some 7, 0), (some 8, 1)] _ rfl rfl rfl rfl ?_ ?_
        · rintro wj hJ _ rfl _ rfl K hK; simp only [Jo.z] at hK ⊢; go_simp
          repeat' split
          all_goals exact hK.out _ _ (congrArg Value.bool (by first | rfl | (exfalso; simp_all))) (br _ _)
        refine Jo.jn 3 (some 10) [(some 9, 2)] _ rfl rfl rfl rfl ?_ ?_
        · rintro wj hJ _ rfl K hK; simp only [Jo.z] at hK ⊢; go_simp; exact hK.out _ _ rfl (br _ _)
        refine Jo.jn 4 (some 11) [(some 10, 3)] _ rfl rfl rfl rfl ?_ ?_
        · rintro wj hJ _ rfl K hK; simp only [Jo.z] at hK ⊢; obtain ⟨xX10, xX11, xX12, xX13, xX14, xX15, xX16, xX17, xX18⟩ := (X1.below hJ).u9; go_simp; exact hK.out _ _ rfl (br _ _)
        refine Jo.jn 5 (some 12) [(some 10, 3)] _ rfl rfl rfl rfl ?_ ?_
        · rintro wj hJ _ rfl K hK; simp only [Jo.z] at hK ⊢; go_simp; refine (kvAllE).mono ?_; rintro ee wk ⟨rfl, B⟩; exact hK.out _ _ rfl B
        refine Jo.jn 6 (some 13) [(some 10, 3), (some 11, 4), (some 12, 5)] _ rfl rfl rfl rfl ?_ ?_
        · rintro wj hJ _ rfl _ rfl _ rfl K hK; simp only [Jo.z] at hK ⊢; have hne := HNE.out; go_simp
          repeat' split
          all_goals exact hK.out _ _ (congrArg Value.bool (by first | rfl | (exfalso; simp_all))) (br _ _)
        refine Jo.jn 7 (some 14) [(some 10, 3), (some 13, 6)] _ rfl rfl rfl rfl ?_ ?_
        · rintro wj hJ _ rfl _ rfl K hK; simp only [Jo.z] at hK ⊢; go_simp; exact hK.out _ _ rfl (br _ _)
        refine Jo.jn 8 (some 6) [(some 14, 7)] _ rfl rfl rfl rfl ?_ ?_
        · rintro wj hJ _ rfl K hK; simp only [Jo.z] at hK ⊢; go_simp; exact hK.out _ _ rfl (br _ _)
        exact Jo.Steps.nil
      simp only [Jo.putl, Jo.zd, Jo.ze, Act.put, Jo.za, Jo.zb, Jo.zc]
      rw [show vs 0 = _ from hd 0 (by decide), show vs 1 = _ from hd 1 (by decide), show vs 2 = _ from hd 2 (by decide), show vs 3 = _ from hd 3 (by decide), show vs 4 = _ from hd 4 (by decide), show vs 5 = _ from hd 5 (by decide), show vs 6 = _ from hd 6 (by decide), show vs 7 = _ from hd 7 (by decide), show vs 8 = _ from hd 8 (by decide)]
      clear hd; replace X1 := X1.below hJ; replace XR := XR.below hJ; replace hT := hT.below hJ; replace HB := Lib.hid (bt HB.out hJ); refine Jo.jdone (by kernel_rfl) ?_; clear HNE
      by_cases k1 : K1 = 2
      · subst k1; rw [if_pos (j1.2 rfl)] at hr
        obtain rfl : xb = r := hr
        clear j1 j2 o1 o1l o1h; obtain ⟨xXR0, xXR1, xXR2, xXR3⟩ := XR.u4; have zXR0 := XR.frozen; obtain ⟨xX10, xX11, xX12, xX13, xX14, xX15, xX16, xX17, xX18⟩ := X1.u9; go_wp2; clear xXR0 zXR0 xXR1 xXR2 xXR3 xX10 xX11 xX12 xX13 xX14 xX15 xX16 xX17 xX18; have SX := StN.mk4 XR (.int .i64 K1b) (.bool s1b) (.int .u64 M1b) (.int .i64 E1b); exact bodyPost_ret (by simp [results, Tryz.results9, go_sem, SX.box.cell]) rfl ⟨_, _, _, _, rfl, b1, (SX.below HB.out (by omega))⟩
      · have e1 : (K1 == 2) = false := by simpa using k1
        rw [if_neg (fun c => by have := j1.1 c; rw [e1] at this; cases this)] at hr
        clear j1
        by_cases k2 : K1b = 2
        · subst k2; rw [if_pos (j2.2 rfl)] at hr
          obtain rfl : xa = r := hr
          clear j2 o1 o1l o1h; obtain ⟨xXR0, xXR1, xXR2, xXR3⟩ := XR.u4; have zXR0 := XR.frozen; obtain ⟨xX10, xX11, xX12, xX13, xX14, xX15, xX16, xX17, xX18⟩ := X1.u9; go_wp2; clear xXR0 zXR0 xXR1 xXR2 xXR3 xX10 xX11 xX12 xX13 xX14 xX15 xX16 xX17 xX18; have SX := StN.mk4 XR (.int .i64 K1) (.bool s1) (.int .u64 M1) (.int .i64 E1); exact bodyPost_ret (by simp [results, Tryz.results9, go_sem, SX.box.cell]) rfl ⟨_, _, _, _, rfl, a1, (SX.below HB.out (by omega))⟩
        · have e2 : (K1b == 2) = false := by simpa using k2
          rw [if_neg (fun c => by have := j2.1 c; rw [e2] at this; cases this)] at hr
          clear j2; have bda := a1.bd; have bdb := b1.bd; obtain ⟨u, hu⟩ : ∃ u, addp false xa xb = u := ⟨_, rfl⟩; rw [hu] at hr; obtain ⟨m, hm⟩ : ∃ m, mulp false u hlf = m := ⟨_, rfl⟩; rw [hm] at hr
          have hu2 : smA false [xa, xb] = u := (smA_two bda).trans hu
          obtain ⟨q, hq⟩ : ∃ q, max m xa = q := ⟨_, rfl⟩
          have hr2 : min q xb = r := by rw [← hq, clp_min o1]; exact hr
          have HU := Lib.hid hu2; have HMM := Lib.hid hm; have HQ0 := Lib.hid hq; have HR0 := Lib.hid hr2; have HO := Lib.hid o1; clear hu hm hu2 hq hr2 hr o1 o1l o1h; obtain ⟨xX10, xX11, xX12, xX13, xX14, xX15, xX16, xX17, xX18⟩ := X1.u9
          go_wp2_with fail
          refine (aSum (hT.below (bel1 _ (.cells #[.int .i64 K1, .bool s1, .int .u64 M1, .int .i64 E1, .int .i64 K1b, .bool s1b, .int .u64 M1b, .int .i64 E1b] 24))) (Nl.lit2 rfl a1.top b1.top a1.rk b1.rk) HU.out).mono ?_; rintro ee w5 ⟨K5, s5, M5, E5, rfl, q5, B⟩; replace B := bt (bel1 _ (.cells #[.int .i64 K1, .bool s1, .int .u64 M1, .int .i64 E1, .int .i64 K1b, .bool s1b, .int .u64 M1b, .int .i64 E1b] 24)) B
          clear xX10 xX11 xX12 xX13 xX14 xX15 xX16 xX17 xX18; replace X1 := X1.below B; replace XR := XR.below B; replace hT := hT.below B; replace HB := Lib.hid (bt HB.out B); clear B
          go_wp2_with fail
          refine (aHalf q5.top q5.rk HMM.out).mono ?_; rintro ee w6 ⟨K3, s3, M3, E3, rfl, q3, B⟩; replace X1 := X1.below B; replace XR := XR.below B; replace hT := hT.below B; replace HB := Lib.hid (bt HB.out B); clear B; clear HU HMM q5
          go_upto_region 9 with (fail)
          have lX3 := Nat.le_refl (World.heap w6).size; have nX3X1 := X1.lt; have nX3XR := XR.lt; generalize hWn : w6.alloc _ = w7 at *; obtain ⟨X3, BW⟩ := Bo.nw hWn; clear hWn; replace X1 := X1.below BW; replace XR := XR.below BW; replace hT := hT.below BW; replace HB := Lib.hid (bt HB.out BW); clear BW; clear lX3
          have hq2 : mxp [m, xa] = q := (mxp_two q3.bd.1).trans HQ0.out
          have hqx : q ≤ 19342822337206103650074625 := by have := HQ0.out; have := q3.bd; omega
          have hr3 : mnp [q, xb] = r := (mnp_two hqx).trans HR0.out
          have HQ := Lib.hid hq2; have HR := Lib.hid hr3; clear hq2 hr3 HQ0 HR0 hqx bda bdb HO; refine Jo.rj [0, 1, 2, 3, 4, 5, 6, 7, 8] [some 37, some 38, some 39, some 40, some 41, some 42, some 43, some 44, some 45, none] [[], [], [1], [0, 2], [3], [], [5], [4, 6], [7], []] 10 [(some 37, 0), (some 38, 1), (some 39, 2), (some 40, 3), (some 41, 4), (some 42, 5), (some 43, 6), (some 44, 7), (some 45, 8)] 1 [Jo.q4 K3 s3 M3 E3, Jo.qp w.heap.size 1, Jo.q4 K1 s1 M1 E1, Jo.Fact.nl 2 [m, xa], Jo.Fact.num q, Jo.qp w.heap.size 5, Jo.q4 K1b s1b M1b E1b, Jo.Fact.nl 2 [q, xb], Jo.Fact.num r, Jo.Fact.any] (by kernel_rfl) (by kernel_rfl) (by decide) rfl rfl ?_ ?_
          · refine Jo.jn 0 (some 37) [] _ rfl rfl rfl rfl ?_ ?_
            · rintro wj hJ K hK; simp only [Jo.z] at hK ⊢; obtain ⟨xX30, xX31, xX32, xX33⟩ := (X3.below hJ).u4; go_simp; exact hK.out _ _ rfl (br _ _)
            refine Jo.jn 1 (some 38) [] _ rfl rfl rfl rfl ?_ ?_
            · rintro wj hJ K hK; simp only [Jo.z] at hK ⊢; go_simp; exact hK.out _ _ rfl (br _ _)
            refine Jo.jn 2 (some 39) [(some 38, 1)] _ rfl rfl rfl rfl ?_ ?_
            · rintro wj hJ _ rfl K hK; simp only [Jo.z] at hK ⊢; obtain ⟨xX11, xX12, xX13, xX14⟩ := (X1.below hJ).w9; go_simp; exact hK.out _ _ rfl (br _ _)
            refine Jo.jn 3 (some 40) [(some 37, 0), (some 39, 2)] _ rfl rfl rfl rfl ?_ ?_
            · rintro wj hJ _ rfl _ rfl K hK; simp only [Jo.z] at hK ⊢; go_simp; exact hK.out _ _ ⟨_, 2, rfl, (Nl.lit2 rfl q3.top a1.top q3.rk a1.rk)⟩ (bel1 _ _)
            refine Jo.jn 4 (some 41) [(some 40, 3)] _ rfl rfl rfl rfl ?_ ?_
            · rintro wj hJ _ ⟨A4, c4, rfl, h4⟩ K hK; simp only [Jo.z] at hK ⊢; go_simp; refine (nMost h4 HQ.out).mono ?_; rintro ee wk ⟨K6, s6, M6, E6, rfl, q6, B⟩; exact hK.out _ _ ⟨K6, s6, M6, E6, rfl, q6⟩ B
            refine Jo.jn 5 (some 42) [] _ rfl rfl rfl rfl ?_ ?_
            · rintro wj hJ K hK; simp only [Jo.z] at hK ⊢; go_simp; exact hK.out _ _ rfl (br _ _)
            refine Jo.jn 6 (some 43) [(some 42, 5)] _ rfl rfl rfl rfl ?_ ?_
            · rintro wj hJ _ rfl K hK; simp only [Jo.z] at hK ⊢; obtain ⟨xX15, xX16, xX17, xX18⟩ := (X1.below hJ).v9; go_simp; exact hK.out _ _ rfl (br _ _)
            refine Jo.jn 7 (some 44) [(some 41, 4), (some 43, 6)] _ rfl rfl rfl rfl ?_ ?_
            · rintro wj hJ _ ⟨K6, s6, M6, E6, rfl, q6⟩ _ rfl K hK; simp only [Jo.z] at hK ⊢; go_simp; exact hK.out _ _ ⟨_, 2, rfl, (Nl.lit2 rfl q6.top b1.top q6.rk b1.rk)⟩ (bel1 _ _)
            refine Jo.jn 8 (some 45) [(some 44, 7)] _ rfl rfl rfl rfl ?_ ?_
            · rintro wj hJ _ ⟨A5, c5, rfl, h5⟩ K hK; simp only [Jo.z] at hK ⊢; go_simp; refine (nLeast h5 HR.out).mono ?_; rintro ee wk ⟨K7, s7, M7, E7, rfl, q7, B⟩; exact hK.out _ _ ⟨K7, s7, M7, E7, rfl, q7⟩ B
            exact Jo.Steps.nil
          rintro w8 hJ _ rfl _ _ _ rfl _ ⟨A4, c4, rfl, _⟩ _ ⟨K6, s6, M6, E6, rfl, q6⟩ _ _ _ rfl _ ⟨A5, c5, rfl, _⟩ _ ⟨K7, s7, M7, E7, rfl, q7⟩ -; simp only [Jo.z]; replace X1 := X1.below hJ; replace XR := XR.below hJ; replace X3 := X3.below hJ; replace hT := hT.below hJ; replace HB := Lib.hid (bt HB.out hJ); obtain ⟨xXR0, xXR1, xXR2, xXR3⟩ := XR.u4; have zXR0 := XR.frozen
          refine Jo.jnext (i := 9) (o := ⟨none, _, _, _, _, _⟩) (by kernel_rfl) rfl (fun K hK => ?_)
          go_simp; refine hK.out _ _ ?_; clear hK K xXR0 zXR0 xXR1 xXR2 xXR3; have SX := StN.mk4 XR (.int .i64 K7) (.bool s7) (.int .u64 M7) (.int .i64 E7); refine Jo.jdone (by kernel_rfl) ?_; go_wp2; exact bodyPost_ret (by simp [results, Tryz.results9, go_sem, SX.box.cell]) rfl ⟨_, _, _, _, rfl, q7, (SX.below HB.out (by omega))⟩
set_option maxHeartbeats 2000000 in
theorem kvWidth {w : World} {e : Bool} {D M E D' M' E' : Int} {s s' : Bool} {x : Sp} {r : Int} (hT : Tb w) (hM : M < 18446744073709551616) (hM' : M' < 18446744073709551616) (hx : rkI e D s M E D' s' M' E' = x) (hr : widI x = r) : Calls Tryz.prog 11 #[.agg #[.bool e, .int .i64 D, .bool s, .int .u64 M, .int .i64 E, .int .i64 D', .bool s', .int .u64 M', .int .i64 E']] w (PN w r) := by
  have HX := Lib.hid hx; clear hx
  go_enter Tryz.func11, Tryz.ntmps11
  go_upto_region 1 with (fail)
  generalize hW1 : (w.alloc _).alloc _ = w1 at *; obtain ⟨X1, XR, HB⟩ := Bo.en2 hW1; replace hT := hT.below HB.out; clear hW1; obtain ⟨xX10, xX11, xX12, xX13, xX14, xX15, xX16, xX17, xX18⟩ := X1.u9
  go_wp2_with fail
  refine (kvOrE hM hM' HX.out).mono ?_; rintro ee w2 ⟨e1, K1, s1, M1, E1, K1b, s1b, M1b, E1b, rfl, v1, B⟩; clear xX10 xX11 xX12 xX13 xX14 xX15 xX16 xX17 xX18; replace X1 := X1.below B; replace XR := XR.below B; replace hT := hT.below B; replace HB := Lib.hid (bt HB.out B); clear B; obtain ⟨xX10, xX11, xX12, xX13, xX14, xX15, xX16, xX17, xX18⟩ := X1.u9; have zX10 := X1.frozen
  go_upto_region 2 with (fail)
  clear xX10 zX10 xX11 xX12 xX13 xX14 xX15 xX16 xX17 xX18; generalize hS : ((((((((w2.setCell _ _).setCell _ _).setCell _ _).setCell _ _).setCell _ _).setCell _ _).setCell _ _).setCell _ _).setCell _ _ = w3 at *; have SX := StN.of9 X1 hS; replace XR := XR.stn SX (by omega); replace hT := hT.stn SX (by simp [no8]); replace HB := Lib.hid (SX.below HB.out (by omega)); replace X1 := SX.box; clear SX hS
  clear HX hM hM'
  rcases x with _ | ⟨xa, xb⟩
  · obtain ⟨rfl, y1, y1b⟩ := v1
    obtain rfl : 0 = r := hr
    obtain ⟨xX10, xX11, xX12, xX13, xX14, xX15, xX16, xX17, xX18⟩ := X1.u9
    go_wp2_with fail
    refine (aSub hT y1b.top y1.top y1b.rk (y := 0) (by rw [y1.rk]; rfl) (r := 0) (addp_zero true (by omega) (by omega))).mono ?_; rintro ee w4 ⟨K2, s2, M2, E2, rfl, q2, B⟩; clear xX10 xX11 xX12 xX13 xX14 xX15 xX16 xX17 xX18; replace X1 := X1.below B; replace XR := XR.below B; replace hT := hT.below B; replace HB := Lib.hid (bt HB.out B); clear B; obtain ⟨xXR0, xXR1, xXR2, xXR3⟩ := XR.u4; have zXR0 := XR.frozen
    go_wp2; clear xXR0 zXR0 xXR1 xXR2 xXR3; have SX := StN.mk4 XR (.int .i64 K2) (.bool s2) (.int .u64 M2) (.int .i64 E2); exact bodyPost_ret (by simp [results, Tryz.results11, go_sem, SX.box.cell]) rfl ⟨_, _, _, _, rfl, q2, (SX.below HB.out (by omega))⟩
  · obtain ⟨rfl, a1, b1, o1, o1l, o1h⟩ := v1
    have HR := Lib.hid (show addp true xb (-xa) = r from hr)
    clear hr o1 o1l o1h; obtain ⟨xX10, xX11, xX12, xX13, xX14, xX15, xX16, xX17, xX18⟩ := X1.u9
    go_wp2_with fail
    refine (aSub hT b1.top a1.top b1.rk (by rw [a1.rk]) HR.out).mono ?_; rintro ee w4 ⟨K2, s2, M2, E2, rfl, q2, B⟩; clear xX10 xX11 xX12 xX13 xX14 xX15 xX16 xX17 xX18; replace X1 := X1.below B; replace XR := XR.below B; replace hT := hT.below B; replace HB := Lib.hid (bt HB.out B); clear B; obtain ⟨xXR0, xXR1, xXR2, xXR3⟩ := XR.u4; have zXR0 := XR.frozen; go_wp2; clear xXR0 zXR0 xXR1 xXR2 xXR3; have SX := StN.mk4 XR (.int .i64 K2) (.bool s2) (.int .u64 M2) (.int .i64 E2)
    exact bodyPost_ret (by simp [results, Tryz.results11, go_sem, SX.box.cell]) rfl ⟨_, _, _, _, rfl, q2, (SX.below HB.out (by omega))⟩
set_option maxHeartbeats 4000000 in
theorem kvSplit {w : World} {e : Bool} {D M E D' M' E' : Int} {s s' : Bool} {x y z : Sp} (hT : Tb w) (hM : M < 18446744073709551616) (hM' : M' < 18446744073709551616) (hx : rkI e D s M E D' s' M' E' = x) (hy : loI x = y) (hz : hiI x = z) : Calls Tryz.prog 7 #[.agg #[.bool e, .int .i64 D, .bool s, .int .u64 M, .int .i64 E, .int .i64 D', .bool s', .int .u64 M', .int .i64 E']] w (PV2 w y z) := by
  have HX := Lib.hid hx; clear hx
  go_enter Tryz.func7, Tryz.ntmps7
  go_upto_region 1 with (fail)
  generalize hW1 : ((w.alloc _).alloc _).alloc _ = w1 at *; obtain ⟨X1, XR, XS, HB⟩ := Bo.en3 hW1; replace hT := hT.below HB.out; clear hW1; obtain ⟨xX10, xX11, xX12, xX13, xX14, xX15, xX16, xX17, xX18⟩ := X1.u9
  go_wp2_with fail
  refine (kvOrE hM hM' HX.out).mono ?_; rintro ee w2 ⟨e1, K1, s1, M1, E1, K1b, s1b, M1b, E1b, rfl, v1, B⟩; clear xX10 xX11 xX12 xX13 xX14 xX15 xX16 xX17 xX18; replace X1 := X1.below B; replace XR := XR.below B; replace XS := XS.below B; replace hT := hT.below B; replace HB := Lib.hid (bt HB.out B); clear B; obtain ⟨xX10, xX11, xX12, xX13, xX14, xX15, xX16, xX17, xX18⟩ := X1.u9; have zX10 := X1.frozen
  go_upto_region 2 with (fail)
  clear xX10 zX10 xX11 xX12 xX13 xX14 xX15 xX16 xX17 xX18; generalize hS : ((((((((w2.setCell _ _).setCell _ _).setCell _ _).setCell _ _).setCell _ _).setCell _ _).setCell _ _).setCell _ _).setCell _ _ = w3 at *; have SX := StN.of9 X1 hS; replace XR := XR.stn SX (by omega); replace XS := XS.stn SX (by omega); replace hT := hT.stn SX (by simp [no8]); replace HB := Lib.hid (SX.below HB.out (by omega))
  replace X1 := SX.box; clear SX hS; clear HX hM hM'
  rcases x with _ | ⟨xa, xb⟩
  · obtain ⟨rfl, y1, y1b⟩ := v1
    obtain rfl : none = y := hy
    obtain rfl : none = z := hz
    obtain ⟨_, rfl, rfl, rfl, rfl, rfl, rfl, rfl, rfl⟩ := (show Ci true K1 s1 M1 E1 K1b s1b M1b E1b none from ⟨rfl, y1, y1b⟩).uniq Ci.none
    clear y1 y1b; refine Jo.rj [0, 1, 2] [some 7, some 8, some 9] [[], [], [0, 1]] 3 [(some 7, 0), (some 8, 1), (some 9, 2)] 0 [Jo.q9 true 0 false 0 0 0 false 0 0, Jo.q9 true 0 false 0 0 0 false 0 0, Jo.qb true] (by kernel_rfl) (by kernel_rfl) (by decide) rfl rfl ?_ ?_
    · refine Jo.jn 0 (some 7) [] _ rfl rfl rfl rfl ?_ ?_
      · rintro wj hJ K hK; simp only [Jo.z] at hK ⊢; obtain ⟨xX10, xX11, xX12, xX13, xX14, xX15, xX16, xX17, xX18⟩ := (X1.below hJ).u9; go_simp; exact hK.out _ _ rfl (br _ _)
      refine Jo.jn 1 (some 8) [] _ rfl rfl rfl rfl ?_ ?_
      · rintro wj hJ K hK; simp only [Jo.z] at hK ⊢; go_simp; refine (kvNoneE).mono ?_; rintro ee wk ⟨rfl, B⟩; exact hK.out _ _ rfl B
      refine Jo.jn 2 (some 9) [(some 7, 0), (some 8, 1)] _ rfl rfl rfl rfl ?_ ?_
      · rintro wj hJ _ rfl _ rfl K hK; simp only [Jo.z] at hK ⊢; go_simp
        repeat' split
        all_goals exact hK.out _ _ (congrArg Value.bool (by first | rfl | (exfalso; simp_all) | simp_all)) (br _ _)
      exact Jo.Steps.nil
    rintro w4 hJ _ rfl _ rfl _ rfl -; simp only [Jo.z]; replace X1 := X1.below hJ; replace XR := XR.below hJ; replace XS := XS.below hJ; replace hT := hT.below hJ; replace HB := Lib.hid (bt HB.out hJ); refine Jo.jdone (by kernel_rfl) ?_
    go_wp2_with fail
    refine (kvNoneE).mono ?_; rintro ee w5 ⟨rfl, B⟩; replace X1 := X1.below B; replace XR := XR.below B; replace XS := XS.below B; replace hT := hT.below B; replace HB := Lib.hid (bt HB.out B); clear B
    go_wp2_with fail
    refine (kvNoneE).mono ?_; rintro ee w6 ⟨rfl, B⟩; replace X1 := X1.below B; replace XR := XR.below B; replace XS := XS.below B; replace hT := hT.below B; replace HB := Lib.hid (bt HB.out B); clear B; obtain ⟨xXR0, xXR1, xXR2, xXR3, xXR4, xXR5, xXR6, xXR7, xXR8⟩ := XR.u9; have zXR0 := XR.frozen; obtain ⟨xXS0, xXS1, xXS2, xXS3, xXS4, xXS5, xXS6, xXS7, xXS8⟩ := XS.u9; have zXS0 := XS.frozen; go_wp2
    clear xXR0 zXR0 xXR1 xXR2 xXR3 xXR4 xXR5 xXR6 xXR7 xXR8 xXS0 zXS0 xXS1 xXS2 xXS3 xXS4 xXS5 xXS6 xXS7 xXS8; generalize hS : ((((((((w6.setCell _ _).setCell _ _).setCell _ _).setCell _ _).setCell _ _).setCell _ _).setCell _ _).setCell _ _).setCell _ _ = w7 at *; have SX := StN.of9 XR hS; replace X1 := X1.stn SX (by omega); replace XS := XS.stn SX (by omega); replace hT := hT.stn SX (by simp [no8])
    replace HB := Lib.hid (SX.below HB.out (by omega)); replace XR := SX.box; clear SX hS; generalize hS : ((((((((w7.setCell _ _).setCell _ _).setCell _ _).setCell _ _).setCell _ _).setCell _ _).setCell _ _).setCell _ _).setCell _ _ = w8 at *; have SX := StN.of9 XS hS; replace X1 := X1.stn SX (by omega); replace XR := XR.stn SX (by omega); replace hT := hT.stn SX (by simp [no8]); replace HB := Lib.hid (SX.below HB.out (by omega))
    replace XS := SX.box; clear SX hS; exact bodyPost_ret (v := .tuple #[.agg #[.bool true, .int .i64 0, .bool false, .int .u64 0, .int .i64 0, .int .i64 0, .bool false, .int .u64 0, .int .i64 0], .agg #[.bool true, .int .i64 0, .bool false, .int .u64 0, .int .i64 0, .int .i64 0, .bool false, .int .u64 0, .int .i64 0]]) (by simp [results, Tryz.results7, go_sem, XR.cell, XS.cell]) rfl ⟨_, _, _, _, _, _, _, _, _, _, _, _, _, _, _, _, _, _, rfl, Ci.none, Ci.none, HB.out⟩
  · obtain ⟨rfl, a1, b1, o1, o1l, o1h⟩ := v1; obtain ⟨m, hm⟩ : ∃ m, midI (some (xa, xb)) = m := ⟨_, rfl⟩
    have hy2 : mkI xa m = y := by rw [← hm]; exact hy
    have hz2 : mkI m xb = z := by rw [← hm]; exact hz
    have HMD := Lib.hid hm; have HY := Lib.hid hy2; have HZ := Lib.hid hz2
    have hci : Ci false K1 s1 M1 E1 K1b s1b M1b E1b (some (xa, xb)) := ⟨rfl, a1, b1, o1, o1l, o1h⟩
    clear hy hz hm hy2 hz2 o1 o1l o1h
    refine Jo.region_joint (T := [0, 1, 2]) (ds := [some 7, some 8, some 9]) (ls := [[], [], [0, 1]]) (k := 3) (L := [(some 7, 0), (some 8, 1), (some 9, 2)]) (fuel := 0) (J := fun wj => Below (World.heap w3).size w3 wj)
      (F := [Jo.q9 false K1 s1 M1 E1 K1b s1b M1b E1b, Jo.q9 true 0 false 0 0 0 false 0 0, Jo.qb false])
      (by kernel_rfl) (by kernel_rfl) (by decide) rfl rfl (fun _ _ h b => bt h b) ((br _ _).drew) ?_ (fun vs w4 hJ hd => ?_)
    · refine Jo.jn 0 (some 7) [] _ rfl rfl rfl rfl ?_ ?_
      · rintro wj hJ K hK; simp only [Jo.z] at hK ⊢; obtain ⟨xX10, xX11, xX12, xX13, xX14, xX15, xX16, xX17, xX18⟩ := (X1.below hJ).u9; go_simp; exact hK.out _ _ rfl (br _ _)
      refine Jo.jn 1 (some 8) [] _ rfl rfl rfl rfl ?_ ?_
      · rintro wj hJ K hK; simp only [Jo.z] at hK ⊢; go_simp; refine (kvNoneE).mono ?_; rintro ee wk ⟨rfl, B⟩; exact hK.out _ _ rfl B
      refine Jo.jn 2 (some 9) [(some 7, 0), (some 8, 1)] _ rfl rfl rfl rfl ?_ ?_
      · rintro wj hJ _ rfl _ rfl K hK; simp only [Jo.z] at hK ⊢; go_simp
        repeat' split
        all_goals exact hK.out _ _ (congrArg Value.bool (by first | rfl | (exfalso; simp_all))) (br _ _)
      exact Jo.Steps.nil
    simp only [Jo.putl, Jo.zd, Jo.ze, Act.put, Jo.za, Jo.zb, Jo.zc]
    rw [show vs 0 = _ from hd 0 (by decide), show vs 1 = _ from hd 1 (by decide), show vs 2 = _ from hd 2 (by decide)]
    clear hd; replace X1 := X1.below hJ; replace XR := XR.below hJ; replace XS := XS.below hJ; replace hT := hT.below hJ; replace HB := Lib.hid (bt HB.out hJ); refine Jo.jdone (by kernel_rfl) ?_; obtain ⟨xX10, xX11, xX12, xX13, xX14, xX15, xX16, xX17, xX18⟩ := X1.u9
    go_wp2_with fail
    refine (kvMid hT hci.top.1 hci.top.2 hci.rk HMD.out).mono ?_; rintro ee w5 ⟨K2, s2, M2, E2, rfl, q2, B⟩; clear xX10 xX11 xX12 xX13 xX14 xX15 xX16 xX17 xX18; replace X1 := X1.below B; replace XR := XR.below B; replace XS := XS.below B; replace hT := hT.below B; replace HB := Lib.hid (bt HB.out B); clear B; clear HMD hci
    go_upto_region 5 with (fail)
    have lX5 := Nat.le_refl (World.heap w5).size; have nX5X1 := X1.lt; have nX5XR := XR.lt; have nX5XS := XS.lt; generalize hWn : w5.alloc _ = w6 at *; obtain ⟨X5, BW⟩ := Bo.nw hWn; clear hWn; replace X1 := X1.below BW; replace XR := XR.below BW; replace XS := XS.below BW; replace hT := hT.below BW; replace HB := Lib.hid (bt HB.out BW); clear BW; clear lX5; refine Jo.rj [0, 1, 2, 3, 4, 5, 6, 7] [some 14, some 15, some 16, some 17, some 18, some 19, some 20, some 21, none, none] [[], [0], [], [1, 2], [], [], [5], [4, 6], [], []] 10 [(some 14, 0), (some 15, 1), (some 16, 2), (some 17, 3), (some 18, 4), (some 19, 5), (some 20, 6), (some 21, 7)] 2 [Jo.qp w.heap.size 1, Jo.q4 K1 s1 M1 E1, Jo.q4 K2 s2 M2 E2, Jo.Fact.iv y, Jo.q4 K2 s2 M2 E2, Jo.qp w.heap.size 5, Jo.q4 K1b s1b M1b E1b, Jo.Fact.iv z, Jo.Fact.any, Jo.Fact.any] (by kernel_rfl) (by kernel_rfl) (by decide) rfl rfl ?_ ?_
    · refine Jo.jn 0 (some 14) [] _ rfl rfl rfl rfl ?_ ?_
      · rintro wj hJ K hK; simp only [Jo.z] at hK ⊢; go_simp; exact hK.out _ _ rfl (br _ _)
      refine Jo.jn 1 (some 15) [(some 14, 0)] _ rfl rfl rfl rfl ?_ ?_
      · rintro wj hJ _ rfl K hK; simp only [Jo.z] at hK ⊢; obtain ⟨xX11, xX12, xX13, xX14⟩ := (X1.below hJ).w9; go_simp; exact hK.out _ _ rfl (br _ _)
      refine Jo.jn 2 (some 16) [] _ rfl rfl rfl rfl ?_ ?_
      · rintro wj hJ K hK; simp only [Jo.z] at hK ⊢; obtain ⟨xX50, xX51, xX52, xX53⟩ := (X5.below hJ).u4; go_simp; exact hK.out _ _ rfl (br _ _)
      refine Jo.jn 3 (some 17) [(some 15, 1), (some 16, 2)] _ rfl rfl rfl rfl ?_ ?_
      · rintro wj hJ _ rfl _ rfl K hK; simp only [Jo.z] at hK ⊢; go_simp; refine (kvMake a1.top q2.top a1.rk q2.rk HY.out).mono ?_; rintro ee wk ⟨e3, K3, s3, M3, E3, K3b, s3b, M3b, E3b, rfl, v3, B⟩; exact hK.out _ _ ⟨e3, K3, s3, M3, E3, K3b, s3b, M3b, E3b, rfl, v3⟩ B
      refine Jo.jn 4 (some 18) [] _ rfl rfl rfl rfl ?_ ?_
      · rintro wj hJ K hK; simp only [Jo.z] at hK ⊢; obtain ⟨xX50, xX51, xX52, xX53⟩ := (X5.below hJ).u4; go_simp; exact hK.out _ _ rfl (br _ _)
      refine Jo.jn 5 (some 19) [] _ rfl rfl rfl rfl ?_ ?_
      · rintro wj hJ K hK; simp only [Jo.z] at hK ⊢; go_simp; exact hK.out _ _ rfl (br _ _)
      refine Jo.jn 6 (some 20) [(some 19, 5)] _ rfl rfl rfl rfl ?_ ?_
      · rintro wj hJ _ rfl K hK; simp only [Jo.z] at hK ⊢; obtain ⟨xX15, xX16, xX17, xX18⟩ := (X1.below hJ).v9; go_simp; exact hK.out _ _ rfl (br _ _)
      refine Jo.jn 7 (some 21) [(some 18, 4), (some 20, 6)] _ rfl rfl rfl rfl ?_ ?_
      · rintro wj hJ _ rfl _ rfl K hK; simp only [Jo.z] at hK ⊢; go_simp; refine (kvMake q2.top b1.top q2.rk b1.rk HZ.out).mono ?_; rintro ee wk ⟨e4, K4, s4, M4, E4, K4b, s4b, M4b, E4b, rfl, v4, B⟩; exact hK.out _ _ ⟨e4, K4, s4, M4, E4, K4b, s4b, M4b, E4b, rfl, v4⟩ B
      exact Jo.Steps.nil
    rintro w8 hJ _ _ _ rfl _ rfl _ ⟨e3, K3, s3, M3, E3, K3b, s3b, M3b, E3b, rfl, v3⟩ _ rfl _ _ _ rfl _ ⟨e4, K4, s4, M4, E4, K4b, s4b, M4b, E4b, rfl, v4⟩ -; simp only [Jo.z]; replace X1 := X1.below hJ; replace XR := XR.below hJ; replace XS := XS.below hJ; replace X5 := X5.below hJ; replace hT := hT.below hJ; replace HB := Lib.hid (bt HB.out hJ); obtain ⟨xXR0, xXR1, xXR2, xXR3, xXR4, xXR5, xXR6, xXR7, xXR8⟩ := XR.u9
    have zXR0 := XR.frozen
    refine Jo.jnext (i := 8) (o := ⟨none, _, _, _, _, _⟩) (by kernel_rfl) rfl (fun K hK => ?_)
    go_simp; refine hK.out _ _ ?_; clear hK K xXR0 zXR0 xXR1 xXR2 xXR3 xXR4 xXR5 xXR6 xXR7 xXR8; generalize hS : ((((((((w8.setCell _ _).setCell _ _).setCell _ _).setCell _ _).setCell _ _).setCell _ _).setCell _ _).setCell _ _).setCell _ _ = w9 at *; have SX := StN.of9 XR hS; replace X1 := X1.stn SX (by omega); replace XS := XS.stn SX (by omega); replace X5 := X5.stn SX (by omega); replace hT := hT.stn SX (by simp [no8])
    replace HB := Lib.hid (SX.below HB.out (by omega)); replace XR := SX.box; clear SX hS; obtain ⟨xXS0, xXS1, xXS2, xXS3, xXS4, xXS5, xXS6, xXS7, xXS8⟩ := XS.u9; have zXS0 := XS.frozen
    refine Jo.jnext (i := 9) (o := ⟨none, _, _, _, _, _⟩) (by kernel_rfl) rfl (fun K hK => ?_)
    go_simp; refine hK.out _ _ ?_; clear hK K xXS0 zXS0 xXS1 xXS2 xXS3 xXS4 xXS5 xXS6 xXS7 xXS8; generalize hS : ((((((((w9.setCell _ _).setCell _ _).setCell _ _).setCell _ _).setCell _ _).setCell _ _).setCell _ _).setCell _ _).setCell _ _ = wA at *; have SX := StN.of9 XS hS; replace X1 := X1.stn SX (by omega); replace XR := XR.stn SX (by omega); replace X5 := X5.stn SX (by omega); replace hT := hT.stn SX (by simp [no8])
    replace HB := Lib.hid (SX.below HB.out (by omega)); replace XS := SX.box; clear SX hS; refine Jo.jdone (by kernel_rfl) ?_; go_wp2; exact bodyPost_ret (v := .tuple #[.agg #[.bool e3, .int .i64 K3, .bool s3, .int .u64 M3, .int .i64 E3, .int .i64 K3b, .bool s3b, .int .u64 M3b, .int .i64 E3b], .agg #[.bool e4, .int .i64 K4, .bool s4, .int .u64 M4, .int .i64 E4, .int .i64 K4b, .bool s4b, .int .u64 M4b, .int .i64 E4b]]) (by simp [results, Tryz.results7, go_sem, XR.cell, XS.cell]) rfl ⟨_, _, _, _, _, _, _, _, _, _, _, _, _, _, _, _, _, _, rfl, v3, v4, HB.out⟩
set_option maxHeartbeats 4000000 in
theorem kvInflate {w : World} {e : Bool} {D M E D' M' E' : Int} {s s' : Bool} {G P Q : Int} {g : Bool} {x z : Sp} {y : Int} (hT : Tb w) (hM : M < 18446744073709551616) (hM' : M' < 18446744073709551616) (hP : P < 18446744073709551616) (hx : rkI e D s M E D' s' M' E' = x) (hy : rk G g P Q = y) (hr : infI x y = z) : Calls Tryz.prog 13 #[.agg #[.bool e, .int .i64 D, .bool s, .int .u64 M, .int .i64 E, .int .i64 D', .bool s', .int .u64 M', .int .i64 E'], .agg #[.int .i64 G, .bool g, .int .u64 P, .int .i64 Q]] w (PV w z) := by
  have HX := Lib.hid hx; have HY := Lib.hid hy; clear hx hy
  go_enter Tryz.func13, Tryz.ntmps13
  go_upto_region 1 with (fail)
  generalize hW1 : ((w.alloc _).alloc _).alloc _ = w1 at *; obtain ⟨X2, X3, XR, HB⟩ := Bo.en3 hW1; replace hT := hT.below HB.out; clear hW1; obtain ⟨xX20, xX21, xX22, xX23, xX24, xX25, xX26, xX27, xX28⟩ := X2.u9
  go_wp2_with fail
  refine (kvOrE hM hM' HX.out).mono ?_; rintro ee w2 ⟨e1, K1, s1, M1, E1, K1b, s1b, M1b, E1b, rfl, v1, B⟩; clear xX20 xX21 xX22 xX23 xX24 xX25 xX26 xX27 xX28; replace X2 := X2.below B; replace X3 := X3.below B; replace XR := XR.below B; replace hT := hT.below B; replace HB := Lib.hid (bt HB.out B); clear B; obtain ⟨xX20, xX21, xX22, xX23, xX24, xX25, xX26, xX27, xX28⟩ := X2.u9; have zX20 := X2.frozen
  go_upto_region 2 with (fail)
  clear xX20 zX20 xX21 xX22 xX23 xX24 xX25 xX26 xX27 xX28; generalize hS : ((((((((w2.setCell _ _).setCell _ _).setCell _ _).setCell _ _).setCell _ _).setCell _ _).setCell _ _).setCell _ _).setCell _ _ = w3 at *; have SX := StN.of9 X2 hS; replace X3 := X3.stn SX (by omega); replace XR := XR.stn SX (by omega); replace hT := hT.stn SX (by simp [no8]); replace HB := Lib.hid (SX.below HB.out (by omega))
  replace X2 := SX.box; clear SX hS; clear HX hM hM'
  rcases x with _ | ⟨xa, xb⟩
  · obtain ⟨rfl, y1, y1b⟩ := v1
    obtain rfl : none = z := hr
    clear HY hP
    obtain ⟨_, rfl, rfl, rfl, rfl, rfl, rfl, rfl, rfl⟩ := (show Ci true K1 s1 M1 E1 K1b s1b M1b E1b none from ⟨rfl, y1, y1b⟩).uniq Ci.none
    clear y1 y1b; refine Jo.rj [0, 1, 2, 3, 4, 5, 6, 7] [some 7, some 8, some 9, some 10, some 11, some 12, some 13, some 14] [[], [], [0, 1], [2], [3], [3, 4], [3, 5], [3, 6]] 8 [(some 7, 0), (some 8, 1), (some 9, 2), (some 10, 3), (some 11, 4), (some 12, 5), (some 13, 6), (some 14, 7)] 0 [Jo.q9 true 0 false 0 0 0 false 0 0, Jo.q9 true 0 false 0 0 0 false 0 0, Jo.qb true, Jo.qb true, Jo.qu, Jo.qu, Jo.qu, Jo.qb true] (by kernel_rfl) (by kernel_rfl) (by decide) rfl rfl ?_ ?_
    · refine Jo.jn 0 (some 7) [] _ rfl rfl rfl rfl ?_ ?_
      · rintro wj hJ K hK; simp only [Jo.z] at hK ⊢; obtain ⟨xX20, xX21, xX22, xX23, xX24, xX25, xX26, xX27, xX28⟩ := (X2.below hJ).u9; go_simp; exact hK.out _ _ rfl (br _ _)
      refine Jo.jn 1 (some 8) [] _ rfl rfl rfl rfl ?_ ?_
      · rintro wj hJ K hK; simp only [Jo.z] at hK ⊢; go_simp; refine (kvNoneE).mono ?_; rintro ee wk ⟨rfl, B⟩; exact hK.out _ _ rfl B
      refine Jo.jn 2 (some 9) [(some 7, 0), (some 8, 1)] _ rfl rfl rfl rfl ?_ ?_
      · rintro wj hJ _ rfl _ rfl K hK; simp only [Jo.z] at hK ⊢; go_simp
        repeat' split
        all_goals exact hK.out _ _ (congrArg Value.bool (by first | rfl | (exfalso; simp_all) | simp_all)) (br _ _)
      refine Jo.jn 3 (some 10) [(some 9, 2)] _ rfl rfl rfl rfl ?_ ?_
      · rintro wj hJ _ rfl K hK; simp only [Jo.z] at hK ⊢; go_simp; exact hK.out _ _ rfl (br _ _)
      refine Jo.jn 4 (some 11) [(some 10, 3)] _ rfl rfl rfl rfl ?_ ?_
      · rintro wj hJ _ rfl K hK; simp only [Jo.z] at hK ⊢; go_simp; exact hK.out _ _ rfl (br _ _)
      refine Jo.jn 5 (some 12) [(some 10, 3), (some 11, 4)] _ rfl rfl rfl rfl ?_ ?_
      · rintro wj hJ _ rfl _ rfl K hK; simp only [Jo.z] at hK ⊢; go_simp; exact hK.out _ _ rfl (br _ _)
      refine Jo.jn 6 (some 13) [(some 10, 3), (some 12, 5)] _ rfl rfl rfl rfl ?_ ?_
      · rintro wj hJ _ rfl _ rfl K hK; simp only [Jo.z] at hK ⊢; go_simp; exact hK.out _ _ rfl (br _ _)
      refine Jo.jn 7 (some 14) [(some 10, 3), (some 13, 6)] _ rfl rfl rfl rfl ?_ ?_
      · rintro wj hJ _ rfl _ rfl K hK; simp only [Jo.z] at hK ⊢; go_simp; exact hK.out _ _ rfl (br _ _)
      exact Jo.Steps.nil
    rintro w4 hJ _ rfl _ rfl _ rfl _ rfl _ rfl _ rfl _ rfl _ rfl -; simp only [Jo.z]; replace X2 := X2.below hJ; replace X3 := X3.below hJ; replace XR := XR.below hJ; replace hT := hT.below hJ; replace HB := Lib.hid (bt HB.out hJ); refine Jo.jdone (by kernel_rfl) ?_; obtain ⟨xXR0, xXR1, xXR2, xXR3, xXR4, xXR5, xXR6, xXR7, xXR8⟩ := XR.u9; have zXR0 := XR.frozen; obtain ⟨xX20, xX21, xX22, xX23, xX24, xX25, xX26, xX27, xX28⟩ := X2.u9
    go_wp2; clear xXR0 zXR0 xXR1 xXR2 xXR3 xXR4 xXR5 xXR6 xXR7 xXR8 xX20 xX21 xX22 xX23 xX24 xX25 xX26 xX27 xX28; have SX := StN.mk9 XR (.bool true) (.int .i64 0) (.bool false) (.int .u64 0) (.int .i64 0) (.int .i64 0) (.bool false) (.int .u64 0) (.int .i64 0); exact bodyPost_ret (by simp [results, Tryz.results13, go_sem, SX.box.cell]) rfl ⟨_, _, _, _, _, _, _, _, _, rfl, Ci.none, (SX.below HB.out (by omega))⟩
  · obtain ⟨rfl, a1, b1, o1, o1l, o1h⟩ := v1; obtain ⟨σ, hσ⟩ : ∃ σ, cmpI y 0 = σ := ⟨_, rfl⟩; have ht := cmp_ltE hσ
    have HS : Hid (cmpI (rk G g P Q) 0 = σ) := Lib.hid (by rw [HY.out]; exact hσ)
    clear hσ
    have hr2 : (if y < 0 then some (xa, xb) else mkI (addp false xa (-y)) (addp true xb y)) = z := hr
    clear hr
    by_cases hl : y < 0
    · rw [decide_eq_true hl] at ht; have HC0 := Lib.hid ht; rw [if_pos hl] at hr2
      obtain rfl : some (xa, xb) = z := hr2
      clear hl ht; refine Jo.rj [0, 1, 2, 3, 4, 5, 6, 7] [some 7, some 8, some 9, some 10, some 11, some 12, some 13, some 14] [[], [], [0, 1], [2], [3], [3, 4], [3, 5], [3, 6]] 8 [(some 7, 0), (some 8, 1), (some 9, 2), (some 10, 3), (some 11, 4), (some 12, 5), (some 13, 6), (some 14, 7)] 0 [Jo.q9 false K1 s1 M1 E1 K1b s1b M1b E1b, Jo.q9 true 0 false 0 0 0 false 0 0, Jo.qb false, Jo.qb false, Jo.q4 G g P Q, Jo.qi σ, Jo.qb true, Jo.qb true] (by kernel_rfl) (by kernel_rfl) (by decide) rfl rfl ?_ ?_
      · refine Jo.jn 0 (some 7) [] _ rfl rfl rfl rfl ?_ ?_
        · rintro wj hJ K hK; simp only [Jo.z] at hK ⊢; obtain ⟨xX20, xX21, xX22, xX23, xX24, xX25, xX26, xX27, xX28⟩ := (X2.below hJ).u9; go_simp; exact hK.out _ _ rfl (br _ _)
        refine Jo.jn 1 (some 8) [] _ rfl rfl rfl rfl ?_ ?_
        · rintro wj hJ K hK; simp only [Jo.z] at hK ⊢; go_simp; refine (kvNoneE).mono ?_; rintro ee wk ⟨rfl, B⟩; exact hK.out _ _ rfl B
        refine Jo.jn 2 (some 9) [(some 7, 0), (some 8, 1)] _ rfl rfl rfl rfl ?_ ?_
        · rintro wj hJ _ rfl _ rfl K hK; simp only [Jo.z] at hK ⊢; go_simp
          repeat' split
          all_goals exact hK.out _ _ (congrArg Value.bool (by first | rfl | (exfalso; simp_all))) (br _ _)
        refine Jo.jn 3 (some 10) [(some 9, 2)] _ rfl rfl rfl rfl ?_ ?_
        · rintro wj hJ _ rfl K hK; simp only [Jo.z] at hK ⊢; go_simp; exact hK.out _ _ rfl (br _ _)
        refine Jo.jn 4 (some 11) [(some 10, 3)] _ rfl rfl rfl rfl ?_ ?_
        · rintro wj hJ _ rfl K hK; simp only [Jo.z] at hK ⊢; obtain ⟨xX30, xX31, xX32, xX33⟩ := (X3.below hJ).u4; go_simp; exact hK.out _ _ rfl (br _ _)
        refine Jo.jn 5 (some 12) [(some 10, 3), (some 11, 4)] _ rfl rfl rfl rfl ?_ ?_
        · rintro wj hJ _ rfl _ rfl K hK; simp only [Jo.z] at hK ⊢; go_simp; refine (nSign hP HS.out).mono ?_; rintro ee wk ⟨rfl, B⟩; exact hK.out _ _ rfl B
        refine Jo.jn 6 (some 13) [(some 10, 3), (some 12, 5)] _ rfl rfl rfl rfl ?_ ?_
        · rintro wj hJ _ rfl _ rfl K hK; simp only [Jo.z] at hK ⊢; have hc0 := HC0.out; go_simp
          exact hK.out _ _ (by first | rfl | (show Value.bool _ = Value.bool _; rw [hc0]) | simp_all) (br _ _)
        refine Jo.jn 7 (some 14) [(some 10, 3), (some 13, 6)] _ rfl rfl rfl rfl ?_ ?_
        · rintro wj hJ _ rfl _ rfl K hK; simp only [Jo.z] at hK ⊢; go_simp; exact hK.out _ _ rfl (br _ _)
        exact Jo.Steps.nil
      rintro w4 hJ _ rfl _ rfl _ rfl _ rfl _ rfl _ rfl _ rfl _ rfl -; simp only [Jo.z]; replace X2 := X2.below hJ; replace X3 := X3.below hJ; replace XR := XR.below hJ; replace hT := hT.below hJ; replace HB := Lib.hid (bt HB.out hJ); refine Jo.jdone (by kernel_rfl) ?_; obtain ⟨xXR0, xXR1, xXR2, xXR3, xXR4, xXR5, xXR6, xXR7, xXR8⟩ := XR.u9; have zXR0 := XR.frozen; obtain ⟨xX20, xX21, xX22, xX23, xX24, xX25, xX26, xX27, xX28⟩ := X2.u9
      go_wp2; clear xXR0 zXR0 xXR1 xXR2 xXR3 xXR4 xXR5 xXR6 xXR7 xXR8 xX20 xX21 xX22 xX23 xX24 xX25 xX26 xX27 xX28; have SX := StN.mk9 XR (.bool false) (.int .i64 K1) (.bool s1) (.int .u64 M1) (.int .i64 E1) (.int .i64 K1b) (.bool s1b) (.int .u64 M1b) (.int .i64 E1b); exact bodyPost_ret (v := .agg #[.bool false, .int .i64 K1, .bool s1, .int .u64 M1, .int .i64 E1, .int .i64 K1b, .bool s1b, .int .u64 M1b, .int .i64 E1b]) (by simp [results, Tryz.results13, go_sem, SX.box.cell]) rfl ⟨_, _, _, _, _, _, _, _, _, rfl, ⟨rfl, a1, b1, o1, o1l, o1h⟩, (SX.below HB.out (by omega))⟩
    · rw [decide_eq_false hl] at ht; have HC0 := Lib.hid ht; rw [if_neg hl] at hr2; obtain ⟨u, hu⟩ : ∃ u, addp false xa (-y) = u := ⟨_, rfl⟩; obtain ⟨l, hl2⟩ : ∃ l, addp true xb y = l := ⟨_, rfl⟩; rw [hu, hl2] at hr2; have HU := Lib.hid hu; have HL := Lib.hid hl2; have HR := Lib.hid hr2; clear hl ht hu hl2 hr2 o1 o1l o1h
      refine Jo.region_joint (T := [0, 1, 2, 3, 4, 5, 6, 7]) (ds := [some 7, some 8, some 9, some 10, some 11, some 12, some 13, some 14]) (ls := [[], [], [0, 1], [2], [3], [3, 4], [3, 5], [3, 6]]) (k := 8) (L := [(some 7, 0), (some 8, 1), (some 9, 2), (some 10, 3), (some 11, 4), (some 12, 5), (some 13, 6), (some 14, 7)]) (fuel := 0) (J := fun wj => Below (World.heap w3).size w3 wj)
        (F := [Jo.q9 false K1 s1 M1 E1 K1b s1b M1b E1b, Jo.q9 true 0 false 0 0 0 false 0 0, Jo.qb false, Jo.qb false, Jo.q4 G g P Q, Jo.qi σ, Jo.qb false, Jo.qb false])
        (by kernel_rfl) (by kernel_rfl) (by decide) rfl rfl (fun _ _ h b => bt h b) ((br _ _).drew) ?_ (fun vs w4 hJ hd => ?_)
      · refine Jo.jn 0 (some 7) [] _ rfl rfl rfl rfl ?_ ?_
        · rintro wj hJ K hK; simp only [Jo.z] at hK ⊢; obtain ⟨xX20, xX21, xX22, xX23, xX24, xX25, xX26, xX27, xX28⟩ := (X2.below hJ).u9; go_simp; exact hK.out _ _ rfl (br _ _)
        refine Jo.jn 1 (some 8) [] _ rfl rfl rfl rfl ?_ ?_
        · rintro wj hJ K hK; simp only [Jo.z] at hK ⊢; go_simp; refine (kvNoneE).mono ?_; rintro ee wk ⟨rfl, B⟩; exact hK.out _ _ rfl B
        refine Jo.jn 2 (some 9) [(some 7, 0), (some 8, 1)] _ rfl rfl rfl rfl ?_ ?_
        · rintro wj hJ _ rfl _ rfl K hK; simp only [Jo.z] at hK ⊢; go_simp
          repeat' split
          all_goals exact hK.out _ _ (congrArg Value.bool (by first | rfl | (exfalso; simp_all))) (br _ _)
        refine Jo.jn 3 (some 10) [(some 9, 2)] _ rfl rfl rfl rfl ?_ ?_
        · rintro wj hJ _ rfl K hK; simp only [Jo.z] at hK ⊢; go_simp; exact hK.out _ _ rfl (br _ _)
        refine Jo.jn 4 (some 11) [(some 10, 3)] _ rfl rfl rfl rfl ?_ ?_
        · rintro wj hJ _ rfl K hK; simp only [Jo.z] at hK ⊢; obtain ⟨xX30, xX31, xX32, xX33⟩ := (X3.below hJ).u4; go_simp; exact hK.out _ _ rfl (br _ _)
        refine Jo.jn 5 (some 12) [(some 10, 3), (some 11, 4)] _ rfl rfl rfl rfl ?_ ?_
        · rintro wj hJ _ rfl _ rfl K hK; simp only [Jo.z] at hK ⊢; go_simp; refine (nSign hP HS.out).mono ?_; rintro ee wk ⟨rfl, B⟩; exact hK.out _ _ rfl B
        refine Jo.jn 6 (some 13) [(some 10, 3), (some 12, 5)] _ rfl rfl rfl rfl ?_ ?_
        · rintro wj hJ _ rfl _ rfl K hK; simp only [Jo.z] at hK ⊢; have hc0 := HC0.out; go_simp
          exact hK.out _ _ (by first | rfl | (show Value.bool _ = Value.bool _; rw [hc0]) | simp_all) (br _ _)
        refine Jo.jn 7 (some 14) [(some 10, 3), (some 13, 6)] _ rfl rfl rfl rfl ?_ ?_
        · rintro wj hJ _ rfl _ rfl K hK; simp only [Jo.z] at hK ⊢; go_simp; exact hK.out _ _ rfl (br _ _)
        exact Jo.Steps.nil
      simp only [Jo.putl, Jo.zd, Jo.ze, Act.put, Jo.za, Jo.zb, Jo.zc]
      rw [show vs 0 = _ from hd 0 (by decide), show vs 1 = _ from hd 1 (by decide), show vs 2 = _ from hd 2 (by decide), show vs 3 = _ from hd 3 (by decide), show vs 4 = _ from hd 4 (by decide), show vs 5 = _ from hd 5 (by decide), show vs 6 = _ from hd 6 (by decide), show vs 7 = _ from hd 7 (by decide)]
      clear hd; replace X2 := X2.below hJ; replace X3 := X3.below hJ; replace XR := XR.below hJ; replace hT := hT.below hJ; replace HB := Lib.hid (bt HB.out hJ); refine Jo.jdone (by kernel_rfl) ?_; go_wp2; refine Jo.rj [0, 1, 2, 3, 4, 5, 6, 7, 8] [some 16, some 17, some 18, some 19, some 20, some 21, some 22, some 23, some 24, none] [[], [0], [], [1, 2], [], [4], [], [5, 6], [3, 7], []] 10 [(some 16, 0), (some 17, 1), (some 18, 2), (some 19, 3), (some 20, 4), (some 21, 5), (some 22, 6), (some 23, 7), (some 24, 8)] 1 [Jo.qp w.heap.size 1, Jo.q4 K1 s1 M1 E1, Jo.q4 G g P Q, Jo.Fact.num u, Jo.qp w.heap.size 5, Jo.q4 K1b s1b M1b E1b, Jo.q4 G g P Q, Jo.Fact.num l, Jo.Fact.iv z, Jo.Fact.any] (by kernel_rfl) (by kernel_rfl) (by decide) rfl rfl ?_ ?_
      · refine Jo.jn 0 (some 16) [] _ rfl rfl rfl rfl ?_ ?_
        · rintro wj hJ K hK; simp only [Jo.z] at hK ⊢; go_simp; exact hK.out _ _ rfl (br _ _)
        refine Jo.jn 1 (some 17) [(some 16, 0)] _ rfl rfl rfl rfl ?_ ?_
        · rintro wj hJ _ rfl K hK; simp only [Jo.z] at hK ⊢; obtain ⟨xX21, xX22, xX23, xX24⟩ := (X2.below hJ).w9; go_simp; exact hK.out _ _ rfl (br _ _)
        refine Jo.jn 2 (some 18) [] _ rfl rfl rfl rfl ?_ ?_
        · rintro wj hJ K hK; simp only [Jo.z] at hK ⊢; obtain ⟨xX30, xX31, xX32, xX33⟩ := (X3.below hJ).u4; go_simp; exact hK.out _ _ rfl (br _ _)
        refine Jo.jn 3 (some 19) [(some 17, 1), (some 18, 2)] _ rfl rfl rfl rfl ?_ ?_
        · rintro wj hJ _ rfl _ rfl K hK; simp only [Jo.z] at hK ⊢; go_simp; refine (aSub (hT.below hJ) a1.top hP a1.rk (by rw [HY.out]) HU.out).mono ?_; rintro ee wk ⟨K2, s2, M2, E2, rfl, q2, B⟩; exact hK.out _ _ ⟨K2, s2, M2, E2, rfl, q2⟩ B
        refine Jo.jn 4 (some 20) [] _ rfl rfl rfl rfl ?_ ?_
        · rintro wj hJ K hK; simp only [Jo.z] at hK ⊢; go_simp; exact hK.out _ _ rfl (br _ _)
        refine Jo.jn 5 (some 21) [(some 20, 4)] _ rfl rfl rfl rfl ?_ ?_
        · rintro wj hJ _ rfl K hK; simp only [Jo.z] at hK ⊢; obtain ⟨xX25, xX26, xX27, xX28⟩ := (X2.below hJ).v9; go_simp; exact hK.out _ _ rfl (br _ _)
        refine Jo.jn 6 (some 22) [] _ rfl rfl rfl rfl ?_ ?_
        · rintro wj hJ K hK; simp only [Jo.z] at hK ⊢; obtain ⟨xX30, xX31, xX32, xX33⟩ := (X3.below hJ).u4; go_simp; exact hK.out _ _ rfl (br _ _)
        refine Jo.jn 7 (some 23) [(some 21, 5), (some 22, 6)] _ rfl rfl rfl rfl ?_ ?_
        · rintro wj hJ _ rfl _ rfl K hK; simp only [Jo.z] at hK ⊢; go_simp; refine (aAdd (hT.below hJ) b1.top hP b1.rk HY.out HL.out).mono ?_; rintro ee wk ⟨K3, s3, M3, E3, rfl, q3, B⟩; exact hK.out _ _ ⟨K3, s3, M3, E3, rfl, q3⟩ B
        refine Jo.jn 8 (some 24) [(some 19, 3), (some 23, 7)] _ rfl rfl rfl rfl ?_ ?_
        · rintro wj hJ _ ⟨K2, s2, M2, E2, rfl, q2⟩ _ ⟨K3, s3, M3, E3, rfl, q3⟩ K hK; simp only [Jo.z] at hK ⊢; go_simp; refine (kvMake q2.top q3.top q2.rk q3.rk HR.out).mono ?_; rintro ee wk ⟨e4, K4, s4, M4, E4, K4b, s4b, M4b, E4b, rfl, v4, B⟩; exact hK.out _ _ ⟨e4, K4, s4, M4, E4, K4b, s4b, M4b, E4b, rfl, v4⟩ B
        exact Jo.Steps.nil
      rintro w8 hJ _ _ _ rfl _ rfl _ ⟨K2, s2, M2, E2, rfl, q2⟩ _ _ _ rfl _ rfl _ ⟨K3, s3, M3, E3, rfl, q3⟩ _ ⟨e4, K4, s4, M4, E4, K4b, s4b, M4b, E4b, rfl, v4⟩ -; simp only [Jo.z]; replace X2 := X2.below hJ; replace X3 := X3.below hJ; replace XR := XR.below hJ; replace hT := hT.below hJ; replace HB := Lib.hid (bt HB.out hJ); obtain ⟨xXR0, xXR1, xXR2, xXR3, xXR4, xXR5, xXR6, xXR7, xXR8⟩ := XR.u9; have zXR0 := XR.frozen
      refine Jo.jnext (i := 9) (o := ⟨none, _, _, _, _, _⟩) (by kernel_rfl) rfl (fun K hK => ?_)
      go_simp; refine hK.out _ _ ?_; clear hK K xXR0 zXR0 xXR1 xXR2 xXR3 xXR4 xXR5 xXR6 xXR7 xXR8; have SX := StN.mk9 XR (.bool e4) (.int .i64 K4) (.bool s4) (.int .u64 M4) (.int .i64 E4) (.int .i64 K4b) (.bool s4b) (.int .u64 M4b) (.int .i64 E4b); refine Jo.jdone (by kernel_rfl) ?_; go_wp2; exact bodyPost_ret (by simp [results, Tryz.results13, go_sem, SX.box.cell]) rfl ⟨_, _, _, _, _, _, _, _, _, rfl, v4, (SX.below HB.out (by omega))⟩
end Go.Proofs.YthhlccdmflgbbaaGreatDoor

/-
  Contracts and words that the statement's proof rests on: Cd, Cf, Cn, Ch, Cj, Ob.
-/
import Derived.Test.YtpnmphofengoeaaGreatDoorYPat
namespace Go.Proofs.YtpnmphofengoeaaGreatDoor
set_option maxHeartbeats 2000000
open Go.RowKit
set_option linter.unusedVariables false
set_option linter.unusedSimpArgs false
set_option maxRecDepth 100000

theorem fq_inf2 (s : Bool) : Fq 2 s 0 0 (sgi s TP) := ⟨.inr (.inr ⟨rfl, rfl, rfl⟩), by decide, by
  cases s <;> rfl⟩
theorem ci_all : Ci false 2 true 0 0 2 false 0 0 allI := ⟨rfl, fq_inf2 true, fq_inf2 false, by decide, by decide, by decide⟩
theorem yInfE {w : World} (s : Bool) : Calls Tryz.prog 78 #[.bool s] w (fun e w' => e = .returned (.agg #[.int .i64 2, .bool s, .int .u64 0, .int .i64 0]) ∧ Below w.heap.size w w') := by
  refine (yInf (s := s) rfl).mono ?_; rintro ee w2 ⟨K, s1, M, E, rfl, q, B⟩; obtain ⟨rfl, rfl, rfl, rfl⟩ := q.uniq (fq_inf2 s); exact ⟨rfl, B⟩
theorem jvNone {w : World}  : Calls Tryz.prog 39 #[] w (PV w none) := by
  go_enter Tryz.func39, Tryz.ntmps39
  go_upto_region 1 with (fail)
  generalize hW1 : w.alloc _ = w1 at *; obtain ⟨XR, HB⟩ := Bo.en1 hW1; clear hW1; have xXR := XR.cell; have zXR0 := XR.frozen; go_wp2; clear xXR zXR0; have SX := StN.mk9 XR (.bool true) (.int .i64 0) (.bool false) (.int .u64 0) (.int .i64 0) (.int .i64 0) (.bool false) (.int .u64 0) (.int .i64 0); exact bodyPost_ret (by simp [results, Tryz.results39, go_sem, SX.box.cell]) rfl ⟨_, _, _, _, _, _, _, _, _, rfl, Ci.none, (SX.below HB.out (by omega))⟩
theorem jvAll {w : World}  : Calls Tryz.prog 61 #[] w (PV w allI) := by
  go_enter Tryz.func61, Tryz.ntmps61
  go_upto_region 1 with (fail)
  generalize hW1 : w.alloc _ = w1 at *; obtain ⟨XR, HB⟩ := Bo.en1 hW1; clear hW1
  go_wp2_with fail
  refine (yInfE true).mono ?_; rintro ee w2 ⟨rfl, B⟩; replace XR := XR.below B; replace HB := Hqb HB B; clear B
  go_wp2_with fail
  refine (yInfE false).mono ?_; rintro ee w3 ⟨rfl, B⟩; replace XR := XR.below B; replace HB := Hqb HB B; clear B; have xXR := XR.cell; have zXR0 := XR.frozen; go_wp2; clear xXR zXR0; have SX := StN.mk9 XR (.bool false) (.int .i64 2) (.bool true) (.int .u64 0) (.int .i64 0) (.int .i64 2) (.bool false) (.int .u64 0) (.int .i64 0)
  exact bodyPost_ret (by simp [results, Tryz.results61, go_sem, SX.box.cell]) rfl ⟨_, _, _, _, _, _, _, _, _, rfl, ci_all, (SX.below HB.out (by omega))⟩
theorem jvNoneE {w : World} : Calls Tryz.prog 39 #[] w (fun e w' => e = .returned (.agg #[.bool true, .int .i64 0, .bool false, .int .u64 0, .int .i64 0, .int .i64 0, .bool false, .int .u64 0, .int .i64 0]) ∧ Below w.heap.size w w') := by
  refine jvNone.mono ?_; rintro ee w2 ⟨e1, K1, s1, M1, E1, K1b, s1b, M1b, E1b, rfl, v1, B⟩; obtain ⟨rfl, rfl, rfl, rfl, rfl, rfl, rfl, rfl, rfl⟩ := v1.uniq Ci.none; exact ⟨rfl, B⟩
theorem jvmay_t {w : World} {D M E D' M' E' : Int} {s s' : Bool} {r : Bool} (hr : mayI true D s M E D' s' M' E' = r) : Calls Tryz.prog 60 #[.agg #[.bool true, .int .i64 D, .bool s, .int .u64 M, .int .i64 E, .int .i64 D', .bool s', .int .u64 M', .int .i64 E']] w (PB w r) := by
  have HR := Lib.hid hr; clear hr
  go_enter Tryz.func60, Tryz.ntmps60
  go_upto_region 1 with (fail)
  generalize hW1 : w.alloc _ = w1 at *; obtain ⟨X1, HB⟩ := Bo.en1 hW1; clear hW1; have xX1 := X1.cell
  go_upto_region 2 with (fail)
  clear xX1; refine Jo.rk [0, 1, 2, 3] [some 7, some 8, some 9, some 2] [[], [], [0, 1], [2]] 4 0 [Jo.q9 true D s M E D' s' M' E', Jo.q9 true 0 false 0 0 0 false 0 0, Jo.qb r, Jo.qb r] (by kernel_rfl) (by kernel_rfl) (by decide) rfl ?_ ?_
  · refine Jo.jm rfl ?_ ?_; rotate_left
    refine Jo.jm rfl ?_ ?_
    · rintro wj hJ K hK; simp only [Jo.z] at hK ⊢; go_simp; refine (jvNoneE).mono ?_; rintro ee wk ⟨rfl, B⟩; exact hK.out _ _ rfl B
    refine Jo.jm rfl ?_ ?_
    · rintro wj hJ _ rfl _ rfl K hK; simp only [Jo.z] at hK ⊢; go_simp
      repeat' split
      all_goals exact hK.out _ _ (congrArg Value.bool (by rw [← HR.out]; unfold mayI; simp [*])) (br _ _)
    refine Jo.jm rfl ?_ ?_; rotate_left
    exact Jo.Steps.nil
    all_goals (rintro wj hJ; (repeat rintro _ rfl); intro K hK; simp only [Jo.z] at hK ⊢; have xX1 := (X1.below hJ).cell; go_simp; exact hK.out _ _ rfl (br _ _))
  rintro w8 hJ _ rfl _ rfl _ rfl _ rfl -; simp only [Jo.z]; replace X1 := X1.below hJ; replace HB := Hqb HB hJ; refine Jo.jdone (by kernel_rfl) ?_; go_wp2
  go_ret
  exact ⟨rfl, HB.out⟩
theorem jvmay_fp {w : World} {D M E D' M' E' : Int} {s s' : Bool} (hM : (M : Int) < 18446744073709551616) (hM' : (M' : Int) < 18446744073709551616) (hp : decide (MayQ D s M E) = false) {q : Bool} (hq : decide (MayQ D' s' M' E') = q) : Calls Tryz.prog 60 #[.agg #[.bool false, .int .i64 D, .bool s, .int .u64 M, .int .i64 E, .int .i64 D', .bool s', .int .u64 M', .int .i64 E']] w (PB w false) := by
  have HP := Lib.hid hp; have HQ := Lib.hid hq; clear hp hq
  go_enter Tryz.func60, Tryz.ntmps60
  go_upto_region 1 with (fail)
  generalize hW1 : w.alloc _ = w1 at *; obtain ⟨X1, HB⟩ := Bo.en1 hW1; clear hW1; have xX1 := X1.cell
  go_wp2_with fail
  refine (yMay HP.out).mono ?_; rintro ee w2 ⟨rfl, B⟩; clear xX1; replace X1 := X1.below B; replace HB := Hqb HB B; clear B; have xX1 := X1.cell
  go_wp2_with fail
  refine (yMay HQ.out).mono ?_; rintro ee w3 ⟨rfl, B⟩; clear xX1; replace X1 := X1.below B; replace HB := Hqb HB B; clear B; have xX1 := X1.cell
  go_upto_region 5 with (fail)
  clear xX1; refine Jo.rk [0, 1, 2, 3, 4, 5, 6, 7, 8, 9, 10, 11, 12, 13, 14, 15, 16, 17, 18, 19, 20, 21, 22, 23, 24] [some 16, some 17, some 18, some 19, some 20, some 21, some 22, some 23, some 24, some 25, some 26, some 27, some 28, some 29, some 30, some 31, some 32, some 33, some 34, some 35, some 36, some 37, some 38, some 39, some 2] [[], [0], [1], [1, 2], [3], [4], [4, 5], [4], [4, 7], [4, 6, 8], [4, 9], [4, 10], [11], [12], [12, 13], [12], [12, 14, 15], [12, 16], [17], [18], [18, 19], [18], [18, 20, 21], [18, 22], [23]] 25 0 [Jo.qb false, Jo.qb false, Jo.qu, Jo.qb false, Jo.qb false, Jo.qu, Jo.qu, Jo.qu, Jo.qu, Jo.qu, Jo.qu, Jo.qb false, Jo.qb false, Jo.qu, Jo.qu, Jo.qu, Jo.qu, Jo.qb false, Jo.qb false, Jo.qu, Jo.qu, Jo.qu, Jo.qu, Jo.qb false, Jo.qb false] (by kernel_rfl) (by kernel_rfl) (by decide) rfl ?_ ?_
  · iterate 25 (refine Jo.jm rfl ?_ ?_; rotate_left)
    exact Jo.Steps.nil
    all_goals (rintro wj hJ; (repeat rintro _ rfl); intro K hK; simp only [Jo.z] at hK ⊢; go_simp; exact hK.out _ _ rfl (br _ _))
  rintro w8 hJ _ rfl _ rfl _ rfl _ rfl _ rfl _ rfl _ rfl _ rfl _ rfl _ rfl _ rfl _ rfl _ rfl _ rfl _ rfl _ rfl _ rfl _ rfl _ rfl _ rfl _ rfl _ rfl _ rfl _ rfl _ rfl -; simp only [Jo.z]; replace X1 := X1.below hJ; replace HB := Hqb HB hJ; refine Jo.jdone (by kernel_rfl) ?_; go_wp2
  go_ret
  exact ⟨rfl, HB.out⟩
theorem jvmay_fq {w : World} {D M E D' M' E' : Int} {s s' : Bool} (hM : (M : Int) < 18446744073709551616) (hM' : (M' : Int) < 18446744073709551616) (hp : decide (MayQ D s M E) = true) (hq : decide (MayQ D' s' M' E') = false) : Calls Tryz.prog 60 #[.agg #[.bool false, .int .i64 D, .bool s, .int .u64 M, .int .i64 E, .int .i64 D', .bool s', .int .u64 M', .int .i64 E']] w (PB w false) := by
  have HP := Lib.hid hp; have HQ := Lib.hid hq; clear hp hq
  go_enter Tryz.func60, Tryz.ntmps60
  go_upto_region 1 with (fail)
  generalize hW1 : w.alloc _ = w1 at *; obtain ⟨X1, HB⟩ := Bo.en1 hW1; clear hW1; have xX1 := X1.cell
  go_wp2_with fail
  refine (yMay HP.out).mono ?_; rintro ee w2 ⟨rfl, B⟩; clear xX1; replace X1 := X1.below B; replace HB := Hqb HB B; clear B; have xX1 := X1.cell
  go_wp2_with fail
  refine (yMay HQ.out).mono ?_; rintro ee w3 ⟨rfl, B⟩; clear xX1; replace X1 := X1.below B; replace HB := Hqb HB B; clear B; have xX1 := X1.cell
  go_upto_region 5 with (fail)
  clear xX1; refine Jo.rk [0, 1, 2, 3, 4, 5, 6, 7, 8, 9, 10, 11, 12, 13, 14, 15, 16, 17, 18, 19, 20, 21, 22, 23, 24] [some 16, some 17, some 18, some 19, some 20, some 21, some 22, some 23, some 24, some 25, some 26, some 27, some 28, some 29, some 30, some 31, some 32, some 33, some 34, some 35, some 36, some 37, some 38, some 39, some 2] [[], [0], [1], [1, 2], [3], [4], [4, 5], [4], [4, 7], [4, 6, 8], [4, 9], [4, 10], [11], [12], [12, 13], [12], [12, 14, 15], [12, 16], [17], [18], [18, 19], [18], [18, 20, 21], [18, 22], [23]] 25 0 [Jo.qb true, Jo.qb true, Jo.qb false, Jo.qb false, Jo.qb false, Jo.qu, Jo.qu, Jo.qu, Jo.qu, Jo.qu, Jo.qu, Jo.qb false, Jo.qb false, Jo.qu, Jo.qu, Jo.qu, Jo.qu, Jo.qb false, Jo.qb false, Jo.qu, Jo.qu, Jo.qu, Jo.qu, Jo.qb false, Jo.qb false] (by kernel_rfl) (by kernel_rfl) (by decide) rfl ?_ ?_
  · iterate 25 (refine Jo.jm rfl ?_ ?_; rotate_left)
    exact Jo.Steps.nil
    all_goals (rintro wj hJ; (repeat rintro _ rfl); intro K hK; simp only [Jo.z] at hK ⊢; go_simp; exact hK.out _ _ rfl (br _ _))
  rintro w8 hJ _ rfl _ rfl _ rfl _ rfl _ rfl _ rfl _ rfl _ rfl _ rfl _ rfl _ rfl _ rfl _ rfl _ rfl _ rfl _ rfl _ rfl _ rfl _ rfl _ rfl _ rfl _ rfl _ rfl _ rfl _ rfl -; simp only [Jo.z]; replace X1 := X1.below hJ; replace HB := Hqb HB hJ; refine Jo.jdone (by kernel_rfl) ?_; go_wp2
  go_ret
  exact ⟨rfl, HB.out⟩
theorem jvmay_fc {w : World} {D M E D' M' E' c : Int} {s s' : Bool} (hM : (M : Int) < 18446744073709551616) (hM' : (M' : Int) < 18446744073709551616) (hp : decide (MayQ D s M E) = true) (hq : decide (MayQ D' s' M' E') = true) (hc : cmpI (rk D s M E) (rk D' s' M' E') = c) (hc0 : decide (c ≤ 0) = false) : Calls Tryz.prog 60 #[.agg #[.bool false, .int .i64 D, .bool s, .int .u64 M, .int .i64 E, .int .i64 D', .bool s', .int .u64 M', .int .i64 E']] w (PB w false) := by
  have HP := Lib.hid hp; have HQ := Lib.hid hq; have HC := Lib.hid hc; have HC0 := Lib.hid hc0; clear hp hq hc hc0
  go_enter Tryz.func60, Tryz.ntmps60
  go_upto_region 1 with (fail)
  generalize hW1 : w.alloc _ = w1 at *; obtain ⟨X1, HB⟩ := Bo.en1 hW1; clear hW1; have xX1 := X1.cell
  go_wp2_with fail
  refine (yMay HP.out).mono ?_; rintro ee w2 ⟨rfl, B⟩; clear xX1; replace X1 := X1.below B; replace HB := Hqb HB B; clear B; have xX1 := X1.cell
  go_wp2_with fail
  refine (yMay HQ.out).mono ?_; rintro ee w3 ⟨rfl, B⟩; clear xX1; replace X1 := X1.below B; replace HB := Hqb HB B; clear B; have xX1 := X1.cell
  go_upto_region 5 with (fail)
  clear xX1; refine Jo.rk [0, 1, 2, 3, 4, 5, 6, 7, 8, 9, 10, 11, 12, 13, 14, 15, 16, 17, 18, 19, 20, 21, 22, 23, 24] [some 16, some 17, some 18, some 19, some 20, some 21, some 22, some 23, some 24, some 25, some 26, some 27, some 28, some 29, some 30, some 31, some 32, some 33, some 34, some 35, some 36, some 37, some 38, some 39, some 2] [[], [0], [1], [1, 2], [3], [4], [4, 5], [4], [4, 7], [4, 6, 8], [4, 9], [4, 10], [11], [12], [12, 13], [12], [12, 14, 15], [12, 16], [17], [18], [18, 19], [18], [18, 20, 21], [18, 22], [23]] 25 0 [Jo.qb true, Jo.qb true, Jo.qb true, Jo.qb true, Jo.qb true, Jo.qp w.heap.size 1, Jo.q4 D s M E, Jo.qp w.heap.size 5, Jo.q4 D' s' M' E', Jo.qi c, Jo.qb false, Jo.qb false, Jo.qb false, Jo.qu, Jo.qu, Jo.qu, Jo.qu, Jo.qb false, Jo.qb false, Jo.qu, Jo.qu, Jo.qu, Jo.qu, Jo.qb false, Jo.qb false] (by kernel_rfl) (by kernel_rfl) (by decide) rfl ?_ ?_
  · iterate 9 (refine Jo.jm rfl ?_ ?_; rotate_left)
    refine Jo.jm rfl ?_ ?_
    · rintro wj hJ _ rfl _ rfl _ rfl K hK; simp only [Jo.z] at hK ⊢; go_simp; refine (yCmp hM hM' HC.out).mono ?_; rintro ee wk ⟨rfl, B⟩; exact hK.out _ _ rfl B
    refine Jo.jm rfl ?_ ?_
    · rintro wj hJ _ rfl _ rfl K hK; simp only [Jo.z] at hK ⊢; have hc0 := HC0.out; go_simp
      exact hK.out _ _ (by first | rfl | (show Value.bool _ = Value.bool _; rw [hc0]) | simp_all) (br _ _)
    iterate 14 (refine Jo.jm rfl ?_ ?_; rotate_left)
    exact Jo.Steps.nil
    all_goals (rintro wj hJ; (repeat rintro _ rfl); intro K hK; simp only [Jo.z] at hK ⊢; have xX1 := (X1.below hJ).cell; go_simp; exact hK.out _ _ rfl (br _ _))
  rintro w8 hJ _ rfl _ rfl _ rfl _ rfl _ rfl _ _ _ rfl _ _ _ rfl _ rfl _ rfl _ rfl _ rfl _ rfl _ rfl _ rfl _ rfl _ rfl _ rfl _ rfl _ rfl _ rfl _ rfl _ rfl _ rfl -; simp only [Jo.z]; replace X1 := X1.below hJ; replace HB := Hqb HB hJ; refine Jo.jdone (by kernel_rfl) ?_; go_wp2
  go_ret
  exact ⟨rfl, HB.out⟩
theorem jvmay_ft {w : World} {D' M' E' c : Int} {s' : Bool} (hM : (0 : Int) < 18446744073709551616) (hM' : (M' : Int) < 18446744073709551616) (hq : decide (MayQ D' s' M' E') = true) (hc : cmpI (rk 2 false 0 0) (rk D' s' M' E') = c) (hc0 : decide (c ≤ 0) = true) : Calls Tryz.prog 60 #[.agg #[.bool false, .int .i64 2, .bool false, .int .u64 0, .int .i64 0, .int .i64 D', .bool s', .int .u64 M', .int .i64 E']] w (PB w false) := by
  have HP : Hid (decide (MayQ 2 false 0 0) = true) := Lib.hid (by decide)
  have HN1 := Lib.hid trivial; have HQ := Lib.hid hq; have HC := Lib.hid hc; have HC0 := Lib.hid hc0; clear hq hc hc0
  go_enter Tryz.func60, Tryz.ntmps60
  go_upto_region 1 with (fail)
  generalize hW1 : w.alloc _ = w1 at *; obtain ⟨X1, HB⟩ := Bo.en1 hW1; clear hW1; have xX1 := X1.cell
  go_wp2_with fail
  refine (yMay HP.out).mono ?_; rintro ee w2 ⟨rfl, B⟩; clear xX1; replace X1 := X1.below B; replace HB := Hqb HB B; clear B; have xX1 := X1.cell
  go_wp2_with fail
  refine (yMay HQ.out).mono ?_; rintro ee w3 ⟨rfl, B⟩; clear xX1; replace X1 := X1.below B; replace HB := Hqb HB B; clear B; have xX1 := X1.cell
  go_upto_region 5 with (fail)
  clear xX1; refine Jo.rk [0, 1, 2, 3, 4, 5, 6, 7, 8, 9, 10, 11, 12, 13, 14, 15, 16, 17, 18, 19, 20, 21, 22, 23, 24] [some 16, some 17, some 18, some 19, some 20, some 21, some 22, some 23, some 24, some 25, some 26, some 27, some 28, some 29, some 30, some 31, some 32, some 33, some 34, some 35, some 36, some 37, some 38, some 39, some 2] [[], [0], [1], [1, 2], [3], [4], [4, 5], [4], [4, 7], [4, 6, 8], [4, 9], [4, 10], [11], [12], [12, 13], [12], [12, 14, 15], [12, 16], [17], [18], [18, 19], [18], [18, 20, 21], [18, 22], [23]] 25 0 [Jo.qb true, Jo.qb true, Jo.qb true, Jo.qb true, Jo.qb true, Jo.qp w.heap.size 1, Jo.q4 2 false 0 0, Jo.qp w.heap.size 5, Jo.q4 D' s' M' E', Jo.qi c, Jo.qb true, Jo.qb true, Jo.qb true, Jo.qp w.heap.size 1, Jo.q4 2 false 0 0, Jo.q4 2 false 0 0, Jo.qb false, Jo.qb false, Jo.qb false, Jo.qu, Jo.qu, Jo.qu, Jo.qu, Jo.qb false, Jo.qb false] (by kernel_rfl) (by kernel_rfl) (by decide) rfl ?_ ?_
  · iterate 9 (refine Jo.jm rfl ?_ ?_; rotate_left)
    refine Jo.jm rfl ?_ ?_
    · rintro wj hJ _ rfl _ rfl _ rfl K hK; simp only [Jo.z] at hK ⊢; go_simp; refine (yCmp hM hM' HC.out).mono ?_; rintro ee wk ⟨rfl, B⟩; exact hK.out _ _ rfl B
    refine Jo.jm rfl ?_ ?_
    · rintro wj hJ _ rfl _ rfl K hK; simp only [Jo.z] at hK ⊢; have hc0 := HC0.out; go_simp
      exact hK.out _ _ (by first | rfl | (show Value.bool _ = Value.bool _; rw [hc0]) | simp_all) (br _ _)
    iterate 4 (refine Jo.jm rfl ?_ ?_; rotate_left)
    refine Jo.jm rfl ?_ ?_
    · rintro wj hJ _ rfl K hK; simp only [Jo.z] at hK ⊢; go_simp; refine (yInfE false).mono ?_; rintro ee wk ⟨rfl, B⟩; exact hK.out _ _ rfl B
    refine Jo.jm rfl ?_ ?_
    · rintro wj hJ _ rfl _ rfl _ rfl K hK; simp only [Jo.z] at hK ⊢; have hne := HN1.out; go_simp
      repeat' split
      all_goals exact hK.out _ _ (congrArg Value.bool (by first | rfl | (exfalso; simp_all))) (br _ _)
    iterate 8 (refine Jo.jm rfl ?_ ?_; rotate_left)
    exact Jo.Steps.nil
    all_goals (rintro wj hJ; (repeat rintro _ rfl); intro K hK; simp only [Jo.z] at hK ⊢; have xX1 := (X1.below hJ).cell; go_simp; exact hK.out _ _ rfl (br _ _))
  rintro w8 hJ _ rfl _ rfl _ rfl _ rfl _ rfl _ _ _ rfl _ _ _ rfl _ rfl _ rfl _ rfl _ rfl _ _ _ rfl _ rfl _ rfl _ rfl _ rfl _ rfl _ rfl _ rfl _ rfl _ rfl _ rfl -; simp only [Jo.z]; replace X1 := X1.below hJ; replace HB := Hqb HB hJ; refine Jo.jdone (by kernel_rfl) ?_; go_wp2
  go_ret
  exact ⟨rfl, HB.out⟩
theorem jvmay_fb {w : World} {D M E c : Int} {s : Bool} (hM : (M : Int) < 18446744073709551616) (hM' : (0 : Int) < 18446744073709551616) (hp : decide (MayQ D s M E) = true) (hc : cmpI (rk D s M E) (rk 2 true 0 0) = c) (hc0 : decide (c ≤ 0) = true) (h1 : ¬ (D = 2 ∧ s = false ∧ M = 0 ∧ E = 0)) : Calls Tryz.prog 60 #[.agg #[.bool false, .int .i64 D, .bool s, .int .u64 M, .int .i64 E, .int .i64 2, .bool true, .int .u64 0, .int .i64 0]] w (PB w false) := by
  have HQ : Hid (decide (MayQ 2 true 0 0) = true) := Lib.hid (by decide)
  have HN2 := Lib.hid trivial; have HP := Lib.hid hp; have HC := Lib.hid hc; have HC0 := Lib.hid hc0; have HN1 := Lib.hid h1; clear hp hc hc0 h1
  go_enter Tryz.func60, Tryz.ntmps60
  go_upto_region 1 with (fail)
  generalize hW1 : w.alloc _ = w1 at *; obtain ⟨X1, HB⟩ := Bo.en1 hW1; clear hW1; have xX1 := X1.cell
  go_wp2_with fail
  refine (yMay HP.out).mono ?_; rintro ee w2 ⟨rfl, B⟩; clear xX1; replace X1 := X1.below B; replace HB := Hqb HB B; clear B; have xX1 := X1.cell
  go_wp2_with fail
  refine (yMay HQ.out).mono ?_; rintro ee w3 ⟨rfl, B⟩; clear xX1; replace X1 := X1.below B; replace HB := Hqb HB B; clear B; have xX1 := X1.cell
  go_upto_region 5 with (fail)
  clear xX1; refine Jo.rk [0, 1, 2, 3, 4, 5, 6, 7, 8, 9, 10, 11, 12, 13, 14, 15, 16, 17, 18, 19, 20, 21, 22, 23, 24] [some 16, some 17, some 18, some 19, some 20, some 21, some 22, some 23, some 24, some 25, some 26, some 27, some 28, some 29, some 30, some 31, some 32, some 33, some 34, some 35, some 36, some 37, some 38, some 39, some 2] [[], [0], [1], [1, 2], [3], [4], [4, 5], [4], [4, 7], [4, 6, 8], [4, 9], [4, 10], [11], [12], [12, 13], [12], [12, 14, 15], [12, 16], [17], [18], [18, 19], [18], [18, 20, 21], [18, 22], [23]] 25 0 [Jo.qb true, Jo.qb true, Jo.qb true, Jo.qb true, Jo.qb true, Jo.qp w.heap.size 1, Jo.q4 D s M E, Jo.qp w.heap.size 5, Jo.q4 2 true 0 0, Jo.qi c, Jo.qb true, Jo.qb true, Jo.qb true, Jo.qp w.heap.size 1, Jo.q4 D s M E, Jo.q4 2 false 0 0, Jo.qb true, Jo.qb true, Jo.qb true, Jo.qp w.heap.size 5, Jo.q4 2 true 0 0, Jo.q4 2 true 0 0, Jo.qb false, Jo.qb false, Jo.qb false] (by kernel_rfl) (by kernel_rfl) (by decide) rfl ?_ ?_
  · iterate 9 (refine Jo.jm rfl ?_ ?_; rotate_left)
    refine Jo.jm rfl ?_ ?_
    · rintro wj hJ _ rfl _ rfl _ rfl K hK; simp only [Jo.z] at hK ⊢; go_simp; refine (yCmp hM hM' HC.out).mono ?_; rintro ee wk ⟨rfl, B⟩; exact hK.out _ _ rfl B
    refine Jo.jm rfl ?_ ?_
    · rintro wj hJ _ rfl _ rfl K hK; simp only [Jo.z] at hK ⊢; have hc0 := HC0.out; go_simp
      exact hK.out _ _ (by first | rfl | (show Value.bool _ = Value.bool _; rw [hc0]) | simp_all) (br _ _)
    iterate 4 (refine Jo.jm rfl ?_ ?_; rotate_left)
    refine Jo.jm rfl ?_ ?_
    · rintro wj hJ _ rfl K hK; simp only [Jo.z] at hK ⊢; go_simp; refine (yInfE false).mono ?_; rintro ee wk ⟨rfl, B⟩; exact hK.out _ _ rfl B
    refine Jo.jm rfl ?_ ?_
    · rintro wj hJ _ rfl _ rfl _ rfl K hK; simp only [Jo.z] at hK ⊢; have hne := HN1.out; go_simp
      repeat' split
      all_goals exact hK.out _ _ (congrArg Value.bool (by first | rfl | (exfalso; simp_all))) (br _ _)
    iterate 4 (refine Jo.jm rfl ?_ ?_; rotate_left)
    refine Jo.jm rfl ?_ ?_
    · rintro wj hJ _ rfl K hK; simp only [Jo.z] at hK ⊢; go_simp; refine (yInfE true).mono ?_; rintro ee wk ⟨rfl, B⟩; exact hK.out _ _ rfl B
    refine Jo.jm rfl ?_ ?_
    · rintro wj hJ _ rfl _ rfl _ rfl K hK; simp only [Jo.z] at hK ⊢; have hne := HN2.out; go_simp
      repeat' split
      all_goals exact hK.out _ _ (congrArg Value.bool (by first | rfl | (exfalso; simp_all))) (br _ _)
    iterate 2 (refine Jo.jm rfl ?_ ?_; rotate_left)
    exact Jo.Steps.nil
    all_goals (rintro wj hJ; (repeat rintro _ rfl); intro K hK; simp only [Jo.z] at hK ⊢; have xX1 := (X1.below hJ).cell; go_simp; exact hK.out _ _ rfl (br _ _))
  rintro w8 hJ _ rfl _ rfl _ rfl _ rfl _ rfl _ _ _ rfl _ _ _ rfl _ rfl _ rfl _ rfl _ rfl _ _ _ rfl _ rfl _ rfl _ rfl _ rfl _ _ _ rfl _ rfl _ rfl _ rfl _ rfl -; simp only [Jo.z]; replace X1 := X1.below hJ; replace HB := Hqb HB hJ; refine Jo.jdone (by kernel_rfl) ?_; go_wp2
  go_ret
  exact ⟨rfl, HB.out⟩
theorem jvmay_fy {w : World} {D M E D' M' E' c : Int} {s s' : Bool} (hM : (M : Int) < 18446744073709551616) (hM' : (M' : Int) < 18446744073709551616) (hp : decide (MayQ D s M E) = true) (hq : decide (MayQ D' s' M' E') = true) (hc : cmpI (rk D s M E) (rk D' s' M' E') = c) (hc0 : decide (c ≤ 0) = true) (h1 : ¬ (D = 2 ∧ s = false ∧ M = 0 ∧ E = 0)) (h2 : ¬ (D' = 2 ∧ s' = true ∧ M' = 0 ∧ E' = 0)) : Calls Tryz.prog 60 #[.agg #[.bool false, .int .i64 D, .bool s, .int .u64 M, .int .i64 E, .int .i64 D', .bool s', .int .u64 M', .int .i64 E']] w (PB w true) := by
  have HP := Lib.hid hp; have HQ := Lib.hid hq; have HC := Lib.hid hc; have HC0 := Lib.hid hc0; have HN1 := Lib.hid h1; have HN2 := Lib.hid h2; clear hp hq hc hc0 h1 h2
  go_enter Tryz.func60, Tryz.ntmps60
  go_upto_region 1 with (fail)
  generalize hW1 : w.alloc _ = w1 at *; obtain ⟨X1, HB⟩ := Bo.en1 hW1; clear hW1; have xX1 := X1.cell
  go_wp2_with fail
  refine (yMay HP.out).mono ?_; rintro ee w2 ⟨rfl, B⟩; clear xX1; replace X1 := X1.below B; replace HB := Hqb HB B; clear B; have xX1 := X1.cell
  go_wp2_with fail
  refine (yMay HQ.out).mono ?_; rintro ee w3 ⟨rfl, B⟩; clear xX1; replace X1 := X1.below B; replace HB := Hqb HB B; clear B; have xX1 := X1.cell
  go_upto_region 5 with (fail)
  clear xX1; refine Jo.rk [0, 1, 2, 3, 4, 5, 6, 7, 8, 9, 10, 11, 12, 13, 14, 15, 16, 17, 18, 19, 20, 21, 22, 23, 24] [some 16, some 17, some 18, some 19, some 20, some 21, some 22, some 23, some 24, some 25, some 26, some 27, some 28, some 29, some 30, some 31, some 32, some 33, some 34, some 35, some 36, some 37, some 38, some 39, some 2] [[], [0], [1], [1, 2], [3], [4], [4, 5], [4], [4, 7], [4, 6, 8], [4, 9], [4, 10], [11], [12], [12, 13], [12], [12, 14, 15], [12, 16], [17], [18], [18, 19], [18], [18, 20, 21], [18, 22], [23]] 25 0 [Jo.qb true, Jo.qb true, Jo.qb true, Jo.qb true, Jo.qb true, Jo.qp w.heap.size 1, Jo.q4 D s M E, Jo.qp w.heap.size 5, Jo.q4 D' s' M' E', Jo.qi c, Jo.qb true, Jo.qb true, Jo.qb true, Jo.qp w.heap.size 1, Jo.q4 D s M E, Jo.q4 2 false 0 0, Jo.qb true, Jo.qb true, Jo.qb true, Jo.qp w.heap.size 5, Jo.q4 D' s' M' E', Jo.q4 2 true 0 0, Jo.qb true, Jo.qb true, Jo.qb true] (by kernel_rfl) (by kernel_rfl) (by decide) rfl ?_ ?_
  · iterate 9 (refine Jo.jm rfl ?_ ?_; rotate_left)
    refine Jo.jm rfl ?_ ?_
    · rintro wj hJ _ rfl _ rfl _ rfl K hK; simp only [Jo.z] at hK ⊢; go_simp; refine (yCmp hM hM' HC.out).mono ?_; rintro ee wk ⟨rfl, B⟩; exact hK.out _ _ rfl B
    refine Jo.jm rfl ?_ ?_
    · rintro wj hJ _ rfl _ rfl K hK; simp only [Jo.z] at hK ⊢; have hc0 := HC0.out; go_simp
      exact hK.out _ _ (by first | rfl | (show Value.bool _ = Value.bool _; rw [hc0]) | simp_all) (br _ _)
    iterate 4 (refine Jo.jm rfl ?_ ?_; rotate_left)
    refine Jo.jm rfl ?_ ?_
    · rintro wj hJ _ rfl K hK; simp only [Jo.z] at hK ⊢; go_simp; refine (yInfE false).mono ?_; rintro ee wk ⟨rfl, B⟩; exact hK.out _ _ rfl B
    refine Jo.jm rfl ?_ ?_
    · rintro wj hJ _ rfl _ rfl _ rfl K hK; simp only [Jo.z] at hK ⊢; have hne := HN1.out; go_simp
      repeat' split
      all_goals exact hK.out _ _ (congrArg Value.bool (by first | rfl | (exfalso; simp_all))) (br _ _)
    iterate 4 (refine Jo.jm rfl ?_ ?_; rotate_left)
    refine Jo.jm rfl ?_ ?_
    · rintro wj hJ _ rfl K hK; simp only [Jo.z] at hK ⊢; go_simp; refine (yInfE true).mono ?_; rintro ee wk ⟨rfl, B⟩; exact hK.out _ _ rfl B
    refine Jo.jm rfl ?_ ?_
    · rintro wj hJ _ rfl _ rfl _ rfl K hK; simp only [Jo.z] at hK ⊢; have hne := HN2.out; go_simp
      repeat' split
      all_goals exact hK.out _ _ (congrArg Value.bool (by first | rfl | (exfalso; simp_all))) (br _ _)
    iterate 2 (refine Jo.jm rfl ?_ ?_; rotate_left)
    exact Jo.Steps.nil
    all_goals (rintro wj hJ; (repeat rintro _ rfl); intro K hK; simp only [Jo.z] at hK ⊢; have xX1 := (X1.below hJ).cell; go_simp; exact hK.out _ _ rfl (br _ _))
  rintro w8 hJ _ rfl _ rfl _ rfl _ rfl _ rfl _ _ _ rfl _ _ _ rfl _ rfl _ rfl _ rfl _ rfl _ _ _ rfl _ rfl _ rfl _ rfl _ rfl _ _ _ rfl _ rfl _ rfl _ rfl _ rfl -; simp only [Jo.z]; replace X1 := X1.below hJ; replace HB := Hqb HB hJ; refine Jo.jdone (by kernel_rfl) ?_; go_wp2
  go_ret
  exact ⟨rfl, HB.out⟩
theorem rk_top {D : Int} {s : Bool} {M E : Int} (hM : M < 18446744073709551616) (h : MayQ D s M E) (b : Bool) : rk D s M E = sgi b TP ↔ (D = 2 ∧ s = b ∧ M = 0 ∧ E = 0) := by
  constructor
  · intro e
    have q := rk_fq hM h; rw [e] at q; exact q.uniq (fq_inf2 b)
  · rintro ⟨rfl, rfl, rfl, rfl⟩; exact (fq_inf2 s).rk
theorem jvMay {w : World} {e : Bool} {D M E D' M' E' : Int} {s s' : Bool} {r : Bool} (hM : M < 18446744073709551616) (hM' : M' < 18446744073709551616) (hr : mayI e D s M E D' s' M' E' = r) : Calls Tryz.prog 60 #[.agg #[.bool e, .int .i64 D, .bool s, .int .u64 M, .int .i64 E, .int .i64 D', .bool s', .int .u64 M', .int .i64 E']] w (PB w r) := by
  cases e
  · have e0 : decide (rkI false D s M E D' s' M' E' ≠ none) = r := by rw [← hr]; exact (if_neg ff).symm
    rw [rkI_f] at e0
    by_cases hp : MayQ D s M E
    · by_cases hq : MayQ D' s' M' E'
      · rw [if_pos ⟨hp, hq⟩] at e0; have b1 := (rk_fq hM hp).bd; have b2 := (rk_fq hM' hq).bd; have t1 := rk_top hM hp false; have t2 := rk_top hM' hq true
        have tf : sgi false TP = 19342822337206103650074625 := rfl
        have tt : sgi true TP = -19342822337206103650074625 := rfl
        rw [tf] at t1; rw [tt] at t2; have hpd := decide_eq_true hp; have hqd := decide_eq_true hq
        by_cases hc : rk D s M E ≤ rk D' s' M' E'
        · have hc0 : decide (cmpI (rk D s M E) (rk D' s' M' E') ≤ 0) = true := decide_eq_true (by rcases cmpI_tri (rk D s M E) (rk D' s' M' E') with ⟨a, b⟩ | ⟨a, b⟩ | ⟨a, b⟩ <;> rw [b] <;> omega)
          by_cases h1 : D = 2 ∧ s = false ∧ M = 0 ∧ E = 0
          · have k1 := t1.2 h1; rw [mkI_none (by omega)] at e0
            obtain rfl : false = r := e0
            obtain ⟨rfl, rfl, rfl, rfl⟩ := h1; exact jvmay_ft hM hM' hqd rfl hc0
          · have k1 : rk D s M E ≠ 19342822337206103650074625 := fun c => h1 (t1.1 c)
            by_cases h2 : D' = 2 ∧ s' = true ∧ M' = 0 ∧ E' = 0
            · have k2 := t2.2 h2; rw [mkI_none (by omega)] at e0
              obtain rfl : false = r := e0
              obtain ⟨rfl, rfl, rfl, rfl⟩ := h2; exact jvmay_fb hM hM' hpd rfl hc0 h1
            · have k2 : rk D' s' M' E' ≠ -19342822337206103650074625 := fun c => h2 (t2.1 c)
              rw [mkI_some hc (by omega) (by omega)] at e0
              obtain rfl : true = r := e0
              exact jvmay_fy hM hM' hpd hqd rfl hc0 h1 h2
        · rw [mkI_none (fun c => hc c.1)] at e0
          obtain rfl : false = r := e0
          exact jvmay_fc hM hM' hpd hqd rfl (decide_eq_false (by rcases cmpI_tri (rk D s M E) (rk D' s' M' E') with ⟨a, b⟩ | ⟨a, b⟩ | ⟨a, b⟩ <;> rw [b] <;> omega))
      · rw [if_neg (fun c => hq c.2)] at e0
        obtain rfl : false = r := e0
        exact jvmay_fq hM hM' (decide_eq_true hp) (decide_eq_false hq)
    · rw [if_neg (fun c => hp c.1)] at e0
      obtain rfl : false = r := e0
      exact jvmay_fp hM hM' (decide_eq_false hp) rfl
  · exact jvmay_t hr
theorem jvFair {w : World} {e : Bool} {D M E D' M' E' : Int} {s s' : Bool} {x : Sp} (hM : M < 18446744073709551616) (hM' : M' < 18446744073709551616) (hr : rkI e D s M E D' s' M' E' = x) : Calls Tryz.prog 38 #[.agg #[.bool e, .int .i64 D, .bool s, .int .u64 M, .int .i64 E, .int .i64 D', .bool s', .int .u64 M', .int .i64 E']] w (PV w x) := by
  cases hm : mayI e D s M E D' s' M' E'
  · obtain rfl : none = x := (mayI_no hm).symm.trans hr
    have HM := Lib.hid hm; clear hm hr
    go_enter Tryz.func38, Tryz.ntmps38
    go_upto_region 1 with (fail)
    generalize hW1 : (w.alloc _).alloc _ = w1 at *; obtain ⟨X1, XR, HB⟩ := Bo.en2 hW1; clear hW1; have xX1 := X1.cell
    go_wp2_with fail
    refine (jvMay hM hM' HM.out).mono ?_; rintro ee w2 ⟨rfl, B⟩; clear xX1; replace X1 := X1.below B; replace XR := XR.below B; replace HB := Hqb HB B; clear B; clear HM hM hM'
    go_wp2_with fail
    refine (jvNoneE).mono ?_; rintro ee w3 ⟨rfl, B⟩; replace X1 := X1.below B; replace XR := XR.below B; replace HB := Hqb HB B; clear B; have xXR := XR.cell; have zXR0 := XR.frozen; go_wp2; clear xXR zXR0; have SX := StN.mk9 XR (.bool true) (.int .i64 0) (.bool false) (.int .u64 0) (.int .i64 0) (.int .i64 0) (.bool false) (.int .u64 0) (.int .i64 0)
    exact bodyPost_ret (by simp [results, Tryz.results38, go_sem, SX.box.cell]) rfl ⟨_, _, _, _, _, _, _, _, _, rfl, Ci.none, (SX.below HB.out (by omega))⟩
  · have hv := mayI_ci hM hM' hm; rw [hr] at hv; have HM := Lib.hid hm; clear hm hr
    go_enter Tryz.func38, Tryz.ntmps38
    go_upto_region 1 with (fail)
    generalize hW1 : (w.alloc _).alloc _ = w1 at *; obtain ⟨X1, XR, HB⟩ := Bo.en2 hW1; clear hW1; have xX1 := X1.cell
    go_wp2_with fail
    refine (jvMay hM hM' HM.out).mono ?_; rintro ee w2 ⟨rfl, B⟩; clear xX1; replace X1 := X1.below B; replace XR := XR.below B; replace HB := Hqb HB B; clear B; clear HM hM hM'; have xXR := XR.cell; have zXR0 := XR.frozen; have xX1 := X1.cell; go_wp2
    clear xXR zXR0 xX1; have SX := StN.mk9 XR (.bool e) (.int .i64 D) (.bool s) (.int .u64 M) (.int .i64 E) (.int .i64 D') (.bool s') (.int .u64 M') (.int .i64 E'); exact bodyPost_ret (by simp [results, Tryz.results38, go_sem, SX.box.cell]) rfl ⟨_, _, _, _, _, _, _, _, _, rfl, hv, (SX.below HB.out (by omega))⟩
def Jo.Fact.ir (x : Sp) : Jo.Fact := ⟨fun v w => ∃ e K s M E K' s' M' E', v = .agg #[.bool e, .int .i64 K, .bool s, .int .u64 M, .int .i64 E, .int .i64 K', .bool s', .int .u64 M', .int .i64 E'] ∧ M < 18446744073709551616 ∧ M' < 18446744073709551616 ∧ rkI e K s M E K' s' M' E' = x, fun v w w' h b => h⟩
theorem rkI_mk {K M E K' M' E' : Int} {s s' : Bool} {a b : Int} {x : Sp} (q : Fq K s M E a) (q' : Fq K' s' M' E' b) (hx : mkI a b = x) : rkI false K s M E K' s' M' E' = x := by
  rw [rkI_f, if_pos ⟨q.1, q'.1⟩, q.rk, q'.rk, hx]
theorem jvMake {w : World} {D D' M M' E E' : Int} {s s' : Bool} {a b : Int} {x : Sp} (hM : M < 18446744073709551616) (hM' : M' < 18446744073709551616) (ha : rk D s M E = a) (hb : rk D' s' M' E' = b) (hx : mkI a b = x) : Calls Tryz.prog 41 #[.agg #[.int .i64 D, .bool s, .int .u64 M, .int .i64 E], .agg #[.int .i64 D', .bool s', .int .u64 M', .int .i64 E']] w (PV w x) := by
  have HA := Lib.hid ha; have HBB := Lib.hid hb; have HX := Lib.hid hx; clear ha hb hx
  go_enter Tryz.func41, Tryz.ntmps41
  go_upto_region 1 with (fail)
  generalize hW1 : ((w.alloc _).alloc _).alloc _ = w1 at *; obtain ⟨X2, X3, XR, HB⟩ := Bo.en3 hW1; clear hW1; refine Jo.rk [0, 1, 2, 3, 4, 5] [some 5, some 6, some 7, some 8, some 9, some 10, none] [[], [0], [], [2], [1, 3], [4], []] 7 1 [Jo.q4 D s M E, Jo.Fact.num a, Jo.q4 D' s' M' E', Jo.Fact.num b, Jo.Fact.ir x, Jo.Fact.iv x, Jo.Fact.any] (by kernel_rfl) (by kernel_rfl) (by decide) rfl ?_ ?_
  · refine Jo.jm rfl ?_ ?_; rotate_left
    refine Jo.jm rfl ?_ ?_
    · rintro wj hJ _ rfl K hK; simp only [Jo.z] at hK ⊢; go_simp; refine (gFair hM HA.out).mono ?_; rintro ee wk ⟨K1, s1, M1, E1, rfl, q1, B⟩; exact hK.out _ _ ⟨K1, s1, M1, E1, rfl, q1⟩ B
    refine Jo.jm rfl ?_ ?_; rotate_left
    refine Jo.jm rfl ?_ ?_
    · rintro wj hJ _ rfl K hK; simp only [Jo.z] at hK ⊢; go_simp; refine (gFair hM' HBB.out).mono ?_; rintro ee wk ⟨K2, s2, M2, E2, rfl, q2, B⟩; exact hK.out _ _ ⟨K2, s2, M2, E2, rfl, q2⟩ B
    refine Jo.jm rfl ?_ ?_
    · rintro wj hJ _ ⟨K1, s1, M1, E1, rfl, q1⟩ _ ⟨K2, s2, M2, E2, rfl, q2⟩ K hK; simp only [Jo.z] at hK ⊢; go_simp; exact hK.out _ _ ⟨_, _, _, _, _, _, _, _, _, rfl, q1.top, q2.top, rkI_mk q1 q2 HX.out⟩ (br _ _)
    refine Jo.jm rfl ?_ ?_
    · rintro wj hJ _ ⟨e4, K4, s4, M4, E4, K4b, s4b, M4b, E4b, rfl, m4, m4b, r4⟩ K hK; simp only [Jo.z] at hK ⊢; go_simp; refine (jvFair m4 m4b r4).mono ?_; rintro ee wk ⟨e5, K5, s5, M5, E5, K5b, s5b, M5b, E5b, rfl, v5, B⟩; exact hK.out _ _ ⟨e5, K5, s5, M5, E5, K5b, s5b, M5b, E5b, rfl, v5⟩ B
    exact Jo.Steps.nil
    all_goals (rintro wj hJ; (repeat rintro _ rfl); intro K hK; simp only [Jo.z] at hK ⊢; have xX2 := (X2.below hJ).cell; have xX3 := (X3.below hJ).cell; go_simp; exact hK.out _ _ rfl (br _ _))
  rintro w8 hJ _ rfl _ ⟨K1, s1, M1, E1, rfl, q1⟩ _ rfl _ ⟨K2, s2, M2, E2, rfl, q2⟩ _ ⟨_, _, _, _, _, _, _, _, _, rfl, _⟩ _ ⟨e5, K5, s5, M5, E5, K5b, s5b, M5b, E5b, rfl, v5⟩ -; simp only [Jo.z]; replace X2 := X2.below hJ; replace X3 := X3.below hJ; replace XR := XR.below hJ; replace HB := Hqb HB hJ; have xXR := XR.cell; have zXR0 := XR.frozen
  refine Jo.jnext (i := 6) (o := ⟨none, _, _, _, _, _⟩) (by kernel_rfl) rfl (fun K hK => ?_)
  go_simp; refine hK.out _ _ ?_; clear hK K xXR zXR0; have SX := StN.mk9 XR (.bool e5) (.int .i64 K5) (.bool s5) (.int .u64 M5) (.int .i64 E5) (.int .i64 K5b) (.bool s5b) (.int .u64 M5b) (.int .i64 E5b); refine Jo.jdone (by kernel_rfl) ?_; go_wp2; exact bodyPost_ret (by simp [results, Tryz.results41, go_sem, SX.box.cell]) rfl ⟨_, _, _, _, _, _, _, _, _, rfl, v5, (SX.below HB.out (by omega))⟩
end Go.Proofs.YtpnmphofengoeaaGreatDoor

namespace Go.Proofs.YtpnmphofengoeaaGreatDoor
open Go.RowKit
set_option linter.unusedVariables false
set_option linter.unusedSimpArgs false
set_option maxRecDepth 100000

theorem Nl.lit2 {W : World} {g : Nat} {D1 D2 M1 M2 E1 E2 r1 r2 : Int} {s1 s2 : Bool} (hg : W.heap.size = g) (h1 : M1 < 18446744073709551616) (h2 : M2 < 18446744073709551616) (k1 : rk D1 s1 M1 E1 = r1) (k2 : rk D2 s2 M2 E2 = r2) :
    Nl (W.alloc (.cells #[.int .i64 D1, .bool s1, .int .u64 M1, .int .i64 E1, .int .i64 D2, .bool s2, .int .u64 M2, .int .i64 E2] 32)) (some ⟨g, 0, none⟩) 2 2 [r1, r2] := by
  subst hg; have hh := heap_alloc_new W (.cells #[.int .i64 D1, .bool s1, .int .u64 M1, .int .i64 E1, .int .i64 D2, .bool s2, .int .u64 M2, .int .i64 E2] 32)
  refine ⟨rfl, Nat.le_refl _, by decide, fun _ => ⟨_, 0, rfl, fun k hk => ?_⟩⟩
  rcases (by omega : k = 0 ∨ k = 1) with rfl | rfl
  · exact ⟨D1, s1, M1, E1, by rw [cell_of_row _ _ _ _ _ _ hh]; rfl, by rw [cell_of_row _ _ _ _ _ _ hh]; rfl, by rw [cell_of_row _ _ _ _ _ _ hh]; rfl, by rw [cell_of_row _ _ _ _ _ _ hh]; rfl, h1, k1⟩
  · exact ⟨D2, s2, M2, E2, by rw [cell_of_row _ _ _ _ _ _ hh]; rfl, by rw [cell_of_row _ _ _ _ _ _ hh]; rfl, by rw [cell_of_row _ _ _ _ _ _ hh]; rfl, by rw [cell_of_row _ _ _ _ _ _ hh]; rfl, h2, k2⟩
theorem mnp_two {a b : Int} (ha : a ≤ 19342822337206103650074625) : mnp [a, b] = min a b := by
  have := TP_eq
  show min (min TP a) b = _
  omega
theorem mxp_two {a b : Int} (ha : -19342822337206103650074625 ≤ a) : mxp [a, b] = max a b := by
  have := TP_eq
  show max (max (-TP) a) b = _
  omega
end Go.Proofs.YtpnmphofengoeaaGreatDoor

namespace Go.Proofs.YtpnmphofengoeaaGreatDoor
set_option maxHeartbeats 4000000
open Go.RowKit
set_option linter.unusedVariables false
set_option linter.unusedSimpArgs false
set_option maxRecDepth 100000

theorem nInfE {w : World} (s : Bool) : Calls Tryz.prog 20 #[.bool s] w (fun e w' => e = .returned (.agg #[.int .i64 2, .bool s, .int .u64 0, .int .i64 0]) ∧ Below w.heap.size w w') := by
  refine (nInf (s := s) rfl).mono ?_; rintro ee w2 ⟨K, s1, M, E, rfl, q, B⟩; obtain ⟨rfl, rfl, rfl, rfl⟩ := q.uniq (fq_inf2 s); exact ⟨rfl, B⟩
theorem cmp_gtE {x y c : Int} (h : cmpI x y = c) : decide (0 < c) = decide (y < x) := by
  rw [← h]
  by_cases e : y < x
  · rw [decide_eq_true e]
    exact decide_eq_true (by rcases cmpI_tri x y with ⟨a, b⟩ | ⟨a, b⟩ | ⟨a, b⟩ <;> rw [b] <;> omega)
  · rw [decide_eq_false e]
    exact decide_eq_false (by rcases cmpI_tri x y with ⟨a, b⟩ | ⟨a, b⟩ | ⟨a, b⟩ <;> rw [b] <;> omega)
theorem kvNone {w : World}  : Calls Tryz.prog 35 #[] w (PV w none) := by
  go_enter Tryz.func35, Tryz.ntmps35
  go_upto_region 1 with (fail)
  generalize hW1 : w.alloc _ = w1 at *; obtain ⟨XR, HB⟩ := Bo.en1 hW1; clear hW1; have xXR := XR.cell; have zXR0 := XR.frozen; go_wp2; clear xXR zXR0; have SX := StN.mk9 XR (.bool true) (.int .i64 0) (.bool false) (.int .u64 0) (.int .i64 0) (.int .i64 0) (.bool false) (.int .u64 0) (.int .i64 0); exact bodyPost_ret (by simp [results, Tryz.results35, go_sem, SX.box.cell]) rfl ⟨_, _, _, _, _, _, _, _, _, rfl, Ci.none, (SX.below HB.out (by omega))⟩
theorem kvNoneE {w : World} : Calls Tryz.prog 35 #[] w (fun e w' => e = .returned (.agg #[.bool true, .int .i64 0, .bool false, .int .u64 0, .int .i64 0, .int .i64 0, .bool false, .int .u64 0, .int .i64 0]) ∧ Below w.heap.size w w') := by
  refine kvNone.mono ?_; rintro ee w2 ⟨e1, K1, s1, M1, E1, K1b, s1b, M1b, E1b, rfl, v1, B⟩; obtain ⟨rfl, rfl, rfl, rfl, rfl, rfl, rfl, rfl, rfl⟩ := v1.uniq Ci.none; exact ⟨rfl, B⟩
theorem kvOrN {w : World} {D M E : Int} {s : Bool} {r : Int} (hM : M < 18446744073709551616) (hr : rk D s M E = r) : Calls Tryz.prog 49 #[.agg #[.int .i64 D, .bool s, .int .u64 M, .int .i64 E]] w (PN w r) := by
  by_cases hm : MayQ D s M E
  · have HQ := rk_fq hM hm; rw [hr] at HQ
    have HC := Lib.hid (show decide (MayQ D s M E) = true from decide_eq_true hm)
    clear hm hr hM
    go_enter Tryz.func49, Tryz.ntmps49
    go_upto_region 1 with (fail)
    generalize hW1 : (w.alloc _).alloc _ = w1 at *; obtain ⟨X1, XR, HB⟩ := Bo.en2 hW1; clear hW1; have xX1 := X1.cell
    go_wp2_with fail
    refine (nMay HC.out).mono ?_; rintro ee w2 ⟨rfl, B⟩; clear xX1; replace X1 := X1.below B; replace XR := XR.below B; replace HB := Hqb HB B; clear B; have xXR := XR.cell; have zXR0 := XR.frozen; have xX1 := X1.cell; go_wp2; clear xXR zXR0 xX1; have SX := StN.mk4 XR (.int .i64 D) (.bool s) (.int .u64 M) (.int .i64 E)
    exact bodyPost_ret (by simp [results, Tryz.results49, go_sem, SX.box.cell]) rfl ⟨D, s, M, E, rfl, HQ, (SX.below HB.out (by omega))⟩
  · rw [rk_not hm] at hr; subst hr
    have HC := Lib.hid (show decide (MayQ D s M E) = false from decide_eq_false hm)
    clear hm hM
    go_enter Tryz.func49, Tryz.ntmps49
    go_upto_region 1 with (fail)
    generalize hW1 : (w.alloc _).alloc _ = w1 at *; obtain ⟨X1, XR, HB⟩ := Bo.en2 hW1; clear hW1; have xX1 := X1.cell
    go_wp2_with fail
    refine (nMay HC.out).mono ?_; rintro ee w2 ⟨rfl, B⟩; clear xX1; replace X1 := X1.below B; replace XR := XR.below B; replace HB := Hqb HB B; clear B; have xXR := XR.cell; have zXR0 := XR.frozen; have xX1 := X1.cell; go_wp2; clear xXR zXR0 xX1; have SX := StN.mk4 XR (.int .i64 0) (.bool false) (.int .u64 0) (.int .i64 0)
    exact bodyPost_ret (by simp [results, Tryz.results49, go_sem, SX.box.cell]) rfl ⟨_, _, _, _, rfl, Fq.nought, (SX.below HB.out (by omega))⟩
theorem kvMake {w : World} {D D' M M' E E' : Int} {s s' : Bool} {a b : Int} {x : Sp} (hM : M < 18446744073709551616) (hM' : M' < 18446744073709551616) (ha : rk D s M E = a) (hb : rk D' s' M' E' = b) (hx : mkI a b = x) : Calls Tryz.prog 26 #[.agg #[.int .i64 D, .bool s, .int .u64 M, .int .i64 E], .agg #[.int .i64 D', .bool s', .int .u64 M', .int .i64 E']] w (PV w x) := by
  have HA := Lib.hid ha; have HBB := Lib.hid hb; clear ha hb
  go_enter Tryz.func26, Tryz.ntmps26
  go_upto_region 1 with (fail)
  generalize hW1 : ((w.alloc _).alloc _).alloc _ = w1 at *; obtain ⟨X2, X3, XR, HB⟩ := Bo.en3 hW1; clear hW1; refine Jo.rk [0, 1, 2, 3] [some 5, some 6, some 7, some 8, none, none] [[], [0], [], [2], [], []] 6 2 [Jo.q4 D s M E, Jo.Fact.num a, Jo.q4 D' s' M' E', Jo.Fact.num b, Jo.Fact.any, Jo.Fact.any] (by kernel_rfl) (by kernel_rfl) (by decide) rfl ?_ ?_
  · refine Jo.jm rfl ?_ ?_; rotate_left
    refine Jo.jm rfl ?_ ?_
    · rintro wj hJ _ rfl K hK; simp only [Jo.z] at hK ⊢; go_simp; refine (kvOrN hM HA.out).mono ?_; rintro ee wk ⟨K1, s1, M1, E1, rfl, q1, B⟩; exact hK.out _ _ ⟨K1, s1, M1, E1, rfl, q1⟩ B
    refine Jo.jm rfl ?_ ?_; rotate_left
    refine Jo.jm rfl ?_ ?_
    · rintro wj hJ _ rfl K hK; simp only [Jo.z] at hK ⊢; go_simp; refine (kvOrN hM' HBB.out).mono ?_; rintro ee wk ⟨K2, s2, M2, E2, rfl, q2, B⟩; exact hK.out _ _ ⟨K2, s2, M2, E2, rfl, q2⟩ B
    exact Jo.Steps.nil
    all_goals (rintro wj hJ; (repeat rintro _ rfl); intro K hK; simp only [Jo.z] at hK ⊢; have xX2 := (X2.below hJ).cell; have xX3 := (X3.below hJ).cell; go_simp; exact hK.out _ _ rfl (br _ _))
  rintro w2 hJ _ rfl _ ⟨K1, s1, M1, E1, rfl, q1⟩ _ rfl _ ⟨K2, s2, M2, E2, rfl, q2⟩ -; simp only [Jo.z]; replace X2 := X2.below hJ; replace X3 := X3.below hJ; replace XR := XR.below hJ; replace HB := Hqb HB hJ; have xX2 := X2.cell; have zX20 := X2.frozen
  refine Jo.jnext (i := 4) (o := ⟨none, _, _, _, _, _⟩) (by kernel_rfl) rfl (fun K hK => ?_)
  go_simp; refine hK.out _ _ ?_; clear hK K xX2 zX20; generalize hS : (((w2.setCell _ _).setCell _ _).setCell _ _).setCell _ _ = w3 at *; have SX := StN.of4 X2 hS; replace X3 := X3.stn SX (by omega); replace XR := XR.stn SX (by omega); replace HB := Hqs HB SX (by omega); replace X2 := SX.box; clear SX hS; have xX3 := X3.cell; have zX30 := X3.frozen
  refine Jo.jnext (i := 5) (o := ⟨none, _, _, _, _, _⟩) (by kernel_rfl) rfl (fun K hK => ?_)
  go_simp; refine hK.out _ _ ?_; clear hK K xX3 zX30; generalize hS : (((w3.setCell _ _).setCell _ _).setCell _ _).setCell _ _ = w4 at *; have SX := StN.of4 X3 hS; replace X2 := X2.stn SX (by omega); replace XR := XR.stn SX (by omega); replace HB := Hqs HB SX (by omega); replace X3 := SX.box; clear SX hS; refine Jo.jdone (by kernel_rfl) ?_; clear HA HBB hM hM'; obtain ⟨c, hc⟩ : ∃ c, cmpI a b = c := ⟨_, rfl⟩
  have hg := cmp_gtE hc
  have HC : Hid (cmpI (rk K1 s1 M1 E1) (rk K2 s2 M2 E2) = c) := Lib.hid (by rw [q1.rk, q2.rk]; exact hc)
  clear hc
  by_cases hgt : b < a
  · rw [mkI_none (by omega)] at hx
    obtain rfl : none = x := hx
    rw [decide_eq_true hgt] at hg; have HC0 := Lib.hid hg; clear hg hgt; go_wp2; refine Jo.rk [0, 1, 2, 3, 4, 5, 6, 7, 8, 9, 10, 11, 12, 13] [some 9, some 10, some 11, some 12, some 13, some 14, some 15, some 16, some 17, some 18, some 19, some 20, some 21, some 22] [[], [], [0, 1], [2], [3], [4], [4], [4, 5, 6], [4, 7], [8], [9], [9], [9, 10, 11], [9, 12]] 14 0 [Jo.q4 K1 s1 M1 E1, Jo.q4 K2 s2 M2 E2, Jo.qi c, Jo.qb true, Jo.qb true, Jo.qu, Jo.qu, Jo.qu, Jo.qb true, Jo.qb true, Jo.qu, Jo.qu, Jo.qu, Jo.qb true] (by kernel_rfl) (by kernel_rfl) (by decide) rfl ?_ ?_
    · iterate 2 (refine Jo.jm rfl ?_ ?_; rotate_left)
      refine Jo.jm rfl ?_ ?_
      · rintro wj hJ _ rfl _ rfl K hK; simp only [Jo.z] at hK ⊢; go_simp; refine (nCmp q1.top q2.top HC.out).mono ?_; rintro ee wk ⟨rfl, B⟩; exact hK.out _ _ rfl B
      refine Jo.jm rfl ?_ ?_
      · rintro wj hJ _ rfl K hK; simp only [Jo.z] at hK ⊢; have hc0 := HC0.out; go_simp
        exact hK.out _ _ (by first | rfl | (show Value.bool _ = Value.bool _; rw [hc0]) | simp_all) (br _ _)
      iterate 10 (refine Jo.jm rfl ?_ ?_; rotate_left)
      exact Jo.Steps.nil
      all_goals (rintro wj hJ; (repeat rintro _ rfl); intro K hK; simp only [Jo.z] at hK ⊢; have xX2 := (X2.below hJ).cell; have xX3 := (X3.below hJ).cell; go_simp; exact hK.out _ _ rfl (br _ _))
    rintro w8 hJ _ rfl _ rfl _ rfl _ rfl _ rfl _ rfl _ rfl _ rfl _ rfl _ rfl _ rfl _ rfl _ rfl _ rfl -; simp only [Jo.z]; replace X2 := X2.below hJ; replace X3 := X3.below hJ; replace XR := XR.below hJ; replace HB := Hqb HB hJ; refine Jo.jdone (by kernel_rfl) ?_
    go_wp2_with fail
    refine (kvNoneE).mono ?_; rintro ee w9 ⟨rfl, B⟩; replace X2 := X2.below B; replace X3 := X3.below B; replace XR := XR.below B; replace HB := Hqb HB B; clear B; have xXR := XR.cell; have zXR0 := XR.frozen; go_wp2; clear xXR zXR0; have SX := StN.mk9 XR (.bool true) (.int .i64 0) (.bool false) (.int .u64 0) (.int .i64 0) (.int .i64 0) (.bool false) (.int .u64 0) (.int .i64 0)
    exact bodyPost_ret (by simp [results, Tryz.results26, go_sem, SX.box.cell]) rfl ⟨_, _, _, _, _, _, _, _, _, rfl, Ci.none, (SX.below HB.out (by omega))⟩
  · rw [decide_eq_false hgt] at hg; have HC0 := Lib.hid hg; clear hg
    by_cases ht : a = 19342822337206103650074625
    · subst ht; rw [mkI_none (by omega)] at hx
      obtain rfl : none = x := hx
      obtain ⟨rfl, rfl, rfl, rfl⟩ := q1.uniq (show Fq 2 false 0 0 19342822337206103650074625 from fq_inf2 false)
      clear hgt; go_wp2; refine Jo.rk [0, 1, 2, 3, 4, 5, 6, 7, 8, 9, 10, 11, 12, 13] [some 9, some 10, some 11, some 12, some 13, some 14, some 15, some 16, some 17, some 18, some 19, some 20, some 21, some 22] [[], [], [0, 1], [2], [3], [4], [4], [4, 5, 6], [4, 7], [8], [9], [9], [9, 10, 11], [9, 12]] 14 0 [Jo.q4 2 false 0 0, Jo.q4 K2 s2 M2 E2, Jo.qi c, Jo.qb false, Jo.qb false, Jo.q4 2 false 0 0, Jo.q4 2 false 0 0, Jo.qb true, Jo.qb true, Jo.qb true, Jo.qu, Jo.qu, Jo.qu, Jo.qb true] (by kernel_rfl) (by kernel_rfl) (by decide) rfl ?_ ?_
      · iterate 2 (refine Jo.jm rfl ?_ ?_; rotate_left)
        refine Jo.jm rfl ?_ ?_
        · rintro wj hJ _ rfl _ rfl K hK; simp only [Jo.z] at hK ⊢; go_simp; refine (nCmp q1.top q2.top HC.out).mono ?_; rintro ee wk ⟨rfl, B⟩; exact hK.out _ _ rfl B
        refine Jo.jm rfl ?_ ?_
        · rintro wj hJ _ rfl K hK; simp only [Jo.z] at hK ⊢; have hc0 := HC0.out; go_simp
          exact hK.out _ _ (by first | rfl | (show Value.bool _ = Value.bool _; rw [hc0]) | simp_all) (br _ _)
        iterate 2 (refine Jo.jm rfl ?_ ?_; rotate_left)
        refine Jo.jm rfl ?_ ?_
        · rintro wj hJ _ rfl K hK; simp only [Jo.z] at hK ⊢; go_simp; refine (nInfE false).mono ?_; rintro ee wk ⟨rfl, B⟩; exact hK.out _ _ rfl B
        refine Jo.jm rfl ?_ ?_
        · rintro wj hJ _ rfl _ rfl _ rfl K hK; simp only [Jo.z] at hK ⊢; go_simp
          repeat' split
          all_goals exact hK.out _ _ (congrArg Value.bool (by first | rfl | (exfalso; simp_all) | simp_all)) (br _ _)
        iterate 6 (refine Jo.jm rfl ?_ ?_; rotate_left)
        exact Jo.Steps.nil
        all_goals (rintro wj hJ; (repeat rintro _ rfl); intro K hK; simp only [Jo.z] at hK ⊢; have xX2 := (X2.below hJ).cell; have xX3 := (X3.below hJ).cell; go_simp; exact hK.out _ _ rfl (br _ _))
      rintro w8 hJ _ rfl _ rfl _ rfl _ rfl _ rfl _ rfl _ rfl _ rfl _ rfl _ rfl _ rfl _ rfl _ rfl _ rfl -; simp only [Jo.z]; replace X2 := X2.below hJ; replace X3 := X3.below hJ; replace XR := XR.below hJ; replace HB := Hqb HB hJ; refine Jo.jdone (by kernel_rfl) ?_
      go_wp2_with fail
      refine (kvNoneE).mono ?_; rintro ee w9 ⟨rfl, B⟩; replace X2 := X2.below B; replace X3 := X3.below B; replace XR := XR.below B; replace HB := Hqb HB B; clear B; have xXR := XR.cell; have zXR0 := XR.frozen; go_wp2; clear xXR zXR0; have SX := StN.mk9 XR (.bool true) (.int .i64 0) (.bool false) (.int .u64 0) (.int .i64 0) (.int .i64 0) (.bool false) (.int .u64 0) (.int .i64 0)
      exact bodyPost_ret (by simp [results, Tryz.results26, go_sem, SX.box.cell]) rfl ⟨_, _, _, _, _, _, _, _, _, rfl, Ci.none, (SX.below HB.out (by omega))⟩
    · have HN1 : Hid (¬ (K1 = 2 ∧ s1 = false ∧ M1 = 0 ∧ E1 = 0)) := Lib.hid (by
        rintro ⟨rfl, rfl, rfl, rfl⟩; exact ht (by rw [← q1.rk]; exact (fq_inf2 false).rk))
      by_cases hb : b = -19342822337206103650074625
      · subst hb; rw [mkI_none (by omega)] at hx
        obtain rfl : none = x := hx
        obtain ⟨rfl, rfl, rfl, rfl⟩ := q2.uniq (show Fq 2 true 0 0 (-19342822337206103650074625) from fq_inf2 true)
        clear hgt ht; go_wp2; refine Jo.rk [0, 1, 2, 3, 4, 5, 6, 7, 8, 9, 10, 11, 12, 13] [some 9, some 10, some 11, some 12, some 13, some 14, some 15, some 16, some 17, some 18, some 19, some 20, some 21, some 22] [[], [], [0, 1], [2], [3], [4], [4], [4, 5, 6], [4, 7], [8], [9], [9], [9, 10, 11], [9, 12]] 14 0 [Jo.q4 K1 s1 M1 E1, Jo.q4 2 true 0 0, Jo.qi c, Jo.qb false, Jo.qb false, Jo.q4 K1 s1 M1 E1, Jo.q4 2 false 0 0, Jo.qb false, Jo.qb false, Jo.qb false, Jo.q4 2 true 0 0, Jo.q4 2 true 0 0, Jo.qb true, Jo.qb true] (by kernel_rfl) (by kernel_rfl) (by decide) rfl ?_ ?_
        · iterate 2 (refine Jo.jm rfl ?_ ?_; rotate_left)
          refine Jo.jm rfl ?_ ?_
          · rintro wj hJ _ rfl _ rfl K hK; simp only [Jo.z] at hK ⊢; go_simp; refine (nCmp q1.top q2.top HC.out).mono ?_; rintro ee wk ⟨rfl, B⟩; exact hK.out _ _ rfl B
          refine Jo.jm rfl ?_ ?_
          · rintro wj hJ _ rfl K hK; simp only [Jo.z] at hK ⊢; have hc0 := HC0.out; go_simp
            exact hK.out _ _ (by first | rfl | (show Value.bool _ = Value.bool _; rw [hc0]) | simp_all) (br _ _)
          iterate 2 (refine Jo.jm rfl ?_ ?_; rotate_left)
          refine Jo.jm rfl ?_ ?_
          · rintro wj hJ _ rfl K hK; simp only [Jo.z] at hK ⊢; go_simp; refine (nInfE false).mono ?_; rintro ee wk ⟨rfl, B⟩; exact hK.out _ _ rfl B
          refine Jo.jm rfl ?_ ?_
          · rintro wj hJ _ rfl _ rfl _ rfl K hK; simp only [Jo.z] at hK ⊢; have hne := HN1.out; go_simp
            repeat' split
            all_goals exact hK.out _ _ (congrArg Value.bool (by first | rfl | (exfalso; simp_all))) (br _ _)
          iterate 3 (refine Jo.jm rfl ?_ ?_; rotate_left)
          refine Jo.jm rfl ?_ ?_
          · rintro wj hJ _ rfl K hK; simp only [Jo.z] at hK ⊢; go_simp; refine (nInfE true).mono ?_; rintro ee wk ⟨rfl, B⟩; exact hK.out _ _ rfl B
          refine Jo.jm rfl ?_ ?_
          · rintro wj hJ _ rfl _ rfl _ rfl K hK; simp only [Jo.z] at hK ⊢; go_simp
            repeat' split
            all_goals exact hK.out _ _ (congrArg Value.bool (by first | rfl | (exfalso; simp_all) | simp_all)) (br _ _)
          refine Jo.jm rfl ?_ ?_; rotate_left
          exact Jo.Steps.nil
          all_goals (rintro wj hJ; (repeat rintro _ rfl); intro K hK; simp only [Jo.z] at hK ⊢; have xX2 := (X2.below hJ).cell; have xX3 := (X3.below hJ).cell; go_simp; exact hK.out _ _ rfl (br _ _))
        rintro w8 hJ _ rfl _ rfl _ rfl _ rfl _ rfl _ rfl _ rfl _ rfl _ rfl _ rfl _ rfl _ rfl _ rfl _ rfl -; simp only [Jo.z]; replace X2 := X2.below hJ; replace X3 := X3.below hJ; replace XR := XR.below hJ; replace HB := Hqb HB hJ; refine Jo.jdone (by kernel_rfl) ?_
        go_wp2_with fail
        refine (kvNoneE).mono ?_; rintro ee w9 ⟨rfl, B⟩; replace X2 := X2.below B; replace X3 := X3.below B; replace XR := XR.below B; replace HB := Hqb HB B; clear B; have xXR := XR.cell; have zXR0 := XR.frozen; go_wp2; clear xXR zXR0; have SX := StN.mk9 XR (.bool true) (.int .i64 0) (.bool false) (.int .u64 0) (.int .i64 0) (.int .i64 0) (.bool false) (.int .u64 0) (.int .i64 0)
        exact bodyPost_ret (by simp [results, Tryz.results26, go_sem, SX.box.cell]) rfl ⟨_, _, _, _, _, _, _, _, _, rfl, Ci.none, (SX.below HB.out (by omega))⟩
      · have HN2 : Hid (¬ (K2 = 2 ∧ s2 = true ∧ M2 = 0 ∧ E2 = 0)) := Lib.hid (by
          rintro ⟨rfl, rfl, rfl, rfl⟩; exact hb (by rw [← q2.rk]; exact (fq_inf2 true).rk))
        have g1 := q1.bd; have g2 := q2.bd
        have g3 : a ≤ b := by omega
        have g4 : a < 19342822337206103650074625 := by omega
        have g5 : -19342822337206103650074625 < b := by omega
        rw [mkI_some g3 g4 g5] at hx
        obtain rfl : some (a, b) = x := hx
        have HV : Ci false K1 s1 M1 E1 K2 s2 M2 E2 (some (a, b)) := ⟨rfl, q1, q2, g3, g4, g5⟩
        clear hgt ht hb g1 g2 g3 g4 g5; go_wp2; refine Jo.rk [0, 1, 2, 3, 4, 5, 6, 7, 8, 9, 10, 11, 12, 13] [some 9, some 10, some 11, some 12, some 13, some 14, some 15, some 16, some 17, some 18, some 19, some 20, some 21, some 22] [[], [], [0, 1], [2], [3], [4], [4], [4, 5, 6], [4, 7], [8], [9], [9], [9, 10, 11], [9, 12]] 14 0 [Jo.q4 K1 s1 M1 E1, Jo.q4 K2 s2 M2 E2, Jo.qi c, Jo.qb false, Jo.qb false, Jo.q4 K1 s1 M1 E1, Jo.q4 2 false 0 0, Jo.qb false, Jo.qb false, Jo.qb false, Jo.q4 K2 s2 M2 E2, Jo.q4 2 true 0 0, Jo.qb false, Jo.qb false] (by kernel_rfl) (by kernel_rfl) (by decide) rfl ?_ ?_
        · iterate 2 (refine Jo.jm rfl ?_ ?_; rotate_left)
          refine Jo.jm rfl ?_ ?_
          · rintro wj hJ _ rfl _ rfl K hK; simp only [Jo.z] at hK ⊢; go_simp; refine (nCmp q1.top q2.top HC.out).mono ?_; rintro ee wk ⟨rfl, B⟩; exact hK.out _ _ rfl B
          refine Jo.jm rfl ?_ ?_
          · rintro wj hJ _ rfl K hK; simp only [Jo.z] at hK ⊢; have hc0 := HC0.out; go_simp
            exact hK.out _ _ (by first | rfl | (show Value.bool _ = Value.bool _; rw [hc0]) | simp_all) (br _ _)
          iterate 2 (refine Jo.jm rfl ?_ ?_; rotate_left)
          refine Jo.jm rfl ?_ ?_
          · rintro wj hJ _ rfl K hK; simp only [Jo.z] at hK ⊢; go_simp; refine (nInfE false).mono ?_; rintro ee wk ⟨rfl, B⟩; exact hK.out _ _ rfl B
          refine Jo.jm rfl ?_ ?_
          · rintro wj hJ _ rfl _ rfl _ rfl K hK; simp only [Jo.z] at hK ⊢; have hne := HN1.out; go_simp
            repeat' split
            all_goals exact hK.out _ _ (congrArg Value.bool (by first | rfl | (exfalso; simp_all))) (br _ _)
          iterate 3 (refine Jo.jm rfl ?_ ?_; rotate_left)
          refine Jo.jm rfl ?_ ?_
          · rintro wj hJ _ rfl K hK; simp only [Jo.z] at hK ⊢; go_simp; refine (nInfE true).mono ?_; rintro ee wk ⟨rfl, B⟩; exact hK.out _ _ rfl B
          refine Jo.jm rfl ?_ ?_
          · rintro wj hJ _ rfl _ rfl _ rfl K hK; simp only [Jo.z] at hK ⊢; have hne := HN2.out; go_simp
            repeat' split
            all_goals exact hK.out _ _ (congrArg Value.bool (by first | rfl | (exfalso; simp_all))) (br _ _)
          refine Jo.jm rfl ?_ ?_; rotate_left
          exact Jo.Steps.nil
          all_goals (rintro wj hJ; (repeat rintro _ rfl); intro K hK; simp only [Jo.z] at hK ⊢; have xX2 := (X2.below hJ).cell; have xX3 := (X3.below hJ).cell; go_simp; exact hK.out _ _ rfl (br _ _))
        rintro w8 hJ _ rfl _ rfl _ rfl _ rfl _ rfl _ rfl _ rfl _ rfl _ rfl _ rfl _ rfl _ rfl _ rfl _ rfl -; simp only [Jo.z]; replace X2 := X2.below hJ; replace X3 := X3.below hJ; replace XR := XR.below hJ; replace HB := Hqb HB hJ; refine Jo.jdone (by kernel_rfl) ?_; have xXR := XR.cell; have zXR0 := XR.frozen; have xX2 := X2.cell
        have xX3 := X3.cell; go_wp2; clear xXR zXR0 xX2 xX3; have SX := StN.mk9 XR (.bool false) (.int .i64 K1) (.bool s1) (.int .u64 M1) (.int .i64 E1) (.int .i64 K2) (.bool s2) (.int .u64 M2) (.int .i64 E2); exact bodyPost_ret (by simp [results, Tryz.results26, go_sem, SX.box.cell]) rfl ⟨_, _, _, _, _, _, _, _, _, rfl, HV, (SX.below HB.out (by omega))⟩
theorem kvAll {w : World}  : Calls Tryz.prog 56 #[] w (PV w allI) := by
  have HI := Lib.hid (mkI_some (a := -19342822337206103650074625) (b := 19342822337206103650074625) (by omega) (by omega) (by omega))
  go_enter Tryz.func56, Tryz.ntmps56
  go_upto_region 1 with (fail)
  generalize hW1 : w.alloc _ = w1 at *; obtain ⟨XR, HB⟩ := Bo.en1 hW1; clear hW1
  go_wp2_with fail
  refine (nInfE true).mono ?_; rintro ee w2 ⟨rfl, B⟩; replace XR := XR.below B; replace HB := Hqb HB B; clear B
  go_wp2_with fail
  refine (nInfE false).mono ?_; rintro ee w3 ⟨rfl, B⟩; replace XR := XR.below B; replace HB := Hqb HB B; clear B
  go_wp2_with fail
  refine (kvMake (a := -19342822337206103650074625) (b := 19342822337206103650074625) (by decide) (by decide) (fq_inf2 true).rk (fq_inf2 false).rk HI.out).mono ?_; rintro ee w4 ⟨e2, K2, s2, M2, E2, K2b, s2b, M2b, E2b, rfl, v2, B⟩; replace XR := XR.below B; replace HB := Hqb HB B; clear B; have xXR := XR.cell; have zXR0 := XR.frozen; go_wp2
  clear xXR zXR0; have SX := StN.mk9 XR (.bool e2) (.int .i64 K2) (.bool s2) (.int .u64 M2) (.int .i64 E2) (.int .i64 K2b) (.bool s2b) (.int .u64 M2b) (.int .i64 E2b); exact bodyPost_ret (by simp [results, Tryz.results56, go_sem, SX.box.cell]) rfl ⟨_, _, _, _, _, _, _, _, _, rfl, v2, (SX.below HB.out (by omega))⟩
theorem may_make {e : Bool} {D M E D' M' E' : Int} {s s' : Bool} {e4 : Bool} {K4 M4 E4 K4b M4b E4b : Int} {s4 s4b : Bool} (hM : M < 18446744073709551616) (hM' : M' < 18446744073709551616) (v : Ci e4 K4 s4 M4 E4 K4b s4b M4b E4b (mkI (rk D s M E) (rk D' s' M' E'))) (h1 : ¬ (e = true ∧ D = 0 ∧ s = false ∧ M = 0 ∧ E = 0 ∧ D' = 0 ∧ s' = false ∧ M' = 0 ∧ E' = 0)) : (e = e4 ∧ D = K4 ∧ s = s4 ∧ M = M4 ∧ E = E4 ∧ D' = K4b ∧ s' = s4b ∧ M' = M4b ∧ E' = E4b) ↔ mayI e D s M E D' s' M' E' = true := by
  constructor
  · rintro ⟨rfl, rfl, rfl, rfl, rfl, rfl, rfl, rfl, rfl⟩; exact v.may
  · intro h
    have c := mayI_ci hM hM' h
    cases e
    · have h2 : decide (rkI false D s M E D' s' M' E' ≠ none) = true := h
      rw [rkI_f] at c; rw [decide_eq_true_iff, rkI_f] at h2
      by_cases hq : MayQ D s M E ∧ MayQ D' s' M' E'
      · rw [if_pos hq] at c; exact c.uniq v
      · rw [if_neg hq] at h2; exact absurd rfl h2
    · rw [rkI_t] at c; exact absurd (c.uniq Ci.none) h1
theorem kvMay {w : World} {e : Bool} {D M E D' M' E' : Int} {s s' : Bool} {r : Bool} (hM : M < 18446744073709551616) (hM' : M' < 18446744073709551616) (hr : mayI e D s M E D' s' M' E' = r) : Calls Tryz.prog 32 #[.agg #[.bool e, .int .i64 D, .bool s, .int .u64 M, .int .i64 E, .int .i64 D', .bool s', .int .u64 M', .int .i64 E']] w (PB w r) := by
  by_cases h1 : e = true ∧ D = 0 ∧ s = false ∧ M = 0 ∧ E = 0 ∧ D' = 0 ∧ s' = false ∧ M' = 0 ∧ E' = 0
  · obtain ⟨rfl, rfl, rfl, rfl, rfl, rfl, rfl, rfl, rfl⟩ := h1
    obtain rfl : true = r := Ci.none.may.symm.trans hr
    clear hr
    go_enter Tryz.func32, Tryz.ntmps32
    go_upto_region 1 with (fail)
    generalize hW1 : w.alloc _ = w1 at *; obtain ⟨X1, HB⟩ := Bo.en1 hW1; clear hW1; refine Jo.rk [0, 1, 2, 3, 4, 5, 6, 7, 8, 9, 10, 11, 12] [some 3, some 4, some 5, some 6, some 7, some 8, some 9, some 10, some 11, some 12, some 13, some 14, some 2] [[], [], [0, 1], [2], [3], [3], [3, 5], [3], [3, 7], [3, 6, 8], [3, 4, 9], [3, 10], [11]] 13 0 [Jo.q9 true 0 false 0 0 0 false 0 0, Jo.q9 true 0 false 0 0 0 false 0 0, Jo.qb true, Jo.qb true, Jo.qu, Jo.qu, Jo.qu, Jo.qu, Jo.qu, Jo.qu, Jo.qu, Jo.qb true, Jo.qb true] (by kernel_rfl) (by kernel_rfl) (by decide) rfl ?_ ?_
    · refine Jo.jm rfl ?_ ?_; rotate_left
      refine Jo.jm rfl ?_ ?_
      · rintro wj hJ K hK; simp only [Jo.z] at hK ⊢; go_simp; refine (kvNoneE).mono ?_; rintro ee wk ⟨rfl, B⟩; exact hK.out _ _ rfl B
      refine Jo.jm rfl ?_ ?_
      · rintro wj hJ _ rfl _ rfl K hK; simp only [Jo.z] at hK ⊢; go_simp
        repeat' split
        all_goals exact hK.out _ _ (congrArg Value.bool (by first | rfl | (exfalso; simp_all) | simp_all)) (br _ _)
      iterate 10 (refine Jo.jm rfl ?_ ?_; rotate_left)
      exact Jo.Steps.nil
      all_goals (rintro wj hJ; (repeat rintro _ rfl); intro K hK; simp only [Jo.z] at hK ⊢; have xX1 := (X1.below hJ).cell; go_simp; exact hK.out _ _ rfl (br _ _))
    rintro w8 hJ _ rfl _ rfl _ rfl _ rfl _ rfl _ rfl _ rfl _ rfl _ rfl _ rfl _ rfl _ rfl _ rfl -; simp only [Jo.z]; replace X1 := X1.below hJ; replace HB := Hqb HB hJ; refine Jo.jdone (by kernel_rfl) ?_; go_wp2
    go_ret
    exact ⟨rfl, HB.out⟩
  · have HN1 := Lib.hid h1
    have HY : Hid (∀ {e4 K4 s4 M4 E4 K4b s4b M4b E4b}, Ci e4 K4 s4 M4 E4 K4b s4b M4b E4b (mkI (rk D s M E) (rk D' s' M' E')) → ((e = e4 ∧ D = K4 ∧ s = s4 ∧ M = M4 ∧ E = E4 ∧ D' = K4b ∧ s' = s4b ∧ M' = M4b ∧ E' = E4b) ↔ r = true)) := Lib.hid (fun v => by rw [← hr]; exact may_make hM hM' v h1)
    clear hr h1
    cases r
    · go_enter Tryz.func32, Tryz.ntmps32
      go_upto_region 1 with (fail)
      generalize hW1 : w.alloc _ = w1 at *; obtain ⟨X1, HB⟩ := Bo.en1 hW1; clear hW1; refine Jo.rk [0, 1, 2, 3, 4, 5, 6, 7, 8, 9, 10, 11, 12] [some 3, some 4, some 5, some 6, some 7, some 8, some 9, some 10, some 11, some 12, some 13, some 14, some 2] [[], [], [0, 1], [2], [3], [3], [3, 5], [3], [3, 7], [3, 6, 8], [3, 4, 9], [3, 10], [11]] 13 0 [Jo.q9 e D s M E D' s' M' E', Jo.q9 true 0 false 0 0 0 false 0 0, Jo.qb false, Jo.qb false, Jo.q9 e D s M E D' s' M' E', Jo.qp w.heap.size 1, Jo.q4 D s M E, Jo.qp w.heap.size 5, Jo.q4 D' s' M' E', Jo.Fact.iv (mkI (rk D s M E) (rk D' s' M' E')), Jo.qb false, Jo.qb false, Jo.qb false] (by kernel_rfl) (by kernel_rfl) (by decide) rfl ?_ ?_
      · refine Jo.jm rfl ?_ ?_; rotate_left
        refine Jo.jm rfl ?_ ?_
        · rintro wj hJ K hK; simp only [Jo.z] at hK ⊢; go_simp; refine (kvNoneE).mono ?_; rintro ee wk ⟨rfl, B⟩; exact hK.out _ _ rfl B
        refine Jo.jm rfl ?_ ?_
        · rintro wj hJ _ rfl _ rfl K hK; simp only [Jo.z] at hK ⊢; have hne := HN1.out; go_simp
          repeat' split
          all_goals exact hK.out _ _ (congrArg Value.bool (by first | rfl | (exfalso; simp_all))) (br _ _)
        iterate 6 (refine Jo.jm rfl ?_ ?_; rotate_left)
        refine Jo.jm rfl ?_ ?_
        · rintro wj hJ _ rfl _ rfl _ rfl K hK; simp only [Jo.z] at hK ⊢; go_simp; refine (kvMake hM hM' rfl rfl rfl).mono ?_; rintro ee wk ⟨e9, K9, s9, M9, E9, K9b, s9b, M9b, E9b, rfl, v9, B⟩; exact hK.out _ _ ⟨e9, K9, s9, M9, E9, K9b, s9b, M9b, E9b, rfl, v9⟩ B
        refine Jo.jm rfl ?_ ?_
        · rintro wj hJ _ rfl _ rfl _ ⟨e9, K9, s9, M9, E9, K9b, s9b, M9b, E9b, rfl, v9⟩ K hK; simp only [Jo.z] at hK ⊢
          have hne := fun c => ff ((HY.out v9).1 c)
          go_simp
          repeat' split
          all_goals exact hK.out _ _ (congrArg Value.bool (by first | rfl | (exfalso; simp_all))) (br _ _)
        iterate 2 (refine Jo.jm rfl ?_ ?_; rotate_left)
        exact Jo.Steps.nil
        all_goals (rintro wj hJ; (repeat rintro _ rfl); intro K hK; simp only [Jo.z] at hK ⊢; have xX1 := (X1.below hJ).cell; go_simp; exact hK.out _ _ rfl (br _ _))
      rintro w8 hJ _ rfl _ rfl _ rfl _ rfl _ rfl _ _ _ rfl _ _ _ rfl _ ⟨e9, K9, s9, M9, E9, K9b, s9b, M9b, E9b, rfl, v9⟩ _ rfl _ rfl _ rfl -; simp only [Jo.z]; replace X1 := X1.below hJ; replace HB := Hqb HB hJ; refine Jo.jdone (by kernel_rfl) ?_; go_wp2
      go_ret
      exact ⟨rfl, HB.out⟩
    · go_enter Tryz.func32, Tryz.ntmps32
      go_upto_region 1 with (fail)
      generalize hW1 : w.alloc _ = w1 at *; obtain ⟨X1, HB⟩ := Bo.en1 hW1; clear hW1; refine Jo.rk [0, 1, 2, 3, 4, 5, 6, 7, 8, 9, 10, 11, 12] [some 3, some 4, some 5, some 6, some 7, some 8, some 9, some 10, some 11, some 12, some 13, some 14, some 2] [[], [], [0, 1], [2], [3], [3], [3, 5], [3], [3, 7], [3, 6, 8], [3, 4, 9], [3, 10], [11]] 13 0 [Jo.q9 e D s M E D' s' M' E', Jo.q9 true 0 false 0 0 0 false 0 0, Jo.qb false, Jo.qb false, Jo.q9 e D s M E D' s' M' E', Jo.qp w.heap.size 1, Jo.q4 D s M E, Jo.qp w.heap.size 5, Jo.q4 D' s' M' E', Jo.Fact.iv (mkI (rk D s M E) (rk D' s' M' E')), Jo.qb true, Jo.qb true, Jo.qb true] (by kernel_rfl) (by kernel_rfl) (by decide) rfl ?_ ?_
      · refine Jo.jm rfl ?_ ?_; rotate_left
        refine Jo.jm rfl ?_ ?_
        · rintro wj hJ K hK; simp only [Jo.z] at hK ⊢; go_simp; refine (kvNoneE).mono ?_; rintro ee wk ⟨rfl, B⟩; exact hK.out _ _ rfl B
        refine Jo.jm rfl ?_ ?_
        · rintro wj hJ _ rfl _ rfl K hK; simp only [Jo.z] at hK ⊢; have hne := HN1.out; go_simp
          repeat' split
          all_goals exact hK.out _ _ (congrArg Value.bool (by first | rfl | (exfalso; simp_all))) (br _ _)
        iterate 6 (refine Jo.jm rfl ?_ ?_; rotate_left)
        refine Jo.jm rfl ?_ ?_
        · rintro wj hJ _ rfl _ rfl _ rfl K hK; simp only [Jo.z] at hK ⊢; go_simp; refine (kvMake hM hM' rfl rfl rfl).mono ?_; rintro ee wk ⟨e9, K9, s9, M9, E9, K9b, s9b, M9b, E9b, rfl, v9, B⟩; exact hK.out _ _ ⟨e9, K9, s9, M9, E9, K9b, s9b, M9b, E9b, rfl, v9⟩ B
        refine Jo.jm rfl ?_ ?_
        · rintro wj hJ _ rfl _ rfl _ ⟨e9, K9, s9, M9, E9, K9b, s9b, M9b, E9b, rfl, v9⟩ K hK; simp only [Jo.z] at hK ⊢; obtain ⟨rfl, rfl, rfl, rfl, rfl, rfl, rfl, rfl, rfl⟩ := (HY.out v9).2 rfl; go_simp
          repeat' split
          all_goals exact hK.out _ _ (congrArg Value.bool (by first | rfl | (exfalso; simp_all) | simp_all)) (br _ _)
        iterate 2 (refine Jo.jm rfl ?_ ?_; rotate_left)
        exact Jo.Steps.nil
        all_goals (rintro wj hJ; (repeat rintro _ rfl); intro K hK; simp only [Jo.z] at hK ⊢; have xX1 := (X1.below hJ).cell; go_simp; exact hK.out _ _ rfl (br _ _))
      rintro w8 hJ _ rfl _ rfl _ rfl _ rfl _ rfl _ _ _ rfl _ _ _ rfl _ ⟨e9, K9, s9, M9, E9, K9b, s9b, M9b, E9b, rfl, v9⟩ _ rfl _ rfl _ rfl -; simp only [Jo.z]; replace X1 := X1.below hJ; replace HB := Hqb HB hJ; refine Jo.jdone (by kernel_rfl) ?_; go_wp2
      go_ret
      exact ⟨rfl, HB.out⟩
theorem kvOrE {w : World} {e : Bool} {D M E D' M' E' : Int} {s s' : Bool} {x : Sp} (hM : M < 18446744073709551616) (hM' : M' < 18446744073709551616) (hr : rkI e D s M E D' s' M' E' = x) : Calls Tryz.prog 34 #[.agg #[.bool e, .int .i64 D, .bool s, .int .u64 M, .int .i64 E, .int .i64 D', .bool s', .int .u64 M', .int .i64 E']] w (PV w x) := by
  cases hm : mayI e D s M E D' s' M' E'
  · obtain rfl : none = x := (mayI_no hm).symm.trans hr
    have HM := Lib.hid hm; clear hm hr
    go_enter Tryz.func34, Tryz.ntmps34
    go_upto_region 1 with (fail)
    generalize hW1 : (w.alloc _).alloc _ = w1 at *; obtain ⟨X1, XR, HB⟩ := Bo.en2 hW1; clear hW1; have xX1 := X1.cell
    go_wp2_with fail
    refine (kvMay hM hM' HM.out).mono ?_; rintro ee w2 ⟨rfl, B⟩; clear xX1; replace X1 := X1.below B; replace XR := XR.below B; replace HB := Hqb HB B; clear B; clear HM hM hM'
    go_wp2_with fail
    refine (kvNoneE).mono ?_; rintro ee w3 ⟨rfl, B⟩; replace X1 := X1.below B; replace XR := XR.below B; replace HB := Hqb HB B; clear B; have xXR := XR.cell; have zXR0 := XR.frozen; go_wp2; clear xXR zXR0; have SX := StN.mk9 XR (.bool true) (.int .i64 0) (.bool false) (.int .u64 0) (.int .i64 0) (.int .i64 0) (.bool false) (.int .u64 0) (.int .i64 0)
    exact bodyPost_ret (by simp [results, Tryz.results34, go_sem, SX.box.cell]) rfl ⟨_, _, _, _, _, _, _, _, _, rfl, Ci.none, (SX.below HB.out (by omega))⟩
  · have hv := mayI_ci hM hM' hm; rw [hr] at hv; have HM := Lib.hid hm; clear hm hr
    go_enter Tryz.func34, Tryz.ntmps34
    go_upto_region 1 with (fail)
    generalize hW1 : (w.alloc _).alloc _ = w1 at *; obtain ⟨X1, XR, HB⟩ := Bo.en2 hW1; clear hW1; have xX1 := X1.cell
    go_wp2_with fail
    refine (kvMay hM hM' HM.out).mono ?_; rintro ee w2 ⟨rfl, B⟩; clear xX1; replace X1 := X1.below B; replace XR := XR.below B; replace HB := Hqb HB B; clear B; clear HM hM hM'; have xXR := XR.cell; have zXR0 := XR.frozen; have xX1 := X1.cell; go_wp2
    clear xXR zXR0 xX1; have SX := StN.mk9 XR (.bool e) (.int .i64 D) (.bool s) (.int .u64 M) (.int .i64 E) (.int .i64 D') (.bool s') (.int .u64 M') (.int .i64 E'); exact bodyPost_ret (by simp [results, Tryz.results34, go_sem, SX.box.cell]) rfl ⟨_, _, _, _, _, _, _, _, _, rfl, hv, (SX.below HB.out (by omega))⟩
end Go.Proofs.YtpnmphofengoeaaGreatDoor

namespace Go.Proofs.YtpnmphofengoeaaGreatDoor
set_option maxHeartbeats 8000000
open Go.RowKit
set_option linter.unusedVariables false
set_option linter.unusedSimpArgs false
set_option maxRecDepth 100000

theorem Na.stn {w w' : World} {base n c g : Nat} {A : Option Addr} {l : List Int} {a b : Array Value} {T : TypeId} (h : Na w base A n c l) (S : StN w w' g a b T) (hT : (T == 32) = false) : Na w' base A n c l := by
  obtain ⟨r, h1, h2⟩ := h; refine ⟨r, ⟨h1.1, ?_⟩, h2⟩
  rcases h1.2 with h3 | ⟨g0, cap, cur, hv, hg, hh, q⟩
  · exact .inl h3
  · refine .inr ⟨g0, cap, cur, hv, hg, ?_, q⟩
    rw [S.2.2.1 g0 (fun e => ?_)]
    · exact hh
    · subst e
      have hb : w.heap[g0]? = some (.cells a T (0, 0)) := S.1
      rw [hh] at hb
      simp at hb
      rw [← hb.2] at hT
      simp at hT
theorem Bo.grownN {w w' : World} {base n c g : Nat} {A : Option Addr} {l : List Int} {a : Array Value} {T : TypeId} (X : Bo w g a T) (h : Na w base A n c l) (hT : (T == 32) = false) (G : w.grownBy w' (ownA A)) : Bo w' g a T := by
  refine X.keep (G.block g X.lt (fun e => ?_))
  obtain ⟨r, h1, h2⟩ := h
  rcases h1.2 with ⟨h3, _⟩ | ⟨g0, cap, cur, hv, hg, hh, q⟩
  · injection h3 with h4
    subst h4
    cases e
  · injection hv with h4
    subst h4
    cases e
    have hb := X
    unfold Bo at hb
    rw [hh] at hb
    simp at hb
    rw [← hb.2] at hT
    simp at hT
theorem ne_row {A A2 B B2 : Option Addr} {s1 s2 : Nat} (hne : ∀ k, ownA A = some k → ownA B ≠ some k) (a1 : ownA A2 = ownA A ∨ ownA A2 = some s1) (a2 : ownA B2 = ownA B ∨ ownA B2 = some s2) (lB : ∀ k, ownA B = some k → k < s1) (lA : ∀ k, ownA A2 = some k → k < s2) : ∀ k, ownA A2 = some k → ownA B2 ≠ some k := by
  intro k h c
  have hk := lA k h
  rcases a2 with e | e
  · rw [e] at c; have hb := lB k c
    rcases a1 with f | f
    · rw [f] at h; exact hne k h c
    · rw [f] at h
      injection h with h
      omega
  · rw [e] at c
    injection c with c
    omega
theorem own_ne {A B : Option Addr} (hne : ∀ k, ownA A = some k → ownA B ≠ some k) : ownA B = none ∨ ownA B ≠ ownA A := by
  rcases h : ownA B with _ | k
  · exact .inl rfl
  · exact .inr (fun c => hne k c.symm h)
theorem own_ne' {A B : Option Addr} (hne : ∀ k, ownA A = some k → ownA B ≠ some k) : ownA A = none ∨ ownA A ≠ ownA B := by
  rcases h : ownA A with _ | k
  · exact .inl rfl
  · exact .inr (fun c => hne k h c.symm)
def EInv (w : World) (A B : Option Addr) (m c d : Nat) (la lb : List Int) (wr : World) : Prop :=
  Na wr w.heap.size A m c la ∧ Na wr w.heap.size B m d lb ∧ (∀ k, ownA A = some k → ownA B ≠ some k) ∧ Below w.heap.size w wr
theorem kvEnds {w : World} {A : Option Addr} {n c m : Nat} {l : List Sp} (h : Il8 w A n c l) (hm : (lowL l).length = m) : Calls Tryz.prog 52 #[.slice A n c] w (fun e w' => ∃ A1 c1 B1 d1, e = .returned (.tuple #[.slice A1 m c1, .slice B1 m d1]) ∧ Nl w' A1 m c1 (lowL l) ∧ Nl w' B1 m d1 (highL l) ∧ Below w.heap.size w w') := by
  have HM := Lib.hid hm; have HLn := Lib.hid h.1; have hcap := h.2.1; have hbig := h.2.2.1; have hD0 := h; clear hm h
  go_enter Tryz.func52, Tryz.ntmps52
  go_wp2
  go_loopw [2, 3, 8] (fun va vb i wr => ∃ k A1 B1 m1 c1 d1, k ≤ n ∧ m1 ≤ k ∧ va = .slice A1 m1 c1 ∧ vb = .slice B1 m1 d1 ∧ i = .int .i64 ((k : Nat) : Int) ∧ EInv w A1 B1 m1 c1 d1 (lowL (l.take k)) (highL (l.take k)) wr) (fun _ _ i _ => n - (intOf i).toNat)
  case atStart => exact ⟨0, _, _, _, _, _, Nat.zero_le _, Nat.zero_le _, rfl, rfl, rfl, Na.nil _ _, Na.nil _ _, (fun k h => by cases h), Below.refl _ _⟩
  case round =>
    obtain ⟨k, A1, B1, m1, c1, d1, hk, hmk, rfl, rfl, rfl, N1, N2, hne, hB⟩ := hrel; have HB := Lib.hid hB; clear hB
    by_cases hlt : k < n
    · have tlt : decide ((k : Int) < (n : Int)) = true := by simp; omega
      have h := hD0.below HB.out; obtain ⟨b, o, rfl, hcell⟩ := h.2.2.2 (by omega); obtain ⟨e, D, s, M, E, D', s', M', E', x0, x1, x2, x3, x4, x5, x6, x7, x8, hM, hM', hx⟩ := hcell k hlt; clear hcell h hD0
      have i1 : (k : Int) < n := by omega
      have i2 : (0 : Int) ≤ k := by omega
      have hsl := lowL_take (l := l) (k := k) (by rw [HLn.out]; exact hlt); have hsh := highL_take (l := l) (k := k) (by rw [HLn.out]; exact hlt); rw [← hx] at hsl hsh; generalize lowL (l.take k) = la at *; generalize highL (l.take k) = lb at *; obtain ⟨x, hX⟩ : ∃ x, rkI e D s M E D' s' M' E' = x := ⟨_, rfl⟩; rw [hX] at hsl hsh; have HX := Lib.hid hX; have HSL := Lib.hid hsl; have HSH := Lib.hid hsh
      have HNE := Lib.hid hne; clear hsl hsh hX hx hne; have hsz := HB.out.size
      go_upto_region 4 with (fail)
      clear x0 x1 x2 x3 x4 x5 x6 x7 x8; have lX5 := Nat.le_refl (World.heap wr).size; generalize hWn : wr.alloc _ = w3 at *; obtain ⟨X5, BW⟩ := Bo.nw hWn; clear hWn; replace N1 := N1.below BW; replace N2 := N2.below BW; replace HB := Hqb HB BW; clear BW; clear lX5; have xX5 := X5.cell
      go_wp2_with fail
      refine (kvOrE hM hM' HX.out).mono ?_; rintro ee w4 ⟨e1, K1, s1, M1, E1, K1b, s1b, M1b, E1b, rfl, v1, B⟩; clear xX5; replace X5 := X5.below B; replace N1 := N1.below B; replace N2 := N2.below B; replace HB := Hqb HB B; clear B; clear HX hM hM'; have xX5 := X5.cell; have zX50 := X5.frozen
      go_upto_region 5 with (fail)
      clear xX5 zX50; generalize hS : ((((((((w4.setCell _ _).setCell _ _).setCell _ _).setCell _ _).setCell _ _).setCell _ _).setCell _ _).setCell _ _).setCell _ _ = w5 at *; have SX := StN.of9 X5 hS; replace N1 := N1.stn SX (by decide); replace N2 := N2.stn SX (by decide); replace HB := Lib.hid (SX.below HB.out hsz); replace X5 := SX.box; clear SX hS
      rcases x with _ | ⟨xa, xb⟩
      · obtain ⟨rfl, y1, y1b⟩ := v1; have hsl2 := HSL.out; have hsh2 := HSH.out
        have hl0 : la ++ lo1 none = la := List.append_nil la
        have hh0 : lb ++ hi1 none = lb := List.append_nil lb
        rw [hl0] at hsl2; rw [hh0] at hsh2; clear HSL HSH hl0 hh0
        obtain ⟨_, rfl, rfl, rfl, rfl, rfl, rfl, rfl, rfl⟩ := (show Ci true K1 s1 M1 E1 K1b s1b M1b E1b none from ⟨rfl, y1, y1b⟩).uniq Ci.none
        clear y1 y1b; refine Jo.rk [0, 1, 2] [some 14, some 15, some 16] [[], [], [0, 1]] 3 0 [Jo.q9 true 0 false 0 0 0 false 0 0, Jo.q9 true 0 false 0 0 0 false 0 0, Jo.qb false] (by kernel_rfl) (by kernel_rfl) (by decide) rfl ?_ ?_
        · refine Jo.jm rfl ?_ ?_
          · rintro wj hJ K hK; simp only [Jo.z] at hK ⊢; have xX5 := (X5.below hJ).cell; go_simp; exact hK.out _ _ rfl (br _ _)
          refine Jo.jm rfl ?_ ?_
          · rintro wj hJ K hK; simp only [Jo.z] at hK ⊢; go_simp; refine (kvNoneE).mono ?_; rintro ee wk ⟨rfl, B⟩; exact hK.out _ _ rfl B
          refine Jo.jm rfl ?_ ?_
          · rintro wj hJ _ rfl _ rfl K hK; simp only [Jo.z] at hK ⊢; go_simp
            repeat' split
            all_goals exact hK.out _ _ (congrArg Value.bool (by first | rfl | (exfalso; simp_all) | simp_all)) (br _ _)
          exact Jo.Steps.nil
        rintro w6 hJ _ rfl _ rfl _ rfl -; simp only [Jo.z]; replace X5 := X5.below hJ; replace N1 := N1.below hJ; replace N2 := N2.below hJ; replace HB := Hqb HB hJ; refine Jo.jdone (by kernel_rfl) ?_; go_wp2
        go_roundw
        case rel => exact ⟨k + 1, _, _, _, _, _, by omega, by omega, rfl, rfl, by go_num, by rw [hsl2]; exact N1, by rw [hsh2]; exact N2, HNE.out, HB.out⟩
        case measure => simp [intOf]; omega
      · obtain ⟨rfl, a1, b1, o1, o1l, o1h⟩ := v1
        have hsl2 : _ = la ++ [xa] := HSL.out
        have hsh2 : _ = lb ++ [xb] := HSH.out
        clear HSL HSH o1 o1l o1h; refine Jo.rk [0, 1, 2] [some 14, some 15, some 16] [[], [], [0, 1]] 3 0 [Jo.q9 false K1 s1 M1 E1 K1b s1b M1b E1b, Jo.q9 true 0 false 0 0 0 false 0 0, Jo.qb true] (by kernel_rfl) (by kernel_rfl) (by decide) rfl ?_ ?_
        · refine Jo.jm rfl ?_ ?_
          · rintro wj hJ K hK; simp only [Jo.z] at hK ⊢; have xX5 := (X5.below hJ).cell; go_simp; exact hK.out _ _ rfl (br _ _)
          refine Jo.jm rfl ?_ ?_
          · rintro wj hJ K hK; simp only [Jo.z] at hK ⊢; go_simp; refine (kvNoneE).mono ?_; rintro ee wk ⟨rfl, B⟩; exact hK.out _ _ rfl B
          refine Jo.jm rfl ?_ ?_
          · rintro wj hJ _ rfl _ rfl K hK; simp only [Jo.z] at hK ⊢; go_simp
            repeat' split
            all_goals exact hK.out _ _ (congrArg Value.bool (by first | rfl | (exfalso; simp_all) | simp_all)) (br _ _)
          exact Jo.Steps.nil
        rintro w6 hJ _ rfl _ rfl _ rfl -; simp only [Jo.z]; replace X5 := X5.below hJ; replace N1 := N1.below hJ; replace N2 := N2.below hJ; replace HB := Hqb HB hJ; refine Jo.jdone (by kernel_rfl) ?_; have xX5 := X5.cell
        go_wp2_with (at_builtin; refine wpList_na rfl _ _ rfl rfl rfl (N1.below (bel1 _ _)) a1 (Bo.new _ _ _) (by omega) (Nat.le_trans HB.out.size (bel1 _ _).size) ?_)
        intro A2 d2 w7 N1' G1 at1
        clear xX5; have hB2 := bt HB.out (bel1 _ (.cells #[.int .i64 K1, .bool s1, .int .u64 M1, .int .i64 E1] 32)); have N1b := N1.below (bel1 _ (.cells #[.int .i64 K1, .bool s1, .int .u64 M1, .int .i64 E1] 32)); have N2b := N2.below (bel1 _ (.cells #[.int .i64 K1, .bool s1, .int .u64 M1, .int .i64 E1] 32)); replace X5 := (X5.below (bel1 _ (.cells #[.int .i64 K1, .bool s1, .int .u64 M1, .int .i64 E1] 32))).grownN N1b (by decide) G1
        replace HB := Lib.hid (hB2.grown G1 hB2.size (fun k hk => (N1b.own_lt k hk).1))
        have l1 : ∀ k, ownA B1 = some k → k < w6.heap.size + 1 := fun k hk => by
          have := (N2b.own_lt k hk).2
          simpa using this
        replace N2 := N2b.kept G1 (own_ne HNE.out); clear N1 N1b N2b G1 hB2; have xX5 := X5.cell
        go_wp2_with (at_builtin; refine wpList_na rfl _ _ rfl rfl rfl (N2.below (bel1 _ _)) b1 (Bo.new _ _ _) (by omega) (Nat.le_trans HB.out.size (bel1 _ _).size) ?_)
        intro B2 d3 w8 N2' G2 at2
        clear xX5; have hB2 := bt HB.out (bel1 _ (.cells #[.int .i64 K1b, .bool s1b, .int .u64 M1b, .int .i64 E1b] 32)); have N2b := N2.below (bel1 _ (.cells #[.int .i64 K1b, .bool s1b, .int .u64 M1b, .int .i64 E1b] 32)); have N1b := N1'.below (bel1 _ (.cells #[.int .i64 K1b, .bool s1b, .int .u64 M1b, .int .i64 E1b] 32))
        have lA : ∀ k, ownA A2 = some k → k < w7.heap.size + 1 := fun k hk => by
          have := (N1b.own_lt k hk).2
          simpa using this
        have hne2 : ∀ k, ownA A2 = some k → ownA B2 ≠ some k := ne_row HNE.out at1 at2 l1 lA
        have hne1 : ∀ k, ownA A2 = some k → ownA B1 ≠ some k := ne_row HNE.out at1 (.inl rfl) l1 lA
        replace HB := Lib.hid (hB2.grown G2 hB2.size (fun k hk => (N2b.own_lt k hk).1))
        replace N1' := N1b.kept G2 (own_ne' hne1)
        clear N1b N2b G2 hB2 hne1 X5 N2 l1 lA at1 at2; go_wp2
        go_roundw
        case rel => exact ⟨k + 1, _, _, _, _, _, by omega, by omega, rfl, rfl, by go_num, by rw [hsl2]; exact N1', by rw [hsh2]; exact N2', hne2, HB.out⟩
        case measure => simp [intOf]; omega
    · obtain rfl : k = n := by omega
      have tlt : decide ((k : Int) < (k : Int)) = false := by simp
      have e1 : l.take k = l := List.take_of_length_le (by rw [HLn.out]; omega)
      rw [e1] at N1 N2
      obtain rfl : m1 = m := by rw [← HM.out]; exact N1.len.symm
      have M1 := N1.nl (by omega); have M2 := N2.nl (by omega); clear N1 N2; go_wp2
      go_ret2
      exact ⟨_, _, _, _, rfl, M1, M2, HB.out⟩
theorem kvMeet {w : World} {A : Option Addr} {n c : Nat} {l : List Sp} {z : Sp} (h : Il8 w A n c l) (hr : meetL l = z) : Calls Tryz.prog 29 #[.slice A n c] w (PV w z) := by
  obtain ⟨m, hm⟩ : ∃ m, (lowL l).length = m := ⟨_, rfl⟩; have hln := h.1; have hle := len_lo l; have hok := h.ok; have HM := Lib.hid hm
  go_enter Tryz.func29, Tryz.ntmps29
  go_upto_region 1 with (fail)
  generalize hW1 : w.alloc _ = w1 at *; obtain ⟨XR, HB⟩ := Bo.en1 hW1; replace h := h.below HB.out; clear hW1
  go_wp2_with fail
  refine (kvEnds h HM.out).mono ?_; rintro ee w2 ⟨A1, c1, B1, d1, rfl, N1, N2, B⟩; replace XR := XR.below B; replace h := h.below B; replace HB := Hqb HB B; clear B; clear h
  by_cases hl : m < n
  · rw [meet_no (by omega)] at hr
    obtain rfl : none = z := hr
    have tl : decide ((m : Int) < (n : Int)) = true := by simp; omega
    clear hm hle hln hok
    go_wp2_with fail
    refine (kvNoneE).mono ?_; rintro ee w3 ⟨rfl, B⟩; replace XR := XR.below B; replace N1 := N1.below B; replace N2 := N2.below B; replace HB := Hqb HB B; clear B; clear N1 N2; have xXR := XR.cell; have zXR0 := XR.frozen; go_wp2; clear xXR zXR0; have SX := StN.mk9 XR (.bool true) (.int .i64 0) (.bool false) (.int .u64 0) (.int .i64 0) (.int .i64 0) (.bool false) (.int .u64 0) (.int .i64 0)
    exact bodyPost_ret (by simp [results, Tryz.results29, go_sem, SX.box.cell]) rfl ⟨_, _, _, _, _, _, _, _, _, rfl, Ci.none, (SX.below HB.out (by omega))⟩
  · have hr2 := (meet_some (by omega)).symm.trans hr
    have tl : decide ((m : Int) < (n : Int)) = false := by simp; omega
    clear hr; obtain ⟨u, hu⟩ : ∃ u, mxp (lowL l) = u := ⟨_, rfl⟩; obtain ⟨v, hv⟩ : ∃ v, mnp (highL l) = v := ⟨_, rfl⟩; rw [hu, hv] at hr2; have HU := Lib.hid hu; have HVV := Lib.hid hv; have HR := Lib.hid hr2; clear hu hv hr2 hm hle hln hok
    go_wp2_with fail
    refine (nMost N1 HU.out).mono ?_; rintro ee w3 ⟨K1, s1, M1, E1, rfl, q1, B⟩; replace XR := XR.below B; replace N1 := N1.below B; replace N2 := N2.below B; replace HB := Hqb HB B; clear B
    go_wp2_with fail
    refine (nLeast N2 HVV.out).mono ?_; rintro ee w4 ⟨K2, s2, M2, E2, rfl, q2, B⟩; replace XR := XR.below B; replace N1 := N1.below B; replace N2 := N2.below B; replace HB := Hqb HB B; clear B
    go_wp2_with fail
    refine (kvMake q1.top q2.top q1.rk q2.rk HR.out).mono ?_; rintro ee w5 ⟨e3, K3, s3, M3, E3, K3b, s3b, M3b, E3b, rfl, v3, B⟩; replace XR := XR.below B; replace N1 := N1.below B; replace N2 := N2.below B; replace HB := Hqb HB B; clear B; clear N1 N2; have xXR := XR.cell; have zXR0 := XR.frozen; go_wp2; clear xXR zXR0
    have SX := StN.mk9 XR (.bool e3) (.int .i64 K3) (.bool s3) (.int .u64 M3) (.int .i64 E3) (.int .i64 K3b) (.bool s3b) (.int .u64 M3b) (.int .i64 E3b); exact bodyPost_ret (by simp [results, Tryz.results29, go_sem, SX.box.cell]) rfl ⟨_, _, _, _, _, _, _, _, _, rfl, v3, (SX.below HB.out (by omega))⟩
end Go.Proofs.YtpnmphofengoeaaGreatDoor

namespace Go.Proofs.YtpnmphofengoeaaGreatDoor
open Go.RowKit
set_option linter.unusedVariables false
set_option linter.unusedSimpArgs false
set_option maxRecDepth 100000

def Rw (e : Bool) (K : Int) (s : Bool) (M E K' : Int) (s' : Bool) (M' E' : Int) (x : Sp) : Prop := M < 18446744073709551616 ∧ M' < 18446744073709551616 ∧ rkI e K s M E K' s' M' E' = x
theorem Ci.rw {e : Bool} {K M E K' M' E' : Int} {s s' : Bool} {x : Sp} (h : Ci e K s M E K' s' M' E' x) : Rw e K s M E K' s' M' E' x := ⟨h.top.1, h.top.2, h.rk⟩
def Jo.Fact.il8 (n : Nat) (l : List Sp) : Jo.Fact := ⟨fun v w => ∃ A c, v = .slice A n c ∧ Il8 w A n c l, fun v w w' h b => by
  obtain ⟨A, c, e, h⟩ := h; exact ⟨A, c, e, h.below b⟩⟩
theorem Il8.lit2 {W : World} {h : Nat} {K1 M1 E1 G1 P1 Q1 K2 M2 E2 G2 P2 Q2 : Int} {e1 s1 g1 e2 s2 g2 : Bool} {x1 x2 : Sp} (hg : W.heap.size = h) (v1 : Rw e1 K1 s1 M1 E1 G1 g1 P1 Q1 x1) (v2 : Rw e2 K2 s2 M2 E2 G2 g2 P2 Q2 x2) :
    Il8 (W.alloc (.cells #[.bool e1, .int .i64 K1, .bool s1, .int .u64 M1, .int .i64 E1, .int .i64 G1, .bool g1, .int .u64 P1, .int .i64 Q1, .bool e2, .int .i64 K2, .bool s2, .int .u64 M2, .int .i64 E2, .int .i64 G2, .bool g2, .int .u64 P2, .int .i64 Q2] 34)) (some ⟨h, 0, none⟩) 2 2 [x1, x2] := by
  subst hg; have hh := heap_alloc_new W (.cells #[.bool e1, .int .i64 K1, .bool s1, .int .u64 M1, .int .i64 E1, .int .i64 G1, .bool g1, .int .u64 P1, .int .i64 Q1, .bool e2, .int .i64 K2, .bool s2, .int .u64 M2, .int .i64 E2, .int .i64 G2, .bool g2, .int .u64 P2, .int .i64 Q2] 34)
  refine ⟨rfl, Nat.le_refl _, by decide, fun _ => ⟨_, 0, rfl, fun k hk => ?_⟩⟩
  rcases (by omega : k = 0 ∨ k = 1) with rfl | rfl
  · exact ⟨e1, K1, s1, M1, E1, G1, g1, P1, Q1, by rw [cell_of_row _ _ _ _ _ _ hh]; rfl, by rw [cell_of_row _ _ _ _ _ _ hh]; rfl, by rw [cell_of_row _ _ _ _ _ _ hh]; rfl, by rw [cell_of_row _ _ _ _ _ _ hh]; rfl, by rw [cell_of_row _ _ _ _ _ _ hh]; rfl, by rw [cell_of_row _ _ _ _ _ _ hh]; rfl, by rw [cell_of_row _ _ _ _ _ _ hh]; rfl, by rw [cell_of_row _ _ _ _ _ _ hh]; rfl, by rw [cell_of_row _ _ _ _ _ _ hh]; rfl, v1.1, v1.2.1, v1.2.2⟩
  · exact ⟨e2, K2, s2, M2, E2, G2, g2, P2, Q2, by rw [cell_of_row _ _ _ _ _ _ hh]; rfl, by rw [cell_of_row _ _ _ _ _ _ hh]; rfl, by rw [cell_of_row _ _ _ _ _ _ hh]; rfl, by rw [cell_of_row _ _ _ _ _ _ hh]; rfl, by rw [cell_of_row _ _ _ _ _ _ hh]; rfl, by rw [cell_of_row _ _ _ _ _ _ hh]; rfl, by rw [cell_of_row _ _ _ _ _ _ hh]; rfl, by rw [cell_of_row _ _ _ _ _ _ hh]; rfl, by rw [cell_of_row _ _ _ _ _ _ hh]; rfl, v2.1, v2.2.1, v2.2.2⟩
set_option maxHeartbeats 1000000 in
theorem kvOf {w : World} {a b oa ob : Int} {x : Sp} (a1 : -9223372036854775808 ≤ a) (a2 : a ≤ 9223372036854775807) (b1 : -9223372036854775808 ≤ b) (b2 : b ≤ 9223372036854775807) (ha : sgi (decide (a < 0)) (lo a.natAbs 0) = oa) (hb : sgi (decide (b < 0)) (lo b.natAbs 0) = ob) (hx : mkI oa ob = x) : Calls Tryz.prog 11 #[.int .i64 a, .int .i64 b] w (PV w x) := by
  have HA := Lib.hid ha; have HBB := Lib.hid hb; have HX := Lib.hid hx; clear ha hb hx
  go_enter Tryz.func11, Tryz.ntmps11
  go_upto_region 1 with (fail)
  generalize hW1 : w.alloc _ = w1 at *; obtain ⟨XR, HB⟩ := Bo.en1 hW1; clear hW1
  go_wp2_with fail
  refine (nOf _ a1 a2 HA.out).mono ?_; rintro ee w2 ⟨K1, s1, M1, E1, rfl, q1, B⟩; replace XR := XR.below B; replace HB := Hqb HB B; clear B
  go_wp2_with fail
  refine (nOf _ b1 b2 HBB.out).mono ?_; rintro ee w3 ⟨K2, s2, M2, E2, rfl, q2, B⟩; replace XR := XR.below B; replace HB := Hqb HB B; clear B
  go_wp2_with fail
  refine (kvMake q1.top q2.top q1.rk q2.rk HX.out).mono ?_; rintro ee w4 ⟨e3, K3, s3, M3, E3, K3b, s3b, M3b, E3b, rfl, v3, B⟩; replace XR := XR.below B; replace HB := Hqb HB B; clear B; have xXR := XR.cell; have zXR0 := XR.frozen; go_wp2; clear xXR zXR0; have SX := StN.mk9 XR (.bool e3) (.int .i64 K3) (.bool s3) (.int .u64 M3) (.int .i64 E3) (.int .i64 K3b) (.bool s3b) (.int .u64 M3b) (.int .i64 E3b)
  exact bodyPost_ret (by simp [results, Tryz.results11, go_sem, SX.box.cell]) rfl ⟨_, _, _, _, _, _, _, _, _, rfl, v3, (SX.below HB.out (by omega))⟩
theorem five : ∃ o1 o2 o3 o4 : Int, opl 0 = 0 ∧ opl 1 = o1 ∧ opl 2 = o2 ∧ opl 3 = o3 ∧ opl 4 = o4 ∧ 0 < o1 ∧ o1 < o2 ∧ o2 < o3 ∧ o3 < o4 ∧ o4 < 19342822337206103650074625 := by
  have lt : ∀ a b : Int, 0 ≤ a → a < b → b ≤ 4 → opl a < opl b := fun a b h0 h h4 => by
    have := opl_cmp (a := a) (b := b) (by omega) (by omega) (by omega) (by omega)
    rw [cmpI_lt h] at this
    rcases cmpI_tri (opl a) (opl b) with ⟨c, d⟩ | ⟨c, d⟩ | ⟨c, d⟩ <;> omega
  have z : opl 0 = 0 := rfl
  refine ⟨_, _, _, _, z, rfl, rfl, rfl, rfl, ?_, lt 1 2 (by decide) (by decide) (by decide), lt 2 3 (by decide) (by decide) (by decide), lt 3 4 (by decide) (by decide) (by decide), (opl_pos (n := 4) (by decide) (by decide)).2⟩
  have := lt 0 1 (by decide) (by decide) (by decide)
  rw [z] at this; exact this
end Go.Proofs.YtpnmphofengoeaaGreatDoor

namespace Go.Proofs.YtpnmphofengoeaaGreatDoor
open Go.RowKit
set_option linter.unusedVariables false
set_option maxRecDepth 100000

abbrev V9 := Bool × Int × Bool × Int × Int × Int × Bool × Int × Int
def vrow : List V9 → List Value
  | [] => []
  | (e, K, s, M, E, K', s', M', E') :: l => .bool e :: .int .i64 K :: .bool s :: .int .u64 M :: .int .i64 E :: .int .i64 K' :: .bool s' :: .int .u64 M' :: .int .i64 E' :: vrow l
theorem vrow_append : ∀ l m, vrow (l ++ m) = vrow l ++ vrow m
  | [], m => rfl
  | (e, K, s, M, E, K', s', M', E') :: l, m => by
    show _ :: _ :: _ :: _ :: _ :: _ :: _ :: _ :: _ :: vrow (l ++ m) = _
    rw [vrow_append l m]
    rfl
theorem vrow_len : ∀ l, (vrow l).length = l.length * 9
  | [] => rfl
  | (e, K, s, M, E, K', s', M', E') :: l => by
    show (vrow l).length + 9 = (l.length + 1) * 9
    rw [vrow_len l]
    omega
theorem vrow_one : ∀ (l : List V9), ∀ u ∈ vrow l, u.oneCell' = true
  | [], u, h => by cases h
  | (e, K, s, M, E, K', s', M', E') :: l, u, h => by
    simp only [vrow, List.mem_cons] at h
    rcases h with rfl | rfl | rfl | rfl | rfl | rfl | rfl | rfl | rfl | h
    iterate 9 rfl
    exact vrow_one l u h
theorem vrow_at : ∀ (l : List V9) (k : Nat) (e : Bool) (K : Int) (s : Bool) (M E K' : Int) (s' : Bool) (M' E' : Int), l[k]? = some (e, K, s, M, E, K', s', M', E') → (vrow l)[k * 9]? = some (.bool e) ∧ (vrow l)[k * 9 + 1]? = some (.int .i64 K) ∧ (vrow l)[k * 9 + 2]? = some (.bool s) ∧ (vrow l)[k * 9 + 3]? = some (.int .u64 M) ∧ (vrow l)[k * 9 + 4]? = some (.int .i64 E) ∧ (vrow l)[k * 9 + 5]? = some (.int .i64 K') ∧ (vrow l)[k * 9 + 6]? = some (.bool s') ∧ (vrow l)[k * 9 + 7]? = some (.int .u64 M') ∧ (vrow l)[k * 9 + 8]? = some (.int .i64 E')
  | [], k, _, _, _, _, _, _, _, _, _, h => by cases h
  | (e, K, s, M, E, K', s', M', E') :: l, 0, _, _, _, _, _, _, _, _, _, h => by
    cases h
    exact ⟨rfl, rfl, rfl, rfl, rfl, rfl, rfl, rfl, rfl⟩
  | (e, K, s, M, E, K', s', M', E') :: l, k + 1, e2, K2, s2, M2, E2, K2', s2', M2', E2', h => by
    have := vrow_at l k e2 K2 s2 M2 E2 K2' s2' M2' E2' h
    have e : (k + 1) * 9 = k * 9 + 9 := by omega
    rw [e]; exact this
def Ia (w : World) (base : Nat) (A : Option Addr) (n c : Nat) (l : List Sp) : Prop :=
  ∃ r : List V9, w.ownsRow base 34 9 (.slice A n c) n (vrow r) ∧ r.length = n ∧ l.length = n ∧ ∀ k, k < n → ∃ e K s M E K' s' M' E', r[k]? = some (e, K, s, M, E, K', s', M', E') ∧ Ci e K s M E K' s' M' E' (l.getD k none)
theorem infoIv : (Tryz.prog.info? 34).map (fun i => (i.zero, i.size, i.bytes)) = some (some (.agg #[.bool false, .int .i64 0, .bool false, .int .u64 0, .int .i64 0, .int .i64 0, .bool false, .int .u64 0, .int .i64 0]), 9, 72) := by kernel_rfl
section
variable {w w' : World} {base n c : Nat} {A : Option Addr} {l : List Sp}
theorem Ia.nil (w : World) (base : Nat) : Ia w base none 0 0 [] := ⟨[], World.ownsRow_nil w base _ 9, rfl, rfl, fun k h => absurd h (Nat.not_lt_zero _)⟩
theorem Ia.len (h : Ia w base A n c l) : l.length = n := by
  obtain ⟨_, _, _, h, _⟩ := h; exact h
theorem Ia.below (h : Ia w base A n c l) (hb : Below w.heap.size w w') : Ia w' base A n c l := by
  obtain ⟨r, h1, h2⟩ := h; refine ⟨r, ⟨h1.1, ?_⟩, h2⟩
  rcases h1.2 with h3 | ⟨g, cap, cur, hv, hg, hh, q⟩
  · exact .inl h3
  · refine .inr ⟨g, cap, cur, hv, hg, ?_, q⟩; rw [hb.block g (Array.getElem?_eq_some_iff.1 hh).1]; exact hh
theorem Ia.lower (h : Ia w base A n c l) {base2 : Nat} (hb : base2 ≤ base) : Ia w base2 A n c l := by
  obtain ⟨r, h1, h2⟩ := h; refine ⟨r, ⟨h1.1, ?_⟩, h2⟩
  rcases h1.2 with h3 | ⟨g, cap, cur, hv, hg, q⟩
  · exact .inl h3
  · exact .inr ⟨g, cap, cur, hv, Nat.le_trans hb hg, q⟩
theorem Ia.kept {row : Option Nat} (h : Ia w base A n c l) (hg : w.grownBy w' row) (hne : ownA A = none ∨ ownA A ≠ row) : Ia w' base A n c l := by
  obtain ⟨r, h1, h2⟩ := h; exact ⟨r, h1.kept hg (by rw [own_eq]; exact hne), h2⟩
theorem Ia.own_lt (h : Ia w base A n c l) : ∀ k, ownA A = some k → base ≤ k ∧ k < w.heap.size := by
  obtain ⟨r, h1, h2⟩ := h
  intro k hk
  exact h1.lt k (by rw [own_eq]; exact hk)
theorem Ia.stn {g : Nat} {a b : Array Value} {T : TypeId} (h : Ia w base A n c l) (S : StN w w' g a b T) (hT : (T == 34) = false) : Ia w' base A n c l := by
  obtain ⟨r, h1, h2⟩ := h; refine ⟨r, ⟨h1.1, ?_⟩, h2⟩
  rcases h1.2 with h3 | ⟨g0, cap, cur, hv, hg, hh, q⟩
  · exact .inl h3
  · refine .inr ⟨g0, cap, cur, hv, hg, ?_, q⟩
    rw [S.2.2.1 g0 (fun e => ?_)]
    · exact hh
    · subst e
      have hb : w.heap[g0]? = some (.cells a T (0, 0)) := S.1
      rw [hh] at hb
      simp at hb
      rw [← hb.2] at hT
      simp at hT
theorem Bo.grownI {g : Nat} {a : Array Value} {T : TypeId} (X : Bo w g a T) (h : Ia w base A n c l) (hT : (T == 34) = false) (G : w.grownBy w' (ownA A)) : Bo w' g a T := by
  refine X.keep (G.block g X.lt (fun e => ?_))
  obtain ⟨r, h1, h2⟩ := h
  rcases h1.2 with ⟨h3, _⟩ | ⟨g0, cap, cur, hv, hg, hh, q⟩
  · injection h3 with h4
    subst h4
    cases e
  · injection hv with h4
    subst h4
    cases e
    have hb := X
    unfold Bo at hb
    rw [hh] at hb
    simp at hb
    rw [← hb.2] at hT
    simp at hT
theorem Ia.cells (h : Ia w base A n c l) (h0 : 0 < n) : ∃ g, A = some ⟨g, 0, none⟩ ∧ n ≤ c ∧ ∃ r : List V9, r.length = n ∧ (∀ k, k < n → ∃ e K s M E K' s' M' E', r[k]? = some (e, K, s, M, E, K', s', M', E') ∧ Ci e K s M E K' s' M' E' (l.getD k none)) ∧ ∀ j v, (vrow r)[j]? = some v → w.cell? ⟨g, 0 + j, none⟩ = some v := by
  obtain ⟨r, h1, h2, h3, h4⟩ := h
  rcases h1.2 with ⟨e1, e2⟩ | ⟨g, cap, cur, hv, hg, hh, hc, hm, hs, ht⟩
  · omega
  · injection hv with a1 a2 a3
    subst a1; subst a3
    refine ⟨g, rfl, hc, r, h2, h4, fun j v hv => ?_⟩
    rw [cell_of_row w g (0 + j) _ _ (0, 0) hh, Nat.zero_add, ← Array.getElem?_toList]; rw [← ht, List.getElem?_take] at hv
    split at hv
    · exact hv
    · cases hv
theorem Ia.il (h : Ia w base A n c l) (hn : n ≤ 1099511627776) : Il8 w A n c l := by
  rcases Nat.eq_zero_or_pos n with h0 | h0
  · subst h0; have hl := h.len; obtain ⟨r, h1, _⟩ := h
    rcases h1.2 with ⟨e1, e2⟩ | ⟨g, cap, cur, hv, hg, hh, hc, hm, hs, ht⟩
    · injection e1 with a1 a2 a3
      subst a3
      exact ⟨hl, Nat.le_refl _, by omega, fun h => absurd h (Nat.lt_irrefl _)⟩
    · exact ⟨hl, Nat.zero_le _, by omega, fun h => absurd h (Nat.lt_irrefl _)⟩
  · obtain ⟨g, rfl, hc, r, h2, h4, cell⟩ := h.cells h0
    refine ⟨h.len, hc, hn, fun _ => ⟨g, 0, rfl, fun k hk => ?_⟩⟩
    obtain ⟨e, K, s, M, E, K', s', M', E', hr, q⟩ := h4 k hk; obtain ⟨c0, c1, c2, c3, c4, c5, c6, c7, c8⟩ := vrow_at r k e K s M E K' s' M' E' hr; refine ⟨e, K, s, M, E, K', s', M', E', cell _ _ c0, ?_, ?_, ?_, ?_, ?_, ?_, ?_, ?_, q.top.1, q.top.2, q.rk⟩
    all_goals rw [Nat.add_assoc]
    · exact cell _ _ c1
    · exact cell _ _ c2
    · exact cell _ _ c3
    · exact cell _ _ c4
    · exact cell _ _ c5
    · exact cell _ _ c6
    · exact cell _ _ c7
    · exact cell _ _ c8
theorem Ia.lit {g : Nat} {e s s' : Bool} {K M E K' M' E' : Int} {x : Sp} (X : Bo w g #[.bool e, .int .i64 K, .bool s, .int .u64 M, .int .i64 E, .int .i64 K', .bool s', .int .u64 M', .int .i64 E'] 34) (q : Ci e K s M E K' s' M' E' x) : Ia w g (some ⟨g, 0, none⟩) 1 1 [x] := by
  refine ⟨[(e, K, s, M, E, K', s', M', E')], ⟨rfl, .inr ⟨g, 1, _, rfl, Nat.le_refl _, X, Nat.le_refl _, by decide, rfl, rfl⟩⟩, rfl, rfl, fun k hk => ?_⟩
  obtain rfl : k = 0 := by omega
  exact ⟨e, K, s, M, E, K', s', M', E', rfl, q⟩
theorem add_at (g j : Nat) : (⟨g, 0, none⟩ : Addr).add j = ⟨g, 0 + j, none⟩ := by
  unfold Addr.add
  split
  · rename_i h
    subst h
    rfl
  · rfl
theorem run_ia {ty : TypeId} {base2 m d : Nat} {B : Option Addr} {l2 : List Sp} (h : Ia w base A n c l) (k : Ia w base2 B m d l2) (h0 : 0 < m) (hn : n + m ≤ 1000000) (hb : base ≤ w.heap.size) :
    ∃ A2 c2 w', (Builtin.append_ #[22, 22] ty #[.slice A n c, .slice B m d]).run Tryz.prog w = .ok (.slice A2 (n + m) c2) w' ∧ Ia w' base A2 (n + m) c2 (l ++ l2) ∧ w.grownBy w' (ownA A) ∧ (ownA A2 = ownA A ∨ ownA A2 = some w.heap.size) := by
  obtain ⟨i, hi, hz, hsi, hby⟩ := info_parts infoIv; have hl2 := k.len; obtain ⟨g, rfl, hc, q, q2, q4, cell⟩ := k.cells h0; obtain ⟨r, h1, h2, h3, h4⟩ := h
  obtain ⟨v', w', hr, ho, hg, _, hat⟩ := run_append_own_at (P := Tryz.prog) w base 22 ty 34 i _ 9 72 Tryz.underlying22 hi hz hsi hby rfl (by decide) _ n (vrow r) h1 ⟨g, 0, none⟩ m d (vrow q) (by rw [vrow_len, q2])
    (fun j u hj => by rw [add_at]; exact cell j u hj) (vrow_one q) (by unfold maxLen; omega) (by omega) hb
  rw [own_eq] at hg hat; rw [← vrow_append] at ho
  obtain ⟨A2, c2, rfl⟩ : ∃ A2 c2, v' = .slice A2 (n + m) c2 := by
    rcases ho.2 with ⟨_, h0⟩ | ⟨g', cap', cur', hv, _⟩
    · omega
    · exact ⟨_, _, hv⟩
  rw [own_eq] at hat
  refine ⟨A2, c2, w', hr, ⟨_, ho, by rw [List.length_append, h2, q2], by rw [List.length_append, h3, hl2], fun j hj => ?_⟩, hg, hat⟩
  by_cases hjn : j < n
  · obtain ⟨e1, K1, s1, M1, E1, K1', s1', M1', E1', hq, qq⟩ := h4 j hjn; refine ⟨e1, K1, s1, M1, E1, K1', s1', M1', E1', by rw [List.getElem?_append_left (by omega)]; exact hq, ?_⟩
    rw [List.getD_eq_getElem?_getD, List.getElem?_append_left (by omega), ← List.getD_eq_getElem?_getD]; exact qq
  · obtain ⟨e1, K1, s1, M1, E1, K1', s1', M1', E1', hq, qq⟩ := q4 (j - n) (by omega); refine ⟨e1, K1, s1, M1, E1, K1', s1', M1', E1', by rw [List.getElem?_append_right (by omega), h2]; exact hq, ?_⟩
    rw [List.getD_eq_getElem?_getD, List.getElem?_append_right (by omega), h3, ← List.getD_eq_getElem?_getD]; exact qq
theorem wpList_ia {ops : Array Oper} {rest : List Oper} {o : Oper} {a : Act} {Q : Exit → Act → World → Prop} (hgd : o.guard = none) (s x : Operand)
    (ho : o.op = .call { callee := .builtin .append, args := #[s, x], argTypes := #[22, 22] }) {base2 m d : Nat} {B : Option Addr} {l2 : List Sp}
    (hs : a.eval s = .slice A n c) (hx : a.eval x = .slice B m d) (h : Ia w base A n c l) (k : Ia w base2 B m d l2) (h0 : 0 < m) (hn : n + m ≤ 1000000) (hb : base ≤ w.heap.size)
    (hK : ∀ A2 c2 w', Ia w' base A2 (n + m) c2 (l ++ l2) → w.grownBy w' (ownA A) → (ownA A2 = ownA A ∨ ownA A2 = some w.heap.size) → wpList Tryz.prog ops Q rest (a.put o.dst (.slice A2 (n + m) c2)) w') : wpList Tryz.prog ops Q (o :: rest) a w := by
  refine wpList_plain hgd fun K hK2 => ?_
  obtain ⟨A2, c2, w', hr, h1, h2, h3⟩ := run_ia (ty := o.type) h k h0 hn hb
  unfold Oper.wp execOp
  simp only [ho, resolve, invoke, builtin, Sem.run_bind, Sem.run_pure, Result.andThen_ok, List.map_toArray, List.map_cons, List.map_nil, hs, hx, hr]; exact hK2 _ _ (hK A2 c2 w' h1 h2 h3)
theorem step_ia {ops : Array Oper} {o : Oper} {a : Act} {K : Act → World → Prop} {Q : Exit → Act → World → Prop} (hgd : o.guard = none) (s x : Operand)
    (ho : o.op = .call { callee := .builtin .append, args := #[s, x], argTypes := #[22, 22] }) {base2 m d : Nat} {B : Option Addr} {l2 : List Sp}
    (hs : a.eval s = .slice A n c) (hx : a.eval x = .slice B m d) (h : Ia w base A n c l) (k : Ia w base2 B m d l2) (h0 : 0 < m) (hn : n + m ≤ 1000000) (hb : base ≤ w.heap.size)
    (hK : ∀ A2 c2 w', Ia w' base A2 (n + m) c2 (l ++ l2) → w.grownBy w' (ownA A) → (ownA A2 = ownA A ∨ ownA A2 = some w.heap.size) → K (a.put o.dst (.slice A2 (n + m) c2)) w') :
    if Region.wanted o (yielded ops a.tmps) = true then Oper.wp Tryz.prog o a w K Q else K (a.put o.dst undef) w := by
  have e : Region.wanted o (yielded ops a.tmps) = true := by
    unfold Region.wanted
    rw [hgd]
  rw [if_pos e]; obtain ⟨A2, c2, w', hr, h1, h2, h3⟩ := run_ia (ty := o.type) h k h0 hn hb
  unfold Oper.wp execOp
  simp only [ho, resolve, invoke, builtin, Sem.run_bind, Sem.run_pure, Result.andThen_ok, List.map_toArray, List.map_cons, List.map_nil, hs, hx, hr]; exact hK A2 c2 w' h1 h2 h3
end
end Go.Proofs.YtpnmphofengoeaaGreatDoor

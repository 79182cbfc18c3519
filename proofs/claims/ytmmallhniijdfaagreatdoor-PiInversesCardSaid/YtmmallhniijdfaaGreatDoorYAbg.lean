/-
 Contracts that the proof rests on.
-/
import Derived.Test.YtmmallhniijdfaaGreatDoorYAbf
namespace Go.Proofs.YtmmallhniijdfaaGreatDoor
set_option maxHeartbeats 2000000
open Go.RowKit
set_option linter.unusedVariables false
set_option linter.unusedSimpArgs false
set_option maxRecDepth 100000
theorem fq_inf2 (s : Bool) : Fq 2 s 0 0 (sgi s TP) := ⟨.inr (.inr ⟨rfl, rfl, rfl⟩), by decide, by
 cases s <;> rfl⟩
theorem yInfE {w : World} (s : Bool) : Calls Tryz.prog 123 #[.bool s] w (fun e w' => e = .returned (.agg #[.int .i64 2, .bool s, .int .u64 0, .int .i64 0]) ∧ Below w.heap.size w w') := by
 refine (yInf (s := s) rfl).mono ?_; rintro ee w2 ⟨K, s1, M, E, rfl, q, B⟩; obtain ⟨rfl, rfl, rfl, rfl⟩ := q.uniq (fq_inf2 s); exact ⟨rfl, B⟩
theorem jvNone {w : World}  : Calls Tryz.prog 122 #[] w (PV w none) := by
 go_enter Tryz.func122, Tryz.ntmps122
 go_upto_region 1 with (fail)
 generalize hW1 : w.alloc _ = w1 at *; obtain ⟨XR, HB⟩ := Bo.en1 hW1; clear hW1; have xXR := XR.cell; have zXR0 := XR.frozen; go_wp2; clear xXR zXR0; have SX := StN.mk9 XR (.bool true) (.int .i64 0) (.bool false) (.int .u64 0) (.int .i64 0) (.int .i64 0) (.bool false) (.int .u64 0) (.int .i64 0); exact bodyPost_ret (by simp [results, Tryz.results122, go_sem, SX.box.cell]) rfl ⟨_, _, _, _, _, _, _, _, _, rfl, Ci.none, (SX.below HB.out (by omega))⟩
theorem jvNoneE {w : World} : Calls Tryz.prog 122 #[] w (fun e w' => e = .returned (.agg #[.bool true, .int .i64 0, .bool false, .int .u64 0, .int .i64 0, .int .i64 0, .bool false, .int .u64 0, .int .i64 0]) ∧ Below w.heap.size w w') := by
 refine jvNone.mono ?_; rintro ee w2 ⟨e1, K1, s1, M1, E1, K1b, s1b, M1b, E1b, rfl, v1, B⟩; obtain ⟨rfl, rfl, rfl, rfl, rfl, rfl, rfl, rfl, rfl⟩ := v1.uniq Ci.none; exact ⟨rfl, B⟩
theorem jvmay_t {w : World} {D M E D' M' E' : Int} {s s' : Bool} {r : Bool} (hr : mayI true D s M E D' s' M' E' = r) : Calls Tryz.prog 121 #[VI true D s M E D' s' M' E'] w (PB w r) := by
 delta VI
 have HR := Lib.hid hr; clear hr
 go_enter Tryz.func121, Tryz.ntmps121
 go_upto_region 1 with (fail)
 generalize hW1 : w.alloc _ = w1 at *; obtain ⟨X1, HB⟩ := Bo.en1 hW1; clear hW1; have xX1 := X1.cell
 go_upto_region 2 with (fail)
 clear xX1; refine Jo.rk [0, 1, 2, 3] [some 7, some 8, some 9, some 2] [[], [], [0, 1], [2]] 4 0 [Jo.q9 true D s M E D' s' M' E', Jo.q9 true 0 false 0 0 0 false 0 0, Jo.qb r, Jo.qb r] (by kernel_rfl) (by kernel_rfl) (by decide) rfl ?_ ?_
 · refine Jo.jm rfl ?_ ?_; rotate_left
   refine Jo.jm rfl ?_ ?_
   · rintro wj hJ K hK; simp only [Jo.z] at hK ⊢; go_simp; refine (jvNoneE).mono ?_; rintro ee wk ⟨rfl, B⟩; exact hK.out _ _ rfl B
   refine Jo.jm rfl ?_ ?_
   · rintro wj hJ _ rfl _ rfl K hK; simp only [Jo.z] at hK ⊢; go_simp
     repeat' split
     all_goals exact hK.out _ _ (congrArg Value.bool (by rw [← HR.out]; unfold mayI; simp [*])) (br _ _)
   refine Jo.jm rfl ?_ ?_; rotate_left
   exact Jo.Steps.nil
   all_goals (rintro wj hJ; (repeat rintro _ rfl); intro K hK; simp only [Jo.z] at hK ⊢; have xX1 := (X1.below hJ).cell; go_simp; exact hK.out _ _ rfl (br _ _))
 rintro w8 hJ _ rfl _ rfl _ rfl _ rfl -; simp only [Jo.z]; replace X1 := X1.below hJ; replace HB := Hqb HB hJ; refine Jo.jdone (by kernel_rfl) ?_; go_wp2
 go_ret
 exact ⟨rfl, HB.out⟩
theorem jvmay_fp {w : World} {D M E D' M' E' : Int} {s s' : Bool} (hM : (M : Int) < 18446744073709551616) (hM' : (M' : Int) < 18446744073709551616) (hp : decide (MayQ D s M E) = false) {q : Bool} (hq : decide (MayQ D' s' M' E') = q) : Calls Tryz.prog 121 #[VI false D s M E D' s' M' E'] w (PB w false) := by
 delta VI
 have HP := Lib.hid hp; have HQ := Lib.hid hq; clear hp hq
 go_enter Tryz.func121, Tryz.ntmps121
 go_upto_region 1 with (fail)
 generalize hW1 : w.alloc _ = w1 at *; obtain ⟨X1, HB⟩ := Bo.en1 hW1; clear hW1; have xX1 := X1.cell
 go_wp2_with fail
 refine (yMay HP.out).mono ?_; rintro ee w2 ⟨rfl, B⟩; clear xX1; replace X1 := X1.below B; replace HB := Hqb HB B; clear B; have xX1 := X1.cell
 go_wp2_with fail
 refine (yMay HQ.out).mono ?_; rintro ee w3 ⟨rfl, B⟩; clear xX1; replace X1 := X1.below B; replace HB := Hqb HB B; clear B; have xX1 := X1.cell
 go_upto_region 5 with (fail)
 clear xX1; refine Jo.rk [0, 1, 2, 3, 4, 5, 6, 7, 8, 9, 10, 11, 12, 13, 14, 15, 16, 17, 18, 19, 20, 21, 22, 23, 24] [some 16, some 17, some 18, some 19, some 20, some 21, some 22, some 23, some 24, some 25, some 26, some 27, some 28, some 29, some 30, some 31, some 32, some 33, some 34, some 35, some 36, some 37, some 38, some 39, some 2] [[], [0], [1], [1, 2], [3], [4], [4, 5], [4], [4, 7], [4, 6, 8], [4, 9], [4, 10], [11], [12], [12, 13], [12], [12, 14, 15], [12, 16], [17], [18], [18, 19], [18], [18, 20, 21], [18, 22], [23]] 25 0 [Jo.qb false, Jo.qb false, Jo.qu, Jo.qb false, Jo.qb false, Jo.qu, Jo.qu, Jo.qu, Jo.qu, Jo.qu, Jo.qu, Jo.qb false, Jo.qb false, Jo.qu, Jo.qu, Jo.qu, Jo.qu, Jo.qb false, Jo.qb false, Jo.qu, Jo.qu, Jo.qu, Jo.qu, Jo.qb false, Jo.qb false] (by kernel_rfl) (by kernel_rfl) (by decide) rfl ?_ ?_
 · iterate 25 (refine Jo.jm rfl ?_ ?_; rotate_left)
   exact Jo.Steps.nil
   all_goals (rintro wj hJ; (repeat rintro _ rfl); intro K hK; simp only [Jo.z] at hK ⊢; go_simp; exact hK.out _ _ rfl (br _ _))
 rintro w8 hJ _ rfl _ rfl _ rfl _ rfl _ rfl _ rfl _ rfl _ rfl _ rfl _ rfl _ rfl _ rfl _ rfl _ rfl _ rfl _ rfl _ rfl _ rfl _ rfl _ rfl _ rfl _ rfl _ rfl _ rfl _ rfl -; simp only [Jo.z]; replace X1 := X1.below hJ; replace HB := Hqb HB hJ; refine Jo.jdone (by kernel_rfl) ?_; go_wp2
 go_ret
 exact ⟨rfl, HB.out⟩
theorem jvmay_fq {w : World} {D M E D' M' E' : Int} {s s' : Bool} (hM : (M : Int) < 18446744073709551616) (hM' : (M' : Int) < 18446744073709551616) (hp : decide (MayQ D s M E) = true) (hq : decide (MayQ D' s' M' E') = false) : Calls Tryz.prog 121 #[VI false D s M E D' s' M' E'] w (PB w false) := by
 delta VI
 have HP := Lib.hid hp; have HQ := Lib.hid hq; clear hp hq
 go_enter Tryz.func121, Tryz.ntmps121
 go_upto_region 1 with (fail)
 generalize hW1 : w.alloc _ = w1 at *; obtain ⟨X1, HB⟩ := Bo.en1 hW1; clear hW1; have xX1 := X1.cell
 go_wp2_with fail
 refine (yMay HP.out).mono ?_; rintro ee w2 ⟨rfl, B⟩; clear xX1; replace X1 := X1.below B; replace HB := Hqb HB B; clear B; have xX1 := X1.cell
 go_wp2_with fail
 refine (yMay HQ.out).mono ?_; rintro ee w3 ⟨rfl, B⟩; clear xX1; replace X1 := X1.below B; replace HB := Hqb HB B; clear B; have xX1 := X1.cell
 go_upto_region 5 with (fail)
 clear xX1; refine Jo.rk [0, 1, 2, 3, 4, 5, 6, 7, 8, 9, 10, 11, 12, 13, 14, 15, 16, 17, 18, 19, 20, 21, 22, 23, 24] [some 16, some 17, some 18, some 19, some 20, some 21, some 22, some 23, some 24, some 25, some 26, some 27, some 28, some 29, some 30, some 31, some 32, some 33, some 34, some 35, some 36, some 37, some 38, some 39, some 2] [[], [0], [1], [1, 2], [3], [4], [4, 5], [4], [4, 7], [4, 6, 8], [4, 9], [4, 10], [11], [12], [12, 13], [12], [12, 14, 15], [12, 16], [17], [18], [18, 19], [18], [18, 20, 21], [18, 22], [23]] 25 0 [Jo.qb true, Jo.qb true, Jo.qb false, Jo.qb false, Jo.qb false, Jo.qu, Jo.qu, Jo.qu, Jo.qu, Jo.qu, Jo.qu, Jo.qb false, Jo.qb false, Jo.qu, Jo.qu, Jo.qu, Jo.qu, Jo.qb false, Jo.qb false, Jo.qu, Jo.qu, Jo.qu, Jo.qu, Jo.qb false, Jo.qb false] (by kernel_rfl) (by kernel_rfl) (by decide) rfl ?_ ?_
 · iterate 25 (refine Jo.jm rfl ?_ ?_; rotate_left)
   exact Jo.Steps.nil
   all_goals (rintro wj hJ; (repeat rintro _ rfl); intro K hK; simp only [Jo.z] at hK ⊢; go_simp; exact hK.out _ _ rfl (br _ _))
 rintro w8 hJ _ rfl _ rfl _ rfl _ rfl _ rfl _ rfl _ rfl _ rfl _ rfl _ rfl _ rfl _ rfl _ rfl _ rfl _ rfl _ rfl _ rfl _ rfl _ rfl _ rfl _ rfl _ rfl _ rfl _ rfl _ rfl -; simp only [Jo.z]; replace X1 := X1.below hJ; replace HB := Hqb HB hJ; refine Jo.jdone (by kernel_rfl) ?_; go_wp2
 go_ret
 exact ⟨rfl, HB.out⟩
theorem jvmay_fc {w : World} {D M E D' M' E' c : Int} {s s' : Bool} (hM : (M : Int) < 18446744073709551616) (hM' : (M' : Int) < 18446744073709551616) (hp : decide (MayQ D s M E) = true) (hq : decide (MayQ D' s' M' E') = true) (hc : cmpI (rk D s M E) (rk D' s' M' E') = c) (hc0 : decide (c ≤ 0) = false) : Calls Tryz.prog 121 #[VI false D s M E D' s' M' E'] w (PB w false) := by
 delta VI
 have HP := Lib.hid hp; have HQ := Lib.hid hq; have HC := Lib.hid hc; have HC0 := Lib.hid hc0; clear hp hq hc hc0
 go_enter Tryz.func121, Tryz.ntmps121
 go_upto_region 1 with (fail)
 generalize hW1 : w.alloc _ = w1 at *; obtain ⟨X1, HB⟩ := Bo.en1 hW1; clear hW1; have xX1 := X1.cell
 go_wp2_with fail
 refine (yMay HP.out).mono ?_; rintro ee w2 ⟨rfl, B⟩; clear xX1; replace X1 := X1.below B; replace HB := Hqb HB B; clear B; have xX1 := X1.cell
 go_wp2_with fail
 refine (yMay HQ.out).mono ?_; rintro ee w3 ⟨rfl, B⟩; clear xX1; replace X1 := X1.below B; replace HB := Hqb HB B; clear B; have xX1 := X1.cell
 go_upto_region 5 with (fail)
 clear xX1; refine Jo.rk [0, 1, 2, 3, 4, 5, 6, 7, 8, 9, 10, 11, 12, 13, 14, 15, 16, 17, 18, 19, 20, 21, 22, 23, 24] [some 16, some 17, some 18, some 19, some 20, some 21, some 22, some 23, some 24, some 25, some 26, some 27, some 28, some 29, some 30, some 31, some 32, some 33, some 34, some 35, some 36, some 37, some 38, some 39, some 2] [[], [0], [1], [1, 2], [3], [4], [4, 5], [4], [4, 7], [4, 6, 8], [4, 9], [4, 10], [11], [12], [12, 13], [12], [12, 14, 15], [12, 16], [17], [18], [18, 19], [18], [18, 20, 21], [18, 22], [23]] 25 0 [Jo.qb true, Jo.qb true, Jo.qb true, Jo.qb true, Jo.qb true, Jo.qp w.heap.size 1, Jo.q4 D s M E, Jo.qp w.heap.size 5, Jo.q4 D' s' M' E', Jo.qi c, Jo.qb false, Jo.qb false, Jo.qb false, Jo.qu, Jo.qu, Jo.qu, Jo.qu, Jo.qb false, Jo.qb false, Jo.qu, Jo.qu, Jo.qu, Jo.qu, Jo.qb false, Jo.qb false] (by kernel_rfl) (by kernel_rfl) (by decide) rfl ?_ ?_
 · iterate 9 (refine Jo.jm rfl ?_ ?_; rotate_left)
   refine Jo.jm rfl ?_ ?_
   · rintro wj hJ _ rfl _ rfl _ rfl K hK; simp only [Jo.z] at hK ⊢; go_simp; refine (yCmp hM hM' HC.out).mono ?_; rintro ee wk ⟨rfl, B⟩; exact hK.out _ _ rfl B
   refine Jo.jm rfl ?_ ?_
   · rintro wj hJ _ rfl _ rfl K hK; simp only [Jo.z] at hK ⊢; have hc0 := HC0.out; go_simp
     exact hK.out _ _ (by first | rfl | (show Value.bool _ = Value.bool _; rw [hc0]) | simp_all) (br _ _)
   iterate 14 (refine Jo.jm rfl ?_ ?_; rotate_left)
   exact Jo.Steps.nil
   all_goals (rintro wj hJ; (repeat rintro _ rfl); intro K hK; simp only [Jo.z] at hK ⊢; have xX1 := (X1.below hJ).cell; go_simp; exact hK.out _ _ rfl (br _ _))
 rintro w8 hJ _ rfl _ rfl _ rfl _ rfl _ rfl _ _ _ rfl _ _ _ rfl _ rfl _ rfl _ rfl _ rfl _ rfl _ rfl _ rfl _ rfl _ rfl _ rfl _ rfl _ rfl _ rfl _ rfl _ rfl _ rfl -; simp only [Jo.z]; replace X1 := X1.below hJ; replace HB := Hqb HB hJ; refine Jo.jdone (by kernel_rfl) ?_; go_wp2
 go_ret
 exact ⟨rfl, HB.out⟩
theorem jvmay_ft {w : World} {D' M' E' c : Int} {s' : Bool} (hM : (0 : Int) < 18446744073709551616) (hM' : (M' : Int) < 18446744073709551616) (hq : decide (MayQ D' s' M' E') = true) (hc : cmpI (rk 2 false 0 0) (rk D' s' M' E') = c) (hc0 : decide (c ≤ 0) = true) : Calls Tryz.prog 121 #[VI false 2 false 0 0 D' s' M' E'] w (PB w false) := by
 delta VI
 have HP : Hid (decide (MayQ 2 false 0 0) = true) := Lib.hid (by decide)
 have HN1 := Lib.hid trivial; have HQ := Lib.hid hq; have HC := Lib.hid hc; have HC0 := Lib.hid hc0; clear hq hc hc0
 go_enter Tryz.func121, Tryz.ntmps121
 go_upto_region 1 with (fail)
 generalize hW1 : w.alloc _ = w1 at *; obtain ⟨X1, HB⟩ := Bo.en1 hW1; clear hW1; have xX1 := X1.cell
 go_wp2_with fail
 refine (yMay HP.out).mono ?_; rintro ee w2 ⟨rfl, B⟩; clear xX1; replace X1 := X1.below B; replace HB := Hqb HB B; clear B; have xX1 := X1.cell
 go_wp2_with fail
 refine (yMay HQ.out).mono ?_; rintro ee w3 ⟨rfl, B⟩; clear xX1; replace X1 := X1.below B; replace HB := Hqb HB B; clear B; have xX1 := X1.cell
 go_upto_region 5 with (fail)
 clear xX1; refine Jo.rk [0, 1, 2, 3, 4, 5, 6, 7, 8, 9, 10, 11, 12, 13, 14, 15, 16, 17, 18, 19, 20, 21, 22, 23, 24] [some 16, some 17, some 18, some 19, some 20, some 21, some 22, some 23, some 24, some 25, some 26, some 27, some 28, some 29, some 30, some 31, some 32, some 33, some 34, some 35, some 36, some 37, some 38, some 39, some 2] [[], [0], [1], [1, 2], [3], [4], [4, 5], [4], [4, 7], [4, 6, 8], [4, 9], [4, 10], [11], [12], [12, 13], [12], [12, 14, 15], [12, 16], [17], [18], [18, 19], [18], [18, 20, 21], [18, 22], [23]] 25 0 [Jo.qb true, Jo.qb true, Jo.qb true, Jo.qb true, Jo.qb true, Jo.qp w.heap.size 1, Jo.q4 2 false 0 0, Jo.qp w.heap.size 5, Jo.q4 D' s' M' E', Jo.qi c, Jo.qb true, Jo.qb true, Jo.qb true, Jo.qp w.heap.size 1, Jo.q4 2 false 0 0, Jo.q4 2 false 0 0, Jo.qb false, Jo.qb false, Jo.qb false, Jo.qu, Jo.qu, Jo.qu, Jo.qu, Jo.qb false, Jo.qb false] (by kernel_rfl) (by kernel_rfl) (by decide) rfl ?_ ?_
 · iterate 9 (refine Jo.jm rfl ?_ ?_; rotate_left)
   refine Jo.jm rfl ?_ ?_
   · rintro wj hJ _ rfl _ rfl _ rfl K hK; simp only [Jo.z] at hK ⊢; go_simp; refine (yCmp hM hM' HC.out).mono ?_; rintro ee wk ⟨rfl, B⟩; exact hK.out _ _ rfl B
   refine Jo.jm rfl ?_ ?_
   · rintro wj hJ _ rfl _ rfl K hK; simp only [Jo.z] at hK ⊢; have hc0 := HC0.out; go_simp
     exact hK.out _ _ (by first | rfl | (show Value.bool _ = Value.bool _; rw [hc0]) | simp_all) (br _ _)
   iterate 4 (refine Jo.jm rfl ?_ ?_; rotate_left)
   refine Jo.jm rfl ?_ ?_
   · rintro wj hJ _ rfl K hK; simp only [Jo.z] at hK ⊢; go_simp; refine (yInfE false).mono ?_; rintro ee wk ⟨rfl, B⟩; exact hK.out _ _ rfl B
   refine Jo.jm rfl ?_ ?_
   · rintro wj hJ _ rfl _ rfl _ rfl K hK; simp only [Jo.z] at hK ⊢; have hne := HN1.out; go_simp
     repeat' split
     all_goals exact hK.out _ _ (congrArg Value.bool (by first | rfl | (exfalso; simp_all))) (br _ _)
   iterate 8 (refine Jo.jm rfl ?_ ?_; rotate_left)
   exact Jo.Steps.nil
   all_goals (rintro wj hJ; (repeat rintro _ rfl); intro K hK; simp only [Jo.z] at hK ⊢; have xX1 := (X1.below hJ).cell; go_simp; exact hK.out _ _ rfl (br _ _))
 rintro w8 hJ _ rfl _ rfl _ rfl _ rfl _ rfl _ _ _ rfl _ _ _ rfl _ rfl _ rfl _ rfl _ rfl _ _ _ rfl _ rfl _ rfl _ rfl _ rfl _ rfl _ rfl _ rfl _ rfl _ rfl _ rfl -; simp only [Jo.z]; replace X1 := X1.below hJ; replace HB := Hqb HB hJ; refine Jo.jdone (by kernel_rfl) ?_; go_wp2
 go_ret
 exact ⟨rfl, HB.out⟩
theorem jvmay_fb {w : World} {D M E c : Int} {s : Bool} (hM : (M : Int) < 18446744073709551616) (hM' : (0 : Int) < 18446744073709551616) (hp : decide (MayQ D s M E) = true) (hc : cmpI (rk D s M E) (rk 2 true 0 0) = c) (hc0 : decide (c ≤ 0) = true) (h1 : ¬ (D = 2 ∧ s = false ∧ M = 0 ∧ E = 0)) : Calls Tryz.prog 121 #[VI false D s M E 2 true 0 0] w (PB w false) := by
 delta VI
 have HQ : Hid (decide (MayQ 2 true 0 0) = true) := Lib.hid (by decide)
 have HN2 := Lib.hid trivial; have HP := Lib.hid hp; have HC := Lib.hid hc; have HC0 := Lib.hid hc0; have HN1 := Lib.hid h1; clear hp hc hc0 h1
 go_enter Tryz.func121, Tryz.ntmps121
 go_upto_region 1 with (fail)
 generalize hW1 : w.alloc _ = w1 at *; obtain ⟨X1, HB⟩ := Bo.en1 hW1; clear hW1; have xX1 := X1.cell
 go_wp2_with fail
 refine (yMay HP.out).mono ?_; rintro ee w2 ⟨rfl, B⟩; clear xX1; replace X1 := X1.below B; replace HB := Hqb HB B; clear B; have xX1 := X1.cell
 go_wp2_with fail
 refine (yMay HQ.out).mono ?_; rintro ee w3 ⟨rfl, B⟩; clear xX1; replace X1 := X1.below B; replace HB := Hqb HB B; clear B; have xX1 := X1.cell
 go_upto_region 5 with (fail)
 clear xX1; refine Jo.rk [0, 1, 2, 3, 4, 5, 6, 7, 8, 9, 10, 11, 12, 13, 14, 15, 16, 17, 18, 19, 20, 21, 22, 23, 24] [some 16, some 17, some 18, some 19, some 20, some 21, some 22, some 23, some 24, some 25, some 26, some 27, some 28, some 29, some 30, some 31, some 32, some 33, some 34, some 35, some 36, some 37, some 38, some 39, some 2] [[], [0], [1], [1, 2], [3], [4], [4, 5], [4], [4, 7], [4, 6, 8], [4, 9], [4, 10], [11], [12], [12, 13], [12], [12, 14, 15], [12, 16], [17], [18], [18, 19], [18], [18, 20, 21], [18, 22], [23]] 25 0 [Jo.qb true, Jo.qb true, Jo.qb true, Jo.qb true, Jo.qb true, Jo.qp w.heap.size 1, Jo.q4 D s M E, Jo.qp w.heap.size 5, Jo.q4 2 true 0 0, Jo.qi c, Jo.qb true, Jo.qb true, Jo.qb true, Jo.qp w.heap.size 1, Jo.q4 D s M E, Jo.q4 2 false 0 0, Jo.qb true, Jo.qb true, Jo.qb true, Jo.qp w.heap.size 5, Jo.q4 2 true 0 0, Jo.q4 2 true 0 0, Jo.qb false, Jo.qb false, Jo.qb false] (by kernel_rfl) (by kernel_rfl) (by decide) rfl ?_ ?_
 · iterate 9 (refine Jo.jm rfl ?_ ?_; rotate_left)
   refine Jo.jm rfl ?_ ?_
   · rintro wj hJ _ rfl _ rfl _ rfl K hK; simp only [Jo.z] at hK ⊢; go_simp; refine (yCmp hM hM' HC.out).mono ?_; rintro ee wk ⟨rfl, B⟩; exact hK.out _ _ rfl B
   refine Jo.jm rfl ?_ ?_
   · rintro wj hJ _ rfl _ rfl K hK; simp only [Jo.z] at hK ⊢; have hc0 := HC0.out; go_simp
     exact hK.out _ _ (by first | rfl | (show Value.bool _ = Value.bool _; rw [hc0]) | simp_all) (br _ _)
   iterate 4 (refine Jo.jm rfl ?_ ?_; rotate_left)
   refine Jo.jm rfl ?_ ?_
   · rintro wj hJ _ rfl K hK; simp only [Jo.z] at hK ⊢; go_simp; refine (yInfE false).mono ?_; rintro ee wk ⟨rfl, B⟩; exact hK.out _ _ rfl B
   refine Jo.jm rfl ?_ ?_
   · rintro wj hJ _ rfl _ rfl _ rfl K hK; simp only [Jo.z] at hK ⊢; have hne := HN1.out; go_simp
     repeat' split
     all_goals exact hK.out _ _ (congrArg Value.bool (by first | rfl | (exfalso; simp_all))) (br _ _)
   iterate 4 (refine Jo.jm rfl ?_ ?_; rotate_left)
   refine Jo.jm rfl ?_ ?_
   · rintro wj hJ _ rfl K hK; simp only [Jo.z] at hK ⊢; go_simp; refine (yInfE true).mono ?_; rintro ee wk ⟨rfl, B⟩; exact hK.out _ _ rfl B
   refine Jo.jm rfl ?_ ?_
   · rintro wj hJ _ rfl _ rfl _ rfl K hK; simp only [Jo.z] at hK ⊢; have hne := HN2.out; go_simp
     repeat' split
     all_goals exact hK.out _ _ (congrArg Value.bool (by first | rfl | (exfalso; simp_all))) (br _ _)
   iterate 2 (refine Jo.jm rfl ?_ ?_; rotate_left)
   exact Jo.Steps.nil
   all_goals (rintro wj hJ; (repeat rintro _ rfl); intro K hK; simp only [Jo.z] at hK ⊢; have xX1 := (X1.below hJ).cell; go_simp; exact hK.out _ _ rfl (br _ _))
 rintro w8 hJ _ rfl _ rfl _ rfl _ rfl _ rfl _ _ _ rfl _ _ _ rfl _ rfl _ rfl _ rfl _ rfl _ _ _ rfl _ rfl _ rfl _ rfl _ rfl _ _ _ rfl _ rfl _ rfl _ rfl _ rfl -; simp only [Jo.z]; replace X1 := X1.below hJ; replace HB := Hqb HB hJ; refine Jo.jdone (by kernel_rfl) ?_; go_wp2
 go_ret
 exact ⟨rfl, HB.out⟩
theorem jvmay_fy {w : World} {D M E D' M' E' c : Int} {s s' : Bool} (hM : (M : Int) < 18446744073709551616) (hM' : (M' : Int) < 18446744073709551616) (hp : decide (MayQ D s M E) = true) (hq : decide (MayQ D' s' M' E') = true) (hc : cmpI (rk D s M E) (rk D' s' M' E') = c) (hc0 : decide (c ≤ 0) = true) (h1 : ¬ (D = 2 ∧ s = false ∧ M = 0 ∧ E = 0)) (h2 : ¬ (D' = 2 ∧ s' = true ∧ M' = 0 ∧ E' = 0)) : Calls Tryz.prog 121 #[VI false D s M E D' s' M' E'] w (PB w true) := by
 delta VI
 have HP := Lib.hid hp; have HQ := Lib.hid hq; have HC := Lib.hid hc; have HC0 := Lib.hid hc0; have HN1 := Lib.hid h1; have HN2 := Lib.hid h2; clear hp hq hc hc0 h1 h2
 go_enter Tryz.func121, Tryz.ntmps121
 go_upto_region 1 with (fail)
 generalize hW1 : w.alloc _ = w1 at *; obtain ⟨X1, HB⟩ := Bo.en1 hW1; clear hW1; have xX1 := X1.cell
 go_wp2_with fail
 refine (yMay HP.out).mono ?_; rintro ee w2 ⟨rfl, B⟩; clear xX1; replace X1 := X1.below B; replace HB := Hqb HB B; clear B; have xX1 := X1.cell
 go_wp2_with fail
 refine (yMay HQ.out).mono ?_; rintro ee w3 ⟨rfl, B⟩; clear xX1; replace X1 := X1.below B; replace HB := Hqb HB B; clear B; have xX1 := X1.cell
 go_upto_region 5 with (fail)
 clear xX1; refine Jo.rk [0, 1, 2, 3, 4, 5, 6, 7, 8, 9, 10, 11, 12, 13, 14, 15, 16, 17, 18, 19, 20, 21, 22, 23, 24] [some 16, some 17, some 18, some 19, some 20, some 21, some 22, some 23, some 24, some 25, some 26, some 27, some 28, some 29, some 30, some 31, some 32, some 33, some 34, some 35, some 36, some 37, some 38, some 39, some 2] [[], [0], [1], [1, 2], [3], [4], [4, 5], [4], [4, 7], [4, 6, 8], [4, 9], [4, 10], [11], [12], [12, 13], [12], [12, 14, 15], [12, 16], [17], [18], [18, 19], [18], [18, 20, 21], [18, 22], [23]] 25 0 [Jo.qb true, Jo.qb true, Jo.qb true, Jo.qb true, Jo.qb true, Jo.qp w.heap.size 1, Jo.q4 D s M E, Jo.qp w.heap.size 5, Jo.q4 D' s' M' E', Jo.qi c, Jo.qb true, Jo.qb true, Jo.qb true, Jo.qp w.heap.size 1, Jo.q4 D s M E, Jo.q4 2 false 0 0, Jo.qb true, Jo.qb true, Jo.qb true, Jo.qp w.heap.size 5, Jo.q4 D' s' M' E', Jo.q4 2 true 0 0, Jo.qb true, Jo.qb true, Jo.qb true] (by kernel_rfl) (by kernel_rfl) (by decide) rfl ?_ ?_
 · iterate 9 (refine Jo.jm rfl ?_ ?_; rotate_left)
   refine Jo.jm rfl ?_ ?_
   · rintro wj hJ _ rfl _ rfl _ rfl K hK; simp only [Jo.z] at hK ⊢; go_simp; refine (yCmp hM hM' HC.out).mono ?_; rintro ee wk ⟨rfl, B⟩; exact hK.out _ _ rfl B
   refine Jo.jm rfl ?_ ?_
   · rintro wj hJ _ rfl _ rfl K hK; simp only [Jo.z] at hK ⊢; have hc0 := HC0.out; go_simp
     exact hK.out _ _ (by first | rfl | (show Value.bool _ = Value.bool _; rw [hc0]) | simp_all) (br _ _)
   iterate 4 (refine Jo.jm rfl ?_ ?_; rotate_left)
   refine Jo.jm rfl ?_ ?_
   · rintro wj hJ _ rfl K hK; simp only [Jo.z] at hK ⊢; go_simp; refine (yInfE false).mono ?_; rintro ee wk ⟨rfl, B⟩; exact hK.out _ _ rfl B
   refine Jo.jm rfl ?_ ?_
   · rintro wj hJ _ rfl _ rfl _ rfl K hK; simp only [Jo.z] at hK ⊢; have hne := HN1.out; go_simp
     repeat' split
     all_goals exact hK.out _ _ (congrArg Value.bool (by first | rfl | (exfalso; simp_all))) (br _ _)
   iterate 4 (refine Jo.jm rfl ?_ ?_; rotate_left)
   refine Jo.jm rfl ?_ ?_
   · rintro wj hJ _ rfl K hK; simp only [Jo.z] at hK ⊢; go_simp; refine (yInfE true).mono ?_; rintro ee wk ⟨rfl, B⟩; exact hK.out _ _ rfl B
   refine Jo.jm rfl ?_ ?_
   · rintro wj hJ _ rfl _ rfl _ rfl K hK; simp only [Jo.z] at hK ⊢; have hne := HN2.out; go_simp
     repeat' split
     all_goals exact hK.out _ _ (congrArg Value.bool (by first | rfl | (exfalso; simp_all))) (br _ _)
   iterate 2 (refine Jo.jm rfl ?_ ?_; rotate_left)
   exact Jo.Steps.nil
   all_goals (rintro wj hJ; (repeat rintro _ rfl); intro K hK; simp only [Jo.z] at hK ⊢; have xX1 := (X1.below hJ).cell; go_simp; exact hK.out _ _ rfl (br _ _))
 rintro w8 hJ _ rfl _ rfl _ rfl _ rfl _ rfl _ _ _ rfl _ _ _ rfl _ rfl _ rfl _ rfl _ rfl _ _ _ rfl _ rfl _ rfl _ rfl _ rfl _ _ _ rfl _ rfl _ rfl _ rfl _ rfl -; simp only [Jo.z]; replace X1 := X1.below hJ; replace HB := Hqb HB hJ; refine Jo.jdone (by kernel_rfl) ?_; go_wp2
 go_ret
 exact ⟨rfl, HB.out⟩
theorem rk_top {D : Int} {s : Bool} {M E : Int} (hM : LQ M) (h : MayQ D s M E) (b : Bool) : rk D s M E = sgi b TP ↔ (D = 2 ∧ s = b ∧ M = 0 ∧ E = 0) := by
 constructor
 · intro e
   have q := rk_fq hM h; rw [e] at q; exact q.uniq (fq_inf2 b)
 · rintro ⟨rfl, rfl, rfl, rfl⟩; exact (fq_inf2 s).rk
theorem jvMay {w : World} {e : Bool} {D M E D' M' E' : Int} {s s' : Bool} {r : Bool} (hM : LQ M) (hM' : LQ M') (hr : mayI e D s M E D' s' M' E' = r) : Calls Tryz.prog 121 #[VI e D s M E D' s' M' E'] w (PB w r) := by
 delta VI
 cases e
 · have e0 : decide (rkI false D s M E D' s' M' E' ≠ none) = r := by rw [← hr]; exact (if_neg ff).symm
   rw [rkI_f] at e0
   by_cases hp : MayQ D s M E
   · by_cases hq : MayQ D' s' M' E'
     · rw [if_pos ⟨hp, hq⟩] at e0; have b1 := (rk_fq hM hp).bd; have b2 := (rk_fq hM' hq).bd; have t1 := rk_top hM hp false; have t2 := rk_top hM' hq true
       have tf : sgi false TP = 19342822337206103650074625 := rfl
       have tt : sgi true TP = -19342822337206103650074625 := rfl
       rw [tf] at t1; rw [tt] at t2; have hpd := decide_eq_true hp; have hqd := decide_eq_true hq
       by_cases hc : rk D s M E ≤ rk D' s' M' E'
       · have hc0 : decide (cmpI (rk D s M E) (rk D' s' M' E') ≤ 0) = true := decide_eq_true (by rcases cmpI_tri (rk D s M E) (rk D' s' M' E') with ⟨a, b⟩ | ⟨a, b⟩ | ⟨a, b⟩ <;> rw [b] <;> omega)
         by_cases h1 : D = 2 ∧ s = false ∧ M = 0 ∧ E = 0
         · have k1 := t1.2 h1; rw [mkI_none (by omega)] at e0
           obtain rfl : false = r := e0
           obtain ⟨rfl, rfl, rfl, rfl⟩ := h1; exact jvmay_ft hM hM' hqd rfl hc0
         · have k1 : rk D s M E ≠ 19342822337206103650074625 := fun c => h1 (t1.1 c)
           by_cases h2 : D' = 2 ∧ s' = true ∧ M' = 0 ∧ E' = 0
           · have k2 := t2.2 h2; rw [mkI_none (by omega)] at e0
             obtain rfl : false = r := e0
             obtain ⟨rfl, rfl, rfl, rfl⟩ := h2; exact jvmay_fb hM hM' hpd rfl hc0 h1
           · have k2 : rk D' s' M' E' ≠ -19342822337206103650074625 := fun c => h2 (t2.1 c)
             rw [mkI_some hc (by omega) (by omega)] at e0
             obtain rfl : true = r := e0
             exact jvmay_fy hM hM' hpd hqd rfl hc0 h1 h2
       · rw [mkI_none (fun c => hc c.1)] at e0
         obtain rfl : false = r := e0
         exact jvmay_fc hM hM' hpd hqd rfl (decide_eq_false (by rcases cmpI_tri (rk D s M E) (rk D' s' M' E') with ⟨a, b⟩ | ⟨a, b⟩ | ⟨a, b⟩ <;> rw [b] <;> omega))
     · rw [if_neg (fun c => hq c.2)] at e0
       obtain rfl : false = r := e0
       exact jvmay_fq hM hM' (decide_eq_true hp) (decide_eq_false hq)
   · rw [if_neg (fun c => hp c.1)] at e0
     obtain rfl : false = r := e0
     exact jvmay_fp hM hM' (decide_eq_false hp) rfl
 · exact jvmay_t hr
theorem jvFair {w : World} {e : Bool} {D M E D' M' E' : Int} {s s' : Bool} {x : Sp} (hM : LQ M) (hM' : LQ M') (hr : rkI e D s M E D' s' M' E' = x) : Calls Tryz.prog 95 #[VI e D s M E D' s' M' E'] w (PV w x) := by
 delta VI
 cases hm : mayI e D s M E D' s' M' E'
 · obtain rfl : none = x := (mayI_no hm).symm.trans hr
   have HM := Lib.hid hm; clear hm hr
   go_enter Tryz.func95, Tryz.ntmps95
   go_upto_region 1 with (fail)
   generalize hW1 : (w.alloc _).alloc _ = w1 at *; obtain ⟨X1, XR, HB⟩ := Bo.en2 hW1; clear hW1; have xX1 := X1.cell
   go_wp2_with fail
   refine (jvMay hM hM' HM.out).mono ?_; rintro ee w2 ⟨rfl, B⟩; clear xX1; replace X1 := X1.below B; replace XR := XR.below B; replace HB := Hqb HB B; clear B; clear HM hM hM'
   go_wp2_with fail
   refine (jvNoneE).mono ?_; rintro ee w3 ⟨rfl, B⟩; replace X1 := X1.below B; replace XR := XR.below B; replace HB := Hqb HB B; clear B; have xXR := XR.cell; have zXR0 := XR.frozen; go_wp2; clear xXR zXR0; have SX := StN.mk9 XR (.bool true) (.int .i64 0) (.bool false) (.int .u64 0) (.int .i64 0) (.int .i64 0) (.bool false) (.int .u64 0) (.int .i64 0)
   exact bodyPost_ret (by simp [results, Tryz.results95, go_sem, SX.box.cell]) rfl ⟨_, _, _, _, _, _, _, _, _, rfl, Ci.none, (SX.below HB.out (by omega))⟩
 · have hv := mayI_ci hM hM' hm; rw [hr] at hv; have HM := Lib.hid hm; clear hm hr
   go_enter Tryz.func95, Tryz.ntmps95
   go_upto_region 1 with (fail)
   generalize hW1 : (w.alloc _).alloc _ = w1 at *; obtain ⟨X1, XR, HB⟩ := Bo.en2 hW1; clear hW1; have xX1 := X1.cell
   go_wp2_with fail
   refine (jvMay hM hM' HM.out).mono ?_; rintro ee w2 ⟨rfl, B⟩; clear xX1; replace X1 := X1.below B; replace XR := XR.below B; replace HB := Hqb HB B; clear B; clear HM hM hM'; have xXR := XR.cell; have zXR0 := XR.frozen; have xX1 := X1.cell; go_wp2
   clear xXR zXR0 xX1; have SX := StN.mk9 XR (.bool e) (.int .i64 D) (.bool s) (.int .u64 M) (.int .i64 E) (.int .i64 D') (.bool s') (.int .u64 M') (.int .i64 E'); exact bodyPost_ret (by simp [results, Tryz.results95, go_sem, SX.box.cell]) rfl ⟨_, _, _, _, _, _, _, _, _, rfl, hv, (SX.below HB.out (by omega))⟩
def Jo.Fact.ir (x : Sp) : Jo.Fact := ⟨fun v w => ∃ e K s M E K' s' M' E', v = .agg #[.bool e, .int .i64 K, .bool s, .int .u64 M, .int .i64 E, .int .i64 K', .bool s', .int .u64 M', .int .i64 E'] ∧ M < 18446744073709551616 ∧ M' < 18446744073709551616 ∧ rkI e K s M E K' s' M' E' = x, fun v w w' h b => h⟩
theorem rkI_mk {K M E K' M' E' : Int} {s s' : Bool} {a b : Int} {x : Sp} (q : Fq K s M E a) (q' : Fq K' s' M' E' b) (hx : mkI a b = x) : rkI false K s M E K' s' M' E' = x := by
 rw [rkI_f, if_pos ⟨q.1, q'.1⟩, q.rk, q'.rk, hx]
theorem jvMake {w : World} {D D' M M' E E' : Int} {s s' : Bool} {a b : Int} {x : Sp} (hM : LQ M) (hM' : LQ M') (ha : rk D s M E = a) (hb : rk D' s' M' E' = b) (hx : mkI a b = x) : Calls Tryz.prog 53 #[VQ D s M E, VQ D' s' M' E'] w (PV w x) := by
 delta VQ
 have HA := Lib.hid ha; have HBB := Lib.hid hb; have HX := Lib.hid hx; clear ha hb hx
 go_enter Tryz.func53, Tryz.ntmps53
 go_upto_region 1 with (fail)
 generalize hW1 : ((w.alloc _).alloc _).alloc _ = w1 at *; obtain ⟨X2, X3, XR, HB⟩ := Bo.en3 hW1; clear hW1; refine Jo.rk [0, 1, 2, 3, 4, 5] [some 5, some 6, some 7, some 8, some 9, some 10, none] [[], [0], [], [2], [1, 3], [4], []] 7 1 [Jo.q4 D s M E, Jo.Fact.num a, Jo.q4 D' s' M' E', Jo.Fact.num b, Jo.Fact.ir x, Jo.Fact.iv x, Jo.Fact.any] (by kernel_rfl) (by kernel_rfl) (by decide) rfl ?_ ?_
 · refine Jo.jm rfl ?_ ?_; rotate_left
   refine Jo.jm rfl ?_ ?_
   · rintro wj hJ _ rfl K hK; simp only [Jo.z] at hK ⊢; go_simp; refine (gFair hM HA.out).mono ?_; rintro ee wk ⟨K1, s1, M1, E1, rfl, q1, B⟩; exact hK.out _ _ ⟨K1, s1, M1, E1, rfl, q1⟩ B
   refine Jo.jm rfl ?_ ?_; rotate_left
   refine Jo.jm rfl ?_ ?_
   · rintro wj hJ _ rfl K hK; simp only [Jo.z] at hK ⊢; go_simp; refine (gFair hM' HBB.out).mono ?_; rintro ee wk ⟨K2, s2, M2, E2, rfl, q2, B⟩; exact hK.out _ _ ⟨K2, s2, M2, E2, rfl, q2⟩ B
   refine Jo.jm rfl ?_ ?_
   · rintro wj hJ _ ⟨K1, s1, M1, E1, rfl, q1⟩ _ ⟨K2, s2, M2, E2, rfl, q2⟩ K hK; simp only [Jo.z] at hK ⊢; go_simp; exact hK.out _ _ ⟨_, _, _, _, _, _, _, _, _, rfl, q1.top, q2.top, rkI_mk q1 q2 HX.out⟩ (br _ _)
   refine Jo.jm rfl ?_ ?_
   · rintro wj hJ _ ⟨e4, K4, s4, M4, E4, K4b, s4b, M4b, E4b, rfl, m4, m4b, r4⟩ K hK; simp only [Jo.z] at hK ⊢; go_simp; refine (jvFair m4 m4b r4).mono ?_; rintro ee wk ⟨e5, K5, s5, M5, E5, K5b, s5b, M5b, E5b, rfl, v5, B⟩; exact hK.out _ _ ⟨e5, K5, s5, M5, E5, K5b, s5b, M5b, E5b, rfl, v5⟩ B
   exact Jo.Steps.nil
   all_goals (rintro wj hJ; (repeat rintro _ rfl); intro K hK; simp only [Jo.z] at hK ⊢; have xX2 := (X2.below hJ).cell; have xX3 := (X3.below hJ).cell; go_simp; exact hK.out _ _ rfl (br _ _))
 rintro w8 hJ _ rfl _ ⟨K1, s1, M1, E1, rfl, q1⟩ _ rfl _ ⟨K2, s2, M2, E2, rfl, q2⟩ _ ⟨_, _, _, _, _, _, _, _, _, rfl, _⟩ _ ⟨e5, K5, s5, M5, E5, K5b, s5b, M5b, E5b, rfl, v5⟩ -; simp only [Jo.z]; replace X2 := X2.below hJ; replace X3 := X3.below hJ; replace XR := XR.below hJ; replace HB := Hqb HB hJ; have xXR := XR.cell; have zXR0 := XR.frozen
 refine Jo.jnext (i := 6) (o := ⟨none, _, _, _, _, _⟩) (by kernel_rfl) rfl (fun K hK => ?_)
 go_simp; refine hK.out _ _ ?_; clear hK K xXR zXR0; have SX := StN.mk9 XR (.bool e5) (.int .i64 K5) (.bool s5) (.int .u64 M5) (.int .i64 E5) (.int .i64 K5b) (.bool s5b) (.int .u64 M5b) (.int .i64 E5b); refine Jo.jdone (by kernel_rfl) ?_; go_wp2; exact bodyPost_ret (by simp [results, Tryz.results53, go_sem, SX.box.cell]) rfl ⟨_, _, _, _, _, _, _, _, _, rfl, v5, (SX.below HB.out (by omega))⟩
end Go.Proofs.YtmmallhniijdfaaGreatDoor

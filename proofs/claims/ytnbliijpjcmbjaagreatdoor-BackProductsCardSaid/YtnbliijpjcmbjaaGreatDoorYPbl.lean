/-
 Contracts that the proof rests on.
-/
import Derived.Test.YtnbliijpjcmbjaaGreatDoorYPbj
namespace Go.Proofs.YtnbliijpjcmbjaaGreatDoor
open Go.RowKit
set_option linter.unusedVariables false
set_option linter.unusedSimpArgs false
set_option maxRecDepth 100000
theorem ci_zero : Ci false 0 false 0 0 0 false 0 0 (some (0, 0)) := ⟨rfl, Fq.nought, Fq.nought, by decide, by decide, by decide⟩
theorem jvPoint0 {w : World} : Calls Tryz.prog 45 #[VQ 0 false 0 0] w (fun e w' => e = .returned (.agg #[.bool false, .int .i64 0, .bool false, .int .u64 0, .int .i64 0, .int .i64 0, .bool false, .int .u64 0, .int .i64 0]) ∧ Below w.heap.size w w') := by
 delta VQ
 refine (jvPoint (x := some (0, 0)) (by decide) Fq.nought.rk (by decide)).mono ?_; rintro ee w2 ⟨e1, K1, s1, M1, E1, K1b, s1b, M1b, E1b, rfl, v1, B⟩; obtain ⟨rfl, rfl, rfl, rfl, rfl, rfl, rfl, rfl, rfl⟩ := v1.uniq ci_zero; exact ⟨rfl, B⟩
theorem sgn_pos {x : Int} (h : 0 < x) : cmpI x 0 = 1 := by rcases cmpI_tri x 0 with ⟨a, b⟩ | ⟨a, b⟩ | ⟨a, b⟩ <;> omega
theorem sgn_neg {x : Int} (h : x < 0) : cmpI x 0 = -1 := by rcases cmpI_tri x 0 with ⟨a, b⟩ | ⟨a, b⟩ | ⟨a, b⟩ <;> omega
theorem sgn_nil : cmpI 0 0 = 0 := by decide
set_option maxHeartbeats 8000000 in
theorem fwDiv {w : World} {e : Bool} {D M E D' M' E' : Int} {s s' : Bool} {e2 : Bool} {G P Q G' P' Q' : Int} {g g' : Bool} {x y z : Sp} {q : Bool → Int → Int → Int} (hq : QF q) (hM : LQ M) (hM' : LQ M') (hP : LQ P) (hP' : LQ P') (hx : rkI e D s M E D' s' M' E' = x) (hy : rkI e2 G g P Q G' g' P' Q' = y) (hr : divI q x y = z) : Calls Tryz.prog 76 #[VI e D s M E D' s' M' E', VI e2 G g P Q G' g' P' Q'] w (PV w z) := by
 delta VI
 have HX := Lib.hid hx; have HY := Lib.hid hy; clear hx hy
 go_enter Tryz.func76, Tryz.ntmps76
 go_upto_region 1 with (fail)
 generalize hW1 : ((w.alloc _).alloc _).alloc _ = w1 at *; obtain ⟨X2, X3, XR, HB⟩ := Bo.en3 hW1; clear hW1; have xX2 := X2.cell
 go_wp2_with fail
 refine (jvFair hM hM' HX.out).mono ?_; rintro ee w2 ⟨e1, K1, s1, M1, E1, K1b, s1b, M1b, E1b, rfl, v1, B⟩; clear xX2; replace X2 := X2.below B; replace X3 := X3.below B; replace XR := XR.below B; replace HB := Hqb HB B; clear B
 go_upto_region 2 with (fail)
 have lX5 := Nat.le_refl (World.heap w2).size; have nX5X2 := X2.lt; have nX5X3 := X3.lt; have nX5XR := XR.lt; generalize hWn : w2.alloc _ = w3 at *; obtain ⟨X5, BW⟩ := Bo.nw hWn; clear hWn; replace X2 := X2.below BW; replace X3 := X3.below BW; replace XR := XR.below BW; replace HB := Hqb HB BW; clear BW; clear lX5; have xX3 := X3.cell
 go_wp2_with fail
 refine (jvFair hP hP' HY.out).mono ?_; rintro ee w4 ⟨e2, K2, s2, M2, E2, K2b, s2b, M2b, E2b, rfl, v2, B⟩; clear xX3; replace X2 := X2.below B; replace X3 := X3.below B; replace XR := XR.below B; replace X5 := X5.below B; replace HB := Hqb HB B; clear B
 go_upto_region 3 with (fail)
 have lX6 := Nat.le_refl (World.heap w4).size; have nX6X2 := X2.lt; have nX6X3 := X3.lt; have nX6XR := XR.lt; have nX6X5 := X5.lt; generalize hWn : w4.alloc _ = w5 at *; obtain ⟨X6, BW⟩ := Bo.nw hWn; clear hWn; replace X2 := X2.below BW; replace X3 := X3.below BW; replace XR := XR.below BW; replace X5 := X5.below BW; replace HB := Hqb HB BW; clear BW; clear lX6; clear HX HY hM hM' hP hP'
 go_upto_region 4 with (fail)
 have lX7 := Nat.le_refl (World.heap w5).size; have nX7XR := XR.lt; have nX7X5 := X5.lt; have nX7X6 := X6.lt; generalize hWn : w5.alloc _ = w6 at *; obtain ⟨X7, BW⟩ := Bo.nw hWn; clear hWn; replace XR := XR.below BW; replace X5 := X5.below BW; replace X6 := X6.below BW; replace HB := Hqb HB BW; clear BW; clear lX7
 rcases x with _ | ⟨xa, xb⟩
 · obtain ⟨rfl, y1, y1b⟩ := v1; refine Jo.rk [0, 1, 2, 3, 4, 5, 6, 7, 8, 9, 10, 11] [some 19, some 20, some 21, some 22, some 23, some 24, some 25, some 26, some 27, some 28, some 29, some 30] [[], [0], [1], [2], [2, 3], [2, 4], [5], [6], [6], [6, 8], [6, 7, 9], [6, 10]] 12 0 [Jo.qp w2.heap.size 0, Jo.qb true, Jo.qb true, Jo.qu, Jo.qu, Jo.qb true, Jo.qb true, Jo.qu, Jo.qu, Jo.qu, Jo.qu, Jo.qb true] (by kernel_rfl) (by kernel_rfl) (by decide) rfl ?_ ?_
   · refine Jo.jm rfl ?_ ?_; rotate_left
     refine Jo.jm rfl ?_ ?_
     · rintro wj hJ _ rfl K hK; simp only [Jo.z] at hK ⊢; have xX50 := (X5.below hJ).a 0 (.bool true) rfl; go_simp; exact hK.out _ _ rfl (br _ _)
     iterate 10 (refine Jo.jm rfl ?_ ?_; rotate_left)
     exact Jo.Steps.nil
     all_goals (rintro wj hJ; (repeat rintro _ rfl); intro K hK; simp only [Jo.z] at hK ⊢; go_simp; exact hK.out _ _ rfl (br _ _))
   rintro w7 hJ _ _ _ rfl _ rfl _ rfl _ rfl _ rfl _ rfl _ rfl _ rfl _ rfl _ rfl _ rfl -; simp only [Jo.z]; replace XR := XR.below hJ; replace X5 := X5.below hJ; replace X6 := X6.below hJ; replace X7 := X7.below hJ; replace HB := Hqb HB hJ; refine Jo.jdone (by kernel_rfl) ?_
   obtain rfl : none = z := hr
   go_wp2_with fail
   refine (jvNoneE).mono ?_; rintro ee w8 ⟨rfl, B⟩; replace XR := XR.below B; replace X5 := X5.below B; replace X6 := X6.below B; replace X7 := X7.below B; replace HB := Hqb HB B; clear B; have xXR := XR.cell; have zXR0 := XR.frozen; go_wp2; clear xXR zXR0; have SX := StN.mk9 XR (.bool true) (.int .i64 0) (.bool false) (.int .u64 0) (.int .i64 0) (.int .i64 0) (.bool false) (.int .u64 0) (.int .i64 0)
   exact bodyPost_ret (by simp [results, Tryz.results76, go_sem, SX.box.cell]) rfl ⟨_, _, _, _, _, _, _, _, _, rfl, Ci.none, (SX.below HB.out (by omega))⟩
 · obtain ⟨rfl, a1, b1, o1, o1l, o1h⟩ := v1
   rcases y with _ | ⟨ya, yb⟩
   · obtain ⟨rfl, y2, y2b⟩ := v2
     have hr0 : none = z := hr
     replace hr := hr0; refine Jo.rk [0, 1, 2, 3, 4, 5, 6, 7, 8, 9, 10, 11] [some 19, some 20, some 21, some 22, some 23, some 24, some 25, some 26, some 27, some 28, some 29, some 30] [[], [0], [1], [2], [2, 3], [2, 4], [5], [6], [6], [6, 8], [6, 7, 9], [6, 10]] 12 0 [Jo.qp w2.heap.size 0, Jo.qb false, Jo.qb false, Jo.qp w4.heap.size 0, Jo.qb true, Jo.qb true, Jo.qb true, Jo.qu, Jo.qu, Jo.qu, Jo.qu, Jo.qb true] (by kernel_rfl) (by kernel_rfl) (by decide) rfl ?_ ?_
     · refine Jo.jm rfl ?_ ?_; rotate_left
       refine Jo.jm rfl ?_ ?_
       · rintro wj hJ _ rfl K hK; simp only [Jo.z] at hK ⊢; have xX50 := (X5.below hJ).a 0 (.bool false) rfl; go_simp; exact hK.out _ _ rfl (br _ _)
       iterate 2 (refine Jo.jm rfl ?_ ?_; rotate_left)
       refine Jo.jm rfl ?_ ?_
       · rintro wj hJ _ rfl _ rfl K hK; simp only [Jo.z] at hK ⊢; have xX60 := (X6.below hJ).a 0 (.bool true) rfl; go_simp; exact hK.out _ _ rfl (br _ _)
       iterate 7 (refine Jo.jm rfl ?_ ?_; rotate_left)
       exact Jo.Steps.nil
       all_goals (rintro wj hJ; (repeat rintro _ rfl); intro K hK; simp only [Jo.z] at hK ⊢; go_simp; exact hK.out _ _ rfl (br _ _))
     rintro w7 hJ _ _ _ rfl _ rfl _ _ _ rfl _ rfl _ rfl _ rfl _ rfl _ rfl _ rfl _ rfl -; simp only [Jo.z]; replace XR := XR.below hJ; replace X5 := X5.below hJ; replace X6 := X6.below hJ; replace X7 := X7.below hJ; replace HB := Hqb HB hJ; refine Jo.jdone (by kernel_rfl) ?_
     obtain rfl : none = z := hr
     go_wp2_with fail
     refine (jvNoneE).mono ?_; rintro ee w8 ⟨rfl, B⟩; replace XR := XR.below B; replace X5 := X5.below B; replace X6 := X6.below B; replace X7 := X7.below B; replace HB := Hqb HB B; clear B; have xXR := XR.cell; have zXR0 := XR.frozen; go_wp2; clear xXR zXR0; have SX := StN.mk9 XR (.bool true) (.int .i64 0) (.bool false) (.int .u64 0) (.int .i64 0) (.int .i64 0) (.bool false) (.int .u64 0) (.int .i64 0)
     exact bodyPost_ret (by simp [results, Tryz.results76, go_sem, SX.box.cell]) rfl ⟨_, _, _, _, _, _, _, _, _, rfl, Ci.none, (SX.below HB.out (by omega))⟩
   · obtain ⟨rfl, a2, b2, o2, o2l, o2h⟩ := v2
     have hx1 : SpOk (some (xa, xb)) := ⟨a1.bd.1, o1, b1.bd.2, o1l, o1h⟩
     have hy1 : SpOk (some (ya, yb)) := ⟨a2.bd.1, o2, b2.bd.2, o2l, o2h⟩
     have v1 : Ci false K1 s1 M1 E1 K1b s1b M1b E1b (some (xa, xb)) := ⟨rfl, a1, b1, o1, o1l, o1h⟩
     have v2 : Ci false K2 s2 M2 E2 K2b s2b M2b E2b (some (ya, yb)) := ⟨rfl, a2, b2, o2, o2l, o2h⟩
     clear o1 o1l o1h o2 o2l o2h
     by_cases hz : ya = 0 ∧ yb = 0
     · obtain ⟨rfl, rfl⟩ := hz; rw [dvI_zero ⟨rfl, rfl⟩] at hr; obtain ⟨_, rfl, rfl, rfl, rfl, rfl, rfl, rfl, rfl⟩ := v2.uniq ci_zero; clear v1 v2 a2 b2; refine Jo.rk [0, 1, 2, 3, 4, 5, 6, 7, 8, 9, 10, 11] [some 19, some 20, some 21, some 22, some 23, some 24, some 25, some 26, some 27, some 28, some 29, some 30] [[], [0], [1], [2], [2, 3], [2, 4], [5], [6], [6], [6, 8], [6, 7, 9], [6, 10]] 12 0 [Jo.qp w2.heap.size 0, Jo.qb false, Jo.qb false, Jo.qp w4.heap.size 0, Jo.qb false, Jo.qb false, Jo.qb false, Jo.q9 false 0 false 0 0 0 false 0 0, Jo.q4 0 false 0 0, Jo.q9 false 0 false 0 0 0 false 0 0, Jo.qb true, Jo.qb true] (by kernel_rfl) (by kernel_rfl) (by decide) rfl ?_ ?_
       · refine Jo.jm rfl ?_ ?_; rotate_left
         refine Jo.jm rfl ?_ ?_
         · rintro wj hJ _ rfl K hK; simp only [Jo.z] at hK ⊢; have xX50 := (X5.below hJ).a 0 (.bool false) rfl; go_simp; exact hK.out _ _ rfl (br _ _)
         iterate 2 (refine Jo.jm rfl ?_ ?_; rotate_left)
         refine Jo.jm rfl ?_ ?_
         · rintro wj hJ _ rfl _ rfl K hK; simp only [Jo.z] at hK ⊢; have xX60 := (X6.below hJ).a 0 (.bool false) rfl; go_simp; exact hK.out _ _ rfl (br _ _)
         iterate 4 (refine Jo.jm rfl ?_ ?_; rotate_left)
         refine Jo.jm rfl ?_ ?_
         · rintro wj hJ _ rfl _ rfl K hK; simp only [Jo.z] at hK ⊢; go_simp; refine (jvPoint0).mono ?_; rintro ee wk ⟨rfl, B⟩; exact hK.out _ _ rfl B
         refine Jo.jm rfl ?_ ?_
         · rintro wj hJ _ rfl _ rfl _ rfl K hK; simp only [Jo.z] at hK ⊢; go_simp
           repeat' split
           all_goals exact hK.out _ _ (congrArg Value.bool (by first | rfl | (exfalso; simp_all) | simp_all)) (br _ _)
         refine Jo.jm rfl ?_ ?_; rotate_left
         exact Jo.Steps.nil
         all_goals (rintro wj hJ; (repeat rintro _ rfl); intro K hK; simp only [Jo.z] at hK ⊢; have xX6 := (X6.below hJ).cell; have xX7 := (X7.below hJ).cell; go_simp; exact hK.out _ _ rfl (br _ _))
       rintro w7 hJ _ _ _ rfl _ rfl _ _ _ rfl _ rfl _ rfl _ rfl _ rfl _ rfl _ rfl _ rfl -; simp only [Jo.z]; replace XR := XR.below hJ; replace X5 := X5.below hJ; replace X6 := X6.below hJ; replace X7 := X7.below hJ; replace HB := Hqb HB hJ; refine Jo.jdone (by kernel_rfl) ?_
       obtain rfl : none = z := hr
       go_wp2_with fail
       refine (jvNoneE).mono ?_; rintro ee w8 ⟨rfl, B⟩; replace XR := XR.below B; replace X5 := X5.below B; replace X6 := X6.below B; replace X7 := X7.below B; replace HB := Hqb HB B; clear B; have xXR := XR.cell; have zXR0 := XR.frozen; go_wp2; clear xXR zXR0; have SX := StN.mk9 XR (.bool true) (.int .i64 0) (.bool false) (.int .u64 0) (.int .i64 0) (.int .i64 0) (.bool false) (.int .u64 0) (.int .i64 0)
       exact bodyPost_ret (by simp [results, Tryz.results76, go_sem, SX.box.cell]) rfl ⟨_, _, _, _, _, _, _, _, _, rfl, Ci.none, (SX.below HB.out (by omega))⟩
     · have hne : K2 = 0 → s2 = false → M2 = 0 → E2 = 0 → K2b = 0 → s2b = false → M2b = 0 → ¬ E2b = 0 := by
         rintro rfl rfl rfl rfl rfl rfl rfl rfl; have e := v2.fn ci_zero
         injection e with e
         injection e with e1 e2
         exact hz ⟨e1, e2⟩
       have HNE := Lib.hid hne; clear hne
       refine Jo.region_joint (T := [0, 1, 2, 3, 4, 5, 6, 7, 8, 9, 10, 11]) (ds := [some 19, some 20, some 21, some 22, some 23, some 24, some 25, some 26, some 27, some 28, some 29, some 30]) (ls := [[], [0], [1], [2], [2, 3], [2, 4], [5], [6], [6], [6, 8], [6, 7, 9], [6, 10]]) (k := 12) (L := [(some 19, 0), (some 20, 1), (some 21, 2), (some 22, 3), (some 23, 4), (some 24, 5), (some 25, 6), (some 26, 7), (some 27, 8), (some 28, 9), (some 29, 10), (some 30, 11)]) (fuel := 0) (J := fun wj => Below (World.heap w6).size w6 wj)
         (F := [Jo.qp w2.heap.size 0, Jo.qb false, Jo.qb false, Jo.qp w4.heap.size 0, Jo.qb false, Jo.qb false, Jo.qb false, Jo.q9 false K2 s2 M2 E2 K2b s2b M2b E2b, Jo.q4 0 false 0 0, Jo.q9 false 0 false 0 0 0 false 0 0, Jo.qb false, Jo.qb false])
         (by kernel_rfl) (by kernel_rfl) (by decide) rfl rfl (fun _ _ h b => bt h b) ((br _ _).drew) ?_ (fun vs w7 hJ hd => ?_)
       · refine Jo.jm rfl ?_ ?_; rotate_left
         refine Jo.jm rfl ?_ ?_
         · rintro wj hJ _ rfl K hK; simp only [Jo.z] at hK ⊢; have xX50 := (X5.below hJ).a 0 (.bool false) rfl; go_simp; exact hK.out _ _ rfl (br _ _)
         iterate 2 (refine Jo.jm rfl ?_ ?_; rotate_left)
         refine Jo.jm rfl ?_ ?_
         · rintro wj hJ _ rfl _ rfl K hK; simp only [Jo.z] at hK ⊢; have xX60 := (X6.below hJ).a 0 (.bool false) rfl; go_simp; exact hK.out _ _ rfl (br _ _)
         iterate 4 (refine Jo.jm rfl ?_ ?_; rotate_left)
         refine Jo.jm rfl ?_ ?_
         · rintro wj hJ _ rfl _ rfl K hK; simp only [Jo.z] at hK ⊢; go_simp; refine (jvPoint0).mono ?_; rintro ee wk ⟨rfl, B⟩; exact hK.out _ _ rfl B
         refine Jo.jm rfl ?_ ?_
         · rintro wj hJ _ rfl _ rfl _ rfl K hK; simp only [Jo.z] at hK ⊢; have hne := HNE.out; go_simp
           repeat' split
           all_goals exact hK.out _ _ (congrArg Value.bool (by first | rfl | (exfalso; simp_all))) (br _ _)
         refine Jo.jm rfl ?_ ?_; rotate_left
         exact Jo.Steps.nil
         all_goals (rintro wj hJ; (repeat rintro _ rfl); intro K hK; simp only [Jo.z] at hK ⊢; have xX6 := (X6.below hJ).cell; have xX7 := (X7.below hJ).cell; go_simp; exact hK.out _ _ rfl (br _ _))
       simp only [Jo.putl, Jo.zd, Jo.ze, Act.put, Jo.za, Jo.zb, Jo.zc]
       rw [show vs 1 = _ from hd 1 (by decide), show vs 2 = _ from hd 2 (by decide), show vs 4 = _ from hd 4 (by decide), show vs 5 = _ from hd 5 (by decide), show vs 6 = _ from hd 6 (by decide), show vs 7 = _ from hd 7 (by decide), show vs 8 = _ from hd 8 (by decide), show vs 9 = _ from hd 9 (by decide), show vs 10 = _ from hd 10 (by decide), show vs 11 = _ from hd 11 (by decide)]
       clear hd; replace XR := XR.below hJ; replace X5 := X5.below hJ; replace X6 := X6.below hJ; replace X7 := X7.below hJ; replace HB := Hqb HB hJ; refine Jo.jdone (by kernel_rfl) ?_; clear HNE; obtain ⟨zb, hzb⟩ : ∃ zb, hasI (some (ya, yb)) 0 = zb := ⟨_, rfl⟩; have HZB := Lib.hid hzb; rw [has_zero] at hzb; have xX6 := X6.cell; have xX7 := X7.cell
       go_wp2_with fail
       refine (jvHas v2.top.1 v2.top.2 (by decide) v2.rk Fq.nought.rk HZB.out).mono ?_; rintro ee w8 ⟨rfl, B⟩; clear xX6 xX7; replace XR := XR.below B; replace X5 := X5.below B; replace X6 := X6.below B; replace X7 := X7.below B; replace HB := Hqb HB B; clear B; clear HZB
       rcases Classical.em (ya ≤ 0 ∧ 0 ≤ yb) with hc | hc
       · obtain rfl : true = zb := by rw [← hzb]; simp; omega
         clear hzb; obtain ⟨zi, hzi⟩ : ∃ zi, hasI (some (xa, xb)) 0 = zi := ⟨_, rfl⟩; have HZI := Lib.hid hzi; rw [has_zero] at hzi; obtain ⟨σ, hσ⟩ : ∃ σ, cmpI ya 0 = σ := ⟨_, rfl⟩; obtain ⟨τ, hτ⟩ : ∃ τ, cmpI yb 0 = τ := ⟨_, rfl⟩
         have HS : Hid (cmpI (rk K2 s2 M2 E2) 0 = σ) := Lib.hid (by rw [a2.rk]; exact hσ)
         have HS2 : Hid (cmpI (rk K2b s2b M2b E2b) 0 = τ) := Lib.hid (by rw [b2.rk]; exact hτ)
         have xX6 := X6.cell
         go_wp2_with fail
         refine (ySign a2.top HS.out).mono ?_; rintro ee w9 ⟨rfl, B⟩; clear xX6; replace XR := XR.below B; replace X5 := X5.below B; replace X6 := X6.below B; replace X7 := X7.below B; replace HB := Hqb HB B; clear B; have xX6 := X6.cell
         go_wp2_with fail
         refine (ySign b2.top HS2.out).mono ?_; rintro ee wA ⟨rfl, B⟩; clear xX6; replace XR := XR.below B; replace X5 := X5.below B; replace X6 := X6.below B; replace X7 := X7.below B; replace HB := Hqb HB B; clear B; have xX5 := X5.cell; have xX7 := X7.cell
         go_wp2_with fail
         refine (jvHas v1.top.1 v1.top.2 (by decide) v1.rk Fq.nought.rk HZI.out).mono ?_; rintro ee wB ⟨rfl, B⟩; clear xX5 xX7; replace XR := XR.below B; replace X5 := X5.below B; replace X6 := X6.below B; replace X7 := X7.below B; replace HB := Hqb HB B; clear B; clear HZI HS HS2
         by_cases hin : xa ≤ 0 ∧ 0 ≤ xb
         · obtain rfl : true = zi := by rw [← hzi]; simp; omega
           have hw : (xa ≤ 0 ∧ 0 ≤ xb) ∨ (ya < 0 ∧ 0 < yb) := .inl hin
           clear hzi hσ hτ
           obtain rfl : allI = z := by rw [← hr, dvI_all hz hc hw]
           go_wp2_with fail
           refine (jvAll).mono ?_; rintro ee wC ⟨e9, K9, s9, M9, E9, K9b, s9b, M9b, E9b, rfl, v9, B⟩; replace XR := XR.below B; replace X5 := X5.below B; replace X6 := X6.below B; replace X7 := X7.below B; replace HB := Hqb HB B; clear B; have xXR := XR.cell; have zXR0 := XR.frozen; go_wp2; clear xXR zXR0
           have SX := StN.mk9 XR (.bool e9) (.int .i64 K9) (.bool s9) (.int .u64 M9) (.int .i64 E9) (.int .i64 K9b) (.bool s9b) (.int .u64 M9b) (.int .i64 E9b); exact bodyPost_ret (by simp [results, Tryz.results76, go_sem, SX.box.cell]) rfl ⟨_, _, _, _, _, _, _, _, _, rfl, v9, (SX.below HB.out (by omega))⟩
         · obtain rfl : false = zi := by rw [← hzi]; simp; omega
           clear hzi
           by_cases hs : ya < 0 ∧ 0 < yb
           · obtain rfl : -1 = σ := by rw [← hσ, sgn_neg hs.1]
             obtain rfl : 1 = τ := by rw [← hτ, sgn_pos hs.2]
             have hw : (xa ≤ 0 ∧ 0 ≤ xb) ∨ (ya < 0 ∧ 0 < yb) := .inr hs
             clear hσ hτ
             obtain rfl : allI = z := by rw [← hr, dvI_all hz hc hw]
             go_wp2_with fail
             refine (jvAll).mono ?_; rintro ee wC ⟨e9, K9, s9, M9, E9, K9b, s9b, M9b, E9b, rfl, v9, B⟩; replace XR := XR.below B; replace X5 := X5.below B; replace X6 := X6.below B; replace X7 := X7.below B; replace HB := Hqb HB B; clear B; have xXR := XR.cell; have zXR0 := XR.frozen; go_wp2; clear xXR zXR0
             have SX := StN.mk9 XR (.bool e9) (.int .i64 K9) (.bool s9) (.int .u64 M9) (.int .i64 E9) (.int .i64 K9b) (.bool s9b) (.int .u64 M9b) (.int .i64 E9b); exact bodyPost_ret (by simp [results, Tryz.results76, go_sem, SX.box.cell]) rfl ⟨_, _, _, _, _, _, _, _, _, rfl, v9, (SX.below HB.out (by omega))⟩
           · rcases (by omega : (0 < yb ∧ ya = 0) ∨ (ya < 0 ∧ yb = 0)) with hd | hd
             · rcases (by omega : 0 < xa ∨ xb < 0) with hp | hp
               · have y0 : ya = 0 := by omega
                 subst y0
                 obtain rfl : 0 = σ := by rw [← hσ, sgn_nil]
                 obtain rfl : 1 = τ := by rw [← hτ, sgn_pos (by omega)]
                 clear hσ hτ
                 have hxx : xa ≤ xb := hx1.2.1
                 rw [(dvI_up (by omega) hx1.2.1).1 (by omega)] at hr; obtain ⟨u, hu⟩ : ∃ u, q false xa yb = u := ⟨_, rfl⟩; rw [hu] at hr; have hqt := hq false xa yb; rw [hu] at hqt; have HQT := Lib.hid hqt; have HR := Lib.hid hr; clear hu hqt hr
                 have HSA : Hid (cmpI (rk K1 s1 M1 E1) 0 = 1) := Lib.hid (by rw [a1.rk]; exact sgn_pos (by omega))
                 have HSN : Hid (cmpI (rk K1 s1 M1 E1) 0 = 1) := Lib.hid (by rw [a1.rk]; exact sgn_pos (by omega))
                 have HSE : Hid (cmpI (rk K2b s2b M2b E2b) 0 = 1) := Lib.hid (by rw [b2.rk]; exact sgn_pos (by omega))
                 clear hx1 hy1 hz hc hin hs; have xX6 := X6.cell
                 go_upto_region 15 with (fail)
                 clear xX6; have lX12 := Nat.le_refl (World.heap wB).size; have nX12XR := XR.lt; have nX12X5 := X5.lt; have nX12X6 := X6.lt; have nX12X7 := X7.lt; generalize hWn : wB.alloc _ = wC at *; obtain ⟨X12, BW⟩ := Bo.nw hWn; clear hWn; replace XR := XR.below BW; replace X5 := X5.below BW; replace X6 := X6.below BW; replace X7 := X7.below BW; replace HB := Hqb HB BW
                 clear BW; clear lX12; have xX5 := X5.cell
                 go_upto_region 18 with (fail)
                 clear xX5; have lX13 := Nat.le_refl (World.heap wC).size; have nX13XR := XR.lt; have nX13X5 := X5.lt; have nX13X6 := X6.lt; have nX13X7 := X7.lt; have nX13X12 := X12.lt; generalize hWn : wC.alloc _ = wE at *; obtain ⟨X13, BW⟩ := Bo.nw hWn; clear hWn; replace XR := XR.below BW; replace X5 := X5.below BW; replace X6 := X6.below BW; replace X7 := X7.below BW
                 replace X12 := X12.below BW; replace HB := Hqb HB BW; clear BW; clear lX13; have xX5 := X5.cell
                 go_wp2_with fail
                 refine (ySign a1.top HSA.out).mono ?_; rintro ee wF ⟨rfl, B⟩; clear xX5; replace XR := XR.below B; replace X5 := X5.below B; replace X6 := X6.below B; replace X7 := X7.below B; replace X12 := X12.below B; replace X13 := X13.below B; replace HB := Hqb HB B; clear B; clear HSA
                 go_upto_region 20 with (fail)
                 refine Jo.rk [0, 1, 2, 3, 4] [some 73, some 74, some 75, some 76, some 77] [[], [0], [], [2], [1, 3]] 5 0 [Jo.q4 K1 s1 M1 E1, Jo.qi 1, Jo.q4 K2b s2b M2b E2b, Jo.qi 1, Jo.qb true] (by kernel_rfl) (by kernel_rfl) (by decide) rfl ?_ ?_
                 · refine Jo.jm rfl ?_ ?_; rotate_left
                   refine Jo.jm rfl ?_ ?_
                   · rintro wj hJ _ rfl K hK; simp only [Jo.z] at hK ⊢; go_simp; refine (ySign a1.top HSN.out).mono ?_; rintro ee wk ⟨rfl, B⟩; exact hK.out _ _ rfl B
                   refine Jo.jm rfl ?_ ?_; rotate_left
                   refine Jo.jm rfl ?_ ?_
                   · rintro wj hJ _ rfl K hK; simp only [Jo.z] at hK ⊢; go_simp; refine (ySign b2.top HSE.out).mono ?_; rintro ee wk ⟨rfl, B⟩; exact hK.out _ _ rfl B
                   refine Jo.jm rfl ?_ ?_
                   · rintro wj hJ _ rfl _ rfl K hK; simp only [Jo.z] at hK ⊢; go_simp
                     exact hK.out _ _ (by first | rfl | (show Value.bool _ = Value.bool _; simp)) (br _ _)
                   exact Jo.Steps.nil
                   all_goals (rintro wj hJ; (repeat rintro _ rfl); intro K hK; simp only [Jo.z] at hK ⊢; have xX13 := (X13.below hJ).cell; have xX12 := (X12.below hJ).cell; go_simp; exact hK.out _ _ rfl (br _ _))
                 rintro wH hJ _ rfl _ rfl _ rfl _ rfl _ rfl -; simp only [Jo.z]; replace XR := XR.below hJ; replace X5 := X5.below hJ; replace X6 := X6.below hJ; replace X7 := X7.below hJ; replace X12 := X12.below hJ; replace X13 := X13.below hJ; replace HB := Hqb HB hJ; refine Jo.jdone (by kernel_rfl) ?_; clear HSN HSE; have xX12 := X12.cell; have xX13 := X13.cell
                 go_wp2_with fail
                 refine (jDiv a1.top b2.top a1.rk b2.rk HQT.out).mono ?_; rintro ee wI ⟨K8, s8, M8, E8, rfl, q8, B⟩; clear xX12 xX13; replace XR := XR.below B; replace X5 := X5.below B; replace X6 := X6.below B; replace X7 := X7.below B; replace X12 := X12.below B; replace X13 := X13.below B; replace HB := Hqb HB B; clear B
                 go_wp2_with fail
                 refine (yInf (r := 19342822337206103650074625) (s := false) (by decide)).mono ?_; rintro ee wJ ⟨K7, s7, M7, E7, rfl, q7, B⟩; replace XR := XR.below B; replace X5 := X5.below B; replace X6 := X6.below B; replace X7 := X7.below B; replace X12 := X12.below B; replace X13 := X13.below B; replace HB := Hqb HB B; clear B
                 go_wp2_with fail
                 refine (jvMake q8.top q7.top q8.rk q7.rk HR.out).mono ?_; rintro ee wK ⟨e9, K9, s9, M9, E9, K9b, s9b, M9b, E9b, rfl, v9, B⟩; replace XR := XR.below B; replace X5 := X5.below B; replace X6 := X6.below B; replace X7 := X7.below B; replace X12 := X12.below B; replace X13 := X13.below B; replace HB := Hqb HB B; clear B; have xXR := XR.cell
                 have zXR0 := XR.frozen; go_wp2; clear xXR zXR0; have SX := StN.mk9 XR (.bool e9) (.int .i64 K9) (.bool s9) (.int .u64 M9) (.int .i64 E9) (.int .i64 K9b) (.bool s9b) (.int .u64 M9b) (.int .i64 E9b); exact bodyPost_ret (by simp [results, Tryz.results76, go_sem, SX.box.cell]) rfl ⟨_, _, _, _, _, _, _, _, _, rfl, v9, (SX.below HB.out (by omega))⟩
               · have y0 : ya = 0 := by omega
                 subst y0
                 obtain rfl : 0 = σ := by rw [← hσ, sgn_nil]
                 obtain rfl : 1 = τ := by rw [← hτ, sgn_pos (by omega)]
                 clear hσ hτ
                 have hxx : xa ≤ xb := hx1.2.1
                 rw [(dvI_up (by omega) hx1.2.1).2 (by omega)] at hr; obtain ⟨u, hu⟩ : ∃ u, q true xb yb = u := ⟨_, rfl⟩; rw [hu] at hr; have hqt := hq true xb yb; rw [hu] at hqt; have HQT := Lib.hid hqt; have HR := Lib.hid hr; clear hu hqt hr
                 have HSA : Hid (cmpI (rk K1 s1 M1 E1) 0 = -1) := Lib.hid (by rw [a1.rk]; exact sgn_neg (by omega))
                 have HSN : Hid (cmpI (rk K1b s1b M1b E1b) 0 = -1) := Lib.hid (by rw [b1.rk]; exact sgn_neg (by omega))
                 have HSE : Hid (cmpI (rk K2b s2b M2b E2b) 0 = 1) := Lib.hid (by rw [b2.rk]; exact sgn_pos (by omega))
                 clear hx1 hy1 hz hc hin hs; have xX6 := X6.cell
                 go_upto_region 15 with (fail)
                 clear xX6; have lX12 := Nat.le_refl (World.heap wB).size; have nX12XR := XR.lt; have nX12X5 := X5.lt; have nX12X6 := X6.lt; have nX12X7 := X7.lt; generalize hWn : wB.alloc _ = wC at *; obtain ⟨X12, BW⟩ := Bo.nw hWn; clear hWn; replace XR := XR.below BW; replace X5 := X5.below BW; replace X6 := X6.below BW; replace X7 := X7.below BW; replace HB := Hqb HB BW
                 clear BW; clear lX12; have xX5 := X5.cell
                 go_upto_region 18 with (fail)
                 clear xX5; have lX13 := Nat.le_refl (World.heap wC).size; have nX13XR := XR.lt; have nX13X5 := X5.lt; have nX13X6 := X6.lt; have nX13X7 := X7.lt; have nX13X12 := X12.lt; generalize hWn : wC.alloc _ = wE at *; obtain ⟨X13, BW⟩ := Bo.nw hWn; clear hWn; replace XR := XR.below BW; replace X5 := X5.below BW; replace X6 := X6.below BW; replace X7 := X7.below BW
                 replace X12 := X12.below BW; replace HB := Hqb HB BW; clear BW; clear lX13; have xX5 := X5.cell
                 go_wp2_with fail
                 refine (ySign a1.top HSA.out).mono ?_; rintro ee wF ⟨rfl, B⟩; clear xX5; replace XR := XR.below B; replace X5 := X5.below B; replace X6 := X6.below B; replace X7 := X7.below B; replace X12 := X12.below B; replace X13 := X13.below B; replace HB := Hqb HB B; clear B; clear HSA; have xX5 := X5.cell
                 have xX13 := X13.cell; have zX130 := X13.frozen
                 go_upto_region 20 with (fail)
                 clear xX5 xX13 zX130; generalize hS : (((wF.setCell _ _).setCell _ _).setCell _ _).setCell _ _ = wG at *; have SX := StN.of4 X13 hS; replace XR := XR.stn SX (by omega); replace X5 := X5.stn SX (by omega); replace X6 := X6.stn SX (by omega); replace X7 := X7.stn SX (by omega); replace X12 := X12.stn SX (by omega); replace HB := Hqs HB SX (by omega)
                 replace X13 := SX.box; clear SX hS; refine Jo.rk [0, 1, 2, 3, 4] [some 73, some 74, some 75, some 76, some 77] [[], [0], [], [2], [1, 3]] 5 0 [Jo.q4 K1b s1b M1b E1b, Jo.Fact.eq (.int .i64 (-1)), Jo.q4 K2b s2b M2b E2b, Jo.qi 1, Jo.qb false] (by kernel_rfl) (by kernel_rfl) (by decide) rfl ?_ ?_
                 · refine Jo.jm rfl ?_ ?_; rotate_left
                   refine Jo.jm rfl ?_ ?_
                   · rintro wj hJ _ rfl K hK; simp only [Jo.z] at hK ⊢; go_simp; refine (ySign b1.top HSN.out).mono ?_; rintro ee wk ⟨rfl, B⟩; exact hK.out _ _ rfl B
                   refine Jo.jm rfl ?_ ?_; rotate_left
                   refine Jo.jm rfl ?_ ?_
                   · rintro wj hJ _ rfl K hK; simp only [Jo.z] at hK ⊢; go_simp; refine (ySign b2.top HSE.out).mono ?_; rintro ee wk ⟨rfl, B⟩; exact hK.out _ _ rfl B
                   refine Jo.jm rfl ?_ ?_
                   · rintro wj hJ _ rfl _ rfl K hK; simp only [Jo.z] at hK ⊢; go_simp
                     exact hK.out _ _ (by first | rfl | (show Value.bool _ = Value.bool _; simp)) (br _ _)
                   exact Jo.Steps.nil
                   all_goals (rintro wj hJ; (repeat rintro _ rfl); intro K hK; simp only [Jo.z] at hK ⊢; have xX13 := (X13.below hJ).cell; have xX12 := (X12.below hJ).cell; go_simp; exact hK.out _ _ rfl (br _ _))
                 rintro wH hJ _ rfl _ rfl _ rfl _ rfl _ rfl -; simp only [Jo.z]; replace XR := XR.below hJ; replace X5 := X5.below hJ; replace X6 := X6.below hJ; replace X7 := X7.below hJ; replace X12 := X12.below hJ; replace X13 := X13.below hJ; replace HB := Hqb HB hJ; refine Jo.jdone (by kernel_rfl) ?_; clear HSN HSE; have xX12 := X12.cell; have xX13 := X13.cell
                 go_upto_region 22 with (fail)
                 clear xX12 xX13; refine Jo.rk [0, 1, 2, 3, 4] [some 83, some 84, some 85, some 86, some 87, none] [[], [], [], [1, 2], [0, 3], []] 6 1 [Jo.Fact.num (-19342822337206103650074625), Jo.q4 K1b s1b M1b E1b, Jo.q4 K2b s2b M2b E2b, Jo.Fact.num u, Jo.Fact.iv z, Jo.Fact.any] (by kernel_rfl) (by kernel_rfl) (by decide) rfl ?_ ?_
                 · refine Jo.jm rfl ?_ ?_
                   · rintro wj hJ K hK; simp only [Jo.z] at hK ⊢; go_simp; refine (yInf (r := -19342822337206103650074625) (s := true) (by decide)).mono ?_; rintro ee wk ⟨K7, s7, M7, E7, rfl, q7, B⟩; exact hK.out _ _ ⟨K7, s7, M7, E7, rfl, q7⟩ B
                   iterate 2 (refine Jo.jm rfl ?_ ?_; rotate_left)
                   refine Jo.jm rfl ?_ ?_
                   · rintro wj hJ _ rfl _ rfl K hK; simp only [Jo.z] at hK ⊢; go_simp; refine (jDiv b1.top b2.top b1.rk b2.rk HQT.out).mono ?_; rintro ee wk ⟨K8, s8, M8, E8, rfl, q8, B⟩; exact hK.out _ _ ⟨K8, s8, M8, E8, rfl, q8⟩ B
                   refine Jo.jm rfl ?_ ?_
                   · rintro wj hJ _ ⟨K7, s7, M7, E7, rfl, q7⟩ _ ⟨K8, s8, M8, E8, rfl, q8⟩ K hK; simp only [Jo.z] at hK ⊢; go_simp; refine (jvMake q7.top q8.top q7.rk q8.rk HR.out).mono ?_; rintro ee wk ⟨e9, K9, s9, M9, E9, K9b, s9b, M9b, E9b, rfl, v9, B⟩; exact hK.out _ _ ⟨e9, K9, s9, M9, E9, K9b, s9b, M9b, E9b, rfl, v9⟩ B
                   exact Jo.Steps.nil
                   all_goals (rintro wj hJ; (repeat rintro _ rfl); intro K hK; simp only [Jo.z] at hK ⊢; have xX13 := (X13.below hJ).cell; have xX12 := (X12.below hJ).cell; go_simp; exact hK.out _ _ rfl (br _ _))
                 rintro wI hJ _ ⟨K7, s7, M7, E7, rfl, q7⟩ _ rfl _ rfl _ ⟨K8, s8, M8, E8, rfl, q8⟩ _ ⟨e9, K9, s9, M9, E9, K9b, s9b, M9b, E9b, rfl, v9⟩ -; simp only [Jo.z]; replace XR := XR.below hJ; replace X5 := X5.below hJ; replace X6 := X6.below hJ; replace X7 := X7.below hJ; replace X12 := X12.below hJ; replace X13 := X13.below hJ; replace HB := Hqb HB hJ; have xXR := XR.cell
                 have zXR0 := XR.frozen
                 refine Jo.jnext (i := 5) (o := ⟨none, _, _, _, _, _⟩) (by kernel_rfl) rfl (fun K hK => ?_)
                 go_simp; refine hK.out _ _ ?_; clear hK K xXR zXR0; have SX := StN.mk9 XR (.bool e9) (.int .i64 K9) (.bool s9) (.int .u64 M9) (.int .i64 E9) (.int .i64 K9b) (.bool s9b) (.int .u64 M9b) (.int .i64 E9b); refine Jo.jdone (by kernel_rfl) ?_; go_wp2; exact bodyPost_ret (by simp [results, Tryz.results76, go_sem, SX.box.cell]) rfl ⟨_, _, _, _, _, _, _, _, _, rfl, v9, (SX.below HB.out (by omega))⟩
             · rcases (by omega : 0 < xa ∨ xb < 0) with hp | hp
               · obtain rfl : -1 = σ := by rw [← hσ, sgn_neg (by omega)]
                 have y0 : yb = 0 := by omega
                 subst y0
                 obtain rfl : 0 = τ := by rw [← hτ, sgn_nil]
                 clear hσ hτ
                 have hxx : xa ≤ xb := hx1.2.1
                 rw [(dvI_dn (by omega) hx1.2.1).1 (by omega)] at hr; obtain ⟨u, hu⟩ : ∃ u, q true xa ya = u := ⟨_, rfl⟩; rw [hu] at hr; have hqt := hq true xa ya; rw [hu] at hqt; have HQT := Lib.hid hqt; have HR := Lib.hid hr; clear hu hqt hr
                 have HSA : Hid (cmpI (rk K1 s1 M1 E1) 0 = 1) := Lib.hid (by rw [a1.rk]; exact sgn_pos (by omega))
                 have HSN : Hid (cmpI (rk K1 s1 M1 E1) 0 = 1) := Lib.hid (by rw [a1.rk]; exact sgn_pos (by omega))
                 have HSE : Hid (cmpI (rk K2 s2 M2 E2) 0 = -1) := Lib.hid (by rw [a2.rk]; exact sgn_neg (by omega))
                 clear hx1 hy1 hz hc hin hs; have xX6 := X6.cell
                 go_upto_region 15 with (fail)
                 clear xX6; have lX12 := Nat.le_refl (World.heap wB).size; have nX12XR := XR.lt; have nX12X5 := X5.lt; have nX12X6 := X6.lt; have nX12X7 := X7.lt; generalize hWn : wB.alloc _ = wC at *; obtain ⟨X12, BW⟩ := Bo.nw hWn; clear hWn; replace XR := XR.below BW; replace X5 := X5.below BW; replace X6 := X6.below BW; replace X7 := X7.below BW; replace HB := Hqb HB BW
                 clear BW; clear lX12; have xX6 := X6.cell; have xX12 := X12.cell; have zX120 := X12.frozen
                 go_upto_region 17 with (fail)
                 clear xX6 xX12 zX120; generalize hS : (((wC.setCell _ _).setCell _ _).setCell _ _).setCell _ _ = wD at *; have SX := StN.of4 X12 hS; replace XR := XR.stn SX (by omega); replace X5 := X5.stn SX (by omega); replace X6 := X6.stn SX (by omega); replace X7 := X7.stn SX (by omega); replace HB := Hqs HB SX (by omega)
                 replace X12 := SX.box; clear SX hS; have xX5 := X5.cell
                 go_upto_region 18 with (fail)
                 clear xX5; have lX13 := Nat.le_refl (World.heap wD).size; have nX13XR := XR.lt; have nX13X5 := X5.lt; have nX13X6 := X6.lt; have nX13X7 := X7.lt; have nX13X12 := X12.lt; generalize hWn : wD.alloc _ = wE at *; obtain ⟨X13, BW⟩ := Bo.nw hWn; clear hWn; replace XR := XR.below BW; replace X5 := X5.below BW; replace X6 := X6.below BW; replace X7 := X7.below BW
                 replace X12 := X12.below BW; replace HB := Hqb HB BW; clear BW; clear lX13; have xX5 := X5.cell
                 go_wp2_with fail
                 refine (ySign a1.top HSA.out).mono ?_; rintro ee wF ⟨rfl, B⟩; clear xX5; replace XR := XR.below B; replace X5 := X5.below B; replace X6 := X6.below B; replace X7 := X7.below B; replace X12 := X12.below B; replace X13 := X13.below B; replace HB := Hqb HB B; clear B; clear HSA
                 go_upto_region 20 with (fail)
                 refine Jo.rk [0, 1, 2, 3, 4] [some 73, some 74, some 75, some 76, some 77] [[], [0], [], [2], [1, 3]] 5 0 [Jo.q4 K1 s1 M1 E1, Jo.qi 1, Jo.q4 K2 s2 M2 E2, Jo.Fact.eq (.int .i64 (-1)), Jo.qb false] (by kernel_rfl) (by kernel_rfl) (by decide) rfl ?_ ?_
                 · refine Jo.jm rfl ?_ ?_; rotate_left
                   refine Jo.jm rfl ?_ ?_
                   · rintro wj hJ _ rfl K hK; simp only [Jo.z] at hK ⊢; go_simp; refine (ySign a1.top HSN.out).mono ?_; rintro ee wk ⟨rfl, B⟩; exact hK.out _ _ rfl B
                   refine Jo.jm rfl ?_ ?_; rotate_left
                   refine Jo.jm rfl ?_ ?_
                   · rintro wj hJ _ rfl K hK; simp only [Jo.z] at hK ⊢; go_simp; refine (ySign a2.top HSE.out).mono ?_; rintro ee wk ⟨rfl, B⟩; exact hK.out _ _ rfl B
                   refine Jo.jm rfl ?_ ?_
                   · rintro wj hJ _ rfl _ rfl K hK; simp only [Jo.z] at hK ⊢; go_simp
                     exact hK.out _ _ (by first | rfl | (show Value.bool _ = Value.bool _; simp)) (br _ _)
                   exact Jo.Steps.nil
                   all_goals (rintro wj hJ; (repeat rintro _ rfl); intro K hK; simp only [Jo.z] at hK ⊢; have xX13 := (X13.below hJ).cell; have xX12 := (X12.below hJ).cell; go_simp; exact hK.out _ _ rfl (br _ _))
                 rintro wH hJ _ rfl _ rfl _ rfl _ rfl _ rfl -; simp only [Jo.z]; replace XR := XR.below hJ; replace X5 := X5.below hJ; replace X6 := X6.below hJ; replace X7 := X7.below hJ; replace X12 := X12.below hJ; replace X13 := X13.below hJ; replace HB := Hqb HB hJ; refine Jo.jdone (by kernel_rfl) ?_; clear HSN HSE; have xX12 := X12.cell; have xX13 := X13.cell
                 go_upto_region 22 with (fail)
                 clear xX12 xX13; refine Jo.rk [0, 1, 2, 3, 4] [some 83, some 84, some 85, some 86, some 87, none] [[], [], [], [1, 2], [0, 3], []] 6 1 [Jo.Fact.num (-19342822337206103650074625), Jo.q4 K1 s1 M1 E1, Jo.q4 K2 s2 M2 E2, Jo.Fact.num u, Jo.Fact.iv z, Jo.Fact.any] (by kernel_rfl) (by kernel_rfl) (by decide) rfl ?_ ?_
                 · refine Jo.jm rfl ?_ ?_
                   · rintro wj hJ K hK; simp only [Jo.z] at hK ⊢; go_simp; refine (yInf (r := -19342822337206103650074625) (s := true) (by decide)).mono ?_; rintro ee wk ⟨K7, s7, M7, E7, rfl, q7, B⟩; exact hK.out _ _ ⟨K7, s7, M7, E7, rfl, q7⟩ B
                   iterate 2 (refine Jo.jm rfl ?_ ?_; rotate_left)
                   refine Jo.jm rfl ?_ ?_
                   · rintro wj hJ _ rfl _ rfl K hK; simp only [Jo.z] at hK ⊢; go_simp; refine (jDiv a1.top a2.top a1.rk a2.rk HQT.out).mono ?_; rintro ee wk ⟨K8, s8, M8, E8, rfl, q8, B⟩; exact hK.out _ _ ⟨K8, s8, M8, E8, rfl, q8⟩ B
                   refine Jo.jm rfl ?_ ?_
                   · rintro wj hJ _ ⟨K7, s7, M7, E7, rfl, q7⟩ _ ⟨K8, s8, M8, E8, rfl, q8⟩ K hK; simp only [Jo.z] at hK ⊢; go_simp; refine (jvMake q7.top q8.top q7.rk q8.rk HR.out).mono ?_; rintro ee wk ⟨e9, K9, s9, M9, E9, K9b, s9b, M9b, E9b, rfl, v9, B⟩; exact hK.out _ _ ⟨e9, K9, s9, M9, E9, K9b, s9b, M9b, E9b, rfl, v9⟩ B
                   exact Jo.Steps.nil
                   all_goals (rintro wj hJ; (repeat rintro _ rfl); intro K hK; simp only [Jo.z] at hK ⊢; have xX13 := (X13.below hJ).cell; have xX12 := (X12.below hJ).cell; go_simp; exact hK.out _ _ rfl (br _ _))
                 rintro wI hJ _ ⟨K7, s7, M7, E7, rfl, q7⟩ _ rfl _ rfl _ ⟨K8, s8, M8, E8, rfl, q8⟩ _ ⟨e9, K9, s9, M9, E9, K9b, s9b, M9b, E9b, rfl, v9⟩ -; simp only [Jo.z]; replace XR := XR.below hJ; replace X5 := X5.below hJ; replace X6 := X6.below hJ; replace X7 := X7.below hJ; replace X12 := X12.below hJ; replace X13 := X13.below hJ; replace HB := Hqb HB hJ; have xXR := XR.cell
                 have zXR0 := XR.frozen
                 refine Jo.jnext (i := 5) (o := ⟨none, _, _, _, _, _⟩) (by kernel_rfl) rfl (fun K hK => ?_)
                 go_simp; refine hK.out _ _ ?_; clear hK K xXR zXR0; have SX := StN.mk9 XR (.bool e9) (.int .i64 K9) (.bool s9) (.int .u64 M9) (.int .i64 E9) (.int .i64 K9b) (.bool s9b) (.int .u64 M9b) (.int .i64 E9b); refine Jo.jdone (by kernel_rfl) ?_; go_wp2; exact bodyPost_ret (by simp [results, Tryz.results76, go_sem, SX.box.cell]) rfl ⟨_, _, _, _, _, _, _, _, _, rfl, v9, (SX.below HB.out (by omega))⟩
               · obtain rfl : -1 = σ := by rw [← hσ, sgn_neg (by omega)]
                 have y0 : yb = 0 := by omega
                 subst y0
                 obtain rfl : 0 = τ := by rw [← hτ, sgn_nil]
                 clear hσ hτ
                 have hxx : xa ≤ xb := hx1.2.1
                 rw [(dvI_dn (by omega) hx1.2.1).2 (by omega)] at hr; obtain ⟨u, hu⟩ : ∃ u, q false xb ya = u := ⟨_, rfl⟩; rw [hu] at hr; have hqt := hq false xb ya; rw [hu] at hqt; have HQT := Lib.hid hqt; have HR := Lib.hid hr; clear hu hqt hr
                 have HSA : Hid (cmpI (rk K1 s1 M1 E1) 0 = -1) := Lib.hid (by rw [a1.rk]; exact sgn_neg (by omega))
                 have HSN : Hid (cmpI (rk K1b s1b M1b E1b) 0 = -1) := Lib.hid (by rw [b1.rk]; exact sgn_neg (by omega))
                 have HSE : Hid (cmpI (rk K2 s2 M2 E2) 0 = -1) := Lib.hid (by rw [a2.rk]; exact sgn_neg (by omega))
                 clear hx1 hy1 hz hc hin hs; have xX6 := X6.cell
                 go_upto_region 15 with (fail)
                 clear xX6; have lX12 := Nat.le_refl (World.heap wB).size; have nX12XR := XR.lt; have nX12X5 := X5.lt; have nX12X6 := X6.lt; have nX12X7 := X7.lt; generalize hWn : wB.alloc _ = wC at *; obtain ⟨X12, BW⟩ := Bo.nw hWn; clear hWn; replace XR := XR.below BW; replace X5 := X5.below BW; replace X6 := X6.below BW; replace X7 := X7.below BW; replace HB := Hqb HB BW
                 clear BW; clear lX12; have xX6 := X6.cell; have xX12 := X12.cell; have zX120 := X12.frozen
                 go_upto_region 17 with (fail)
                 clear xX6 xX12 zX120; generalize hS : (((wC.setCell _ _).setCell _ _).setCell _ _).setCell _ _ = wD at *; have SX := StN.of4 X12 hS; replace XR := XR.stn SX (by omega); replace X5 := X5.stn SX (by omega); replace X6 := X6.stn SX (by omega); replace X7 := X7.stn SX (by omega); replace HB := Hqs HB SX (by omega)
                 replace X12 := SX.box; clear SX hS; have xX5 := X5.cell
                 go_upto_region 18 with (fail)
                 clear xX5; have lX13 := Nat.le_refl (World.heap wD).size; have nX13XR := XR.lt; have nX13X5 := X5.lt; have nX13X6 := X6.lt; have nX13X7 := X7.lt; have nX13X12 := X12.lt; generalize hWn : wD.alloc _ = wE at *; obtain ⟨X13, BW⟩ := Bo.nw hWn; clear hWn; replace XR := XR.below BW; replace X5 := X5.below BW; replace X6 := X6.below BW; replace X7 := X7.below BW
                 replace X12 := X12.below BW; replace HB := Hqb HB BW; clear BW; clear lX13; have xX5 := X5.cell
                 go_wp2_with fail
                 refine (ySign a1.top HSA.out).mono ?_; rintro ee wF ⟨rfl, B⟩; clear xX5; replace XR := XR.below B; replace X5 := X5.below B; replace X6 := X6.below B; replace X7 := X7.below B; replace X12 := X12.below B; replace X13 := X13.below B; replace HB := Hqb HB B; clear B; clear HSA; have xX5 := X5.cell
                 have xX13 := X13.cell; have zX130 := X13.frozen
                 go_upto_region 20 with (fail)
                 clear xX5 xX13 zX130; generalize hS : (((wF.setCell _ _).setCell _ _).setCell _ _).setCell _ _ = wG at *; have SX := StN.of4 X13 hS; replace XR := XR.stn SX (by omega); replace X5 := X5.stn SX (by omega); replace X6 := X6.stn SX (by omega); replace X7 := X7.stn SX (by omega); replace X12 := X12.stn SX (by omega); replace HB := Hqs HB SX (by omega)
                 replace X13 := SX.box; clear SX hS; refine Jo.rk [0, 1, 2, 3, 4] [some 73, some 74, some 75, some 76, some 77] [[], [0], [], [2], [1, 3]] 5 0 [Jo.q4 K1b s1b M1b E1b, Jo.Fact.eq (.int .i64 (-1)), Jo.q4 K2 s2 M2 E2, Jo.Fact.eq (.int .i64 (-1)), Jo.qb true] (by kernel_rfl) (by kernel_rfl) (by decide) rfl ?_ ?_
                 · refine Jo.jm rfl ?_ ?_; rotate_left
                   refine Jo.jm rfl ?_ ?_
                   · rintro wj hJ _ rfl K hK; simp only [Jo.z] at hK ⊢; go_simp; refine (ySign b1.top HSN.out).mono ?_; rintro ee wk ⟨rfl, B⟩; exact hK.out _ _ rfl B
                   refine Jo.jm rfl ?_ ?_; rotate_left
                   refine Jo.jm rfl ?_ ?_
                   · rintro wj hJ _ rfl K hK; simp only [Jo.z] at hK ⊢; go_simp; refine (ySign a2.top HSE.out).mono ?_; rintro ee wk ⟨rfl, B⟩; exact hK.out _ _ rfl B
                   refine Jo.jm rfl ?_ ?_
                   · rintro wj hJ _ rfl _ rfl K hK; simp only [Jo.z] at hK ⊢; go_simp
                     exact hK.out _ _ (by first | rfl | (show Value.bool _ = Value.bool _; simp)) (br _ _)
                   exact Jo.Steps.nil
                   all_goals (rintro wj hJ; (repeat rintro _ rfl); intro K hK; simp only [Jo.z] at hK ⊢; have xX13 := (X13.below hJ).cell; have xX12 := (X12.below hJ).cell; go_simp; exact hK.out _ _ rfl (br _ _))
                 rintro wH hJ _ rfl _ rfl _ rfl _ rfl _ rfl -; simp only [Jo.z]; replace XR := XR.below hJ; replace X5 := X5.below hJ; replace X6 := X6.below hJ; replace X7 := X7.below hJ; replace X12 := X12.below hJ; replace X13 := X13.below hJ; replace HB := Hqb HB hJ; refine Jo.jdone (by kernel_rfl) ?_; clear HSN HSE; have xX12 := X12.cell; have xX13 := X13.cell
                 go_wp2_with fail
                 refine (jDiv b1.top a2.top b1.rk a2.rk HQT.out).mono ?_; rintro ee wI ⟨K8, s8, M8, E8, rfl, q8, B⟩; clear xX12 xX13; replace XR := XR.below B; replace X5 := X5.below B; replace X6 := X6.below B; replace X7 := X7.below B; replace X12 := X12.below B; replace X13 := X13.below B; replace HB := Hqb HB B; clear B
                 go_wp2_with fail
                 refine (yInf (r := 19342822337206103650074625) (s := false) (by decide)).mono ?_; rintro ee wJ ⟨K7, s7, M7, E7, rfl, q7, B⟩; replace XR := XR.below B; replace X5 := X5.below B; replace X6 := X6.below B; replace X7 := X7.below B; replace X12 := X12.below B; replace X13 := X13.below B; replace HB := Hqb HB B; clear B
                 go_wp2_with fail
                 refine (jvMake q8.top q7.top q8.rk q7.rk HR.out).mono ?_; rintro ee wK ⟨e9, K9, s9, M9, E9, K9b, s9b, M9b, E9b, rfl, v9, B⟩; replace XR := XR.below B; replace X5 := X5.below B; replace X6 := X6.below B; replace X7 := X7.below B; replace X12 := X12.below B; replace X13 := X13.below B; replace HB := Hqb HB B; clear B; have xXR := XR.cell
                 have zXR0 := XR.frozen; go_wp2; clear xXR zXR0; have SX := StN.mk9 XR (.bool e9) (.int .i64 K9) (.bool s9) (.int .u64 M9) (.int .i64 E9) (.int .i64 K9b) (.bool s9b) (.int .u64 M9b) (.int .i64 E9b); exact bodyPost_ret (by simp [results, Tryz.results76, go_sem, SX.box.cell]) rfl ⟨_, _, _, _, _, _, _, _, _, rfl, v9, (SX.below HB.out (by omega))⟩
       · obtain rfl : false = zb := by rw [← hzb]; simp; omega
         rw [dvI_cor hc] at hr; have HR := Lib.hid hr; have HC := Lib.hid hc; clear hzb hr hc hz hx1 hy1; have xX5 := X5.cell; have xX6 := X6.cell
         go_wp2_with fail
         refine (fwWhole hq v1 v2 HC.out HR.out).mono ?_; rintro ee w9 ⟨e9, K9, s9, M9, E9, K9b, s9b, M9b, E9b, rfl, v9, B⟩; clear xX5 xX6; replace XR := XR.below B; replace X5 := X5.below B; replace X6 := X6.below B; replace X7 := X7.below B; replace HB := Hqb HB B; clear B; have xXR := XR.cell
         have zXR0 := XR.frozen; go_wp2; clear xXR zXR0; have SX := StN.mk9 XR (.bool e9) (.int .i64 K9) (.bool s9) (.int .u64 M9) (.int .i64 E9) (.int .i64 K9b) (.bool s9b) (.int .u64 M9b) (.int .i64 E9b); exact bodyPost_ret (by simp [results, Tryz.results76, go_sem, SX.box.cell]) rfl ⟨_, _, _, _, _, _, _, _, _, rfl, v9, (SX.below HB.out (by omega))⟩
def absI (x : Sp) : Sp := match x with
 | none => none
 | some (a, b) => if 0 ≤ a then some (a, b) else if b ≤ 0 then negI (some (a, b)) else mkI 0 (max b (-a))
def rootI (r : Bool → Int → Int) (x : Sp) : Sp := match meetI x (some (0, 19342822337206103650074625)) with
 | none => none
 | some (a, b) => mkI (r false a) (r true b)
def RF (r : Bool → Int → Int) : Prop := ∀ up x, 0 ≤ x → Ro up x (r up x) true
theorem rt_ex9 (up : Bool) {X : Int} (hX : 0 < X) : ∃ r, Rt up X r := by
 obtain ⟨n, hn⟩ : ∃ n : Nat, (n : Int) = 19342822337206103650074625 := ⟨19342822337206103650074625, rfl⟩
 obtain ⟨k, hk, a, b⟩ := last_yes (fun k => (k : Int) ≤ 19342822337206103650074624 ∧ vr (k : Int) * vr (k : Int) ≤ X) ⟨by decide, by rw [show vr ((0 : Nat) : Int) = 0 from rfl]; omega⟩ n (by omega)
 have b' : (k : Int) < 19342822337206103650074624 → X < vr ((k : Int) + 1) * vr ((k : Int) + 1) := fun c => by
   have d : ¬ vr ((k + 1 : Nat) : Int) * vr ((k + 1 : Nat) : Int) ≤ X := fun d => b ⟨by omega, d⟩
   rw [show ((k + 1 : Nat) : Int) = (k : Int) + 1 by omega] at d
   omega
 cases up
 · exact ⟨k, rt_f.2 ⟨by omega, a.1, a.2, b'⟩⟩
 · by_cases e : vr (k : Int) * vr (k : Int) = X
   · have k0 : 0 < (k : Int) := by
       rcases Int.lt_or_le 0 (k : Int) with q | q
       · exact q
       · exfalso
         rw [show (k : Int) = 0 by omega, show vr 0 = 0 from rfl] at e
         omega
     have s := sq_lt (vr_nn (x := (k : Int) - 1) (by omega)) (vr_lt (show (k : Int) - 1 < k by omega))
     exact ⟨k, rt_t.2 ⟨k0, by omega, fun _ => by omega, by omega⟩⟩
   · refine ⟨(k : Int) + 1, rt_t.2 ⟨by omega, by omega, fun c => Int.le_of_lt (b' (by omega)), ?_⟩⟩
     rw [show (k : Int) + 1 - 1 = k by omega]
     omega
theorem ro_ex9 (up : Bool) (x : Int) (h : 0 ≤ x) : ∃ r, Ro up x r true := by
 by_cases c2 : x = 0 ∨ infp x = true
 · exact ⟨x, (ro_it (by omega) c2).2 ⟨rfl, rfl⟩⟩
 · obtain ⟨r, hr⟩ := rt_ex9 up (Int.mul_pos (vr_pos (show 0 < x by omega)) (p2pos KK))
   exact ⟨r, (ro_fin (by omega) c2).2 ⟨hr, rfl⟩⟩
theorem rf_ex : ∃ r, RF r := by
 have h : ∀ p : Bool × Int, ∃ r, 0 ≤ p.2 → Ro p.1 p.2 r true := fun p => by
   by_cases c : 0 ≤ p.2
   · obtain ⟨r, hr⟩ := ro_ex9 p.1 p.2 c
     exact ⟨r, fun _ => hr⟩
   · exact ⟨0, fun e => absurd e c⟩
 exact ⟨fun up x => Classical.choose (h (up, x)), fun up x => Classical.choose_spec (h (up, x))⟩
theorem Rt.mono9 {up : Bool} {X Y r t : Int} (h : Rt up X r) (k : Rt up Y t) (hXY : X ≤ Y) : r ≤ t := by
 rcases Int.lt_or_le t r with c | c
 · exfalso
   cases up
   · obtain ⟨h1, h2, h3, h4⟩ := rt_f.1 h; obtain ⟨k1, k2, k3, k4⟩ := rt_f.1 k; have a := k4 (by omega); have b := vr_sq (r := t + 1) (t := r) (by omega) (by omega)
     omega
   · obtain ⟨h1, h2, h3, h4⟩ := rt_t.1 h; obtain ⟨k1, k2, k3, k4⟩ := rt_t.1 k; have a := k3 (by omega); have b := vr_sq (r := t) (t := r - 1) (by omega) (by omega)
     omega
 · exact c
theorem infp_top : infp 19342822337206103650074625 = true := by decide
section
variable {r : Bool → Int → Int}
theorem RF.zero (hr : RF r) (up : Bool) : r up 0 = 0 := ((ro_it (by decide) (.inl rfl)).1 (hr up 0 (by decide))).1
theorem RF.top (hr : RF r) (up : Bool) : r up 19342822337206103650074625 = 19342822337206103650074625 := ((ro_it (by decide) (.inr infp_top)).1 (hr up _ (by decide))).1
theorem RF.fin (hr : RF r) (up : Bool) {x : Int} (h0 : 0 < x) (h1 : x < 19342822337206103650074625) : Rt up (vr x * 2 ^ KK) (r up x) :=
 ((ro_fin (by omega) (by rw [infp_fin (by omega) h1]; simp; omega)).1 (hr up x (by omega))).1
theorem RF.in (hr : RF r) (up : Bool) {x : Int} (h0 : 0 ≤ x) (h1 : x ≤ 19342822337206103650074625) : 0 ≤ r up x ∧ r up x ≤ 19342822337206103650074625 := by
 by_cases c : x = 0
 · subst c; rw [hr.zero]
   decide
 · by_cases d : x = 19342822337206103650074625
   · subst d; rw [hr.top]
     decide
   · have := hr.fin up (x := x) (by omega) (by omega)
     cases up
     · have := rt_f.1 this
       omega
     · have := rt_t.1 this
       omega
theorem RF.mono (hr : RF r) (up : Bool) {x y : Int} (h0 : 0 ≤ x) (h : x ≤ y) (h1 : y ≤ 19342822337206103650074625) : r up x ≤ r up y := by
 have X := hr.in up h0 (by omega)
 have Y := hr.in up (show 0 ≤ y by omega) h1
 by_cases c : x = 0
 · subst c; rw [hr.zero]
   omega
 · by_cases d : y = 19342822337206103650074625
   · subst d; rw [hr.top]
     omega
   · exact (hr.fin up (by omega) (by omega)).mono9 (hr.fin up (by omega) (by omega)) (Int.mul_le_mul_of_nonneg_right (vr_le h) (Int.le_of_lt (p2pos KK)))
end
section
variable {r : Bool → Int → Int}
end
end Go.Proofs.YtnbliijpjcmbjaaGreatDoor

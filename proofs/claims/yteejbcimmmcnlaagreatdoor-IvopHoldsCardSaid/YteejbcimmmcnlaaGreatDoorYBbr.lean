/-
  Contracts and words that the statement's proof rests on, several texts in one: Fw.
-/
import Derived.Test.YteejbcimmmcnlaaGreatDoorYBbq
/-
  What ivop.Div does.
-/
namespace Go.Proofs.YteejbcimmmcnlaaGreatDoor
open Go.RowKit
set_option linter.unusedVariables false
set_option linter.unusedSimpArgs false
set_option maxRecDepth 100000

theorem kvPoint0 {w : World} : Calls Tryz.prog 38 #[.agg #[.int .i64 0, .bool false, .int .u64 0, .int .i64 0]] w (fun e w' => e = .returned (.agg #[.bool false, .int .i64 0, .bool false, .int .u64 0, .int .i64 0, .int .i64 0, .bool false, .int .u64 0, .int .i64 0]) ∧ Below w.heap.size w w') := by
  refine (kvPoint (x := some (0, 0)) (by decide) Fq.nought.rk (by decide)).mono ?_; rintro ee w2 ⟨e1, K1, s1, M1, E1, K1b, s1b, M1b, E1b, rfl, v1, B⟩; obtain ⟨rfl, rfl, rfl, rfl, rfl, rfl, rfl, rfl, rfl⟩ := v1.uniq ci_zero; exact ⟨rfl, B⟩
theorem opq_div {q : Bool → Int → Int → Int} (hq : QF q) : OpQ 59 q true := ⟨fun _ _ => by first | rfl | kernel_rfl | simp [callFunc, go_sem], fun _ _ _ _ _ _ _ _ _ up x y r hI hM hM' hx hy hr => kDiv (hI rfl) hM hM' hx hy (by rw [← hr]; exact hq up x y)⟩
set_option maxHeartbeats 8000000 in
theorem fkDiv {w : World} {e : Bool} {D M E D' M' E' : Int} {s s' : Bool} {e2 : Bool} {G P Q G' P' Q' : Int} {g g' : Bool} {x y z : Sp} {q : Bool → Int → Int → Int} (hT : Tab w) (hq : QF q) (hM : M < 18446744073709551616) (hM' : M' < 18446744073709551616) (hP : P < 18446744073709551616) (hP' : P' < 18446744073709551616) (hx : rkI e D s M E D' s' M' E' = x) (hy : rkI e2 G g P Q G' g' P' Q' = y) (hr : divI q x y = z) : Calls Tryz.prog 20 #[.agg #[.bool e, .int .i64 D, .bool s, .int .u64 M, .int .i64 E, .int .i64 D', .bool s', .int .u64 M', .int .i64 E'], .agg #[.bool e2, .int .i64 G, .bool g, .int .u64 P, .int .i64 Q, .int .i64 G', .bool g', .int .u64 P', .int .i64 Q']] w (PV w z) := by
  obtain ⟨p, hp⟩ : ∃ p, gone [x, y] = p := ⟨_, rfl⟩; have HP := Lib.hid hp; have HX := Lib.hid hx; have HY := Lib.hid hy; have HQ := Lib.hid hq
  have HZ : Hid (sgi (decide ((0 : Int) < 0)) (lo (0 : Int).natAbs 0) = 0) := Lib.hid rfl
  clear hx hy hp hq
  go_enter Tryz.func20, Tryz.ntmps20
  go_upto_region 1 with (fail)
  generalize hW1 : ((w.alloc _).alloc _).alloc _ = w1 at *; obtain ⟨X2, X3, XR, HB⟩ := Bo.en3 hW1; replace hT := hT.below HB.out; clear hW1
  go_wp2_with fail
  refine (nOf _ (by decide) (by decide) HZ.out).mono ?_; rintro ee w2 ⟨K5, s5, M5, E5, rfl, q5, B⟩; replace X2 := X2.below B; replace X3 := X3.below B; replace XR := XR.below B; replace hT := hT.below B; replace HB := Lib.hid (bt HB.out B); clear B; obtain ⟨rfl, rfl, rfl, rfl⟩ := q5.uniq Fq.nought; clear q5 HZ
  go_upto_region 2 with (fail)
  have lX5 := Nat.le_refl (World.heap w2).size; have nX5X2 := X2.lt; have nX5X3 := X3.lt; have nX5XR := XR.lt; generalize hWn : w2.alloc _ = w3 at *; obtain ⟨X5, BW⟩ := Bo.nw hWn; clear hWn; replace X2 := X2.below BW; replace X3 := X3.below BW; replace XR := XR.below BW; replace hT := hT.below BW; replace HB := Lib.hid (bt HB.out BW); clear BW; clear lX5
  rcases x with _ | ⟨xa, xb⟩
  · obtain rfl : true = p := HP.out
    replace hr : none = z := hr
    refine Jo.rk [0, 1, 2, 3, 4, 5, 6, 7, 8, 9, 10] [some 8, some 9, some 10, some 11, some 12, some 13, some 14, some 15, some 16, some 17, some 7] [[], [], [0, 1], [2], [3], [4], [4], [4, 6], [4, 5, 7], [4, 8], [9]] 11 0 [Jo.q9 e D s M E D' s' M' E', Jo.q9 e2 G g P Q G' g' P' Q', Jo.Fact.il8 2 [none, y], Jo.qb true, Jo.qb true, Jo.qu, Jo.qu, Jo.qu, Jo.qu, Jo.qb true, Jo.qb true] (by kernel_rfl) (by kernel_rfl) (by decide) rfl ?_ ?_
    · refine Jo.jm rfl ?_ ?_
      · rintro wj hJ K hK; simp only [Jo.z] at hK ⊢; obtain ⟨xX20, xX21, xX22, xX23, xX24, xX25, xX26, xX27, xX28⟩ := (X2.below hJ).u9; go_simp; exact hK.out _ _ rfl (br _ _)
      refine Jo.jm rfl ?_ ?_
      · rintro wj hJ K hK; simp only [Jo.z] at hK ⊢; obtain ⟨xX30, xX31, xX32, xX33, xX34, xX35, xX36, xX37, xX38⟩ := (X3.below hJ).u9; go_simp; exact hK.out _ _ rfl (br _ _)
      refine Jo.jm rfl ?_ ?_
      · rintro wj hJ _ rfl _ rfl K hK; simp only [Jo.z] at hK ⊢; go_simp; exact hK.out _ _ ⟨_, 2, rfl, Il8.lit2 rfl ⟨hM, hM', HX.out⟩ ⟨hP, hP', HY.out⟩⟩ (bel1 _ _)
      refine Jo.jm rfl ?_ ?_
      · rintro wj hJ _ ⟨A2, c2, rfl, h2⟩ K hK; simp only [Jo.z] at hK ⊢; go_simp; refine (fkEmpty h2 HP.out).mono ?_; rintro ee wk ⟨rfl, B⟩; exact hK.out _ _ rfl B
      refine Jo.jm rfl ?_ ?_
      · rintro wj hJ _ rfl K hK; simp only [Jo.z] at hK ⊢; go_simp; exact hK.out _ _ rfl (br _ _)
      refine Jo.jm rfl ?_ ?_
      · rintro wj hJ _ rfl K hK; simp only [Jo.z] at hK ⊢; go_simp; exact hK.out _ _ rfl (br _ _)
      refine Jo.jm rfl ?_ ?_
      · rintro wj hJ _ rfl K hK; simp only [Jo.z] at hK ⊢; go_simp; exact hK.out _ _ rfl (br _ _)
      refine Jo.jm rfl ?_ ?_
      · rintro wj hJ _ rfl _ rfl K hK; simp only [Jo.z] at hK ⊢; go_simp; exact hK.out _ _ rfl (br _ _)
      refine Jo.jm rfl ?_ ?_
      · rintro wj hJ _ rfl _ rfl _ rfl K hK; simp only [Jo.z] at hK ⊢; go_simp; exact hK.out _ _ rfl (br _ _)
      refine Jo.jm rfl ?_ ?_
      · rintro wj hJ _ rfl _ rfl K hK; simp only [Jo.z] at hK ⊢; go_simp; exact hK.out _ _ rfl (br _ _)
      refine Jo.jm rfl ?_ ?_
      · rintro wj hJ _ rfl K hK; simp only [Jo.z] at hK ⊢; go_simp; exact hK.out _ _ rfl (br _ _)
      exact Jo.Steps.nil
    rintro w4 hJ _ rfl _ rfl _ ⟨_, _, rfl, _⟩ _ rfl _ rfl _ rfl _ rfl _ rfl _ rfl _ rfl _ rfl -; simp only [Jo.z]; replace X2 := X2.below hJ; replace X3 := X3.below hJ; replace XR := XR.below hJ; replace X5 := X5.below hJ; replace hT := hT.below hJ; replace HB := Lib.hid (bt HB.out hJ); refine Jo.jdone (by kernel_rfl) ?_
    obtain rfl : none = z := hr
    clear hT
    go_wp2_with fail
    refine (kvNoneE).mono ?_; rintro ee w8 ⟨rfl, B⟩; replace X2 := X2.below B; replace X3 := X3.below B; replace XR := XR.below B; replace X5 := X5.below B; replace HB := Lib.hid (bt HB.out B); clear B; obtain ⟨xXR0, xXR1, xXR2, xXR3, xXR4, xXR5, xXR6, xXR7, xXR8⟩ := XR.u9; have zXR0 := XR.frozen; go_wp2; clear xXR0 zXR0 xXR1 xXR2 xXR3 xXR4 xXR5 xXR6 xXR7 xXR8; have SX := StN.mk9 XR (.bool true) (.int .i64 0) (.bool false) (.int .u64 0) (.int .i64 0) (.int .i64 0) (.bool false) (.int .u64 0) (.int .i64 0)
    exact bodyPost_ret (by simp [results, Tryz.results20, go_sem, SX.box.cell]) rfl ⟨_, _, _, _, _, _, _, _, _, rfl, Ci.none, (SX.below HB.out (by omega))⟩
  · rcases y with _ | ⟨ya, yb⟩
    · obtain rfl : true = p := HP.out
      replace hr : none = z := hr
      refine Jo.rk [0, 1, 2, 3, 4, 5, 6, 7, 8, 9, 10] [some 8, some 9, some 10, some 11, some 12, some 13, some 14, some 15, some 16, some 17, some 7] [[], [], [0, 1], [2], [3], [4], [4], [4, 6], [4, 5, 7], [4, 8], [9]] 11 0 [Jo.q9 e D s M E D' s' M' E', Jo.q9 e2 G g P Q G' g' P' Q', Jo.Fact.il8 2 [(some (xa, xb)), none], Jo.qb true, Jo.qb true, Jo.qu, Jo.qu, Jo.qu, Jo.qu, Jo.qb true, Jo.qb true] (by kernel_rfl) (by kernel_rfl) (by decide) rfl ?_ ?_
      · refine Jo.jm rfl ?_ ?_
        · rintro wj hJ K hK; simp only [Jo.z] at hK ⊢; obtain ⟨xX20, xX21, xX22, xX23, xX24, xX25, xX26, xX27, xX28⟩ := (X2.below hJ).u9; go_simp; exact hK.out _ _ rfl (br _ _)
        refine Jo.jm rfl ?_ ?_
        · rintro wj hJ K hK; simp only [Jo.z] at hK ⊢; obtain ⟨xX30, xX31, xX32, xX33, xX34, xX35, xX36, xX37, xX38⟩ := (X3.below hJ).u9; go_simp; exact hK.out _ _ rfl (br _ _)
        refine Jo.jm rfl ?_ ?_
        · rintro wj hJ _ rfl _ rfl K hK; simp only [Jo.z] at hK ⊢; go_simp; exact hK.out _ _ ⟨_, 2, rfl, Il8.lit2 rfl ⟨hM, hM', HX.out⟩ ⟨hP, hP', HY.out⟩⟩ (bel1 _ _)
        refine Jo.jm rfl ?_ ?_
        · rintro wj hJ _ ⟨A2, c2, rfl, h2⟩ K hK; simp only [Jo.z] at hK ⊢; go_simp; refine (fkEmpty h2 HP.out).mono ?_; rintro ee wk ⟨rfl, B⟩; exact hK.out _ _ rfl B
        refine Jo.jm rfl ?_ ?_
        · rintro wj hJ _ rfl K hK; simp only [Jo.z] at hK ⊢; go_simp; exact hK.out _ _ rfl (br _ _)
        refine Jo.jm rfl ?_ ?_
        · rintro wj hJ _ rfl K hK; simp only [Jo.z] at hK ⊢; go_simp; exact hK.out _ _ rfl (br _ _)
        refine Jo.jm rfl ?_ ?_
        · rintro wj hJ _ rfl K hK; simp only [Jo.z] at hK ⊢; go_simp; exact hK.out _ _ rfl (br _ _)
        refine Jo.jm rfl ?_ ?_
        · rintro wj hJ _ rfl _ rfl K hK; simp only [Jo.z] at hK ⊢; go_simp; exact hK.out _ _ rfl (br _ _)
        refine Jo.jm rfl ?_ ?_
        · rintro wj hJ _ rfl _ rfl _ rfl K hK; simp only [Jo.z] at hK ⊢; go_simp; exact hK.out _ _ rfl (br _ _)
        refine Jo.jm rfl ?_ ?_
        · rintro wj hJ _ rfl _ rfl K hK; simp only [Jo.z] at hK ⊢; go_simp; exact hK.out _ _ rfl (br _ _)
        refine Jo.jm rfl ?_ ?_
        · rintro wj hJ _ rfl K hK; simp only [Jo.z] at hK ⊢; go_simp; exact hK.out _ _ rfl (br _ _)
        exact Jo.Steps.nil
      rintro w4 hJ _ rfl _ rfl _ ⟨_, _, rfl, _⟩ _ rfl _ rfl _ rfl _ rfl _ rfl _ rfl _ rfl _ rfl -; simp only [Jo.z]; replace X2 := X2.below hJ; replace X3 := X3.below hJ; replace XR := XR.below hJ; replace X5 := X5.below hJ; replace hT := hT.below hJ; replace HB := Lib.hid (bt HB.out hJ); refine Jo.jdone (by kernel_rfl) ?_
      obtain rfl : none = z := hr
      clear hT
      go_wp2_with fail
      refine (kvNoneE).mono ?_; rintro ee w8 ⟨rfl, B⟩; replace X2 := X2.below B; replace X3 := X3.below B; replace XR := XR.below B; replace X5 := X5.below B; replace HB := Lib.hid (bt HB.out B); clear B; obtain ⟨xXR0, xXR1, xXR2, xXR3, xXR4, xXR5, xXR6, xXR7, xXR8⟩ := XR.u9; have zXR0 := XR.frozen; go_wp2; clear xXR0 zXR0 xXR1 xXR2 xXR3 xXR4 xXR5 xXR6 xXR7 xXR8; have SX := StN.mk9 XR (.bool true) (.int .i64 0) (.bool false) (.int .u64 0) (.int .i64 0) (.int .i64 0) (.bool false) (.int .u64 0) (.int .i64 0)
      exact bodyPost_ret (by simp [results, Tryz.results20, go_sem, SX.box.cell]) rfl ⟨_, _, _, _, _, _, _, _, _, rfl, Ci.none, (SX.below HB.out (by omega))⟩
    · obtain rfl : false = p := HP.out
      have w1' := ci_some hM hM' HX.out
      have w2' := ci_some hP hP' HY.out
      obtain ⟨rfl, a1, b1, o1, o1l, o1h⟩ := w1'; obtain ⟨rfl, a2, b2, o2, o2l, o2h⟩ := w2'
      have v1 : Ci false D s M E D' s' M' E' (some (xa, xb)) := ⟨rfl, a1, b1, o1, o1l, o1h⟩
      have v2 : Ci false G g P Q G' g' P' Q' (some (ya, yb)) := ⟨rfl, a2, b2, o2, o2l, o2h⟩
      clear HP HX HY
      have hx1 : SpOk (some (xa, xb)) := v1.ok
      have hy1 : SpOk (some (ya, yb)) := v2.ok
      have HPF : Hid (gone [some (xa, xb), some (ya, yb)] = false) := Lib.hid rfl
      clear o1 o1l o1h o2 o2l o2h
      by_cases hz : ya = 0 ∧ yb = 0
      · obtain ⟨rfl, rfl⟩ := hz; rw [dvI_zero ⟨rfl, rfl⟩] at hr; obtain ⟨_, rfl, rfl, rfl, rfl, rfl, rfl, rfl, rfl⟩ := v2.uniq ci_zero; clear a2 b2; refine Jo.rk [0, 1, 2, 3, 4, 5, 6, 7, 8, 9, 10] [some 8, some 9, some 10, some 11, some 12, some 13, some 14, some 15, some 16, some 17, some 7] [[], [], [0, 1], [2], [3], [4], [4], [4, 6], [4, 5, 7], [4, 8], [9]] 11 0 [Jo.q9 false D s M E D' s' M' E', Jo.q9 false 0 false 0 0 0 false 0 0, Jo.Fact.il8 2 [(some (xa, xb)), (some (0, 0))], Jo.qb false, Jo.qb false, Jo.q9 false 0 false 0 0 0 false 0 0, Jo.q4 0 false 0 0, Jo.q9 false 0 false 0 0 0 false 0 0, Jo.qb true, Jo.qb true, Jo.qb true] (by kernel_rfl) (by kernel_rfl) (by decide) rfl ?_ ?_
        · refine Jo.jm rfl ?_ ?_
          · rintro wj hJ K hK; simp only [Jo.z] at hK ⊢; obtain ⟨xX20, xX21, xX22, xX23, xX24, xX25, xX26, xX27, xX28⟩ := (X2.below hJ).u9; go_simp; exact hK.out _ _ rfl (br _ _)
          refine Jo.jm rfl ?_ ?_
          · rintro wj hJ K hK; simp only [Jo.z] at hK ⊢; obtain ⟨xX30, xX31, xX32, xX33, xX34, xX35, xX36, xX37, xX38⟩ := (X3.below hJ).u9; go_simp; exact hK.out _ _ rfl (br _ _)
          refine Jo.jm rfl ?_ ?_
          · rintro wj hJ _ rfl _ rfl K hK; simp only [Jo.z] at hK ⊢; go_simp; exact hK.out _ _ ⟨_, 2, rfl, Il8.lit2 rfl v1.rw v2.rw⟩ (bel1 _ _)
          refine Jo.jm rfl ?_ ?_
          · rintro wj hJ _ ⟨A2, c2, rfl, h2⟩ K hK; simp only [Jo.z] at hK ⊢; go_simp; refine (fkEmpty h2 HPF.out).mono ?_; rintro ee wk ⟨rfl, B⟩; exact hK.out _ _ rfl B
          refine Jo.jm rfl ?_ ?_
          · rintro wj hJ _ rfl K hK; simp only [Jo.z] at hK ⊢; go_simp; exact hK.out _ _ rfl (br _ _)
          refine Jo.jm rfl ?_ ?_
          · rintro wj hJ _ rfl K hK; simp only [Jo.z] at hK ⊢; obtain ⟨xX30, xX31, xX32, xX33, xX34, xX35, xX36, xX37, xX38⟩ := (X3.below hJ).u9; go_simp; exact hK.out _ _ rfl (br _ _)
          refine Jo.jm rfl ?_ ?_
          · rintro wj hJ _ rfl K hK; simp only [Jo.z] at hK ⊢; obtain ⟨xX50, xX51, xX52, xX53⟩ := (X5.below hJ).u4; go_simp; exact hK.out _ _ rfl (br _ _)
          refine Jo.jm rfl ?_ ?_
          · rintro wj hJ _ rfl _ rfl K hK; simp only [Jo.z] at hK ⊢; go_simp; refine (kvPoint0).mono ?_; rintro ee wk ⟨rfl, B⟩; exact hK.out _ _ rfl B
          refine Jo.jm rfl ?_ ?_
          · rintro wj hJ _ rfl _ rfl _ rfl K hK; simp only [Jo.z] at hK ⊢; go_simp
            repeat' split
            all_goals exact hK.out _ _ (congrArg Value.bool (by first | rfl | (exfalso; simp_all) | simp_all)) (br _ _)
          refine Jo.jm rfl ?_ ?_
          · rintro wj hJ _ rfl _ rfl K hK; simp only [Jo.z] at hK ⊢; go_simp; exact hK.out _ _ rfl (br _ _)
          refine Jo.jm rfl ?_ ?_
          · rintro wj hJ _ rfl K hK; simp only [Jo.z] at hK ⊢; go_simp; exact hK.out _ _ rfl (br _ _)
          exact Jo.Steps.nil
        rintro w4 hJ _ rfl _ rfl _ ⟨_, _, rfl, _⟩ _ rfl _ rfl _ rfl _ rfl _ rfl _ rfl _ rfl _ rfl -; simp only [Jo.z]; replace X2 := X2.below hJ; replace X3 := X3.below hJ; replace XR := XR.below hJ; replace X5 := X5.below hJ; replace hT := hT.below hJ; replace HB := Lib.hid (bt HB.out hJ); refine Jo.jdone (by kernel_rfl) ?_
        obtain rfl : none = z := hr
        clear hT
        go_wp2_with fail
        refine (kvNoneE).mono ?_; rintro ee w8 ⟨rfl, B⟩; replace X2 := X2.below B; replace X3 := X3.below B; replace XR := XR.below B; replace X5 := X5.below B; replace HB := Lib.hid (bt HB.out B); clear B; obtain ⟨xXR0, xXR1, xXR2, xXR3, xXR4, xXR5, xXR6, xXR7, xXR8⟩ := XR.u9; have zXR0 := XR.frozen; go_wp2; clear xXR0 zXR0 xXR1 xXR2 xXR3 xXR4 xXR5 xXR6 xXR7 xXR8; have SX := StN.mk9 XR (.bool true) (.int .i64 0) (.bool false) (.int .u64 0) (.int .i64 0) (.int .i64 0) (.bool false) (.int .u64 0) (.int .i64 0)
        exact bodyPost_ret (by simp [results, Tryz.results20, go_sem, SX.box.cell]) rfl ⟨_, _, _, _, _, _, _, _, _, rfl, Ci.none, (SX.below HB.out (by omega))⟩
      · have hne : G = 0 → g = false → P = 0 → Q = 0 → G' = 0 → g' = false → P' = 0 → ¬ Q' = 0 := by
          rintro rfl rfl rfl rfl rfl rfl rfl rfl; have e := v2.fn ci_zero
          injection e with e
          injection e with e1 e2
          exact hz ⟨e1, e2⟩
        have HNE := Lib.hid hne; clear hne
        refine Jo.region_joint (T := [0, 1, 2, 3, 4, 5, 6, 7, 8, 9, 10]) (ds := [some 8, some 9, some 10, some 11, some 12, some 13, some 14, some 15, some 16, some 17, some 7]) (ls := [[], [], [0, 1], [2], [3], [4], [4], [4, 6], [4, 5, 7], [4, 8], [9]]) (k := 11) (L := [(some 8, 0), (some 9, 1), (some 10, 2), (some 11, 3), (some 12, 4), (some 13, 5), (some 14, 6), (some 15, 7), (some 16, 8), (some 17, 9), (some 7, 10)]) (fuel := 0) (J := fun wj => Below (World.heap w3).size w3 wj)
          (F := [Jo.q9 false D s M E D' s' M' E', Jo.q9 false G g P Q G' g' P' Q', Jo.Fact.il8 2 [(some (xa, xb)), (some (ya, yb))], Jo.qb false, Jo.qb false, Jo.q9 false G g P Q G' g' P' Q', Jo.q4 0 false 0 0, Jo.q9 false 0 false 0 0 0 false 0 0, Jo.qb false, Jo.qb false, Jo.qb false])
          (by kernel_rfl) (by kernel_rfl) (by decide) rfl rfl (fun _ _ h b => bt h b) ((br _ _).drew) ?_ (fun vs w4 hJ hd => ?_)
        · refine Jo.jm rfl ?_ ?_
          · rintro wj hJ K hK; simp only [Jo.z] at hK ⊢; obtain ⟨xX20, xX21, xX22, xX23, xX24, xX25, xX26, xX27, xX28⟩ := (X2.below hJ).u9; go_simp; exact hK.out _ _ rfl (br _ _)
          refine Jo.jm rfl ?_ ?_
          · rintro wj hJ K hK; simp only [Jo.z] at hK ⊢; obtain ⟨xX30, xX31, xX32, xX33, xX34, xX35, xX36, xX37, xX38⟩ := (X3.below hJ).u9; go_simp; exact hK.out _ _ rfl (br _ _)
          refine Jo.jm rfl ?_ ?_
          · rintro wj hJ _ rfl _ rfl K hK; simp only [Jo.z] at hK ⊢; go_simp; exact hK.out _ _ ⟨_, 2, rfl, Il8.lit2 rfl v1.rw v2.rw⟩ (bel1 _ _)
          refine Jo.jm rfl ?_ ?_
          · rintro wj hJ _ ⟨A2, c2, rfl, h2⟩ K hK; simp only [Jo.z] at hK ⊢; go_simp; refine (fkEmpty h2 HPF.out).mono ?_; rintro ee wk ⟨rfl, B⟩; exact hK.out _ _ rfl B
          refine Jo.jm rfl ?_ ?_
          · rintro wj hJ _ rfl K hK; simp only [Jo.z] at hK ⊢; go_simp; exact hK.out _ _ rfl (br _ _)
          refine Jo.jm rfl ?_ ?_
          · rintro wj hJ _ rfl K hK; simp only [Jo.z] at hK ⊢; obtain ⟨xX30, xX31, xX32, xX33, xX34, xX35, xX36, xX37, xX38⟩ := (X3.below hJ).u9; go_simp; exact hK.out _ _ rfl (br _ _)
          refine Jo.jm rfl ?_ ?_
          · rintro wj hJ _ rfl K hK; simp only [Jo.z] at hK ⊢; obtain ⟨xX50, xX51, xX52, xX53⟩ := (X5.below hJ).u4; go_simp; exact hK.out _ _ rfl (br _ _)
          refine Jo.jm rfl ?_ ?_
          · rintro wj hJ _ rfl _ rfl K hK; simp only [Jo.z] at hK ⊢; go_simp; refine (kvPoint0).mono ?_; rintro ee wk ⟨rfl, B⟩; exact hK.out _ _ rfl B
          refine Jo.jm rfl ?_ ?_
          · rintro wj hJ _ rfl _ rfl _ rfl K hK; simp only [Jo.z] at hK ⊢; have hne := HNE.out; go_simp
            repeat' split
            all_goals exact hK.out _ _ (congrArg Value.bool (by first | rfl | (exfalso; simp_all))) (br _ _)
          refine Jo.jm rfl ?_ ?_
          · rintro wj hJ _ rfl _ rfl K hK; simp only [Jo.z] at hK ⊢; go_simp; exact hK.out _ _ rfl (br _ _)
          refine Jo.jm rfl ?_ ?_
          · rintro wj hJ _ rfl K hK; simp only [Jo.z] at hK ⊢; go_simp; exact hK.out _ _ rfl (br _ _)
          exact Jo.Steps.nil
        have d2 : (Jo.Fact.il8 2 [(some (xa, xb)), (some (ya, yb))]).P (vs 2) w4 := hd 2 (by decide)
        simp only [Jo.putl, Jo.zd, Jo.ze, Act.put, Jo.za, Jo.zb, Jo.zc]
        rw [show vs 0 = _ from hd 0 (by decide), show vs 1 = _ from hd 1 (by decide), show vs 3 = _ from hd 3 (by decide), show vs 4 = _ from hd 4 (by decide), show vs 5 = _ from hd 5 (by decide), show vs 6 = _ from hd 6 (by decide), show vs 7 = _ from hd 7 (by decide), show vs 8 = _ from hd 8 (by decide), show vs 9 = _ from hd 9 (by decide), show vs 10 = _ from hd 10 (by decide)]
        clear hd; generalize vs 2 = u2 at d2 ⊢; obtain ⟨_, _, rfl, _⟩ := d2; replace X2 := X2.below hJ; replace X3 := X3.below hJ; replace XR := XR.below hJ; replace X5 := X5.below hJ; replace hT := hT.below hJ; replace HB := Lib.hid (bt HB.out hJ); refine Jo.jdone (by kernel_rfl) ?_; clear HNE HPF; obtain ⟨zb, hzb⟩ : ∃ zb, hasI (some (ya, yb)) 0 = zb := ⟨_, rfl⟩; have HZB := Lib.hid hzb; rw [has_zero] at hzb
        obtain ⟨xX30, xX31, xX32, xX33, xX34, xX35, xX36, xX37, xX38⟩ := X3.u9; obtain ⟨xX50, xX51, xX52, xX53⟩ := X5.u4
        go_wp2_with fail
        refine (kvHas v2.top.1 v2.top.2 (by decide) v2.rk Fq.nought.rk HZB.out).mono ?_; rintro ee w5 ⟨rfl, B⟩; clear xX30 xX31 xX32 xX33 xX34 xX35 xX36 xX37 xX38 xX50 xX51 xX52 xX53; replace X2 := X2.below B; replace X3 := X3.below B; replace XR := XR.below B; replace X5 := X5.below B; replace hT := hT.below B; replace HB := Lib.hid (bt HB.out B); clear B; clear HZB
        rcases Classical.em (ya ≤ 0 ∧ 0 ≤ yb) with hc | hc
        · obtain rfl : true = zb := by rw [← hzb]; simp; omega
          clear hzb; obtain ⟨zi, hzi⟩ : ∃ zi, hasI (some (xa, xb)) 0 = zi := ⟨_, rfl⟩; have HZI := Lib.hid hzi; rw [has_zero] at hzi; obtain ⟨xX20, xX21, xX22, xX23, xX24, xX25, xX26, xX27, xX28⟩ := X2.u9; obtain ⟨xX50, xX51, xX52, xX53⟩ := X5.u4
          go_wp2_with fail
          refine (kvHas v1.top.1 v1.top.2 (by decide) v1.rk Fq.nought.rk HZI.out).mono ?_; rintro ee w6 ⟨rfl, B⟩; clear xX20 xX21 xX22 xX23 xX24 xX25 xX26 xX27 xX28 xX50 xX51 xX52 xX53; replace X2 := X2.below B; replace X3 := X3.below B; replace XR := XR.below B; replace X5 := X5.below B; replace hT := hT.below B; replace HB := Lib.hid (bt HB.out B); clear B
          by_cases hin : xa ≤ 0 ∧ 0 ≤ xb
          · obtain rfl : true = zi := by rw [← hzi]; simp; omega
            have hw : (xa ≤ 0 ∧ 0 ≤ xb) ∨ (ya < 0 ∧ 0 < yb) := .inl hin
            clear hzi
            obtain rfl : allI = z := by rw [← hr, dvI_all hz hc hw]
            clear hT
            go_wp2_with fail
            refine (kvAll).mono ?_; rintro ee w9 ⟨e9, K9, s9, M9, E9, K9b, s9b, M9b, E9b, rfl, v9, B⟩; replace X2 := X2.below B; replace X3 := X3.below B; replace XR := XR.below B; replace X5 := X5.below B; replace HB := Lib.hid (bt HB.out B); clear B; obtain ⟨xXR0, xXR1, xXR2, xXR3, xXR4, xXR5, xXR6, xXR7, xXR8⟩ := XR.u9; have zXR0 := XR.frozen; go_wp2; clear xXR0 zXR0 xXR1 xXR2 xXR3 xXR4 xXR5 xXR6 xXR7 xXR8
            have SX := StN.mk9 XR (.bool e9) (.int .i64 K9) (.bool s9) (.int .u64 M9) (.int .i64 E9) (.int .i64 K9b) (.bool s9b) (.int .u64 M9b) (.int .i64 E9b); exact bodyPost_ret (by simp [results, Tryz.results20, go_sem, SX.box.cell]) rfl ⟨_, _, _, _, _, _, _, _, _, rfl, v9, (SX.below HB.out (by omega))⟩
          · obtain rfl : false = zi := by rw [← hzi]; simp; omega
            clear hzi
            by_cases hs : ya < 0 ∧ 0 < yb
            · have HS : Hid (cmpI (rk G g P Q) 0 = -1) := Lib.hid (by rw [a2.rk]; exact sgn_neg hs.1)
              have HS2 : Hid (cmpI (rk G' g' P' Q') 0 = 1) := Lib.hid (by rw [b2.rk]; exact sgn_pos hs.2)
              have hw : (xa ≤ 0 ∧ 0 ≤ xb) ∨ (ya < 0 ∧ 0 < yb) := .inr hs
              obtain rfl : allI = z := by rw [← hr, dvI_all hz hc hw]
              obtain ⟨xX30, xX31, xX32, xX33, xX34, xX35, xX36, xX37, xX38⟩ := X3.u9
              go_wp2_with fail
              refine (nSign a2.top HS.out).mono ?_; rintro ee w7 ⟨rfl, B⟩; clear xX30 xX31 xX32 xX33 xX34 xX35 xX36 xX37 xX38; replace X2 := X2.below B; replace X3 := X3.below B; replace XR := XR.below B; replace X5 := X5.below B; replace hT := hT.below B; replace HB := Lib.hid (bt HB.out B); clear B; obtain ⟨xX30, xX31, xX32, xX33, xX34, xX35, xX36, xX37, xX38⟩ := X3.u9
              go_wp2_with fail
              refine (nSign b2.top HS2.out).mono ?_; rintro ee w8 ⟨rfl, B⟩; clear xX30 xX31 xX32 xX33 xX34 xX35 xX36 xX37 xX38; replace X2 := X2.below B; replace X3 := X3.below B; replace XR := XR.below B; replace X5 := X5.below B; replace hT := hT.below B; replace HB := Lib.hid (bt HB.out B); clear B; clear hT
              go_wp2_with fail
              refine (kvAll).mono ?_; rintro ee w9 ⟨e9, K9, s9, M9, E9, K9b, s9b, M9b, E9b, rfl, v9, B⟩; replace X2 := X2.below B; replace X3 := X3.below B; replace XR := XR.below B; replace X5 := X5.below B; replace HB := Lib.hid (bt HB.out B); clear B; obtain ⟨xXR0, xXR1, xXR2, xXR3, xXR4, xXR5, xXR6, xXR7, xXR8⟩ := XR.u9; have zXR0 := XR.frozen; go_wp2; clear xXR0 zXR0 xXR1 xXR2 xXR3 xXR4 xXR5 xXR6 xXR7 xXR8
              have SX := StN.mk9 XR (.bool e9) (.int .i64 K9) (.bool s9) (.int .u64 M9) (.int .i64 E9) (.int .i64 K9b) (.bool s9b) (.int .u64 M9b) (.int .i64 E9b); exact bodyPost_ret (by simp [results, Tryz.results20, go_sem, SX.box.cell]) rfl ⟨_, _, _, _, _, _, _, _, _, rfl, v9, (SX.below HB.out (by omega))⟩
            · rcases (by omega : (0 < yb ∧ ya = 0) ∨ (ya < 0 ∧ yb = 0)) with hd | hd
              · have HS : Hid (cmpI (rk G g P Q) 0 = 0) := Lib.hid (by rw [a2.rk]; exact (by rw [hd.2]; exact sgn_nil))
                have HS2 : Hid (cmpI (rk G' g' P' Q') 0 = 1) := Lib.hid (by rw [b2.rk]; exact sgn_pos hd.1)
                have HDD : Hid ((0 < yb ∧ ya = 0) ∨ (ya < 0 ∧ yb = 0)) := Lib.hid (.inl hd)
                have HPX : Hid (0 < xa ∨ xb < 0) := Lib.hid (by have := hx1.2.1; omega)
                have HR := Lib.hid hr; clear hd hr hc hz hs hin; obtain ⟨xX30, xX31, xX32, xX33, xX34, xX35, xX36, xX37, xX38⟩ := X3.u9
                go_wp2_with fail
                refine (nSign a2.top HS.out).mono ?_; rintro ee w7 ⟨rfl, B⟩; clear xX30 xX31 xX32 xX33 xX34 xX35 xX36 xX37 xX38; replace X2 := X2.below B; replace X3 := X3.below B; replace XR := XR.below B; replace X5 := X5.below B; replace hT := hT.below B; replace HB := Lib.hid (bt HB.out B); clear B; clear HS HS2 HZI a1 b1 a2 b2 hM hM' hP hP' hx1 hy1; obtain ⟨xX20, xX21, xX22, xX23, xX24, xX25, xX26, xX27, xX28⟩ := X2.u9
                obtain ⟨xX30, xX31, xX32, xX33, xX34, xX35, xX36, xX37, xX38⟩ := X3.u9
                go_wp2_with fail
                refine (fkEdge hT HQ.out v1 v2 HDD.out HPX.out HR.out).mono ?_; rintro ee w9 ⟨e9, K9, s9, M9, E9, K9b, s9b, M9b, E9b, rfl, v9, B⟩; clear xX20 xX21 xX22 xX23 xX24 xX25 xX26 xX27 xX28 xX30 xX31 xX32 xX33 xX34 xX35 xX36 xX37 xX38; replace X2 := X2.below B; replace X3 := X3.below B; replace XR := XR.below B; replace X5 := X5.below B; replace hT := hT.below B; replace HB := Lib.hid (bt HB.out B)
                clear B; clear hT; obtain ⟨xXR0, xXR1, xXR2, xXR3, xXR4, xXR5, xXR6, xXR7, xXR8⟩ := XR.u9; have zXR0 := XR.frozen; go_wp2; clear xXR0 zXR0 xXR1 xXR2 xXR3 xXR4 xXR5 xXR6 xXR7 xXR8; have SX := StN.mk9 XR (.bool e9) (.int .i64 K9) (.bool s9) (.int .u64 M9) (.int .i64 E9) (.int .i64 K9b) (.bool s9b) (.int .u64 M9b) (.int .i64 E9b); exact bodyPost_ret (by simp [results, Tryz.results20, go_sem, SX.box.cell]) rfl ⟨_, _, _, _, _, _, _, _, _, rfl, v9, (SX.below HB.out (by omega))⟩
              · have HS : Hid (cmpI (rk G g P Q) 0 = -1) := Lib.hid (by rw [a2.rk]; exact sgn_neg hd.1)
                have HS2 : Hid (cmpI (rk G' g' P' Q') 0 = 0) := Lib.hid (by rw [b2.rk]; exact (by rw [hd.2]; exact sgn_nil))
                have HDD : Hid ((0 < yb ∧ ya = 0) ∨ (ya < 0 ∧ yb = 0)) := Lib.hid (.inr hd)
                have HPX : Hid (0 < xa ∨ xb < 0) := Lib.hid (by have := hx1.2.1; omega)
                have HR := Lib.hid hr; clear hd hr hc hz hs hin; obtain ⟨xX30, xX31, xX32, xX33, xX34, xX35, xX36, xX37, xX38⟩ := X3.u9
                go_wp2_with fail
                refine (nSign a2.top HS.out).mono ?_; rintro ee w7 ⟨rfl, B⟩; clear xX30 xX31 xX32 xX33 xX34 xX35 xX36 xX37 xX38; replace X2 := X2.below B; replace X3 := X3.below B; replace XR := XR.below B; replace X5 := X5.below B; replace hT := hT.below B; replace HB := Lib.hid (bt HB.out B); clear B; obtain ⟨xX30, xX31, xX32, xX33, xX34, xX35, xX36, xX37, xX38⟩ := X3.u9
                go_wp2_with fail
                refine (nSign b2.top HS2.out).mono ?_; rintro ee w8 ⟨rfl, B⟩; clear xX30 xX31 xX32 xX33 xX34 xX35 xX36 xX37 xX38; replace X2 := X2.below B; replace X3 := X3.below B; replace XR := XR.below B; replace X5 := X5.below B; replace hT := hT.below B; replace HB := Lib.hid (bt HB.out B); clear B; clear HS HS2 HZI a1 b1 a2 b2 hM hM' hP hP' hx1 hy1; obtain ⟨xX20, xX21, xX22, xX23, xX24, xX25, xX26, xX27, xX28⟩ := X2.u9
                obtain ⟨xX30, xX31, xX32, xX33, xX34, xX35, xX36, xX37, xX38⟩ := X3.u9
                go_wp2_with fail
                refine (fkEdge hT HQ.out v1 v2 HDD.out HPX.out HR.out).mono ?_; rintro ee w9 ⟨e9, K9, s9, M9, E9, K9b, s9b, M9b, E9b, rfl, v9, B⟩; clear xX20 xX21 xX22 xX23 xX24 xX25 xX26 xX27 xX28 xX30 xX31 xX32 xX33 xX34 xX35 xX36 xX37 xX38; replace X2 := X2.below B; replace X3 := X3.below B; replace XR := XR.below B; replace X5 := X5.below B; replace hT := hT.below B; replace HB := Lib.hid (bt HB.out B)
                clear B; clear hT; obtain ⟨xXR0, xXR1, xXR2, xXR3, xXR4, xXR5, xXR6, xXR7, xXR8⟩ := XR.u9; have zXR0 := XR.frozen; go_wp2; clear xXR0 zXR0 xXR1 xXR2 xXR3 xXR4 xXR5 xXR6 xXR7 xXR8; have SX := StN.mk9 XR (.bool e9) (.int .i64 K9) (.bool s9) (.int .u64 M9) (.int .i64 E9) (.int .i64 K9b) (.bool s9b) (.int .u64 M9b) (.int .i64 E9b); exact bodyPost_ret (by simp [results, Tryz.results20, go_sem, SX.box.cell]) rfl ⟨_, _, _, _, _, _, _, _, _, rfl, v9, (SX.below HB.out (by omega))⟩
        · obtain rfl : false = zb := by rw [← hzb]; simp; omega
          rw [dvI_cor hc] at hr; have HR := Lib.hid hr; clear hzb hr hc hz hx1 hy1 a1 b1 a2 b2 hM hM' hP hP'; obtain ⟨xX20, xX21, xX22, xX23, xX24, xX25, xX26, xX27, xX28⟩ := X2.u9; obtain ⟨xX30, xX31, xX32, xX33, xX34, xX35, xX36, xX37, xX38⟩ := X3.u9
          go_wp2_with fail
          refine (fkOf (opq_div HQ.out) (fun _ => hT) v1 v2 ⟨(HQ.out.in _ _ _).2, (HQ.out.in _ _ _).1⟩ HR.out).mono ?_
          rintro ee w6 ⟨e9, K9, s9, M9, E9, K9b, s9b, M9b, E9b, rfl, v9, B⟩; clear xX20 xX21 xX22 xX23 xX24 xX25 xX26 xX27 xX28 xX30 xX31 xX32 xX33 xX34 xX35 xX36 xX37 xX38; replace X2 := X2.below B; replace X3 := X3.below B; replace XR := XR.below B; replace X5 := X5.below B; replace hT := hT.below B; replace HB := Lib.hid (bt HB.out B); clear B; clear hT; obtain ⟨xXR0, xXR1, xXR2, xXR3, xXR4, xXR5, xXR6, xXR7, xXR8⟩ := XR.u9
          have zXR0 := XR.frozen; go_wp2; clear xXR0 zXR0 xXR1 xXR2 xXR3 xXR4 xXR5 xXR6 xXR7 xXR8; have SX := StN.mk9 XR (.bool e9) (.int .i64 K9) (.bool s9) (.int .u64 M9) (.int .i64 E9) (.int .i64 K9b) (.bool s9b) (.int .u64 M9b) (.int .i64 E9b); exact bodyPost_ret (by simp [results, Tryz.results20, go_sem, SX.box.cell]) rfl ⟨_, _, _, _, _, _, _, _, _, rfl, v9, (SX.below HB.out (by omega))⟩
end Go.Proofs.YteejbcimmmcnlaaGreatDoor

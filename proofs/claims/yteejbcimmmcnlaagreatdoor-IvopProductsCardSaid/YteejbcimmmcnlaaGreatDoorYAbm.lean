/-
  Contracts and words that the statement's proof rests on, several texts in one: Fi, Fj, Mp.
-/
import Derived.Test.YteejbcimmmcnlaaGreatDoorYAbg
import Derived.Test.YteejbcimmmcnlaaGreatDoorYAbh
import Derived.Test.YteejbcimmmcnlaaGreatDoorYAbi
import Derived.Test.YteejbcimmmcnlaaGreatDoorYAbl
/-
  What the document's Abs and Sqr of intervals do.
-/
namespace Go.Proofs.YteejbcimmmcnlaaGreatDoor
open Go.RowKit
set_option linter.unusedVariables false
set_option linter.unusedSimpArgs false
set_option maxRecDepth 100000

def sqrM (x : Sp) : Sp := match x with
  | none => none
  | some (a, b) => mkI (mulp false a a) (mulp true b b)
theorem sqr_abs (x : Sp) : sqrI x = sqrM (absI x) := by
  unfold sqrI sqrM
  rfl
set_option maxHeartbeats 4000000 in
theorem fwAbs {w : World} {e : Bool} {D M E D' M' E' : Int} {s s' : Bool} {x z : Sp} (hM : M < 18446744073709551616) (hM' : M' < 18446744073709551616) (hx : rkI e D s M E D' s' M' E' = x) (hr : absI x = z) : Calls Tryz.prog 27 #[.agg #[.bool e, .int .i64 D, .bool s, .int .u64 M, .int .i64 E, .int .i64 D', .bool s', .int .u64 M', .int .i64 E']] w (PV w z) := by
  have HX := Lib.hid hx; clear hx
  go_enter Tryz.func27, Tryz.ntmps27
  go_upto_region 1 with (fail)
  generalize hW1 : (w.alloc _).alloc _ = w1 at *; obtain ⟨X1, XR, HB⟩ := Bo.en2 hW1; clear hW1; obtain ⟨xX10, xX11, xX12, xX13, xX14, xX15, xX16, xX17, xX18⟩ := X1.u9
  go_wp2_with fail
  refine (jvFair hM hM' HX.out).mono ?_; rintro ee w2 ⟨e1, K1, s1, M1, E1, K1b, s1b, M1b, E1b, rfl, v1, B⟩; clear xX10 xX11 xX12 xX13 xX14 xX15 xX16 xX17 xX18; replace X1 := X1.below B; replace XR := XR.below B; replace HB := Lib.hid (bt HB.out B); clear B
  go_upto_region 2 with (fail)
  have lX3 := Nat.le_refl (World.heap w2).size; have nX3X1 := X1.lt; have nX3XR := XR.lt; generalize hWn : w2.alloc _ = w3 at *; obtain ⟨X3, BW⟩ := Bo.nw hWn; clear hWn; replace X1 := X1.below BW; replace XR := XR.below BW; replace HB := Lib.hid (bt HB.out BW); clear BW; clear lX3; clear HX hM hM'
  rcases x with _ | ⟨xa, xb⟩
  · obtain ⟨rfl, y1, y1b⟩ := v1
    obtain rfl : none = z := hr
    obtain ⟨xXR0, xXR1, xXR2, xXR3, xXR4, xXR5, xXR6, xXR7, xXR8⟩ := XR.u9; have zXR0 := XR.frozen; obtain ⟨xX30, xX31, xX32, xX33, xX34, xX35, xX36, xX37, xX38⟩ := X3.u9; go_wp2; clear xXR0 zXR0 xXR1 xXR2 xXR3 xXR4 xXR5 xXR6 xXR7 xXR8 xX30 xX31 xX32 xX33 xX34 xX35 xX36 xX37 xX38; have SX := StN.mk9 XR (.bool true) (.int .i64 K1) (.bool s1) (.int .u64 M1) (.int .i64 E1) (.int .i64 K1b) (.bool s1b) (.int .u64 M1b) (.int .i64 E1b)
    exact bodyPost_ret (v := .agg #[.bool true, .int .i64 K1, .bool s1, .int .u64 M1, .int .i64 E1, .int .i64 K1b, .bool s1b, .int .u64 M1b, .int .i64 E1b]) (by simp [results, Tryz.results27, go_sem, SX.box.cell]) rfl ⟨_, _, _, _, _, _, _, _, _, rfl, ⟨rfl, y1, y1b⟩, (SX.below HB.out (by omega))⟩
  · obtain ⟨rfl, a1, b1, o1, o1l, o1h⟩ := v1
    have hr2 : (if 0 ≤ xa then some (xa, xb) else if xb ≤ 0 then negI (some (xa, xb)) else mkI 0 (max xb (-xa))) = z := hr
    obtain ⟨σ, hσ⟩ : ∃ σ, cmpI xa 0 = σ := ⟨_, rfl⟩; have ht := cmp_geE hσ
    have HS : Hid (cmpI (rk K1 s1 M1 E1) 0 = σ) := Lib.hid (by rw [a1.rk]; exact hσ)
    clear hσ hr; obtain ⟨xX30, xX31, xX32, xX33, xX34, xX35, xX36, xX37, xX38⟩ := X3.u9
    go_wp2_with fail
    refine (ySign a1.top HS.out).mono ?_; rintro ee w4 ⟨rfl, B⟩; clear xX30 xX31 xX32 xX33 xX34 xX35 xX36 xX37 xX38; replace XR := XR.below B; replace X3 := X3.below B; replace HB := Lib.hid (bt HB.out B); clear B; clear HS
    by_cases h0 : 0 ≤ xa
    · rw [decide_eq_true h0] at ht; rw [if_pos h0] at hr2
      obtain rfl : some (xa, xb) = z := hr2
      clear h0; obtain ⟨xXR0, xXR1, xXR2, xXR3, xXR4, xXR5, xXR6, xXR7, xXR8⟩ := XR.u9; have zXR0 := XR.frozen; obtain ⟨xX30, xX31, xX32, xX33, xX34, xX35, xX36, xX37, xX38⟩ := X3.u9; go_wp2; clear xXR0 zXR0 xXR1 xXR2 xXR3 xXR4 xXR5 xXR6 xXR7 xXR8 xX30 xX31 xX32 xX33 xX34 xX35 xX36 xX37 xX38; have SX := StN.mk9 XR (.bool false) (.int .i64 K1) (.bool s1) (.int .u64 M1) (.int .i64 E1) (.int .i64 K1b) (.bool s1b) (.int .u64 M1b) (.int .i64 E1b)
      exact bodyPost_ret (v := .agg #[.bool false, .int .i64 K1, .bool s1, .int .u64 M1, .int .i64 E1, .int .i64 K1b, .bool s1b, .int .u64 M1b, .int .i64 E1b]) (by simp [results, Tryz.results27, go_sem, SX.box.cell]) rfl ⟨_, _, _, _, _, _, _, _, _, rfl, ⟨rfl, a1, b1, o1, o1l, o1h⟩, (SX.below HB.out (by omega))⟩
    · rw [decide_eq_false h0] at ht; rw [if_neg h0] at hr2; obtain ⟨τ, hτ⟩ : ∃ τ, cmpI xb 0 = τ := ⟨_, rfl⟩; have ht2 := cmp_le hτ
      have HS2 : Hid (cmpI (rk K1b s1b M1b E1b) 0 = τ) := Lib.hid (by rw [b1.rk]; exact hτ)
      clear hτ h0; obtain ⟨xX30, xX31, xX32, xX33, xX34, xX35, xX36, xX37, xX38⟩ := X3.u9
      go_wp2_with fail
      refine (ySign b1.top HS2.out).mono ?_; rintro ee w5 ⟨rfl, B⟩; clear xX30 xX31 xX32 xX33 xX34 xX35 xX36 xX37 xX38; replace XR := XR.below B; replace X3 := X3.below B; replace HB := Lib.hid (bt HB.out B); clear B; clear HS2
      by_cases h1 : xb ≤ 0
      · rw [decide_eq_true h1] at ht2; rw [if_pos h1] at hr2; have HN := Lib.hid hr2
        have hci : Ci false K1 s1 M1 E1 K1b s1b M1b E1b (some (xa, xb)) := ⟨rfl, a1, b1, o1, o1l, o1h⟩
        clear hr2 h1 o1 o1l o1h; obtain ⟨xX30, xX31, xX32, xX33, xX34, xX35, xX36, xX37, xX38⟩ := X3.u9
        go_wp2_with fail
        refine (fwNeg a1.top b1.top hci.rk HN.out).mono ?_; rintro ee w6 ⟨e2, K2, s2, M2, E2, K2b, s2b, M2b, E2b, rfl, v2, B⟩; clear xX30 xX31 xX32 xX33 xX34 xX35 xX36 xX37 xX38; replace XR := XR.below B; replace X3 := X3.below B; replace HB := Lib.hid (bt HB.out B); clear B; clear hci HN; obtain ⟨xXR0, xXR1, xXR2, xXR3, xXR4, xXR5, xXR6, xXR7, xXR8⟩ := XR.u9; have zXR0 := XR.frozen; go_wp2; clear xXR0 zXR0 xXR1 xXR2 xXR3 xXR4 xXR5 xXR6 xXR7 xXR8
        have SX := StN.mk9 XR (.bool e2) (.int .i64 K2) (.bool s2) (.int .u64 M2) (.int .i64 E2) (.int .i64 K2b) (.bool s2b) (.int .u64 M2b) (.int .i64 E2b); exact bodyPost_ret (by simp [results, Tryz.results27, go_sem, SX.box.cell]) rfl ⟨_, _, _, _, _, _, _, _, _, rfl, v2, (SX.below HB.out (by omega))⟩
      · rw [decide_eq_false h1] at ht2; rw [if_neg h1] at hr2; obtain ⟨m, hm⟩ : ∃ m, -xa = m := ⟨_, rfl⟩
        have hu : mxp [xb, m] = max xb m := mxp_two b1.bd.1
        obtain ⟨u, hu2⟩ : ∃ u, max xb m = u := ⟨_, rfl⟩; rw [hu2] at hu
        have hr3 : mkI 0 u = z := by rw [← hu2, ← hm]; exact hr2
        have HNG : Hid (-rk K1 s1 M1 E1 = m) := Lib.hid (by rw [a1.rk]; exact hm)
        have HU := Lib.hid hu; have HR := Lib.hid hr3; clear hm hu hu2 hr2 hr3 h1 o1 o1l o1h; obtain ⟨xX30, xX31, xX32, xX33, xX34, xX35, xX36, xX37, xX38⟩ := X3.u9
        go_upto_region 6 with (fail)
        clear xX30 xX31 xX32 xX33 xX34 xX35 xX36 xX37 xX38; refine Jo.rk [0, 1, 2, 3, 4, 5, 6, 7, 8] [some 21, some 22, some 23, some 24, some 25, some 26, some 27, some 28, some 29, none] [[], [], [1], [], [3], [4], [2, 5], [6], [0, 7], []] 10 1 [Jo.q4 0 false 0 0, Jo.qp w2.heap.size 5, Jo.q4 K1b s1b M1b E1b, Jo.qp w2.heap.size 1, Jo.q4 K1 s1 M1 E1, Jo.Fact.num m, Jo.Fact.nl 2 [xb, m], Jo.Fact.num u, Jo.Fact.iv z, Jo.Fact.any] (by kernel_rfl) (by kernel_rfl) (by decide) rfl ?_ ?_
        · refine Jo.jm rfl ?_ ?_
          · rintro wj hJ K hK; simp only [Jo.z] at hK ⊢; go_simp; exact hK.out _ _ rfl (br _ _)
          refine Jo.jm rfl ?_ ?_
          · rintro wj hJ K hK; simp only [Jo.z] at hK ⊢; go_simp; exact hK.out _ _ rfl (br _ _)
          refine Jo.jm rfl ?_ ?_
          · rintro wj hJ _ rfl K hK; simp only [Jo.z] at hK ⊢; obtain ⟨xX35, xX36, xX37, xX38⟩ := (X3.below hJ).v9; go_simp; exact hK.out _ _ rfl (br _ _)
          refine Jo.jm rfl ?_ ?_
          · rintro wj hJ K hK; simp only [Jo.z] at hK ⊢; go_simp; exact hK.out _ _ rfl (br _ _)
          refine Jo.jm rfl ?_ ?_
          · rintro wj hJ _ rfl K hK; simp only [Jo.z] at hK ⊢; obtain ⟨xX31, xX32, xX33, xX34⟩ := (X3.below hJ).w9; go_simp; exact hK.out _ _ rfl (br _ _)
          refine Jo.jm rfl ?_ ?_
          · rintro wj hJ _ rfl K hK; simp only [Jo.z] at hK ⊢; go_simp; refine (yNeg a1.top HNG.out).mono ?_; rintro ee wk ⟨K2, s2, M2, E2, rfl, q2, B⟩; exact hK.out _ _ ⟨K2, s2, M2, E2, rfl, q2⟩ B
          refine Jo.jm rfl ?_ ?_
          · rintro wj hJ _ rfl _ ⟨K2, s2, M2, E2, rfl, q2⟩ K hK; simp only [Jo.z] at hK ⊢; go_simp; exact hK.out _ _ ⟨_, 2, rfl, Nl.lit2 rfl b1.top q2.top b1.rk q2.rk⟩ (bel1 _ _)
          refine Jo.jm rfl ?_ ?_
          · rintro wj hJ _ ⟨A6, c6, rfl, h6⟩ K hK; simp only [Jo.z] at hK ⊢; go_simp; refine (yMost h6 HU.out).mono ?_; rintro ee wk ⟨K3, s3, M3, E3, rfl, q3, B⟩; exact hK.out _ _ ⟨K3, s3, M3, E3, rfl, q3⟩ B
          refine Jo.jm rfl ?_ ?_
          · rintro wj hJ _ rfl _ ⟨K3, s3, M3, E3, rfl, q3⟩ K hK; simp only [Jo.z] at hK ⊢; go_simp; refine (jvMake (by decide) q3.top Fq.nought.rk q3.rk HR.out).mono ?_; rintro ee wk ⟨e4, K4, s4, M4, E4, K4b, s4b, M4b, E4b, rfl, v4, B⟩; exact hK.out _ _ ⟨e4, K4, s4, M4, E4, K4b, s4b, M4b, E4b, rfl, v4⟩ B
          exact Jo.Steps.nil
        rintro w8 hJ _ rfl _ _ _ rfl _ _ _ rfl _ ⟨K2, s2, M2, E2, rfl, q2⟩ _ ⟨A6, c6, rfl, _⟩ _ ⟨K3, s3, M3, E3, rfl, q3⟩ _ ⟨e4, K4, s4, M4, E4, K4b, s4b, M4b, E4b, rfl, v4⟩ -; simp only [Jo.z]; replace XR := XR.below hJ; replace X3 := X3.below hJ; replace HB := Lib.hid (bt HB.out hJ); obtain ⟨xXR0, xXR1, xXR2, xXR3, xXR4, xXR5, xXR6, xXR7, xXR8⟩ := XR.u9; have zXR0 := XR.frozen
        refine Jo.jnext (i := 9) (o := ⟨none, _, _, _, _, _⟩) (by kernel_rfl) rfl (fun K hK => ?_)
        go_simp; refine hK.out _ _ ?_; clear hK K xXR0 zXR0 xXR1 xXR2 xXR3 xXR4 xXR5 xXR6 xXR7 xXR8; have SX := StN.mk9 XR (.bool e4) (.int .i64 K4) (.bool s4) (.int .u64 M4) (.int .i64 E4) (.int .i64 K4b) (.bool s4b) (.int .u64 M4b) (.int .i64 E4b); refine Jo.jdone (by kernel_rfl) ?_; go_wp2; exact bodyPost_ret (by simp [results, Tryz.results27, go_sem, SX.box.cell]) rfl ⟨_, _, _, _, _, _, _, _, _, rfl, v4, (SX.below HB.out (by omega))⟩
set_option maxHeartbeats 4000000 in
theorem fwSqr {w : World} {e : Bool} {D M E D' M' E' : Int} {s s' : Bool} {x z : Sp} (hM : M < 18446744073709551616) (hM' : M' < 18446744073709551616) (hx : rkI e D s M E D' s' M' E' = x) (hr : sqrI x = z) : Calls Tryz.prog 23 #[.agg #[.bool e, .int .i64 D, .bool s, .int .u64 M, .int .i64 E, .int .i64 D', .bool s', .int .u64 M', .int .i64 E']] w (PV w z) := by
  rw [sqr_abs] at hr; obtain ⟨m, hm⟩ : ∃ m, absI x = m := ⟨_, rfl⟩; rw [hm] at hr; have HX := Lib.hid hx; have HA := Lib.hid hm; clear hx hm
  go_enter Tryz.func23, Tryz.ntmps23
  go_upto_region 1 with (fail)
  generalize hW1 : (w.alloc _).alloc _ = w1 at *; obtain ⟨X1, XR, HB⟩ := Bo.en2 hW1; clear hW1; obtain ⟨xX10, xX11, xX12, xX13, xX14, xX15, xX16, xX17, xX18⟩ := X1.u9
  go_wp2_with fail
  refine (fwAbs hM hM' HX.out HA.out).mono ?_; rintro ee w2 ⟨e1, K1, s1, M1, E1, K1b, s1b, M1b, E1b, rfl, v1, B⟩; clear xX10 xX11 xX12 xX13 xX14 xX15 xX16 xX17 xX18; replace X1 := X1.below B; replace XR := XR.below B; replace HB := Lib.hid (bt HB.out B); clear B
  go_upto_region 2 with (fail)
  have lX3 := Nat.le_refl (World.heap w2).size; have nX3X1 := X1.lt; have nX3XR := XR.lt; generalize hWn : w2.alloc _ = w3 at *; obtain ⟨X3, BW⟩ := Bo.nw hWn; clear hWn; replace X1 := X1.below BW; replace XR := XR.below BW; replace HB := Lib.hid (bt HB.out BW); clear BW; clear lX3 HX HA hM hM'
  rcases m with _ | ⟨ma, mb⟩
  · obtain ⟨rfl, y1, y1b⟩ := v1
    obtain rfl : none = z := hr
    obtain ⟨xXR0, xXR1, xXR2, xXR3, xXR4, xXR5, xXR6, xXR7, xXR8⟩ := XR.u9; have zXR0 := XR.frozen; obtain ⟨xX30, xX31, xX32, xX33, xX34, xX35, xX36, xX37, xX38⟩ := X3.u9; go_wp2; clear xXR0 zXR0 xXR1 xXR2 xXR3 xXR4 xXR5 xXR6 xXR7 xXR8 xX30 xX31 xX32 xX33 xX34 xX35 xX36 xX37 xX38; have SX := StN.mk9 XR (.bool true) (.int .i64 K1) (.bool s1) (.int .u64 M1) (.int .i64 E1) (.int .i64 K1b) (.bool s1b) (.int .u64 M1b) (.int .i64 E1b)
    exact bodyPost_ret (v := .agg #[.bool true, .int .i64 K1, .bool s1, .int .u64 M1, .int .i64 E1, .int .i64 K1b, .bool s1b, .int .u64 M1b, .int .i64 E1b]) (by simp [results, Tryz.results23, go_sem, SX.box.cell]) rfl ⟨_, _, _, _, _, _, _, _, _, rfl, ⟨rfl, y1, y1b⟩, (SX.below HB.out (by omega))⟩
  · obtain ⟨rfl, a1, b1, o1, o1l, o1h⟩ := v1; obtain ⟨u, hu⟩ : ∃ u, mulp false ma ma = u := ⟨_, rfl⟩; obtain ⟨l, hl⟩ : ∃ l, mulp true mb mb = l := ⟨_, rfl⟩
    have hr2 : mkI u l = z := by rw [← hu, ← hl]; exact hr
    have HU := Lib.hid hu; have HL := Lib.hid hl; have HR := Lib.hid hr2; clear hu hl hr hr2 o1 o1l o1h; obtain ⟨xX30, xX31, xX32, xX33, xX34, xX35, xX36, xX37, xX38⟩ := X3.u9
    go_upto_region 4 with (fail)
    clear xX30 xX31 xX32 xX33 xX34 xX35 xX36 xX37 xX38; refine Jo.rk [0, 1, 2, 3, 4, 5, 6, 7, 8, 9, 10] [some 9, some 10, some 11, some 12, some 13, some 14, some 15, some 16, some 17, some 18, some 19, none] [[], [0], [], [2], [1, 3], [], [5], [], [7], [6, 8], [4, 9], []] 12 1 [Jo.qp w2.heap.size 1, Jo.q4 K1 s1 M1 E1, Jo.qp w2.heap.size 1, Jo.q4 K1 s1 M1 E1, Jo.Fact.num u, Jo.qp w2.heap.size 5, Jo.q4 K1b s1b M1b E1b, Jo.qp w2.heap.size 5, Jo.q4 K1b s1b M1b E1b, Jo.Fact.num l, Jo.Fact.iv z, Jo.Fact.any] (by kernel_rfl) (by kernel_rfl) (by decide) rfl ?_ ?_
    · refine Jo.jm rfl ?_ ?_
      · rintro wj hJ K hK; simp only [Jo.z] at hK ⊢; go_simp; exact hK.out _ _ rfl (br _ _)
      refine Jo.jm rfl ?_ ?_
      · rintro wj hJ _ rfl K hK; simp only [Jo.z] at hK ⊢; obtain ⟨xX31, xX32, xX33, xX34⟩ := (X3.below hJ).w9; go_simp; exact hK.out _ _ rfl (br _ _)
      refine Jo.jm rfl ?_ ?_
      · rintro wj hJ K hK; simp only [Jo.z] at hK ⊢; go_simp; exact hK.out _ _ rfl (br _ _)
      refine Jo.jm rfl ?_ ?_
      · rintro wj hJ _ rfl K hK; simp only [Jo.z] at hK ⊢; obtain ⟨xX31, xX32, xX33, xX34⟩ := (X3.below hJ).w9; go_simp; exact hK.out _ _ rfl (br _ _)
      refine Jo.jm rfl ?_ ?_
      · rintro wj hJ _ rfl _ rfl K hK; simp only [Jo.z] at hK ⊢; go_simp; refine (gMul a1.top a1.top a1.rk a1.rk HU.out).mono ?_; rintro ee wk ⟨K2, s2, M2, E2, rfl, q2, B⟩; exact hK.out _ _ ⟨K2, s2, M2, E2, rfl, q2⟩ B
      refine Jo.jm rfl ?_ ?_
      · rintro wj hJ K hK; simp only [Jo.z] at hK ⊢; go_simp; exact hK.out _ _ rfl (br _ _)
      refine Jo.jm rfl ?_ ?_
      · rintro wj hJ _ rfl K hK; simp only [Jo.z] at hK ⊢; obtain ⟨xX35, xX36, xX37, xX38⟩ := (X3.below hJ).v9; go_simp; exact hK.out _ _ rfl (br _ _)
      refine Jo.jm rfl ?_ ?_
      · rintro wj hJ K hK; simp only [Jo.z] at hK ⊢; go_simp; exact hK.out _ _ rfl (br _ _)
      refine Jo.jm rfl ?_ ?_
      · rintro wj hJ _ rfl K hK; simp only [Jo.z] at hK ⊢; obtain ⟨xX35, xX36, xX37, xX38⟩ := (X3.below hJ).v9; go_simp; exact hK.out _ _ rfl (br _ _)
      refine Jo.jm rfl ?_ ?_
      · rintro wj hJ _ rfl _ rfl K hK; simp only [Jo.z] at hK ⊢; go_simp; refine (gMul b1.top b1.top b1.rk b1.rk HL.out).mono ?_; rintro ee wk ⟨K3, s3, M3, E3, rfl, q3, B⟩; exact hK.out _ _ ⟨K3, s3, M3, E3, rfl, q3⟩ B
      refine Jo.jm rfl ?_ ?_
      · rintro wj hJ _ ⟨K2, s2, M2, E2, rfl, q2⟩ _ ⟨K3, s3, M3, E3, rfl, q3⟩ K hK; simp only [Jo.z] at hK ⊢; go_simp; refine (jvMake q2.top q3.top q2.rk q3.rk HR.out).mono ?_; rintro ee wk ⟨e4, K4, s4, M4, E4, K4b, s4b, M4b, E4b, rfl, v4, B⟩; exact hK.out _ _ ⟨e4, K4, s4, M4, E4, K4b, s4b, M4b, E4b, rfl, v4⟩ B
      exact Jo.Steps.nil
    rintro w8 hJ _ _ _ rfl _ _ _ rfl _ ⟨K2, s2, M2, E2, rfl, q2⟩ _ _ _ rfl _ _ _ rfl _ ⟨K3, s3, M3, E3, rfl, q3⟩ _ ⟨e4, K4, s4, M4, E4, K4b, s4b, M4b, E4b, rfl, v4⟩ -; simp only [Jo.z]; replace XR := XR.below hJ; replace X3 := X3.below hJ; replace HB := Lib.hid (bt HB.out hJ); obtain ⟨xXR0, xXR1, xXR2, xXR3, xXR4, xXR5, xXR6, xXR7, xXR8⟩ := XR.u9; have zXR0 := XR.frozen
    refine Jo.jnext (i := 11) (o := ⟨none, _, _, _, _, _⟩) (by kernel_rfl) rfl (fun K hK => ?_)
    go_simp; refine hK.out _ _ ?_; clear hK K xXR0 zXR0 xXR1 xXR2 xXR3 xXR4 xXR5 xXR6 xXR7 xXR8; have SX := StN.mk9 XR (.bool e4) (.int .i64 K4) (.bool s4) (.int .u64 M4) (.int .i64 E4) (.int .i64 K4b) (.bool s4b) (.int .u64 M4b) (.int .i64 E4b); refine Jo.jdone (by kernel_rfl) ?_; go_wp2; exact bodyPost_ret (by simp [results, Tryz.results23, go_sem, SX.box.cell]) rfl ⟨_, _, _, _, _, _, _, _, _, rfl, v4, (SX.below HB.out (by omega))⟩
end Go.Proofs.YteejbcimmmcnlaaGreatDoor

/-
  What the document's Root of intervals does.
-/
namespace Go.Proofs.YteejbcimmmcnlaaGreatDoor
open Go.RowKit
set_option linter.unusedVariables false
set_option linter.unusedSimpArgs false
set_option maxRecDepth 100000

def rootM (r : Bool → Int → Int) (x : Sp) : Sp := match x with
  | none => none
  | some (a, b) => mkI (r false a) (r true b)
theorem root_meet (r : Bool → Int → Int) (x : Sp) : rootI r x = rootM r (meetI x (some (0, 19342822337206103650074625))) := by
  unfold rootI rootM
  rfl
theorem meet_nn {x : Sp} {a b : Int} (h : meetI x (some (0, 19342822337206103650074625)) = some (a, b)) : 0 ≤ a ∧ a ≤ b := by
  rcases x with _ | ⟨c, d⟩
  · cases h
  · have h2 : mkI (max c 0) (min d 19342822337206103650074625) = some (a, b) := h
    unfold mkI at h2
    split at h2
    · cases h2
      omega
    · cases h2
theorem rkI_nn : rkI false 0 false 0 0 2 false 0 0 = some (0, 19342822337206103650074625) := by
  rw [rkI_f, if_pos ⟨Fq.nought.1, (Fq.inf false).1⟩, Fq.nought.rk, (Fq.inf false).rk, wsg_f, TP_eq]; exact mkI_some (by decide) (by decide) (by decide)
set_option maxHeartbeats 4000000 in
theorem fwRoot {w : World} {e : Bool} {D M E D' M' E' : Int} {s s' : Bool} {x z : Sp} {r : Bool → Int → Int} (hq : RF r) (hM : M < 18446744073709551616) (hM' : M' < 18446744073709551616) (hx : rkI e D s M E D' s' M' E' = x) (hr : rootI r x = z) : Calls Tryz.prog 25 #[.agg #[.bool e, .int .i64 D, .bool s, .int .u64 M, .int .i64 E, .int .i64 D', .bool s', .int .u64 M', .int .i64 E']] w (PV w z) := by
  rw [root_meet] at hr; obtain ⟨m, hm⟩ : ∃ m, meetI x (some (0, 19342822337206103650074625)) = m := ⟨_, rfl⟩
  have h0 : ∀ a b, m = some (a, b) → 0 ≤ a ∧ a ≤ b := fun a b e => meet_nn (hm.trans e)
  rw [hm] at hr; have HX := Lib.hid hx; have HMM := Lib.hid hm; have H0 := Lib.hid h0; clear hx hm h0
  go_enter Tryz.func25, Tryz.ntmps25
  go_upto_region 1 with (fail)
  generalize hW1 : (w.alloc _).alloc _ = w1 at *; obtain ⟨X1, XR, HB⟩ := Bo.en2 hW1; clear hW1; obtain ⟨xX10, xX11, xX12, xX13, xX14, xX15, xX16, xX17, xX18⟩ := X1.u9; have lt1 := X1.lt; have ltR := XR.lt; clear xX10 xX11 xX12 xX13 xX14 xX15 xX16 xX17 xX18; refine Jo.rk [0, 1, 2, 3, 4] [some 8, some 9, some 10, some 11, some 3, none] [[], [], [1], [0, 2], [], []] 6 1 [Jo.q9 e D s M E D' s' M' E', Jo.q4 2 false 0 0, Jo.q9 false 0 false 0 0 2 false 0 0, Jo.Fact.iv m, Jo.Fact.bo w1.heap.size #[.bool false, .int .i64 0, .bool false, .int .u64 0, .int .i64 0, .int .i64 0, .bool false, .int .u64 0, .int .i64 0] 26, Jo.Fact.any] (by kernel_rfl) (by kernel_rfl) (by decide) rfl ?_ ?_
  · refine Jo.jm rfl ?_ ?_
    · rintro wj hJ K hK; simp only [Jo.z] at hK ⊢; obtain ⟨xX10, xX11, xX12, xX13, xX14, xX15, xX16, xX17, xX18⟩ := (X1.below hJ).u9; go_simp; exact hK.out _ _ rfl (br _ _)
    refine Jo.jm rfl ?_ ?_
    · rintro wj hJ K hK; simp only [Jo.z] at hK ⊢; go_simp; refine (yInfE false).mono ?_; rintro ee wk ⟨rfl, B⟩; exact hK.out _ _ rfl B
    refine Jo.jm rfl ?_ ?_
    · rintro wj hJ _ rfl K hK; simp only [Jo.z] at hK ⊢; go_simp; exact hK.out _ _ rfl (br _ _)
    refine Jo.jm rfl ?_ ?_
    · rintro wj hJ _ rfl _ rfl K hK; simp only [Jo.z] at hK ⊢; go_simp; refine (jvTwo hM hM' (by decide) (by decide) HX.out rkI_nn HMM.out).mono ?_; rintro ee wk ⟨e1, K1, s1, M1, E1, K1b, s1b, M1b, E1b, rfl, v1, B⟩; exact hK.out _ _ ⟨e1, K1, s1, M1, E1, K1b, s1b, M1b, E1b, rfl, v1⟩ B
    refine Jo.jm rfl ?_ ?_
    · rintro wj hJ K hK; simp only [Jo.z] at hK ⊢; go_simp; exact hK.out _ _ ⟨_, rfl, hJ.size, Bo.new _ _ _⟩ (bel1 _ _)
    exact Jo.Steps.nil
  rintro w2 hJ _ rfl _ rfl _ rfl _ ⟨e1, K1, s1, M1, E1, K1b, s1b, M1b, E1b, rfl, v1⟩ _ ⟨g3, rfl, hg3, X3⟩ -; simp only [Jo.z]; replace X1 := X1.below hJ; replace XR := XR.below hJ; replace HB := Lib.hid (bt HB.out hJ); obtain ⟨xX30, xX31, xX32, xX33, xX34, xX35, xX36, xX37, xX38⟩ := X3.u9; have zX30 := X3.frozen
  refine Jo.jnext (i := 5) (o := ⟨none, _, _, _, _, _⟩) (by kernel_rfl) rfl (fun K hK => ?_)
  go_simp; refine hK.out _ _ ?_; clear hK K xX30 zX30 xX31 xX32 xX33 xX34 xX35 xX36 xX37 xX38; generalize hS : ((((((((w2.setCell _ _).setCell _ _).setCell _ _).setCell _ _).setCell _ _).setCell _ _).setCell _ _).setCell _ _).setCell _ _ = w3 at *; have SX := StN.of9 X3 hS; replace X1 := X1.stn SX (by omega); replace XR := XR.stn SX (by omega); replace HB := Lib.hid (SX.below HB.out (by omega)); replace X3 := SX.box
  clear SX hS; refine Jo.jdone (by kernel_rfl) ?_; clear HX HMM hM hM'; clear lt1
  rcases m with _ | ⟨ma, mb⟩
  · obtain ⟨rfl, y1, y1b⟩ := v1
    obtain rfl : none = z := hr
    obtain ⟨xXR0, xXR1, xXR2, xXR3, xXR4, xXR5, xXR6, xXR7, xXR8⟩ := XR.u9; have zXR0 := XR.frozen; obtain ⟨xX30, xX31, xX32, xX33, xX34, xX35, xX36, xX37, xX38⟩ := X3.u9; go_wp2; clear xXR0 zXR0 xXR1 xXR2 xXR3 xXR4 xXR5 xXR6 xXR7 xXR8 xX30 xX31 xX32 xX33 xX34 xX35 xX36 xX37 xX38; have SX := StN.mk9 XR (.bool true) (.int .i64 K1) (.bool s1) (.int .u64 M1) (.int .i64 E1) (.int .i64 K1b) (.bool s1b) (.int .u64 M1b) (.int .i64 E1b)
    exact bodyPost_ret (v := .agg #[.bool true, .int .i64 K1, .bool s1, .int .u64 M1, .int .i64 E1, .int .i64 K1b, .bool s1b, .int .u64 M1b, .int .i64 E1b]) (by simp [results, Tryz.results25, go_sem, SX.box.cell]) rfl ⟨_, _, _, _, _, _, _, _, _, rfl, ⟨rfl, y1, y1b⟩, (SX.below HB.out (by omega))⟩
  · obtain ⟨rfl, a1, b1, o1, o1l, o1h⟩ := v1; obtain ⟨i1, i2⟩ := H0.out _ _ rfl; have e1 := hq false ma i1; have e2 := hq true mb (Int.le_trans i1 i2); obtain ⟨u, hu⟩ : ∃ u, r false ma = u := ⟨_, rfl⟩; obtain ⟨l, hl⟩ : ∃ l, r true mb = l := ⟨_, rfl⟩
    have hr2 : mkI u l = z := by rw [← hu, ← hl]; exact hr
    rw [hu] at e1; rw [hl] at e2; have HU := Lib.hid e1; have HL := Lib.hid e2; have HR := Lib.hid hr2; clear hu hl hr hr2 e1 e2 i1 i2 o1 o1l o1h; obtain ⟨xX30, xX31, xX32, xX33, xX34, xX35, xX36, xX37, xX38⟩ := X3.u9
    go_wp2_with fail
    refine (jRoot a1.top a1.rk HU.out).mono ?_; rintro ee w4 ⟨K2, s2, M2, E2, rfl, q2, B⟩; clear xX30 xX31 xX32 xX33 xX34 xX35 xX36 xX37 xX38; replace XR := XR.below B; replace X3 := X3.below B; replace HB := Lib.hid (bt HB.out B); clear B
    go_upto_region 5 with (fail)
    have lX4 := Nat.le_refl (World.heap w4).size; have nX4XR := XR.lt; have nX4X3 := X3.lt; generalize hWn : w4.alloc _ = w5 at *; obtain ⟨X4, BW⟩ := Bo.nw hWn; clear hWn; replace XR := XR.below BW; replace X3 := X3.below BW; replace HB := Lib.hid (bt HB.out BW); clear BW; clear lX4; obtain ⟨xX30, xX31, xX32, xX33, xX34, xX35, xX36, xX37, xX38⟩ := X3.u9
    go_wp2_with fail
    refine (jRoot b1.top b1.rk HL.out).mono ?_; rintro ee w6 ⟨K3, s3, M3, E3, rfl, q3, B⟩; clear xX30 xX31 xX32 xX33 xX34 xX35 xX36 xX37 xX38; replace XR := XR.below B; replace X3 := X3.below B; replace X4 := X4.below B; replace HB := Lib.hid (bt HB.out B); clear B
    go_upto_region 6 with (fail)
    have lX6 := Nat.le_refl (World.heap w6).size; have nX6XR := XR.lt; have nX6X3 := X3.lt; have nX6X4 := X4.lt; generalize hWn : w6.alloc _ = w7 at *; obtain ⟨X6, BW⟩ := Bo.nw hWn; clear hWn; replace XR := XR.below BW; replace X3 := X3.below BW; replace X4 := X4.below BW; replace HB := Lib.hid (bt HB.out BW); clear BW; clear lX6; obtain ⟨xX40, xX41, xX42, xX43⟩ := X4.u4; obtain ⟨xX60, xX61, xX62, xX63⟩ := X6.u4
    go_wp2_with fail
    refine (jvMake q2.top q3.top q2.rk q3.rk HR.out).mono ?_; rintro ee w8 ⟨e4, K4, s4, M4, E4, K4b, s4b, M4b, E4b, rfl, v4, B⟩; clear xX40 xX41 xX42 xX43 xX60 xX61 xX62 xX63; replace XR := XR.below B; replace X3 := X3.below B; replace X4 := X4.below B; replace X6 := X6.below B; replace HB := Lib.hid (bt HB.out B); clear B; obtain ⟨xXR0, xXR1, xXR2, xXR3, xXR4, xXR5, xXR6, xXR7, xXR8⟩ := XR.u9; have zXR0 := XR.frozen
    go_wp2; clear xXR0 zXR0 xXR1 xXR2 xXR3 xXR4 xXR5 xXR6 xXR7 xXR8; have SX := StN.mk9 XR (.bool e4) (.int .i64 K4) (.bool s4) (.int .u64 M4) (.int .i64 E4) (.int .i64 K4b) (.bool s4b) (.int .u64 M4b) (.int .i64 E4b); exact bodyPost_ret (by simp [results, Tryz.results25, go_sem, SX.box.cell]) rfl ⟨_, _, _, _, _, _, _, _, _, rfl, v4, (SX.below HB.out (by omega))⟩
end Go.Proofs.YteejbcimmmcnlaaGreatDoor

/-
  Quotients and roots by their highest bits, and whether something is left behind these. Plain arithmetic; no Go text.
-/
namespace Go.Proofs.YteejbcimmmcnlaaGreatDoor
open Go.RowKit
set_option linter.unusedVariables false

theorem stk_iff {q d d' : Nat} (h : d = 0 ↔ d' = 0) : stk q d = stk q d' := by
  unfold stk
  by_cases c : d = 0
  · rw [if_pos c, if_pos (h.1 c)]
  · rw [if_neg c, if_neg (fun e => c (h.2 e))]
theorem stk_two (q d : Nat) : stk q d ≤ 2 * q + 1 := by
  unfold stk
  split <;> omega
theorem le_of_blen {a k : Nat} (h0 : 0 < a) (h : k < blen a) : 2 ^ k ≤ a := by
  have h1 := blen_le (n := a) (by omega); exact Nat.le_trans (Nat.pow_le_pow_right (by decide) (by omega)) h1
/-- The quotient's bits, the number moved up by k. -/
theorem part_up {α β k : Nat} {e : Int} (hα : 0 < α) (hβ : 0 < β) (hk : (blen β : Int) - (blen α : Int) + 64 = (k : Int)) (ha : blen α ≤ 112000) (hb : blen β ≤ 112000) (e1 : -2200000 ≤ e) (e2 : e ≤ 2200000) (σ up : Bool) :
    Sid up (sgi σ ((α : Int) * 2 ^ (e + KK).toNat)) (β : Int) (rnd up (mk (sgi σ ((stk (α * 2 ^ k / β) (α * 2 ^ k % β) : Nat) : Int)) (e - k - 1)).1 (mk (sgi σ ((stk (α * 2 ^ k / β) (α * 2 ^ k % β) : Nat) : Int)) (e - k - 1)).2) := by
  obtain ⟨κ, hκ⟩ : ∃ κ : Nat, κ = 500000 := ⟨_, rfl⟩
  have la : 0 < blen α := by
    rcases Nat.eq_zero_or_pos (blen α) with c | c
    · have := blen_lt α
      rw [c] at this
      omega
    · exact c
  have hq : 9223372036854775808 ≤ α * 2 ^ k / β := by
    rw [Nat.le_div_iff_mul_le hβ]; have l1 := blen_lt β
    have l2 : 2 ^ 63 * β ≤ 2 ^ 63 * 2 ^ blen β := Nat.mul_le_mul_left _ (Nat.le_of_lt l1)
    have l3 := le_of_blen (k := blen α - 1) hα (by omega)
    have l4 : 2 ^ (blen α - 1) * 2 ^ k ≤ α * 2 ^ k := Nat.mul_le_mul_right _ l3
    rw [← Nat.pow_add] at l2 l4
    rw [show blen α - 1 + k = 63 + blen β by omega] at l4
    omega
  have hs : stk (α * 2 ^ k / β) (α * 2 ^ k % β) < 2 ^ κ := by
    have q1 : α * 2 ^ k / β ≤ α * 2 ^ k := Nat.div_le_self _ _
    have q2 : α * 2 ^ k < 2 ^ blen α * 2 ^ k := Nat.mul_lt_mul_of_pos_right (blen_lt α) (Nat.pow_pos (by decide))
    rw [← Nat.pow_add] at q2; have q3 := stk_two (α * 2 ^ k / β) (α * 2 ^ k % β)
    have q4 : 2 ^ (blen α + k + 1) ≤ 2 ^ κ := Nat.pow_le_pow_right (by decide) (by omega)
    rw [Nat.pow_succ] at q4
    omega
  rw [rnd_sgi]
  exact sid_sgi (quo_side (up != σ) hβ (fun _ => hq) hκ hs (by omega) (by omega))
theorem left_iff {α β k : Nat} : α % (β * 2 ^ k) = 0 ↔ α / 2 ^ k * 2 ^ k = α ∧ α / 2 ^ k % β = 0 := by
  have hp : 0 < 2 ^ k := Nat.pow_pos (by decide)
  constructor
  · intro h
    obtain ⟨t, ht⟩ := Nat.dvd_of_mod_eq_zero h
    have e : α / 2 ^ k = β * t := by
      rw [ht, Nat.mul_right_comm, Nat.mul_div_cancel _ hp]
    rw [e]; refine ⟨?_, Nat.mul_mod_right _ _⟩; rw [ht, Nat.mul_right_comm]
  · rintro ⟨a, b⟩; obtain ⟨t, ht⟩ := Nat.dvd_of_mod_eq_zero b; rw [← a, ht, Nat.mul_right_comm]; exact Nat.mul_mod_right _ _
/-- The quotient's bits, of the number's highest ones. -/
theorem part_dn {α β k d : Nat} {e : Int} (hα : 0 < α) (hβ : 0 < β) (hk : (blen β : Int) - (blen α : Int) + 64 = -(k : Int)) (ha : blen α ≤ 112000) (e1 : -2200000 ≤ e) (e2 : e ≤ 2200000) (hd : d = 0 ↔ (α / 2 ^ k * 2 ^ k = α ∧ α / 2 ^ k % β = 0)) (σ up : Bool) :
    Sid up (sgi σ ((α : Int) * 2 ^ (e + KK).toNat)) (β : Int) (rnd up (mk (sgi σ ((stk (α / 2 ^ k / β) d : Nat) : Int)) (e + k - 1)).1 (mk (sgi σ ((stk (α / 2 ^ k / β) d : Nat) : Int)) (e + k - 1)).2) := by
  have hKK := KK_eq; obtain ⟨κ, hκ⟩ : ∃ κ : Nat, κ = 500000 := ⟨_, rfl⟩
  have hp : 0 < 2 ^ k := Nat.pow_pos (by decide)
  have hD : 0 < β * 2 ^ k := Nat.mul_pos hβ hp
  have es : stk (α / 2 ^ k / β) d = stk (α / (β * 2 ^ k)) (α % (β * 2 ^ k)) := by
    rw [Nat.div_div_eq_div_mul, Nat.mul_comm (2 ^ k) β]; exact stk_iff (hd.trans left_iff.symm)
  rw [es]
  have hq : 9223372036854775808 ≤ α / (β * 2 ^ k) := by
    rw [Nat.le_div_iff_mul_le hD]; have l1 := blen_lt β
    have l2 : 2 ^ 63 * (β * 2 ^ k) ≤ 2 ^ 63 * (2 ^ blen β * 2 ^ k) := Nat.mul_le_mul_left _ (Nat.mul_le_mul_right _ (Nat.le_of_lt l1))
    have l3 := le_of_blen (k := blen α - 1) hα (by omega); rw [← Nat.pow_add, ← Nat.pow_add] at l2
    rw [show blen α - 1 = 63 + (blen β + k) by omega] at l3
    omega
  have hs : stk (α / (β * 2 ^ k)) (α % (β * 2 ^ k)) < 2 ^ κ := by
    have q1 : α / (β * 2 ^ k) ≤ α := Nat.div_le_self _ _
    have q2 := blen_lt α; have q3 := stk_two (α / (β * 2 ^ k)) (α % (β * 2 ^ k))
    have q4 : 2 ^ (blen α + 1) ≤ 2 ^ κ := Nat.pow_le_pow_right (by decide) (by omega)
    rw [Nat.pow_succ] at q4
    omega
  have h := quo_side (α := α) (β := β * 2 ^ k) (e := e + k) (n := 0) (up != σ) hD (fun _ => by rw [Nat.pow_zero, Nat.mul_one]; exact hq) hκ (by rw [Nat.pow_zero, Nat.mul_one]; exact hs) (by omega) (by omega)
  rw [Nat.pow_zero, Nat.mul_one, show e + (k : Int) - ((0 : Nat) : Int) - 1 = e + k - 1 by omega] at h
  rw [rnd_sgi]; refine sid_sgi (h.cross (by omega) (by omega) ?_)
  have e3 : (e + (k : Int) + (KK : Int)).toNat = (e + (KK : Int)).toNat + k := by omega
  rw [e3, Int.pow_add]
  push_cast
  generalize (2 : Int) ^ (e + (KK : Int)).toNat = U; generalize (2 : Int) ^ k = V; rw [Int.mul_assoc, Int.mul_assoc, Int.mul_assoc, Int.mul_comm V (β : Int)]
/-- A word's root by its bits. -/
theorem part_root {N n S : Nat} {e f : Int} (h0 : 9223372036854775808 ≤ N) (h1 : N < 18446744073709551616) (hn : n = 64 ∨ n = 65) (hf : 2 * f = e - n) (hS : rt (N * 2 ^ n) = S) (e1 : -2200000 ≤ e) (e2 : e ≤ 2200000) (up : Bool) :
    Rt up ((N : Int) * 2 ^ (e + 2 * KK).toNat) (rnd up (mk ((stk S (N * 2 ^ n - S * S) : Nat) : Int) (f - 1)).1 (mk ((stk S (N * 2 ^ n - S * S) : Nat) : Int) (f - 1)).2) := by
  obtain ⟨κ, hκ⟩ : ∃ κ : Nat, κ = 500000 := ⟨_, rfl⟩; have hsp := rt_spec (N * 2 ^ n); rw [hS] at hsp
  have lo_ : 2 ^ 126 ≤ N * 2 ^ n := by
    have : 2 ^ 63 * 2 ^ 64 ≤ N * 2 ^ n := Nat.mul_le_mul h0 (Nat.pow_le_pow_right (by decide) (by omega))
    omega
  have hi_ : N * 2 ^ n < 2 ^ 129 := by
    have : N * 2 ^ n < 2 ^ 64 * 2 ^ n := Nat.mul_lt_mul_of_pos_right h1 (Nat.pow_pos (by decide))
    rw [← Nat.pow_add] at this; exact Nat.lt_of_lt_of_le this (Nat.pow_le_pow_right (by decide) (by omega))
  have hb : 9223372036854775808 ≤ S := by
    rcases Nat.lt_or_ge S 9223372036854775808 with c | c
    · exfalso
      have h2 : (S + 1) * (S + 1) ≤ 2 ^ 63 * 2 ^ 63 := Nat.mul_le_mul (by omega) (by omega)
      omega
    · exact c
  have hSX : S ≤ S * S := Nat.le_mul_of_pos_right S (by omega)
  have hst : stk S (N * 2 ^ n - S * S) < 2 ^ κ := by
    have q3 := stk_two S (N * 2 ^ n - S * S)
    have q4 : 2 ^ 131 ≤ 2 ^ κ := Nat.pow_le_pow_right (by decide) (by omega)
    omega
  exact root_side (N := N) (e := e) up (by omega) hsp.2 hb hf hκ hst (by omega) (by omega) (by omega) (by omega)
end Go.Proofs.YteejbcimmmcnlaaGreatDoor

/-
  Contracts and words that the statement's proof rests on, several texts in one: Hh, Hi, Hj, Hk, Cb.
-/
import Derived.Below
import Derived.BigQuiet
import Derived.Carry
import Derived.Deep.DeepCutAuto
import Derived.Deep.Draws
import Derived.Deep.MidRow
import Derived.Deep.QuietTactic
import Derived.Deep.RegionHeld3
import Derived.Deep.RegionWith
import Derived.IntWalk
import Derived.Laws.CopyOwn
import Derived.Laws.MakeOwn
import Derived.Laws.OwnMore
import Derived.Laws.Rows
import Derived.Lib.BitFns
import Derived.Lib.Hide
import Derived.Maps.AppendAt
import Derived.StillTailTactics
import Derived.Test.YteejbcimmmcnlaaGreatDoorRows
import Derived.WalkKit
import Derived.WalkLawsBesides
import Derived.WalkSpells
import Derived.Test.YteejbcimmmcnlaaGreatDoorYBag
import Derived.Test.YteejbcimmmcnlaaGreatDoorYBah
import Derived.Test.YteejbcimmmcnlaaGreatDoorYBai
import Derived.Test.YteejbcimmmcnlaaGreatDoorYBaj
import Derived.Test.YteejbcimmmcnlaaGreatDoorYBam
import Derived.Test.YteejbcimmmcnlaaGreatDoorYBaz
import Derived.Test.YteejbcimmmcnlaaGreatDoorYBba
import Derived.Test.YteejbcimmmcnlaaGreatDoorYBbb
import Derived.Test.YteejbcimmmcnlaaGreatDoorYBbf
/-
  What the sum, the product, the difference of two numbers, a half and twice a number are, rounded.
-/
namespace Go.Proofs.YteejbcimmmcnlaaGreatDoor
open Go.RowKit
set_option linter.unusedVariables false
set_option linter.unusedSimpArgs false
set_option maxRecDepth 100000

theorem fq_tk {D : Int} {s : Bool} {M E : Int} (hM : M < 18446744073709551616) : ∃ K1 s1 M1 E1, Fq K1 s1 M1 E1 (rk D s M E) := by
  by_cases hm : MayQ D s M E
  · exact ⟨_, _, _, _, rk_fq hM hm⟩
  · rw [rk_not hm]; exact ⟨_, _, _, _, Fq.nought⟩
set_option maxHeartbeats 2000000 in
theorem aTaken {w : World} {D M E : Int} {s : Bool} {K1 M1 E1 x : Int} {s1 : Bool} (hM : M < 18446744073709551616) (q : Fq K1 s1 M1 E1 x) (hx : rk D s M E = x) : Calls Tryz.prog 96 #[.agg #[.int .i64 D, .bool s, .int .u64 M, .int .i64 E]] w (fun e w' => e = .returned (.agg #[.int .i64 K1, .bool s1, .int .u64 M1, .int .i64 E1]) ∧ Below w.heap.size w w') := by
  by_cases hm : MayQ D s M E
  · obtain ⟨rfl, rfl, rfl, rfl⟩ := q.uniq (hx ▸ rk_fq hM hm)
    have HC := Lib.hid (show decide (MayQ K1 s1 M1 E1) = true from decide_eq_true hm)
    clear hm hx hM q
    go_enter Tryz.func96, Tryz.ntmps96
    go_upto_region 1 with (fail)
    generalize hW1 : (w.alloc _).alloc _ = w1 at *; obtain ⟨X1, XR, HB⟩ := Bo.en2 hW1; clear hW1; obtain ⟨xX10, xX11, xX12, xX13⟩ := X1.u4
    go_wp2_with fail
    refine (nMay HC.out).mono ?_; rintro ee w2 ⟨rfl, B⟩; clear xX10 xX11 xX12 xX13; replace X1 := X1.below B; replace XR := XR.below B; replace HB := Lib.hid (bt HB.out B); clear B; obtain ⟨xXR0, xXR1, xXR2, xXR3⟩ := XR.u4; have zXR0 := XR.frozen; obtain ⟨xX10, xX11, xX12, xX13⟩ := X1.u4; go_wp2; clear xXR0 zXR0 xXR1 xXR2 xXR3 xX10 xX11 xX12 xX13; have SX := StN.mk4 XR (.int .i64 K1) (.bool s1) (.int .u64 M1) (.int .i64 E1)
    exact bodyPost_ret (v := .agg #[.int .i64 K1, .bool s1, .int .u64 M1, .int .i64 E1]) (by simp [results, Tryz.results96, go_sem, SX.box.cell]) rfl ⟨rfl, (SX.below HB.out (by omega))⟩
  · rw [rk_not hm] at hx; subst hx; obtain ⟨rfl, rfl, rfl, rfl⟩ := q.uniq Fq.nought
    have HC := Lib.hid (show decide (MayQ D s M E) = false from decide_eq_false hm)
    clear hm hM q
    go_enter Tryz.func96, Tryz.ntmps96
    go_upto_region 1 with (fail)
    generalize hW1 : (w.alloc _).alloc _ = w1 at *; obtain ⟨X1, XR, HB⟩ := Bo.en2 hW1; clear hW1; obtain ⟨xX10, xX11, xX12, xX13⟩ := X1.u4
    go_wp2_with fail
    refine (nMay HC.out).mono ?_; rintro ee w2 ⟨rfl, B⟩; clear xX10 xX11 xX12 xX13; replace X1 := X1.below B; replace XR := XR.below B; replace HB := Lib.hid (bt HB.out B); clear B; obtain ⟨xXR0, xXR1, xXR2, xXR3⟩ := XR.u4; have zXR0 := XR.frozen; obtain ⟨xX10, xX11, xX12, xX13⟩ := X1.u4; go_wp2; clear xXR0 zXR0 xXR1 xXR2 xXR3 xX10 xX11 xX12 xX13; have SX := StN.mk4 XR (.int .i64 0) (.bool false) (.int .u64 0) (.int .i64 0)
    exact bodyPost_ret (v := .agg #[.int .i64 0, .bool false, .int .u64 0, .int .i64 0]) (by simp [results, Tryz.results96, go_sem, SX.box.cell]) rfl ⟨rfl, (SX.below HB.out (by omega))⟩
set_option maxHeartbeats 8000000 in
theorem aAdd {w : World} {D D' M M' E E' : Int} {s s' : Bool} {up : Bool} {x y r : Int} (hT : Tb w) (hM : M < 18446744073709551616) (hM' : M' < 18446744073709551616) (hx : rk D s M E = x) (hy : rk D' s' M' E' = y) (hr : addp up x y = r) : Calls Tryz.prog 89 #[.agg #[.int .i64 D, .bool s, .int .u64 M, .int .i64 E], .agg #[.int .i64 D', .bool s', .int .u64 M', .int .i64 E'], .bool up] w (PN w r) := by
  obtain ⟨K1, s1, M1, E1, q1⟩ := fq_tk (D := D) (s := s) (M := M) (E := E) hM; obtain ⟨K2, s2, M2, E2, q2⟩ := fq_tk (D := D') (s := s') (M := M') (E := E') hM'; rw [hx] at q1; rw [hy] at q2; have HX := Lib.hid hx; have HY := Lib.hid hy; clear hx hy
  go_enter Tryz.func89, Tryz.ntmps89
  go_upto_region 1 with (fail)
  generalize hW1 : ((w.alloc _).alloc _).alloc _ = w1 at *; obtain ⟨X3, X4, XR, HB⟩ := Bo.en3 hW1; replace hT := hT.below HB.out; clear hW1; refine Jo.rk [0, 1, 2, 3] [some 7, some 8, some 9, some 10, none, none] [[], [0], [], [2], [], []] 6 2 [Jo.q4 D s M E, Jo.q4 K1 s1 M1 E1, Jo.q4 D' s' M' E', Jo.q4 K2 s2 M2 E2, Jo.Fact.any, Jo.Fact.any] (by kernel_rfl) (by kernel_rfl) (by decide) rfl ?_ ?_
  · refine Jo.jm rfl ?_ ?_
    · rintro wj hJ K hK; simp only [Jo.z] at hK ⊢; obtain ⟨xX30, xX31, xX32, xX33⟩ := (X3.below hJ).u4; go_simp; exact hK.out _ _ rfl (br _ _)
    refine Jo.jm rfl ?_ ?_
    · rintro wj hJ _ rfl K hK; simp only [Jo.z] at hK ⊢; go_simp; refine (aTaken hM q1 HX.out).mono ?_; rintro ee wk ⟨rfl, B⟩; exact hK.out _ _ rfl B
    refine Jo.jm rfl ?_ ?_
    · rintro wj hJ K hK; simp only [Jo.z] at hK ⊢; obtain ⟨xX40, xX41, xX42, xX43⟩ := (X4.below hJ).u4; go_simp; exact hK.out _ _ rfl (br _ _)
    refine Jo.jm rfl ?_ ?_
    · rintro wj hJ _ rfl K hK; simp only [Jo.z] at hK ⊢; go_simp; refine (aTaken hM' q2 HY.out).mono ?_; rintro ee wk ⟨rfl, B⟩; exact hK.out _ _ rfl B
    exact Jo.Steps.nil
  rintro w2 hJ _ rfl _ rfl _ rfl _ rfl -; simp only [Jo.z]; replace X3 := X3.below hJ; replace X4 := X4.below hJ; replace XR := XR.below hJ; replace hT := hT.below hJ; replace HB := Lib.hid (bt HB.out hJ); obtain ⟨xX30, xX31, xX32, xX33⟩ := X3.u4; have zX30 := X3.frozen
  refine Jo.jnext (i := 4) (o := ⟨none, _, _, _, _, _⟩) (by kernel_rfl) rfl (fun K hK => ?_)
  go_simp; refine hK.out _ _ ?_; clear hK K xX30 zX30 xX31 xX32 xX33; generalize hS : (((w2.setCell _ _).setCell _ _).setCell _ _).setCell _ _ = w3 at *; have SX := StN.of4 X3 hS; replace X4 := X4.stn SX (by omega); replace XR := XR.stn SX (by omega); replace hT := hT.stn SX (by simp [no8]); replace HB := Lib.hid (SX.below HB.out (by omega)); replace X3 := SX.box; clear SX hS; obtain ⟨xX40, xX41, xX42, xX43⟩ := X4.u4
  have zX40 := X4.frozen
  refine Jo.jnext (i := 5) (o := ⟨none, _, _, _, _, _⟩) (by kernel_rfl) rfl (fun K hK => ?_)
  go_simp; refine hK.out _ _ ?_; clear hK K xX40 zX40 xX41 xX42 xX43; generalize hS : (((w3.setCell _ _).setCell _ _).setCell _ _).setCell _ _ = w4 at *; have SX := StN.of4 X4 hS; replace X3 := X3.stn SX (by omega); replace XR := XR.stn SX (by omega); replace hT := hT.stn SX (by simp [no8]); replace HB := Lib.hid (SX.below HB.out (by omega)); replace X4 := SX.box; clear SX hS; refine Jo.jdone (by kernel_rfl) ?_
  clear HX HY hM hM'; have i1 := fq_inf q1; have i2 := fq_inf q2; have z1 := q1.zero_iff; have z2 := q2.zero_iff; have d1 := q1.bd; have d2 := q2.bd
  have kk1 : K1 = 2 ∨ K1 = 0 ∨ K1 = 1 := by rcases q1.cases with ⟨h, _⟩ | ⟨h, _⟩ | ⟨h, _⟩ <;> omega
  have kk2 : K2 = 2 ∨ K2 = 0 ∨ K2 = 1 := by rcases q2.cases with ⟨h, _⟩ | ⟨h, _⟩ | ⟨h, _⟩ <;> omega
  rcases kk1 with rfl | rfl | rfl
  · rcases kk2 with rfl | rfl | rfl
    · by_cases ks : s1 = s2
      · rw [addp_same up i1 ((fq_same q1 q2).2 ks)] at hr; subst hr; subst ks; clear i1 i2 z1 z2 d1 d2 q2; obtain ⟨xXR0, xXR1, xXR2, xXR3⟩ := XR.u4; have zXR0 := XR.frozen; obtain ⟨xX30, xX31, xX32, xX33⟩ := X3.u4; obtain ⟨xX40, xX41, xX42, xX43⟩ := X4.u4; go_wp2; clear xXR0 zXR0 xXR1 xXR2 xXR3 xX30 xX31 xX32 xX33 xX40 xX41 xX42 xX43; have SX := StN.mk4 XR (.int .i64 2) (.bool s1) (.int .u64 M1) (.int .i64 E1)
        exact bodyPost_ret (by simp [results, Tryz.results89, go_sem, SX.box.cell]) rfl ⟨_, _, _, _, rfl, q1, (SX.below HB.out (by omega))⟩
      · rw [addp_diff up i1 i2 (fun e => ks ((fq_same q1 q2).1 e))] at hr
        obtain rfl : (!s1) = s2 := by cases s1 <;> cases s2 <;> first | rfl | exact absurd rfl ks
        have e2 : (s1 == !s1) = false := by cases s1 <;> rfl
        have HRR := Lib.hid hr; clear i1 i2 z1 z2 d1 d2 q1 q2 hr ks; obtain ⟨xX30, xX31, xX32, xX33⟩ := X3.u4; obtain ⟨xX40, xX41, xX42, xX43⟩ := X4.u4
        go_wp2_with fail
        refine (nInf (s := !up) HRR.out).mono ?_; rintro ee w5 ⟨K3, s3, M3, E3, rfl, q3, B⟩; clear xX30 xX31 xX32 xX33 xX40 xX41 xX42 xX43; replace X3 := X3.below B; replace X4 := X4.below B; replace XR := XR.below B; replace HB := Lib.hid (bt HB.out B); clear B; obtain ⟨xXR0, xXR1, xXR2, xXR3⟩ := XR.u4; have zXR0 := XR.frozen; go_wp2; clear xXR0 zXR0 xXR1 xXR2 xXR3; have SX := StN.mk4 XR (.int .i64 K3) (.bool s3) (.int .u64 M3) (.int .i64 E3)
        exact bodyPost_ret (by simp [results, Tryz.results89, go_sem, SX.box.cell]) rfl ⟨_, _, _, _, rfl, q3, (SX.below HB.out (by omega))⟩
    · rw [addp_tf up i1 i2] at hr; subst hr; clear i1 i2 z1 z2 d1 d2 q2; obtain ⟨xXR0, xXR1, xXR2, xXR3⟩ := XR.u4; have zXR0 := XR.frozen; obtain ⟨xX30, xX31, xX32, xX33⟩ := X3.u4; obtain ⟨xX40, xX41, xX42, xX43⟩ := X4.u4; go_wp2; clear xXR0 zXR0 xXR1 xXR2 xXR3 xX30 xX31 xX32 xX33 xX40 xX41 xX42 xX43; have SX := StN.mk4 XR (.int .i64 2) (.bool s1) (.int .u64 M1) (.int .i64 E1); exact bodyPost_ret (by simp [results, Tryz.results89, go_sem, SX.box.cell]) rfl ⟨_, _, _, _, rfl, q1, (SX.below HB.out (by omega))⟩
    · rw [addp_tf up i1 i2] at hr; subst hr; clear i1 i2 z1 z2 d1 d2 q2; obtain ⟨xXR0, xXR1, xXR2, xXR3⟩ := XR.u4; have zXR0 := XR.frozen; obtain ⟨xX30, xX31, xX32, xX33⟩ := X3.u4; obtain ⟨xX40, xX41, xX42, xX43⟩ := X4.u4; go_wp2; clear xXR0 zXR0 xXR1 xXR2 xXR3 xX30 xX31 xX32 xX33 xX40 xX41 xX42 xX43; have SX := StN.mk4 XR (.int .i64 2) (.bool s1) (.int .u64 M1) (.int .i64 E1); exact bodyPost_ret (by simp [results, Tryz.results89, go_sem, SX.box.cell]) rfl ⟨_, _, _, _, rfl, q1, (SX.below HB.out (by omega))⟩
  · rcases kk2 with rfl | rfl | rfl
    · rw [addp_ft up i1 i2] at hr; subst hr; clear i1 i2 z1 z2 d1 d2 q1; obtain ⟨xXR0, xXR1, xXR2, xXR3⟩ := XR.u4; have zXR0 := XR.frozen; obtain ⟨xX30, xX31, xX32, xX33⟩ := X3.u4; obtain ⟨xX40, xX41, xX42, xX43⟩ := X4.u4; go_wp2; clear xXR0 zXR0 xXR1 xXR2 xXR3 xX30 xX31 xX32 xX33 xX40 xX41 xX42 xX43; have SX := StN.mk4 XR (.int .i64 2) (.bool s2) (.int .u64 M2) (.int .i64 E2); exact bodyPost_ret (by simp [results, Tryz.results89, go_sem, SX.box.cell]) rfl ⟨_, _, _, _, rfl, q2, (SX.below HB.out (by omega))⟩
    · rw [z2.1 rfl, addp_zero up d1.1 d1.2] at hr; subst hr; clear i1 i2 z1 z2 d1 d2 q2; obtain ⟨xXR0, xXR1, xXR2, xXR3⟩ := XR.u4; have zXR0 := XR.frozen; obtain ⟨xX30, xX31, xX32, xX33⟩ := X3.u4; obtain ⟨xX40, xX41, xX42, xX43⟩ := X4.u4; go_wp2; clear xXR0 zXR0 xXR1 xXR2 xXR3 xX30 xX31 xX32 xX33 xX40 xX41 xX42 xX43; have SX := StN.mk4 XR (.int .i64 0) (.bool s1) (.int .u64 M1) (.int .i64 E1); exact bodyPost_ret (by simp [results, Tryz.results89, go_sem, SX.box.cell]) rfl ⟨_, _, _, _, rfl, q1, (SX.below HB.out (by omega))⟩
    · rw [z1.1 rfl, addp_comm, addp_zero up d2.1 d2.2] at hr; subst hr; clear i1 i2 z1 z2 d1 d2 q1; obtain ⟨xXR0, xXR1, xXR2, xXR3⟩ := XR.u4; have zXR0 := XR.frozen; obtain ⟨xX30, xX31, xX32, xX33⟩ := X3.u4; obtain ⟨xX40, xX41, xX42, xX43⟩ := X4.u4; go_wp2; clear xXR0 zXR0 xXR1 xXR2 xXR3 xX30 xX31 xX32 xX33 xX40 xX41 xX42 xX43; have SX := StN.mk4 XR (.int .i64 1) (.bool s2) (.int .u64 M2) (.int .i64 E2)
      exact bodyPost_ret (by simp [results, Tryz.results89, go_sem, SX.box.cell]) rfl ⟨_, _, _, _, rfl, q2, (SX.below HB.out (by omega))⟩
  · rcases kk2 with rfl | rfl | rfl
    · rw [addp_ft up i1 i2] at hr; subst hr; clear i1 i2 z1 z2 d1 d2 q1; obtain ⟨xXR0, xXR1, xXR2, xXR3⟩ := XR.u4; have zXR0 := XR.frozen; obtain ⟨xX30, xX31, xX32, xX33⟩ := X3.u4; obtain ⟨xX40, xX41, xX42, xX43⟩ := X4.u4; go_wp2; clear xXR0 zXR0 xXR1 xXR2 xXR3 xX30 xX31 xX32 xX33 xX40 xX41 xX42 xX43; have SX := StN.mk4 XR (.int .i64 2) (.bool s2) (.int .u64 M2) (.int .i64 E2); exact bodyPost_ret (by simp [results, Tryz.results89, go_sem, SX.box.cell]) rfl ⟨_, _, _, _, rfl, q2, (SX.below HB.out (by omega))⟩
    · rw [z2.1 rfl, addp_zero up d1.1 d1.2] at hr; subst hr; clear i1 i2 z1 z2 d1 d2 q2; obtain ⟨xXR0, xXR1, xXR2, xXR3⟩ := XR.u4; have zXR0 := XR.frozen; obtain ⟨xX30, xX31, xX32, xX33⟩ := X3.u4; obtain ⟨xX40, xX41, xX42, xX43⟩ := X4.u4; go_wp2; clear xXR0 zXR0 xXR1 xXR2 xXR3 xX30 xX31 xX32 xX33 xX40 xX41 xX42 xX43; have SX := StN.mk4 XR (.int .i64 1) (.bool s1) (.int .u64 M1) (.int .i64 E1); exact bodyPost_ret (by simp [results, Tryz.results89, go_sem, SX.box.cell]) rfl ⟨_, _, _, _, rfl, q1, (SX.below HB.out (by omega))⟩
    · have HRR := Lib.hid hr; clear i1 i2 z1 z2 d1 d2 hr; obtain ⟨xX30, xX31, xX32, xX33⟩ := X3.u4; obtain ⟨xX40, xX41, xX42, xX43⟩ := X4.u4
      go_wp2_with fail
      refine (aSum2 hT q1 q2).mono ?_; rintro ee w5 ⟨s3, H3, L3, x3, rfl, p3, B⟩; clear xX30 xX31 xX32 xX33 xX40 xX41 xX42 xX43; replace X3 := X3.below B; replace X4 := X4.below B; replace XR := XR.below B; replace hT := hT.below B; replace HB := Lib.hid (bt HB.out B); clear B
      go_wp2_with fail
      refine (aRound p3 HRR.out).mono ?_; rintro ee w6 ⟨K4, s4, M4, E4, rfl, q4, B⟩; replace X3 := X3.below B; replace X4 := X4.below B; replace XR := XR.below B; replace HB := Lib.hid (bt HB.out B); clear B; obtain ⟨xXR0, xXR1, xXR2, xXR3⟩ := XR.u4; have zXR0 := XR.frozen; go_wp2; clear xXR0 zXR0 xXR1 xXR2 xXR3; have SX := StN.mk4 XR (.int .i64 K4) (.bool s4) (.int .u64 M4) (.int .i64 E4); exact bodyPost_ret (by simp [results, Tryz.results89, go_sem, SX.box.cell]) rfl ⟨_, _, _, _, rfl, q4, (SX.below HB.out (by omega))⟩
set_option maxHeartbeats 8000000 in
theorem aMul {w : World} {D D' M M' E E' : Int} {s s' : Bool} {up : Bool} {x y r : Int} (hM : M < 18446744073709551616) (hM' : M' < 18446744073709551616) (hx : rk D s M E = x) (hy : rk D' s' M' E' = y) (hr : mulp up x y = r) : Calls Tryz.prog 54 #[.agg #[.int .i64 D, .bool s, .int .u64 M, .int .i64 E], .agg #[.int .i64 D', .bool s', .int .u64 M', .int .i64 E'], .bool up] w (PN w r) := by
  obtain ⟨K1, s1, M1, E1, q1⟩ := fq_tk (D := D) (s := s) (M := M) (E := E) hM; obtain ⟨K2, s2, M2, E2, q2⟩ := fq_tk (D := D') (s := s') (M := M') (E := E') hM'; rw [hx] at q1; rw [hy] at q2; have HX := Lib.hid hx; have HY := Lib.hid hy; clear hx hy
  go_enter Tryz.func54, Tryz.ntmps54
  go_upto_region 1 with (fail)
  generalize hW1 : ((w.alloc _).alloc _).alloc _ = w1 at *; obtain ⟨X3, X4, XR, HB⟩ := Bo.en3 hW1; clear hW1; refine Jo.rk [0, 1, 2, 3] [some 7, some 8, some 9, some 10, none, none] [[], [0], [], [2], [], []] 6 2 [Jo.q4 D s M E, Jo.q4 K1 s1 M1 E1, Jo.q4 D' s' M' E', Jo.q4 K2 s2 M2 E2, Jo.Fact.any, Jo.Fact.any] (by kernel_rfl) (by kernel_rfl) (by decide) rfl ?_ ?_
  · refine Jo.jm rfl ?_ ?_
    · rintro wj hJ K hK; simp only [Jo.z] at hK ⊢; obtain ⟨xX30, xX31, xX32, xX33⟩ := (X3.below hJ).u4; go_simp; exact hK.out _ _ rfl (br _ _)
    refine Jo.jm rfl ?_ ?_
    · rintro wj hJ _ rfl K hK; simp only [Jo.z] at hK ⊢; go_simp; refine (aTaken hM q1 HX.out).mono ?_; rintro ee wk ⟨rfl, B⟩; exact hK.out _ _ rfl B
    refine Jo.jm rfl ?_ ?_
    · rintro wj hJ K hK; simp only [Jo.z] at hK ⊢; obtain ⟨xX40, xX41, xX42, xX43⟩ := (X4.below hJ).u4; go_simp; exact hK.out _ _ rfl (br _ _)
    refine Jo.jm rfl ?_ ?_
    · rintro wj hJ _ rfl K hK; simp only [Jo.z] at hK ⊢; go_simp; refine (aTaken hM' q2 HY.out).mono ?_; rintro ee wk ⟨rfl, B⟩; exact hK.out _ _ rfl B
    exact Jo.Steps.nil
  rintro w2 hJ _ rfl _ rfl _ rfl _ rfl -; simp only [Jo.z]; replace X3 := X3.below hJ; replace X4 := X4.below hJ; replace XR := XR.below hJ; replace HB := Lib.hid (bt HB.out hJ); obtain ⟨xX30, xX31, xX32, xX33⟩ := X3.u4; have zX30 := X3.frozen
  refine Jo.jnext (i := 4) (o := ⟨none, _, _, _, _, _⟩) (by kernel_rfl) rfl (fun K hK => ?_)
  go_simp; refine hK.out _ _ ?_; clear hK K xX30 zX30 xX31 xX32 xX33; generalize hS : (((w2.setCell _ _).setCell _ _).setCell _ _).setCell _ _ = w3 at *; have SX := StN.of4 X3 hS; replace X4 := X4.stn SX (by omega); replace XR := XR.stn SX (by omega); replace HB := Lib.hid (SX.below HB.out (by omega)); replace X3 := SX.box; clear SX hS; obtain ⟨xX40, xX41, xX42, xX43⟩ := X4.u4; have zX40 := X4.frozen
  refine Jo.jnext (i := 5) (o := ⟨none, _, _, _, _, _⟩) (by kernel_rfl) rfl (fun K hK => ?_)
  go_simp; refine hK.out _ _ ?_; clear hK K xX40 zX40 xX41 xX42 xX43; generalize hS : (((w3.setCell _ _).setCell _ _).setCell _ _).setCell _ _ = w4 at *; have SX := StN.of4 X4 hS; replace X3 := X3.stn SX (by omega); replace XR := XR.stn SX (by omega); replace HB := Lib.hid (SX.below HB.out (by omega)); replace X4 := SX.box; clear SX hS; refine Jo.jdone (by kernel_rfl) ?_; clear HX HY hM hM'; have i1 := fq_inf q1
  have i2 := fq_inf q2; have z1 := q1.zero_iff; have z2 := q2.zero_iff; have d1 := q1.bd; have d2 := q2.bd
  have kk1 : K1 = 2 ∨ K1 = 0 ∨ K1 = 1 := by rcases q1.cases with ⟨h, _⟩ | ⟨h, _⟩ | ⟨h, _⟩ <;> omega
  have kk2 : K2 = 2 ∨ K2 = 0 ∨ K2 = 1 := by rcases q2.cases with ⟨h, _⟩ | ⟨h, _⟩ | ⟨h, _⟩ <;> omega
  rcases kk1 with rfl | rfl | rfl
  · rcases kk2 with rfl | rfl | rfl
    · have hnz : ¬ (x = 0 ∨ y = 0) := fun c => c.elim (fun c => absurd (z1.2 c) (by decide)) (fun c => absurd (z2.2 c) (by decide))
      have sx : decide (x < 0) = s1 := by
        rcases q1.three with ⟨a, _⟩ | ⟨_, rfl, b⟩ | ⟨_, rfl, b⟩
        · exact absurd a (by decide)
        · exact decide_eq_false (by omega)
        · exact decide_eq_true b
      have sy : decide (y < 0) = s2 := by
        rcases q2.three with ⟨a, _⟩ | ⟨_, rfl, b⟩ | ⟨_, rfl, b⟩
        · exact absurd a (by decide)
        · exact decide_eq_false (by omega)
        · exact decide_eq_true b
      rw [mulp_inf up hnz (.inl i1), sx, sy] at hr; have HRR := Lib.hid hr; clear i1 i2 z1 z2 d1 d2 q1 q2 hr sx sy hnz; obtain ⟨xX30, xX31, xX32, xX33⟩ := X3.u4; obtain ⟨xX40, xX41, xX42, xX43⟩ := X4.u4
      go_wp2_with fail
      refine (nInf (s := s1 != s2) HRR.out).mono ?_; rintro ee w5 ⟨K3, s3, M3, E3, rfl, q3, B⟩; clear xX30 xX31 xX32 xX33 xX40 xX41 xX42 xX43; replace X3 := X3.below B; replace X4 := X4.below B; replace XR := XR.below B; replace HB := Lib.hid (bt HB.out B); clear B; obtain ⟨xXR0, xXR1, xXR2, xXR3⟩ := XR.u4; have zXR0 := XR.frozen; go_wp2; clear xXR0 zXR0 xXR1 xXR2 xXR3; have SX := StN.mk4 XR (.int .i64 K3) (.bool s3) (.int .u64 M3) (.int .i64 E3)
      exact bodyPost_ret (by simp [results, Tryz.results54, go_sem, SX.box.cell]) rfl ⟨_, _, _, _, rfl, q3, (SX.below HB.out (by omega))⟩
    · rw [mulp_zero up (.inr (z2.1 rfl))] at hr; subst hr; clear i1 i2 z1 z2 d1 d2 q1 q2; obtain ⟨xXR0, xXR1, xXR2, xXR3⟩ := XR.u4; have zXR0 := XR.frozen; obtain ⟨xX30, xX31, xX32, xX33⟩ := X3.u4; obtain ⟨xX40, xX41, xX42, xX43⟩ := X4.u4; go_wp2; clear xXR0 zXR0 xXR1 xXR2 xXR3 xX30 xX31 xX32 xX33 xX40 xX41 xX42 xX43; have SX := StN.mk4 XR (.int .i64 0) (.bool false) (.int .u64 0) (.int .i64 0); exact bodyPost_ret (by simp [results, Tryz.results54, go_sem, SX.box.cell]) rfl ⟨_, _, _, _, rfl, Fq.nought, (SX.below HB.out (by omega))⟩
    · have hnz : ¬ (x = 0 ∨ y = 0) := fun c => c.elim (fun c => absurd (z1.2 c) (by decide)) (fun c => absurd (z2.2 c) (by decide))
      have sx : decide (x < 0) = s1 := by
        rcases q1.three with ⟨a, _⟩ | ⟨_, rfl, b⟩ | ⟨_, rfl, b⟩
        · exact absurd a (by decide)
        · exact decide_eq_false (by omega)
        · exact decide_eq_true b
      have sy : decide (y < 0) = s2 := by
        rcases q2.three with ⟨a, _⟩ | ⟨_, rfl, b⟩ | ⟨_, rfl, b⟩
        · exact absurd a (by decide)
        · exact decide_eq_false (by omega)
        · exact decide_eq_true b
      rw [mulp_inf up hnz (.inl i1), sx, sy] at hr; have HRR := Lib.hid hr; clear i1 i2 z1 z2 d1 d2 q1 q2 hr sx sy hnz; obtain ⟨xX30, xX31, xX32, xX33⟩ := X3.u4; obtain ⟨xX40, xX41, xX42, xX43⟩ := X4.u4
      go_wp2_with fail
      refine (nInf (s := s1 != s2) HRR.out).mono ?_; rintro ee w5 ⟨K3, s3, M3, E3, rfl, q3, B⟩; clear xX30 xX31 xX32 xX33 xX40 xX41 xX42 xX43; replace X3 := X3.below B; replace X4 := X4.below B; replace XR := XR.below B; replace HB := Lib.hid (bt HB.out B); clear B; obtain ⟨xXR0, xXR1, xXR2, xXR3⟩ := XR.u4; have zXR0 := XR.frozen; go_wp2; clear xXR0 zXR0 xXR1 xXR2 xXR3; have SX := StN.mk4 XR (.int .i64 K3) (.bool s3) (.int .u64 M3) (.int .i64 E3)
      exact bodyPost_ret (by simp [results, Tryz.results54, go_sem, SX.box.cell]) rfl ⟨_, _, _, _, rfl, q3, (SX.below HB.out (by omega))⟩
  · rcases kk2 with rfl | rfl | rfl
    · rw [mulp_zero up (.inl (z1.1 rfl))] at hr; subst hr; clear i1 i2 z1 z2 d1 d2 q1 q2; obtain ⟨xXR0, xXR1, xXR2, xXR3⟩ := XR.u4; have zXR0 := XR.frozen; obtain ⟨xX30, xX31, xX32, xX33⟩ := X3.u4; obtain ⟨xX40, xX41, xX42, xX43⟩ := X4.u4; go_wp2; clear xXR0 zXR0 xXR1 xXR2 xXR3 xX30 xX31 xX32 xX33 xX40 xX41 xX42 xX43; have SX := StN.mk4 XR (.int .i64 0) (.bool false) (.int .u64 0) (.int .i64 0); exact bodyPost_ret (by simp [results, Tryz.results54, go_sem, SX.box.cell]) rfl ⟨_, _, _, _, rfl, Fq.nought, (SX.below HB.out (by omega))⟩
    · rw [mulp_zero up (.inl (z1.1 rfl))] at hr; subst hr; clear i1 i2 z1 z2 d1 d2 q1 q2; obtain ⟨xXR0, xXR1, xXR2, xXR3⟩ := XR.u4; have zXR0 := XR.frozen; obtain ⟨xX30, xX31, xX32, xX33⟩ := X3.u4; obtain ⟨xX40, xX41, xX42, xX43⟩ := X4.u4; go_wp2; clear xXR0 zXR0 xXR1 xXR2 xXR3 xX30 xX31 xX32 xX33 xX40 xX41 xX42 xX43; have SX := StN.mk4 XR (.int .i64 0) (.bool false) (.int .u64 0) (.int .i64 0); exact bodyPost_ret (by simp [results, Tryz.results54, go_sem, SX.box.cell]) rfl ⟨_, _, _, _, rfl, Fq.nought, (SX.below HB.out (by omega))⟩
    · rw [mulp_zero up (.inl (z1.1 rfl))] at hr; subst hr; clear i1 i2 z1 z2 d1 d2 q1 q2; obtain ⟨xXR0, xXR1, xXR2, xXR3⟩ := XR.u4; have zXR0 := XR.frozen; obtain ⟨xX30, xX31, xX32, xX33⟩ := X3.u4; obtain ⟨xX40, xX41, xX42, xX43⟩ := X4.u4; go_wp2; clear xXR0 zXR0 xXR1 xXR2 xXR3 xX30 xX31 xX32 xX33 xX40 xX41 xX42 xX43; have SX := StN.mk4 XR (.int .i64 0) (.bool false) (.int .u64 0) (.int .i64 0); exact bodyPost_ret (by simp [results, Tryz.results54, go_sem, SX.box.cell]) rfl ⟨_, _, _, _, rfl, Fq.nought, (SX.below HB.out (by omega))⟩
  · rcases kk2 with rfl | rfl | rfl
    · have hnz : ¬ (x = 0 ∨ y = 0) := fun c => c.elim (fun c => absurd (z1.2 c) (by decide)) (fun c => absurd (z2.2 c) (by decide))
      have sx : decide (x < 0) = s1 := by
        rcases q1.three with ⟨a, _⟩ | ⟨_, rfl, b⟩ | ⟨_, rfl, b⟩
        · exact absurd a (by decide)
        · exact decide_eq_false (by omega)
        · exact decide_eq_true b
      have sy : decide (y < 0) = s2 := by
        rcases q2.three with ⟨a, _⟩ | ⟨_, rfl, b⟩ | ⟨_, rfl, b⟩
        · exact absurd a (by decide)
        · exact decide_eq_false (by omega)
        · exact decide_eq_true b
      rw [mulp_inf up hnz (.inr i2), sx, sy] at hr; have HRR := Lib.hid hr; clear i1 i2 z1 z2 d1 d2 q1 q2 hr sx sy hnz; obtain ⟨xX30, xX31, xX32, xX33⟩ := X3.u4; obtain ⟨xX40, xX41, xX42, xX43⟩ := X4.u4
      go_wp2_with fail
      refine (nInf (s := s1 != s2) HRR.out).mono ?_; rintro ee w5 ⟨K3, s3, M3, E3, rfl, q3, B⟩; clear xX30 xX31 xX32 xX33 xX40 xX41 xX42 xX43; replace X3 := X3.below B; replace X4 := X4.below B; replace XR := XR.below B; replace HB := Lib.hid (bt HB.out B); clear B; obtain ⟨xXR0, xXR1, xXR2, xXR3⟩ := XR.u4; have zXR0 := XR.frozen; go_wp2; clear xXR0 zXR0 xXR1 xXR2 xXR3; have SX := StN.mk4 XR (.int .i64 K3) (.bool s3) (.int .u64 M3) (.int .i64 E3)
      exact bodyPost_ret (by simp [results, Tryz.results54, go_sem, SX.box.cell]) rfl ⟨_, _, _, _, rfl, q3, (SX.below HB.out (by omega))⟩
    · rw [mulp_zero up (.inr (z2.1 rfl))] at hr; subst hr; clear i1 i2 z1 z2 d1 d2 q1 q2; obtain ⟨xXR0, xXR1, xXR2, xXR3⟩ := XR.u4; have zXR0 := XR.frozen; obtain ⟨xX30, xX31, xX32, xX33⟩ := X3.u4; obtain ⟨xX40, xX41, xX42, xX43⟩ := X4.u4; go_wp2; clear xXR0 zXR0 xXR1 xXR2 xXR3 xX30 xX31 xX32 xX33 xX40 xX41 xX42 xX43; have SX := StN.mk4 XR (.int .i64 0) (.bool false) (.int .u64 0) (.int .i64 0); exact bodyPost_ret (by simp [results, Tryz.results54, go_sem, SX.box.cell]) rfl ⟨_, _, _, _, rfl, Fq.nought, (SX.below HB.out (by omega))⟩
    · have HRR := Lib.hid hr; clear i1 i2 z1 z2 d1 d2 hr; obtain ⟨xX30, xX31, xX32, xX33⟩ := X3.u4; obtain ⟨xX40, xX41, xX42, xX43⟩ := X4.u4
      go_wp2_with fail
      refine (aProduct q1 q2).mono ?_; rintro ee w5 ⟨s3, H3, L3, x3, rfl, p3, B⟩; clear xX30 xX31 xX32 xX33 xX40 xX41 xX42 xX43; replace X3 := X3.below B; replace X4 := X4.below B; replace XR := XR.below B; replace HB := Lib.hid (bt HB.out B); clear B
      go_wp2_with fail
      refine (aRound p3 HRR.out).mono ?_; rintro ee w6 ⟨K4, s4, M4, E4, rfl, q4, B⟩; replace X3 := X3.below B; replace X4 := X4.below B; replace XR := XR.below B; replace HB := Lib.hid (bt HB.out B); clear B; obtain ⟨xXR0, xXR1, xXR2, xXR3⟩ := XR.u4; have zXR0 := XR.frozen; go_wp2; clear xXR0 zXR0 xXR1 xXR2 xXR3; have SX := StN.mk4 XR (.int .i64 K4) (.bool s4) (.int .u64 M4) (.int .i64 E4); exact bodyPost_ret (by simp [results, Tryz.results54, go_sem, SX.box.cell]) rfl ⟨_, _, _, _, rfl, q4, (SX.below HB.out (by omega))⟩
end Go.Proofs.YteejbcimmmcnlaaGreatDoor

/-
  What the sum of many numbers is, rounded.
-/
namespace Go.Proofs.YteejbcimmmcnlaaGreatDoor
open Go.RowKit
set_option linter.unusedVariables false
set_option linter.unusedSimpArgs false
set_option maxRecDepth 100000

/-- The sum of many, one behind the other, from nought on. -/
def smA (up : Bool) (l : List Int) : Int := l.foldl (addp up) 0
theorem smA_take (up : Bool) {l : List Int} {k : Nat} (h : k < l.length) : smA up (l.take (k + 1)) = addp up (smA up (l.take k)) (l.getD k 0) := by
  unfold smA
  rw [List.take_succ_eq_append_getElem h, List.foldl_append]
  simp [List.getD_eq_getElem?_getD, h]
set_option maxHeartbeats 8000000 in
theorem aSum {w : World} {A : Option Addr} {n c : Nat} {l : List Int} {up : Bool} {r : Int} (hT : Tb w) (h : Nl w A n c l) (hr : smA up l = r) : Calls Tryz.prog 46 #[.bool up, .slice A n c] w (PN w r) := by
  have HR := Lib.hid hr; have HLn := Lib.hid h.1; have hcap := h.2.1; have hbig := h.2.2.1; have hD0 := h; have hT0 := hT; clear hr
  go_enter Tryz.func46, Tryz.ntmps46
  go_upto_region 1 with (fail)
  generalize hW1 : w.alloc _ = w1 at *; obtain ⟨XR, HB⟩ := Bo.en1 hW1; replace h := h.below HB.out; replace hT := hT.below HB.out; clear hW1
  go_upto_region 2 with (fail)
  have hg3 := XR.lt; have lX3 := Nat.le_refl (World.heap w1).size; have nX3XR := XR.lt; generalize hWn : w1.alloc _ = w3 at *; obtain ⟨X3, BW⟩ := Bo.nw hWn; clear hWn; replace XR := XR.below BW; replace h := h.below BW; replace hT := hT.below BW; replace HB := Lib.hid (bt HB.out BW); clear BW
  go_wp2_with fail
  generalize w1.heap.size = g3 at *; clear h hT w1
  go_loopw [11] (fun i wr => ∃ k : Nat, k ≤ n ∧ i = .int .i64 k ∧ NInv w g3 (smA up (l.take k)) wr) (fun i _ => n - (intOf i).toNat)
  case atStart => exact ⟨0, Nat.zero_le _, rfl, _, _, _, _, XR, X3, Fq.nought, HB.out⟩
  clear HB XR X3 lX3
  case round =>
    obtain ⟨k, hk, rfl, hI⟩ := hrel; obtain ⟨K1, s1, M1, E1, XR, X3, q1, hB⟩ := hI; have HB := Lib.hid hB; have h := hD0.below hB; have hT := hT0.below hB; clear hB
    by_cases hlt : k < n
    · obtain ⟨b, o, rfl, hcell⟩ := h.2.2.2 (by omega); obtain ⟨D, s, M, E, c0, c1, c2, c3, hM, hx⟩ := hcell k hlt; clear hcell h hD0
      have i1 : (k : Int) < n := by omega
      have i2 : (0 : Int) ≤ k := by omega
      have hst := smA_take up (l := l) (k := k) (by rw [HLn.out]; exact hlt); rw [← hx] at hst; generalize smA up (l.take k) = R at *; obtain ⟨x, hX⟩ : ∃ x, rk D s M E = x := ⟨_, rfl⟩; rw [hX] at hst; obtain ⟨r2, hr2⟩ : ∃ r2, addp up R x = r2 := ⟨_, rfl⟩; rw [hr2] at hst; have HX := Lib.hid hX; have HST := Lib.hid hst; have HAD := Lib.hid hr2; clear hst hX hx hr2
      go_upto_region 5 with (fail)
      have hgd := X3.lt; have lX5 := Nat.le_refl (World.heap wr).size; have nX5XR := XR.lt; have nX5X3 := X3.lt; generalize hWn : wr.alloc _ = w3 at *; obtain ⟨X5, BW⟩ := Bo.nw hWn; clear hWn; replace XR := XR.below BW; replace X3 := X3.below BW; replace hT := hT.below BW; replace HB := Lib.hid (bt HB.out BW); clear BW; clear c0 c1 c2 c3 lX5; obtain ⟨xX30, xX31, xX32, xX33⟩ := X3.u4; obtain ⟨xX50, xX51, xX52, xX53⟩ := X5.u4
      go_wp2_with fail
      refine (aAdd hT q1.top hM q1.rk HX.out HAD.out).mono ?_; rintro ee w4 ⟨K2, s2, M2, E2, rfl, q2, B⟩; clear xX30 xX31 xX32 xX33 xX50 xX51 xX52 xX53; replace XR := XR.below B; replace X3 := X3.below B; replace X5 := X5.below B; replace hT := hT.below B; replace HB := Lib.hid (bt HB.out B); clear B; obtain ⟨xX30, xX31, xX32, xX33⟩ := X3.u4; have zX30 := X3.frozen
      go_upto_region 6 with (fail)
      clear xX30 zX30 xX31 xX32 xX33; generalize hS : (((w4.setCell _ _).setCell _ _).setCell _ _).setCell _ _ = w5 at *; have SX := StN.of4 X3 hS; replace XR := XR.stn SX (by omega); replace X5 := X5.stn SX (by omega); replace HB := Lib.hid (SX.below HB.out (by omega)); replace X3 := SX.box; clear SX hS; go_wp2
      go_roundw
      case rel =>
        refine ⟨k + 1, by omega, by go_num, K2, s2, M2, E2, XR, X3, ?_, HB.out⟩
        rw [HST.out]; exact q2
      case measure => simp [intOf]; omega
    · obtain rfl : k = n := by omega
      rw [List.take_of_length_le (by rw [HLn.out]; omega), HR.out] at q1; obtain ⟨xXR0, xXR1, xXR2, xXR3⟩ := XR.u4; have zXR0 := XR.frozen; obtain ⟨xX30, xX31, xX32, xX33⟩ := X3.u4; go_wp2; clear xXR0 zXR0 xXR1 xXR2 xXR3 xX30 xX31 xX32 xX33; have SX := StN.mk4 XR (.int .i64 K1) (.bool s1) (.int .u64 M1) (.int .i64 E1); exact bodyPost_ret (by simp [results, Tryz.results46, go_sem, SX.box.cell]) rfl ⟨_, _, _, _, rfl, q1, (SX.below HB.out (by omega))⟩
end Go.Proofs.YteejbcimmmcnlaaGreatDoor

/-
  What every statement of layer 6 begins with: the chapter's examples, and the test of exponents.
-/
namespace Go.Proofs.YteejbcimmmcnlaaGreatDoor
open Go.RowKit
set_option linter.unusedVariables false
set_option linter.unusedSimpArgs false
set_option maxRecDepth 100000

/-- Is its exponent from -1500 to 1500, or has it none? -/
def fewq (D E : Int) : Bool := decide (D ≠ 1) || (decide (-1500 ≤ E) && decide (E ≤ 1500))
set_option maxHeartbeats 2000000 in
theorem aFew {w : World} {D M E : Int} {s : Bool} {r : Bool} (hr : fewq D E = r) : Calls Tryz.prog 28 #[.agg #[.int .i64 D, .bool s, .int .u64 M, .int .i64 E]] w (PB w r) := by
  unfold fewq at hr
  by_cases h1 : D ≠ 1
  · rw [show decide (D ≠ 1) = true from decide_eq_true h1, Bool.true_or] at hr
    subst hr
    have e1 : (D == 1) = false := by simpa using h1
    have e2 : (D = 1) = False := by simpa using h1
    clear h1
    go_enter Tryz.func28, Tryz.ntmps28
    go_upto_region 1 with (fail)
    generalize hW1 : w.alloc _ = w1 at *; obtain ⟨X1, HB⟩ := Bo.en1 hW1; clear hW1; obtain ⟨xX10, xX11, xX12, xX13⟩ := X1.u4; go_wp2
    go_ret
    exact ⟨rfl, HB.out⟩
  · have h1 : D = 1 := by omega
    subst h1
    rw [show decide ((1 : Int) ≠ 1) = false by decide, Bool.false_or] at hr
    by_cases h2 : ¬ -1500 ≤ E
    · rw [decide_eq_false h2, Bool.false_and] at hr; subst hr
      go_enter Tryz.func28, Tryz.ntmps28
      go_upto_region 1 with (fail)
      generalize hW1 : w.alloc _ = w1 at *; obtain ⟨X1, HB⟩ := Bo.en1 hW1; clear hW1; obtain ⟨xX10, xX11, xX12, xX13⟩ := X1.u4; go_wp2
      go_ret
      exact ⟨rfl, HB.out⟩
    · have h2 : -1500 ≤ E := by omega
      rw [decide_eq_true h2, Bool.true_and] at hr; subst hr
      go_enter Tryz.func28, Tryz.ntmps28
      go_upto_region 1 with (fail)
      generalize hW1 : w.alloc _ = w1 at *; obtain ⟨X1, HB⟩ := Bo.en1 hW1; clear hW1; obtain ⟨xX10, xX11, xX12, xX13⟩ := X1.u4; go_wp2
      go_ret
      exact ⟨rfl, HB.out⟩
end Go.Proofs.YteejbcimmmcnlaaGreatDoor

/-
  What the statements of layer 6 rest on: products by what is below nought, twice and half, sums on the way, both sides of exact sums and products. Plain arithmetic; no Go text.
-/
namespace Go.Proofs.YteejbcimmmcnlaaGreatDoor
open Go.RowKit
set_option linter.unusedVariables false

theorem mulp_up {x y z : Int} (up : Bool) (x1 : -19342822337206103650074625 ≤ x) (x2 : x ≤ 19342822337206103650074625) (y1 : -19342822337206103650074625 ≤ y) (y2 : y ≤ 19342822337206103650074625) (hz : 0 ≤ z) (z2 : z ≤ 19342822337206103650074625) (h : x ≤ y) : mulp up x z ≤ mulp up y z := by
  by_cases h0 : z = 0
  · rw [mulp_zero up (.inr h0), mulp_zero up (.inr h0)]; exact Int.le_refl _
  · exact mulp_mono up x1 x2 y1 y2 (by omega) z2 h
theorem mulp_opp {t z : Int} (up : Bool) : mulp up t z = -mulp (!up) t (-z) := by
  have h := mulp_neg (x := -z) (y := t) (!up); rw [Bool.not_not, Int.neg_neg] at h; rw [mulp_comm, h, mulp_comm]
theorem mulp_dn {x y z : Int} (up : Bool) (x1 : -19342822337206103650074625 ≤ x) (x2 : x ≤ 19342822337206103650074625) (y1 : -19342822337206103650074625 ≤ y) (y2 : y ≤ 19342822337206103650074625) (hz : z < 0) (z1 : -19342822337206103650074625 ≤ z) (h : x ≤ y) : mulp up y z ≤ mulp up x z := by
  rw [mulp_opp up (t := y), mulp_opp up (t := x)]
  have := mulp_up (!up) x1 x2 y1 y2 (show 0 ≤ -z by omega) (by omega) h
  omega
/-- Neither too far nor too near, or infinite. -/
def Fz (x : Int) (h : Nat) : Prop := infp x = true ∨ Fit h (ep x)
theorem Fz.mono {x : Int} {h k : Nat} (f : Fz x h) (hk : h ≤ k) : Fz x k := f.imp id fun g => g.mono hk
theorem Fz.zero (h : Nat) : Fz 0 h := .inr (by rw [ep_zero]; exact Fit.zero h)
theorem few_fz {D : Int} {s : Bool} {M E : Int} (hM : M < 18446744073709551616) (hf : fewq D E = true) : Fz (rk D s M E) 1600 := by
  by_cases hm : MayQ D s M E
  · have q := rk_fq hM hm
    revert q
    generalize rk D s M E = x
    intro q
    rcases q.cases with ⟨_, _, _, _, h0⟩ | ⟨rfl, h1, h2, h3, h4, _⟩ | ⟨rfl, _⟩
    · subst h0; exact Fz.zero _
    · obtain ⟨_, hb, he⟩ := fq_fin q (by decide)
      have hb2 : -1500 ≤ E ∧ E ≤ 1500 := by
        unfold fewq at hf
        simpa using hf
      right
      rw [← he]
      unfold exq
      rw [if_pos hb]; obtain ⟨η, hη⟩ : ∃ η : Nat, η = 1600 := ⟨_, rfl⟩; rw [← hη]; refine (mk_fit (h := η) (by omega) (by omega) ?_).1; rw [sgi_abs s (by omega)]
      have : M.toNat < 2 ^ 64 := by omega
      have := Nat.mul_lt_mul_of_pos_right this (Nat.pow_pos (n := (E + (η : Int)).toNat) (show 0 < 2 by decide))
      rw [← Nat.pow_add] at this; exact Nat.lt_of_lt_of_le this (Nat.pow_le_pow_right (by decide) (by omega))
    · left
      rw [fq_inf q]
      rfl
  · rw [rk_not hm]; exact Fz.zero _
theorem rnd_fz {P : Int × Int} {h : Nat} (up : Bool) (hh : h ≤ 100000) (f : Fit h P) : Fz (rnd up P.1 P.2) (h + 65) := by
  rcases f.nf.cases with e | ⟨h0, ho, e1, e2⟩
  · subst e; rw [rnd_nought]; exact Fz.zero _
  · right
    have hm : P.1.natAbs ≠ 0 := by omega
    have lo1 := f.lo
    have hb0 : blen P.1.natAbs ≠ 0 := fun e => hm (blen_eq_zero.1 e)
    have hbl : blen P.1.natAbs - 1 + (P.2 + (h : Int)).toNat < 2 * h := by
      have l1 := Nat.mul_le_mul_right (2 ^ (P.2 + (h : Int)).toNat) (blen_le hm); rw [← Nat.pow_add] at l1; exact (Nat.pow_lt_pow_iff_right (by decide)).1 (Nat.lt_of_le_of_lt l1 f.2.2)
    have g1 := tp_ge hm; have g2 := tp_lt P.1.natAbs
    have hx : xp P.1.natAbs P.2 = P.2 + (blen P.1.natAbs : Nat) - 64 := rfl
    have el : lo P.1.natAbs P.2 = (tp P.1.natAbs : Int) - 9223372036854775808 + 1 + (xp P.1.natAbs P.2 + 1048576) * 9223372036854775808 := by
      unfold lo
      rw [if_neg hm, if_neg (by omega), if_neg (by omega)]
    obtain ⟨h1, h2⟩ := hi_bd P.1.natAbs P.2; obtain ⟨s, hs⟩ : ∃ s, s = decide (P.1 < 0) := ⟨_, rfl⟩
    have hr : ∃ l, (rnd up P.1 P.2 = sgi s l) ∧ lo P.1.natAbs P.2 ≤ l ∧ l ≤ lo P.1.natAbs P.2 + 1 := by
      by_cases hu : s = up
      · exact ⟨_, rnd_same hs hu, by omega, by omega⟩
      · have hu2 : up = !s := by cases s <;> cases up <;> first | rfl | exact absurd rfl hu
        exact ⟨_, by rw [hu2]; exact rnd_diff hs, h1, h2⟩
    obtain ⟨l, er, l1, l2⟩ := hr; rw [el] at l1 l2; clear el h1 h2 hs
    have hab : ((rnd up P.1 P.2).natAbs : Int) = l := by
      rw [er, sgi_abs s (by omega)]
      omega
    revert hab
    generalize rnd up P.1 P.2 = r
    intro hab
    unfold ep
    rw [if_neg (by omega)]; obtain ⟨M, hM⟩ : ∃ M, ((r.natAbs : Int) - 1) % 9223372036854775808 + 9223372036854775808 = M := ⟨_, rfl⟩; obtain ⟨E, hE⟩ : ∃ E, ((r.natAbs : Int) - 1) / 9223372036854775808 - 1048576 = E := ⟨_, rfl⟩; rw [hM, hE]
    have b1 : xp P.1.natAbs P.2 ≤ E ∧ E ≤ xp P.1.natAbs P.2 + 1 := by omega
    have b2 : 0 ≤ M ∧ M < 18446744073709551616 := by omega
    clear hM hE er l1 l2 hab; refine (mk_fit (h := h + 65) (by omega) (by omega) ?_).1; rw [sgi_abs _ b2.1]
    have : M.toNat < 2 ^ 64 := by omega
    have := Nat.mul_lt_mul_of_pos_right this (Nat.pow_pos (n := (E + ((h + 65 : Nat) : Int)).toNat) (show 0 < 2 by decide))
    rw [← Nat.pow_add] at this; exact Nat.lt_of_lt_of_le this (Nat.pow_le_pow_right (by decide) (by omega))
theorem addp_fz {x y : Int} {h : Nat} (up : Bool) (hh : h ≤ 90000) (fx : Fz x h) (fy : Fz y h) : Fz (addp up x y) (h + 66) := by
  cases hx : infp x
  · cases hy : infp y
    · rw [addp_ff up hx hy]
      rcases fx with fx | fx
      · rw [hx] at fx; cases fx
      · rcases fy with fy | fy
        · rw [hy] at fy; cases fy
        · exact rnd_fz up (by omega) (pl_fit (by omega) fx fy).1
    · rw [addp_ft up hx hy]; exact .inl hy
  · cases hy : infp y
    · rw [addp_tf up hx hy]; exact .inl hx
    · by_cases e : x = y
      · rw [addp_same up hx e]; exact .inl hx
      · rw [addp_diff up hx hy e]; exact .inl (fq_inf (Fq.inf _))
theorem dn_le_up {X r t : Int} (h : Dn X r) (k : Up X t) : r ≤ t := by
  obtain ⟨h1, h2, h3, h4⟩ := h; obtain ⟨k1, k2, k3, k4⟩ := k
  rcases Int.lt_or_le t r with q | q
  · exfalso
    have a := h3 (by omega); have b := k3 (by omega); rw [vr_neg] at b
    have := vr_lt q
    omega
  · exact q
theorem addp_le {x y : Int} (x1 : -19342822337206103650074625 ≤ x) (x2 : x ≤ 19342822337206103650074625) (y1 : -19342822337206103650074625 ≤ y) (y2 : y ≤ 19342822337206103650074625) : addp false x y ≤ addp true x y := by
  have htp := TP_eq
  cases hx : infp x <;> cases hy : infp y
  · obtain ⟨a1, a2⟩ := infp_false x1 x2 hx; obtain ⟨b1, b2⟩ := infp_false y1 y2 hy; obtain ⟨u, v⟩ := addp_spec (x := x) (y := y) true a1 a2 b1 b2; exact dn_le_up u v
  · rw [addp_ft _ hx hy, addp_ft _ hx hy]; exact Int.le_refl _
  · rw [addp_tf _ hx hy, addp_tf _ hx hy]; exact Int.le_refl _
  · by_cases e : x = y
    · rw [addp_same _ hx e, addp_same _ hx e]; exact Int.le_refl _
    · rw [addp_diff _ hx hy e, addp_diff _ hx hy e, show (!false) = true from rfl, show (!true) = false from rfl, wsg_f, wsg_t]
      omega
end Go.Proofs.YteejbcimmmcnlaaGreatDoor

/-
  The middle of an interval, its halves, what is wider; many intervals. Plain arithmetic; no Go text.
-/
namespace Go.Proofs.YteejbcimmmcnlaaGreatDoor
open Go.RowKit
set_option linter.unusedVariables false

theorem has_in {a b n : Int} (h1 : -19342822337206103650074625 < n) (h2 : n < 19342822337206103650074625) (h3 : a ≤ n) (h4 : n ≤ b) : hasI (some (a, b)) n = true := by
  simp [hasI, infp_fin h1 h2]
  omega
/-- Once there is none, there is none. -/
theorem meet_stuck : ∀ l : List Sp, l.foldl meetI none = none
  | [] => rfl
  | _ :: l => meet_stuck l
end Go.Proofs.YteejbcimmmcnlaaGreatDoor

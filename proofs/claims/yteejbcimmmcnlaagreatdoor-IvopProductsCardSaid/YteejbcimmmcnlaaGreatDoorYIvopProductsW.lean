/-
  The walk of IvopProducts: for all arguments the call answers true, and nothing that was there has turned.
-/
import Derived.Test.YteejbcimmmcnlaaGreatDoorYAbk
import Derived.Test.YteejbcimmmcnlaaGreatDoorYAbq
import Derived.Test.YteejbcimmmcnlaaGreatDoorYAbt
namespace Go.Proofs.YteejbcimmmcnlaaGreatDoor
open Go.RowKit
set_option linter.unusedVariables false
set_option linter.unusedSimpArgs false
set_option maxRecDepth 100000

set_option maxHeartbeats 8000000 in
theorem ivopProducts_main (e0 : Bool) (D0 : Int) (s0 : Bool) (M0 E0 G0 : Int) (g0 : Bool) (P0 Q0 : Int) (e1 : Bool) (D1 : Int) (s1 : Bool) (M1 E1 G1 : Int) (g1 : Bool) (P1 Q1 : Int) (w : World) {q : Bool → Int → Int → Int} (hq : QF q) (hT : Tab w) (x y m d : Sp) (u0 : M0 < 18446744073709551616) (v0 : P0 < 18446744073709551616) (u1 : M1 < 18446744073709551616) (v1 : P1 < 18446744073709551616) (hx : rkI e0 D0 s0 M0 E0 G0 g0 P0 Q0 = x) (hy : rkI e1 D1 s1 M1 E1 G1 g1 P1 Q1 = y) (hm : mulI x y = m) (hd : divI q x y = d) :
    Calls Tryz.prog 4 #[.agg #[.bool e0, .int .i64 D0, .bool s0, .int .u64 M0, .int .i64 E0, .int .i64 G0, .bool g0, .int .u64 P0, .int .i64 Q0], .agg #[.bool e1, .int .i64 D1, .bool s1, .int .u64 M1, .int .i64 E1, .int .i64 G1, .bool g1, .int .u64 P1, .int .i64 Q1]] w (PB w true) := by
  have HX := Lib.hid hx; have HY := Lib.hid hy; have HM := Lib.hid hm; have HD := Lib.hid hd; have HQ := Lib.hid hq; clear hx hy hm hd hq
  go_enter Tryz.func4, Tryz.ntmps4
  go_upto_region 1 with (fail)
  generalize hW1 : (w.alloc _).alloc _ = w1 at *; obtain ⟨X0, X1, HB⟩ := Bo.en2 hW1; replace hT := hT.below HB.out; clear hW1
  go_wp2_with fail
  refine (awake9 hT HQ.out).mono ?_; rintro ee w2 ⟨rfl, B⟩; replace X0 := X0.below B; replace X1 := X1.below B; replace hT := hT.below B; replace HB := Lib.hid (bt HB.out B); clear B; obtain ⟨xX00, xX01, xX02, xX03, xX04, xX05, xX06, xX07, xX08⟩ := X0.u9; obtain ⟨xX10, xX11, xX12, xX13, xX14, xX15, xX16, xX17, xX18⟩ := X1.u9
  go_upto_region 2 with (fail)
  clear xX00 xX01 xX02 xX03 xX04 xX05 xX06 xX07 xX08 xX10 xX11 xX12 xX13 xX14 xX15 xX16 xX17 xX18; refine Jo.rk [0, 1, 2, 3, 4, 5, 6, 7, 8, 9, 10, 11, 12, 13, 14, 15, 16, 17, 18, 19] [some 7, some 8, some 9, some 10, some 11, some 12, some 13, some 14, some 15, some 16, some 17, some 18, some 19, some 20, some 21, some 22, some 23, some 24, some 25, some 4] [[], [0], [1], [1], [1, 2, 3], [1], [1], [1, 5, 6], [1, 4, 7], [1, 8], [9], [10], [10], [10, 11, 12], [10], [10], [10, 14, 15], [10, 13, 16], [10, 17], [18]] 20 0 [Jo.qb true, Jo.qb true, Jo.q9 e0 D0 s0 M0 E0 G0 g0 P0 Q0, Jo.q9 e1 D1 s1 M1 E1 G1 g1 P1 Q1, Jo.Fact.iv m, Jo.q9 e0 D0 s0 M0 E0 G0 g0 P0 Q0, Jo.q9 e1 D1 s1 M1 E1 G1 g1 P1 Q1, Jo.Fact.iv m, Jo.qb true, Jo.qb true, Jo.qb true, Jo.q9 e0 D0 s0 M0 E0 G0 g0 P0 Q0, Jo.q9 e1 D1 s1 M1 E1 G1 g1 P1 Q1, Jo.Fact.iv d, Jo.q9 e0 D0 s0 M0 E0 G0 g0 P0 Q0, Jo.q9 e1 D1 s1 M1 E1 G1 g1 P1 Q1, Jo.Fact.iv d, Jo.qb true, Jo.qb true, Jo.qb true] (by kernel_rfl) (by kernel_rfl) (by decide) rfl ?_ ?_
  · refine Jo.jm rfl ?_ ?_
    · rintro wj hJ K hK; simp only [Jo.z] at hK ⊢; go_simp; exact hK.out _ _ rfl (br _ _)
    refine Jo.jm rfl ?_ ?_
    · rintro wj hJ _ rfl K hK; simp only [Jo.z] at hK ⊢; go_simp; exact hK.out _ _ rfl (br _ _)
    refine Jo.jm rfl ?_ ?_
    · rintro wj hJ _ rfl K hK; simp only [Jo.z] at hK ⊢; obtain ⟨xX00, xX01, xX02, xX03, xX04, xX05, xX06, xX07, xX08⟩ := (X0.below hJ).u9; go_simp; exact hK.out _ _ rfl (br _ _)
    refine Jo.jm rfl ?_ ?_
    · rintro wj hJ _ rfl K hK; simp only [Jo.z] at hK ⊢; obtain ⟨xX10, xX11, xX12, xX13, xX14, xX15, xX16, xX17, xX18⟩ := (X1.below hJ).u9; go_simp; exact hK.out _ _ rfl (br _ _)
    refine Jo.jm rfl ?_ ?_
    · rintro wj hJ _ rfl _ rfl _ rfl K hK; simp only [Jo.z] at hK ⊢; go_simp; refine (fkMul u0 v0 u1 v1 HX.out HY.out HM.out).mono ?_; rintro ee wk ⟨e20, K20, s20, M20, E20, K20b, s20b, M20b, E20b, rfl, v20, B⟩; exact hK.out _ _ ⟨e20, K20, s20, M20, E20, K20b, s20b, M20b, E20b, rfl, v20⟩ B
    refine Jo.jm rfl ?_ ?_
    · rintro wj hJ _ rfl K hK; simp only [Jo.z] at hK ⊢; obtain ⟨xX00, xX01, xX02, xX03, xX04, xX05, xX06, xX07, xX08⟩ := (X0.below hJ).u9; go_simp; exact hK.out _ _ rfl (br _ _)
    refine Jo.jm rfl ?_ ?_
    · rintro wj hJ _ rfl K hK; simp only [Jo.z] at hK ⊢; obtain ⟨xX10, xX11, xX12, xX13, xX14, xX15, xX16, xX17, xX18⟩ := (X1.below hJ).u9; go_simp; exact hK.out _ _ rfl (br _ _)
    refine Jo.jm rfl ?_ ?_
    · rintro wj hJ _ rfl _ rfl _ rfl K hK; simp only [Jo.z] at hK ⊢; go_simp; refine (fwMul u0 v0 u1 v1 HX.out HY.out HM.out).mono ?_; rintro ee wk ⟨e21, K21, s21, M21, E21, K21b, s21b, M21b, E21b, rfl, v21, B⟩; exact hK.out _ _ ⟨e21, K21, s21, M21, E21, K21b, s21b, M21b, E21b, rfl, v21⟩ B
    refine Jo.jm rfl ?_ ?_
    · rintro wj hJ _ rfl _ ⟨e20, K20, s20, M20, E20, K20b, s20b, M20b, E20b, rfl, v20⟩ _ ⟨e21, K21, s21, M21, E21, K21b, s21b, M21b, E21b, rfl, v21⟩ K hK; simp only [Jo.z] at hK ⊢; obtain ⟨rfl, rfl, rfl, rfl, rfl, rfl, rfl, rfl, rfl⟩ := v20.uniq v21; go_simp
      exact hK.out _ _ (by first | rfl | (show Value.bool _ = Value.bool _; simp)) (br _ _)
    refine Jo.jm rfl ?_ ?_
    · rintro wj hJ _ rfl _ rfl K hK; simp only [Jo.z] at hK ⊢; go_simp; exact hK.out _ _ rfl (br _ _)
    refine Jo.jm rfl ?_ ?_
    · rintro wj hJ _ rfl K hK; simp only [Jo.z] at hK ⊢; go_simp; exact hK.out _ _ rfl (br _ _)
    refine Jo.jm rfl ?_ ?_
    · rintro wj hJ _ rfl K hK; simp only [Jo.z] at hK ⊢; obtain ⟨xX00, xX01, xX02, xX03, xX04, xX05, xX06, xX07, xX08⟩ := (X0.below hJ).u9; go_simp; exact hK.out _ _ rfl (br _ _)
    refine Jo.jm rfl ?_ ?_
    · rintro wj hJ _ rfl K hK; simp only [Jo.z] at hK ⊢; obtain ⟨xX10, xX11, xX12, xX13, xX14, xX15, xX16, xX17, xX18⟩ := (X1.below hJ).u9; go_simp; exact hK.out _ _ rfl (br _ _)
    refine Jo.jm rfl ?_ ?_
    · rintro wj hJ _ rfl _ rfl _ rfl K hK; simp only [Jo.z] at hK ⊢; go_simp; refine (fkDiv (hT.below hJ) HQ.out u0 v0 u1 v1 HX.out HY.out HD.out).mono ?_; rintro ee wk ⟨e22, K22, s22, M22, E22, K22b, s22b, M22b, E22b, rfl, v22, B⟩; exact hK.out _ _ ⟨e22, K22, s22, M22, E22, K22b, s22b, M22b, E22b, rfl, v22⟩ B
    refine Jo.jm rfl ?_ ?_
    · rintro wj hJ _ rfl K hK; simp only [Jo.z] at hK ⊢; obtain ⟨xX00, xX01, xX02, xX03, xX04, xX05, xX06, xX07, xX08⟩ := (X0.below hJ).u9; go_simp; exact hK.out _ _ rfl (br _ _)
    refine Jo.jm rfl ?_ ?_
    · rintro wj hJ _ rfl K hK; simp only [Jo.z] at hK ⊢; obtain ⟨xX10, xX11, xX12, xX13, xX14, xX15, xX16, xX17, xX18⟩ := (X1.below hJ).u9; go_simp; exact hK.out _ _ rfl (br _ _)
    refine Jo.jm rfl ?_ ?_
    · rintro wj hJ _ rfl _ rfl _ rfl K hK; simp only [Jo.z] at hK ⊢; go_simp; refine (fwDiv HQ.out u0 v0 u1 v1 HX.out HY.out HD.out).mono ?_; rintro ee wk ⟨e23, K23, s23, M23, E23, K23b, s23b, M23b, E23b, rfl, v23, B⟩; exact hK.out _ _ ⟨e23, K23, s23, M23, E23, K23b, s23b, M23b, E23b, rfl, v23⟩ B
    refine Jo.jm rfl ?_ ?_
    · rintro wj hJ _ rfl _ ⟨e22, K22, s22, M22, E22, K22b, s22b, M22b, E22b, rfl, v22⟩ _ ⟨e23, K23, s23, M23, E23, K23b, s23b, M23b, E23b, rfl, v23⟩ K hK; simp only [Jo.z] at hK ⊢; obtain ⟨rfl, rfl, rfl, rfl, rfl, rfl, rfl, rfl, rfl⟩ := v22.uniq v23; go_simp
      exact hK.out _ _ (by first | rfl | (show Value.bool _ = Value.bool _; simp)) (br _ _)
    refine Jo.jm rfl ?_ ?_
    · rintro wj hJ _ rfl _ rfl K hK; simp only [Jo.z] at hK ⊢; go_simp; exact hK.out _ _ rfl (br _ _)
    refine Jo.jm rfl ?_ ?_
    · rintro wj hJ _ rfl K hK; simp only [Jo.z] at hK ⊢; go_simp; exact hK.out _ _ rfl (br _ _)
    exact Jo.Steps.nil
  rintro w9 hJ _ rfl _ rfl _ rfl _ rfl _ ⟨e20, K20, s20, M20, E20, K20b, s20b, M20b, E20b, rfl, v20⟩ _ rfl _ rfl _ ⟨e21, K21, s21, M21, E21, K21b, s21b, M21b, E21b, rfl, v21⟩ _ rfl _ rfl _ rfl _ rfl _ rfl _ ⟨e22, K22, s22, M22, E22, K22b, s22b, M22b, E22b, rfl, v22⟩ _ rfl _ rfl _ ⟨e23, K23, s23, M23, E23, K23b, s23b, M23b, E23b, rfl, v23⟩ _ rfl _ rfl _ rfl -; simp only [Jo.z]; replace X0 := X0.below hJ
  replace X1 := X1.below hJ; replace hT := hT.below hJ; replace HB := Lib.hid (bt HB.out hJ); refine Jo.jdone (by kernel_rfl) ?_; go_wp2
  go_ret
  exact ⟨rfl, HB.out⟩

theorem ivopProducts_walk (e0 : Bool) (D0 : Int) (s0 : Bool) (M0 E0 G0 : Int) (g0 : Bool) (P0 Q0 : Int) (e1 : Bool) (D1 : Int) (s1 : Bool) (M1 E1 G1 : Int) (g1 : Bool) (P1 Q1 : Int) (w : World) (hT : Tab w) (u0 : M0 < 18446744073709551616) (v0 : P0 < 18446744073709551616) (u1 : M1 < 18446744073709551616) (v1 : P1 < 18446744073709551616) :
    Calls Tryz.prog 4 #[.agg #[.bool e0, .int .i64 D0, .bool s0, .int .u64 M0, .int .i64 E0, .int .i64 G0, .bool g0, .int .u64 P0, .int .i64 Q0], .agg #[.bool e1, .int .i64 D1, .bool s1, .int .u64 M1, .int .i64 E1, .int .i64 G1, .bool g1, .int .u64 P1, .int .i64 Q1]] w fun e w' => e = .returned (.bool true) ∧ Below w.heap.size w w' := by
  obtain ⟨q, hq⟩ := qf_ex; exact ivopProducts_main e0 D0 s0 M0 E0 G0 g0 P0 Q0 e1 D1 s1 M1 E1 G1 g1 P1 Q1 w hq hT _ _ _ _ u0 v0 u1 v1 rfl rfl rfl rfl
end Go.Proofs.YteejbcimmmcnlaaGreatDoor

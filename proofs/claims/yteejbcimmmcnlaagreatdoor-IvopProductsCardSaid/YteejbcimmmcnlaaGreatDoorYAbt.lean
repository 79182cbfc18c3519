/-
  Contracts and words that the statement's proof rests on, several texts in one: Fn.
-/
import Derived.Below
import Derived.BigQuiet
import Derived.Carry
import Derived.Deep.DeepCutAuto
import Derived.Deep.Draws
import Derived.Deep.MidRow
import Derived.Deep.QuietTactic
import Derived.Deep.RegionHeld3
import Derived.Deep.RegionWith
import Derived.IntWalk
import Derived.Laws.Bits64b
import Derived.Laws.CopyOwn
import Derived.Laws.Externs
import Derived.Laws.MakeOwn
import Derived.Laws.OwnMore
import Derived.Laws.Rows
import Derived.Lib.BitFns
import Derived.Lib.Hide
import Derived.Lib.Mul64
import Derived.Lib.TrailingZeros
import Derived.Maps.AppendAt
import Derived.StillTailTactics
import Derived.Test.YteejbcimmmcnlaaGreatDoorRows
import Derived.WalkKit
import Derived.WalkLawsBesides
import Derived.WalkSpells
import Derived.Test.YteejbcimmmcnlaaGreatDoorYAbb
import Derived.Test.YteejbcimmmcnlaaGreatDoorYAbd
import Derived.Test.YteejbcimmmcnlaaGreatDoorYAbh
import Derived.Test.YteejbcimmmcnlaaGreatDoorYAbl
import Derived.Test.YteejbcimmmcnlaaGreatDoorYAbp
import Derived.Test.YteejbcimmmcnlaaGreatDoorYAbs
/-
  What every statement of layer 9 begins with: the chapter's examples.
-/
namespace Go.Proofs.YteejbcimmmcnlaaGreatDoor
open Go.RowKit
set_option linter.unusedVariables false
set_option linter.unusedSimpArgs false
set_option maxRecDepth 100000

theorem fin_one9 {K M E r : Int} {s : Bool} (q : Fq K s M E r) (h0 : r ≠ 0) (h1 : -19342822337206103650074625 < r) (h2 : r < 19342822337206103650074625) : K = 1 := by
  rcases q.cases with ⟨rfl, rfl, rfl, rfl, h⟩ | ⟨rfl, _⟩ | ⟨rfl, rfl, rfl, ⟨rfl, h⟩ | ⟨rfl, h⟩⟩
  · omega
  · rfl
  · omega
  · omega
theorem Zi.all {a b : Int} (h1 : -9223372036854775807 ≤ a) (h : a ≤ b) (h2 : b ≤ 9223372036854775807) : mkI (opl a) (opl b) = Zi a b := (Zi.mk h1 h h2).1
set_option maxHeartbeats 8000000 in
theorem awake9 {w : World} {q : Bool → Int → Int → Int} (hT : Tab w) (hq : QF q) : Calls Tryz.prog 10 #[] w (PB w true) := by
  obtain ⟨u, hd, u0, u1, u2⟩ := aw_div hq; have hm := aw_mul; have hs := aw_sqr
  have n4 : opl (-4) ≠ 0 ∧ -19342822337206103650074625 < opl (-4) ∧ opl (-4) < 19342822337206103650074625 := ⟨opl_nz (by decide) (by decide) (by decide), opl_fin (by decide) (by decide)⟩
  have hw : Zi (-4) 8 = some (opl (-4), opl 8) := rfl
  have mx1 := Zi.all (a := (-1)) (b := 2) (by decide) (by decide) (by decide); have mx2 := Zi.all (a := 3) (b := 4) (by decide) (by decide) (by decide); have mx3 := Zi.all (a := (-4)) (b := 8) (by decide) (by decide) (by decide); have mx4 := Zi.all (a := 1) (b := 2) (by decide) (by decide) (by decide); have mx5 := Zi.all (a := 0) (b := 4) (by decide) (by decide) (by decide)
  have ek4 : sgi (decide (((-4) : Int) < 0)) (lo ((-4) : Int).natAbs 0) = opl (-4) := rfl
  have ek1 : sgi (decide (((-1) : Int) < 0)) (lo ((-1) : Int).natAbs 0) = opl (-1) := rfl
  have ei0 : sgi (decide ((0 : Int) < 0)) (lo (0 : Int).natAbs 0) = opl 0 := rfl
  have ei1 : sgi (decide ((1 : Int) < 0)) (lo (1 : Int).natAbs 0) = opl 1 := rfl
  have ei2 : sgi (decide ((2 : Int) < 0)) (lo (2 : Int).natAbs 0) = opl 2 := rfl
  have ei3 : sgi (decide ((3 : Int) < 0)) (lo (3 : Int).natAbs 0) = opl 3 := rfl
  have ei4 : sgi (decide ((4 : Int) < 0)) (lo (4 : Int).natAbs 0) = opl 4 := rfl
  have ei8 : sgi (decide ((8 : Int) < 0)) (lo (8 : Int).natAbs 0) = opl 8 := rfl
  have z0 : opl 0 = 0 := rfl
  generalize opl (-4) = k4 at *; generalize opl (-1) = k1 at *; generalize opl 1 = i1 at *; generalize opl 2 = i2 at *; generalize opl 3 = i3 at *; generalize opl 4 = i4 at *; generalize opl 8 = i8 at *; rw [z0] at *; generalize Zi (-1) 2 = x1 at *; generalize Zi 3 4 = x2 at *; generalize Zi (-4) 8 = x3 at *; generalize Zi 1 2 = x4 at *; generalize Zi 0 4 = x5 at *; subst hw; have Hk4 := Lib.hid ek4
  clear ek4; have Hk1 := Lib.hid ek1; clear ek1; have Hi0 := Lib.hid ei0; clear ei0; have Hi1 := Lib.hid ei1; clear ei1; have Hi2 := Lib.hid ei2; clear ei2; have Hi3 := Lib.hid ei3; clear ei3; have Hi4 := Lib.hid ei4; clear ei4; have Hi8 := Lib.hid ei8; clear ei8; have Mx1 := Lib.hid mx1; clear mx1; have Mx2 := Lib.hid mx2; clear mx2; have Mx3 := Lib.hid mx3; clear mx3; have Mx4 := Lib.hid mx4; clear mx4
  have Mx5 := Lib.hid mx5; clear mx5; have HD := Lib.hid hd; have HMU := Lib.hid hm; have HSQ := Lib.hid hs
  have HU : Hid (cmpI u 0 = 1) := Lib.hid (by rcases cmpI_tri u 0 with ⟨a, b⟩ | ⟨a, b⟩ | ⟨a, b⟩ <;> omega)
  have HQ := Lib.hid hq; have HN := Lib.hid n4; clear hd hm hs hq n4 z0 u0 u1 u2
  go_enter Tryz.func10, Tryz.ntmps10
  have HB := Lib.hid (Below.refl w.heap.size w)
  go_wp2_with fail
  refine (kvOf (by decide) (by decide) (by decide) (by decide) Hk1.out Hi2.out Mx1.out).mono ?_; rintro ee w1 ⟨e1, K1, s1, M1, E1, K1b, s1b, M1b, E1b, rfl, v1, B⟩; replace hT := hT.below B; replace HB := Lib.hid (bt HB.out B); clear B
  go_wp2_with fail
  refine (kvOf (by decide) (by decide) (by decide) (by decide) Hi3.out Hi4.out Mx2.out).mono ?_; rintro ee w2 ⟨e2, K2, s2, M2, E2, K2b, s2b, M2b, E2b, rfl, v2, B⟩; replace hT := hT.below B; replace HB := Lib.hid (bt HB.out B); clear B
  go_wp2_with fail
  refine (fkMul v1.top.1 v1.top.2 v2.top.1 v2.top.2 v1.rk v2.rk HMU.out).mono ?_; rintro ee w3 ⟨e3, K3, s3, M3, E3, K3b, s3b, M3b, E3b, rfl, v3, B⟩; replace hT := hT.below B; replace HB := Lib.hid (bt HB.out B); clear B; clear v1 v2; obtain ⟨rfl, a3, b3, o3a, o3l, o3h⟩ := v3
  obtain rfl : K3 = 1 := fin_one9 a3 HN.out.1 HN.out.2.1 HN.out.2.2
  go_upto_region 2 with (fail)
  have lX1 := Nat.le_refl (World.heap w3).size; generalize hWn : w3.alloc _ = w4 at *; obtain ⟨X1, BW⟩ := Bo.nw hWn; clear hWn; replace hT := hT.below BW; replace HB := Lib.hid (bt HB.out BW); clear BW; clear lX1
  have v3 : Ci false 1 s3 M3 E3 K3b s3b M3b E3b (some (k4, i8)) := ⟨rfl, a3, b3, o3a, o3l, o3h⟩
  clear a3 b3 o3a o3l o3h
  go_wp2_with fail
  refine (kvOf (by decide) (by decide) (by decide) (by decide) Hi1.out Hi2.out Mx4.out).mono ?_; rintro ee w5 ⟨e4, K4, s4, M4, E4, K4b, s4b, M4b, E4b, rfl, v4, B⟩; replace X1 := X1.below B; replace hT := hT.below B; replace HB := Lib.hid (bt HB.out B); clear B
  go_wp2_with fail
  refine (kvOf (by decide) (by decide) (by decide) (by decide) Hi0.out Hi4.out Mx5.out).mono ?_; rintro ee w6 ⟨e5, K5, s5, M5, E5, K5b, s5b, M5b, E5b, rfl, v5, B⟩; replace X1 := X1.below B; replace hT := hT.below B; replace HB := Lib.hid (bt HB.out B); clear B
  go_wp2_with fail
  refine (fkDiv hT HQ.out v4.top.1 v4.top.2 v5.top.1 v5.top.2 v4.rk v5.rk HD.out).mono ?_; rintro ee w7 ⟨e6, K6, s6, M6, E6, K6b, s6b, M6b, E6b, rfl, v6, B⟩; replace X1 := X1.below B; replace hT := hT.below B; replace HB := Lib.hid (bt HB.out B); clear B; clear v4 v5; obtain ⟨rfl, a6, b6, _, _, _⟩ := v6; obtain ⟨rfl, rfl, rfl, rfl⟩ := b6.uniq (fq_inf2 false)
  go_upto_region 3 with (fail)
  have lX2 := Nat.le_refl (World.heap w7).size; have nX2X1 := X1.lt; generalize hWn : w7.alloc _ = w8 at *; obtain ⟨X2, BW⟩ := Bo.nw hWn; clear hWn; replace X1 := X1.below BW; replace hT := hT.below BW; replace HB := Lib.hid (bt HB.out BW); clear BW; clear lX2; refine Jo.rk [0, 1, 2, 3, 4, 5, 6, 7, 8, 9, 10, 11, 12, 13, 14, 15, 16, 17, 18, 19, 20, 21, 22, 23, 24, 25, 26, 27, 28, 29, 30, 31, 32, 33] [some 9, some 10, some 11, some 12, some 13, some 14, some 15, some 16, some 17, some 18, some 19, some 20, some 21, some 22, some 23, some 24, some 25, some 26, some 27, some 28, some 29, some 30, some 31, some 32, some 33, some 34, some 35, some 36, some 37, some 38, some 39, some 40, some 41, some 0] [[], [], [0, 1], [2], [3], [3, 4], [3, 5], [3, 6], [7], [8], [8, 9], [8, 10], [8, 11], [8, 12], [13], [14], [14, 15], [14], [14, 16, 17], [14, 18], [19], [20], [20, 21], [20], [20, 22, 23], [20, 24], [20, 25], [26], [27], [27, 28], [27], [27, 29, 30], [27, 31], [32]] 34 0 [Jo.q9 false 1 s3 M3 E3 K3b s3b M3b E3b, Jo.Fact.iv (some (k4, i8)), Jo.qb true, Jo.qb true, Jo.qp w3.heap.size 0, Jo.qb false, Jo.qb true, Jo.qb true, Jo.qb true, Jo.qp w3.heap.size 1, Jo.qp w3.heap.size 1, Jo.qi 1, Jo.qb true, Jo.qb true, Jo.qb true, Jo.qp w7.heap.size 5, Jo.q4 2 false 0 0, Jo.q4 2 false 0 0, Jo.qb true, Jo.qb true, Jo.qb true, Jo.qp w7.heap.size 1, Jo.q4 K6 s6 M6 E6, Jo.Fact.num 0, Jo.qi 1, Jo.qb true, Jo.qb true, Jo.qb true, Jo.Fact.iv x1, Jo.Fact.iv x5, Jo.Fact.iv x5, Jo.qb true, Jo.qb true, Jo.qb true] (by kernel_rfl) (by kernel_rfl) (by decide) rfl ?_ ?_
  · refine Jo.jm rfl ?_ ?_
    · rintro wj hJ K hK; simp only [Jo.z] at hK ⊢; obtain ⟨xX10, xX11, xX12, xX13, xX14, xX15, xX16, xX17, xX18⟩ := (X1.below hJ).u9; go_simp; exact hK.out _ _ rfl (br _ _)
    refine Jo.jm rfl ?_ ?_
    · rintro wj hJ K hK; simp only [Jo.z] at hK ⊢; go_simp; refine (kvOf (by decide) (by decide) (by decide) (by decide) Hk4.out Hi8.out Mx3.out).mono ?_; rintro ee wk ⟨e7, K7, s7, M7, E7, K7b, s7b, M7b, E7b, rfl, v7, B⟩; exact hK.out _ _ ⟨e7, K7, s7, M7, E7, K7b, s7b, M7b, E7b, rfl, v7⟩ B
    refine Jo.jm rfl ?_ ?_
    · rintro wj hJ _ rfl _ ⟨e7, K7, s7, M7, E7, K7b, s7b, M7b, E7b, rfl, v7⟩ K hK; simp only [Jo.z] at hK ⊢; obtain ⟨rfl, rfl, rfl, rfl, rfl, rfl, rfl, rfl, rfl⟩ := v3.uniq v7; go_simp
      exact hK.out _ _ (by first | rfl | (show Value.bool _ = Value.bool _; simp)) (br _ _)
    refine Jo.jm rfl ?_ ?_
    · rintro wj hJ _ rfl K hK; simp only [Jo.z] at hK ⊢; go_simp; exact hK.out _ _ rfl (br _ _)
    refine Jo.jm rfl ?_ ?_
    · rintro wj hJ _ rfl K hK; simp only [Jo.z] at hK ⊢; go_simp; exact hK.out _ _ rfl (br _ _)
    refine Jo.jm rfl ?_ ?_
    · rintro wj hJ _ rfl _ rfl K hK; simp only [Jo.z] at hK ⊢; have xX10 := (X1.below hJ).a 0 (.bool false) rfl; go_simp; exact hK.out _ _ rfl (br _ _)
    refine Jo.jm rfl ?_ ?_
    · rintro wj hJ _ rfl _ rfl K hK; simp only [Jo.z] at hK ⊢; go_simp; exact hK.out _ _ rfl (br _ _)
    refine Jo.jm rfl ?_ ?_
    · rintro wj hJ _ rfl _ rfl K hK; simp only [Jo.z] at hK ⊢; go_simp; exact hK.out _ _ rfl (br _ _)
    refine Jo.jm rfl ?_ ?_
    · rintro wj hJ _ rfl K hK; simp only [Jo.z] at hK ⊢; go_simp; exact hK.out _ _ rfl (br _ _)
    refine Jo.jm rfl ?_ ?_
    · rintro wj hJ _ rfl K hK; simp only [Jo.z] at hK ⊢; go_simp; exact hK.out _ _ rfl (br _ _)
    refine Jo.jm rfl ?_ ?_
    · rintro wj hJ _ rfl _ rfl K hK; simp only [Jo.z] at hK ⊢; go_simp; exact hK.out _ _ rfl (br _ _)
    refine Jo.jm rfl ?_ ?_
    · rintro wj hJ _ rfl _ rfl K hK; simp only [Jo.z] at hK ⊢; have xX11 := (X1.below hJ).a 1 (.int .i64 1) rfl; go_simp; exact hK.out _ _ rfl (br _ _)
    refine Jo.jm rfl ?_ ?_
    · rintro wj hJ _ rfl _ rfl K hK; simp only [Jo.z] at hK ⊢; go_simp; exact hK.out _ _ rfl (br _ _)
    refine Jo.jm rfl ?_ ?_
    · rintro wj hJ _ rfl _ rfl K hK; simp only [Jo.z] at hK ⊢; go_simp; exact hK.out _ _ rfl (br _ _)
    refine Jo.jm rfl ?_ ?_
    · rintro wj hJ _ rfl K hK; simp only [Jo.z] at hK ⊢; go_simp; exact hK.out _ _ rfl (br _ _)
    refine Jo.jm rfl ?_ ?_
    · rintro wj hJ _ rfl K hK; simp only [Jo.z] at hK ⊢; go_simp; exact hK.out _ _ rfl (br _ _)
    refine Jo.jm rfl ?_ ?_
    · rintro wj hJ _ rfl _ rfl K hK; simp only [Jo.z] at hK ⊢; obtain ⟨xX25, xX26, xX27, xX28⟩ := (X2.below hJ).v9; go_simp; exact hK.out _ _ rfl (br _ _)
    refine Jo.jm rfl ?_ ?_
    · rintro wj hJ _ rfl K hK; simp only [Jo.z] at hK ⊢; go_simp; refine (nInfE false).mono ?_; rintro ee wk ⟨rfl, B⟩; exact hK.out _ _ rfl B
    refine Jo.jm rfl ?_ ?_
    · rintro wj hJ _ rfl _ rfl _ rfl K hK; simp only [Jo.z] at hK ⊢; go_simp
      exact hK.out _ _ (by first | rfl | (show Value.bool _ = Value.bool _; simp)) (br _ _)
    refine Jo.jm rfl ?_ ?_
    · rintro wj hJ _ rfl _ rfl K hK; simp only [Jo.z] at hK ⊢; go_simp; exact hK.out _ _ rfl (br _ _)
    refine Jo.jm rfl ?_ ?_
    · rintro wj hJ _ rfl K hK; simp only [Jo.z] at hK ⊢; go_simp; exact hK.out _ _ rfl (br _ _)
    refine Jo.jm rfl ?_ ?_
    · rintro wj hJ _ rfl K hK; simp only [Jo.z] at hK ⊢; go_simp; exact hK.out _ _ rfl (br _ _)
    refine Jo.jm rfl ?_ ?_
    · rintro wj hJ _ rfl _ rfl K hK; simp only [Jo.z] at hK ⊢; obtain ⟨xX21, xX22, xX23, xX24⟩ := (X2.below hJ).w9; go_simp; exact hK.out _ _ rfl (br _ _)
    refine Jo.jm rfl ?_ ?_
    · rintro wj hJ _ rfl K hK; simp only [Jo.z] at hK ⊢; go_simp; refine (nOf _ (by decide) (by decide) Hi0.out).mono ?_; rintro ee wk ⟨K8, s8, M8, E8, rfl, q8, B⟩; exact hK.out _ _ ⟨K8, s8, M8, E8, rfl, q8⟩ B
    refine Jo.jm rfl ?_ ?_
    · rintro wj hJ _ rfl _ rfl _ ⟨K8, s8, M8, E8, rfl, q8⟩ K hK; simp only [Jo.z] at hK ⊢; go_simp; refine (nCmp (z := 1) a6.top q8.top (by rw [a6.rk, q8.rk]; exact HU.out)).mono ?_; rintro ee wk ⟨rfl, B⟩; exact hK.out _ _ rfl B
    refine Jo.jm rfl ?_ ?_
    · rintro wj hJ _ rfl _ rfl K hK; simp only [Jo.z] at hK ⊢
      skip
      go_simp
      exact hK.out _ _ (by first | rfl | (show Value.bool _ = Value.bool _; simp only [ht])) (br _ _)
    refine Jo.jm rfl ?_ ?_
    · rintro wj hJ _ rfl _ rfl K hK; simp only [Jo.z] at hK ⊢; go_simp; exact hK.out _ _ rfl (br _ _)
    refine Jo.jm rfl ?_ ?_
    · rintro wj hJ _ rfl K hK; simp only [Jo.z] at hK ⊢; go_simp; exact hK.out _ _ rfl (br _ _)
    refine Jo.jm rfl ?_ ?_
    · rintro wj hJ _ rfl K hK; simp only [Jo.z] at hK ⊢; go_simp; refine (kvOf (by decide) (by decide) (by decide) (by decide) Hk1.out Hi2.out Mx1.out).mono ?_; rintro ee wk ⟨e9, K9, s9, M9, E9, K9b, s9b, M9b, E9b, rfl, v9, B⟩; exact hK.out _ _ ⟨e9, K9, s9, M9, E9, K9b, s9b, M9b, E9b, rfl, v9⟩ B
    refine Jo.jm rfl ?_ ?_
    · rintro wj hJ _ rfl _ ⟨e9, K9, s9, M9, E9, K9b, s9b, M9b, E9b, rfl, v9⟩ K hK; simp only [Jo.z] at hK ⊢; go_simp; refine (fkSqr v9.top.1 v9.top.2 v9.rk HSQ.out).mono ?_; rintro ee wk ⟨e10, K10, s10, M10, E10, K10b, s10b, M10b, E10b, rfl, v10, B⟩; exact hK.out _ _ ⟨e10, K10, s10, M10, E10, K10b, s10b, M10b, E10b, rfl, v10⟩ B
    refine Jo.jm rfl ?_ ?_
    · rintro wj hJ _ rfl K hK; simp only [Jo.z] at hK ⊢; go_simp; refine (kvOf (by decide) (by decide) (by decide) (by decide) Hi0.out Hi4.out Mx5.out).mono ?_; rintro ee wk ⟨e11, K11, s11, M11, E11, K11b, s11b, M11b, E11b, rfl, v11, B⟩; exact hK.out _ _ ⟨e11, K11, s11, M11, E11, K11b, s11b, M11b, E11b, rfl, v11⟩ B
    refine Jo.jm rfl ?_ ?_
    · rintro wj hJ _ rfl _ ⟨e10, K10, s10, M10, E10, K10b, s10b, M10b, E10b, rfl, v10⟩ _ ⟨e11, K11, s11, M11, E11, K11b, s11b, M11b, E11b, rfl, v11⟩ K hK; simp only [Jo.z] at hK ⊢; obtain ⟨rfl, rfl, rfl, rfl, rfl, rfl, rfl, rfl, rfl⟩ := v10.uniq v11; go_simp
      exact hK.out _ _ (by first | rfl | (show Value.bool _ = Value.bool _; simp)) (br _ _)
    refine Jo.jm rfl ?_ ?_
    · rintro wj hJ _ rfl _ rfl K hK; simp only [Jo.z] at hK ⊢; go_simp; exact hK.out _ _ rfl (br _ _)
    refine Jo.jm rfl ?_ ?_
    · rintro wj hJ _ rfl K hK; simp only [Jo.z] at hK ⊢; go_simp; exact hK.out _ _ rfl (br _ _)
    exact Jo.Steps.nil
  rintro w9 hJ _ rfl _ ⟨e7, K7, s7, M7, E7, K7b, s7b, M7b, E7b, rfl, v7⟩ _ rfl _ rfl _ _ _ rfl _ rfl _ rfl _ rfl _ _ _ _ _ rfl _ rfl _ rfl _ rfl _ _ _ rfl _ rfl _ rfl _ rfl _ rfl _ _ _ rfl _ ⟨K8, s8, M8, E8, rfl, _⟩ _ rfl _ rfl _ rfl _ rfl _ ⟨e9, K9, s9, M9, E9, K9b, s9b, M9b, E9b, rfl, v9⟩ _ ⟨e10, K10, s10, M10, E10, K10b, s10b, M10b, E10b, rfl, v10⟩ _ ⟨e11, K11, s11, M11, E11, K11b, s11b, M11b, E11b, rfl, v11⟩ _ rfl _ rfl _ rfl -
  simp only [Jo.z]; replace X1 := X1.below hJ; replace X2 := X2.below hJ; replace hT := hT.below hJ; replace HB := Lib.hid (bt HB.out hJ); refine Jo.jdone (by kernel_rfl) ?_; go_wp2
  go_ret
  exact ⟨rfl, HB.out⟩
end Go.Proofs.YteejbcimmmcnlaaGreatDoor

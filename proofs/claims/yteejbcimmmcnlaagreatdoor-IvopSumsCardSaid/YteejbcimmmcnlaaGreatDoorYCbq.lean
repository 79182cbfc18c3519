/-
  Contracts and words that the statement's proof rests on, several texts in one: Fn, Fo, Fk.
-/
import Derived.Below
import Derived.BigQuiet
import Derived.Carry
import Derived.Deep.DeepCutAuto
import Derived.Deep.Draws
import Derived.Deep.MidRow
import Derived.Deep.QuietTactic
import Derived.Deep.RegionHeld3
import Derived.Deep.RegionWith
import Derived.IntWalk
import Derived.Laws.Bits64b
import Derived.Laws.CopyOwn
import Derived.Laws.Externs
import Derived.Laws.MakeOwn
import Derived.Laws.OwnMore
import Derived.Laws.Rows
import Derived.Lib.BitFns
import Derived.Lib.Hide
import Derived.Lib.Mul64
import Derived.Lib.TrailingZeros
import Derived.Maps.AppendAt
import Derived.StillTailTactics
import Derived.Test.YteejbcimmmcnlaaGreatDoorRows
import Derived.WalkKit
import Derived.WalkLawsBesides
import Derived.WalkSpells
import Derived.Test.YteejbcimmmcnlaaGreatDoorYCbf
import Derived.Test.YteejbcimmmcnlaaGreatDoorYCbk
import Derived.Test.YteejbcimmmcnlaaGreatDoorYCbl
import Derived.Test.YteejbcimmmcnlaaGreatDoorYCbn
import Derived.Test.YteejbcimmmcnlaaGreatDoorYCbp
/-
  What every statement of layer 9 begins with: the chapter's examples.
-/
namespace Go.Proofs.YteejbcimmmcnlaaGreatDoor
open Go.RowKit
set_option linter.unusedVariables false
set_option linter.unusedSimpArgs false
set_option maxRecDepth 100000

theorem fin_one9 {K M E r : Int} {s : Bool} (q : Fq K s M E r) (h0 : r ≠ 0) (h1 : -19342822337206103650074625 < r) (h2 : r < 19342822337206103650074625) : K = 1 := by
  rcases q.cases with ⟨rfl, rfl, rfl, rfl, h⟩ | ⟨rfl, _⟩ | ⟨rfl, rfl, rfl, ⟨rfl, h⟩ | ⟨rfl, h⟩⟩
  · omega
  · rfl
  · omega
  · omega
theorem Zi.all {a b : Int} (h1 : -9223372036854775807 ≤ a) (h : a ≤ b) (h2 : b ≤ 9223372036854775807) : mkI (opl a) (opl b) = Zi a b := (Zi.mk h1 h h2).1
set_option maxHeartbeats 8000000 in
theorem awake9 {w : World} {q : Bool → Int → Int → Int} (hT : Tab w) (hq : QF q) : Calls Tryz.prog 10 #[] w (PB w true) := by
  obtain ⟨u, hd, u0, u1, u2⟩ := aw_div hq; have hm := aw_mul; have hs := aw_sqr
  have n4 : opl (-4) ≠ 0 ∧ -19342822337206103650074625 < opl (-4) ∧ opl (-4) < 19342822337206103650074625 := ⟨opl_nz (by decide) (by decide) (by decide), opl_fin (by decide) (by decide)⟩
  have hw : Zi (-4) 8 = some (opl (-4), opl 8) := rfl
  have mx1 := Zi.all (a := (-1)) (b := 2) (by decide) (by decide) (by decide); have mx2 := Zi.all (a := 3) (b := 4) (by decide) (by decide) (by decide); have mx3 := Zi.all (a := (-4)) (b := 8) (by decide) (by decide) (by decide); have mx4 := Zi.all (a := 1) (b := 2) (by decide) (by decide) (by decide); have mx5 := Zi.all (a := 0) (b := 4) (by decide) (by decide) (by decide)
  have ek4 : sgi (decide (((-4) : Int) < 0)) (lo ((-4) : Int).natAbs 0) = opl (-4) := rfl
  have ek1 : sgi (decide (((-1) : Int) < 0)) (lo ((-1) : Int).natAbs 0) = opl (-1) := rfl
  have ei0 : sgi (decide ((0 : Int) < 0)) (lo (0 : Int).natAbs 0) = opl 0 := rfl
  have ei1 : sgi (decide ((1 : Int) < 0)) (lo (1 : Int).natAbs 0) = opl 1 := rfl
  have ei2 : sgi (decide ((2 : Int) < 0)) (lo (2 : Int).natAbs 0) = opl 2 := rfl
  have ei3 : sgi (decide ((3 : Int) < 0)) (lo (3 : Int).natAbs 0) = opl 3 := rfl
  have ei4 : sgi (decide ((4 : Int) < 0)) (lo (4 : Int).natAbs 0) = opl 4 := rfl
  have ei8 : sgi (decide ((8 : Int) < 0)) (lo (8 : Int).natAbs 0) = opl 8 := rfl
  have z0 : opl 0 = 0 := rfl
  generalize opl (-4) = k4 at *; generalize opl (-1) = k1 at *; generalize opl 1 = i1 at *; generalize opl 2 = i2 at *; generalize opl 3 = i3 at *; generalize opl 4 = i4 at *; generalize opl 8 = i8 at *; rw [z0] at *; generalize Zi (-1) 2 = x1 at *; generalize Zi 3 4 = x2 at *; generalize Zi (-4) 8 = x3 at *; generalize Zi 1 2 = x4 at *; generalize Zi 0 4 = x5 at *; subst hw; have Hk4 := Lib.hid ek4
  clear ek4; have Hk1 := Lib.hid ek1; clear ek1; have Hi0 := Lib.hid ei0; clear ei0; have Hi1 := Lib.hid ei1; clear ei1; have Hi2 := Lib.hid ei2; clear ei2; have Hi3 := Lib.hid ei3; clear ei3; have Hi4 := Lib.hid ei4; clear ei4; have Hi8 := Lib.hid ei8; clear ei8; have Mx1 := Lib.hid mx1; clear mx1; have Mx2 := Lib.hid mx2; clear mx2; have Mx3 := Lib.hid mx3; clear mx3; have Mx4 := Lib.hid mx4; clear mx4
  have Mx5 := Lib.hid mx5; clear mx5; have HD := Lib.hid hd; have HMU := Lib.hid hm; have HSQ := Lib.hid hs
  have HU : Hid (cmpI u 0 = 1) := Lib.hid (by rcases cmpI_tri u 0 with ⟨a, b⟩ | ⟨a, b⟩ | ⟨a, b⟩ <;> omega)
  have HQ := Lib.hid hq; have HN := Lib.hid n4; clear hd hm hs hq n4 z0 u0 u1 u2
  go_enter Tryz.func10, Tryz.ntmps10
  have HB := Lib.hid (Below.refl w.heap.size w)
  go_wp2_with fail
  refine (kvOf (by decide) (by decide) (by decide) (by decide) Hk1.out Hi2.out Mx1.out).mono ?_; rintro ee w1 ⟨e1, K1, s1, M1, E1, K1b, s1b, M1b, E1b, rfl, v1, B⟩; replace hT := hT.below B; replace HB := Lib.hid (bt HB.out B); clear B
  go_wp2_with fail
  refine (kvOf (by decide) (by decide) (by decide) (by decide) Hi3.out Hi4.out Mx2.out).mono ?_; rintro ee w2 ⟨e2, K2, s2, M2, E2, K2b, s2b, M2b, E2b, rfl, v2, B⟩; replace hT := hT.below B; replace HB := Lib.hid (bt HB.out B); clear B
  go_wp2_with fail
  refine (fkMul v1.top.1 v1.top.2 v2.top.1 v2.top.2 v1.rk v2.rk HMU.out).mono ?_; rintro ee w3 ⟨e3, K3, s3, M3, E3, K3b, s3b, M3b, E3b, rfl, v3, B⟩; replace hT := hT.below B; replace HB := Lib.hid (bt HB.out B); clear B; clear v1 v2; obtain ⟨rfl, a3, b3, o3a, o3l, o3h⟩ := v3
  obtain rfl : K3 = 1 := fin_one9 a3 HN.out.1 HN.out.2.1 HN.out.2.2
  go_upto_region 2 with (fail)
  have lX1 := Nat.le_refl (World.heap w3).size; generalize hWn : w3.alloc _ = w4 at *; obtain ⟨X1, BW⟩ := Bo.nw hWn; clear hWn; replace hT := hT.below BW; replace HB := Lib.hid (bt HB.out BW); clear BW; clear lX1
  have v3 : Ci false 1 s3 M3 E3 K3b s3b M3b E3b (some (k4, i8)) := ⟨rfl, a3, b3, o3a, o3l, o3h⟩
  clear a3 b3 o3a o3l o3h
  go_wp2_with fail
  refine (kvOf (by decide) (by decide) (by decide) (by decide) Hi1.out Hi2.out Mx4.out).mono ?_; rintro ee w5 ⟨e4, K4, s4, M4, E4, K4b, s4b, M4b, E4b, rfl, v4, B⟩; replace X1 := X1.below B; replace hT := hT.below B; replace HB := Lib.hid (bt HB.out B); clear B
  go_wp2_with fail
  refine (kvOf (by decide) (by decide) (by decide) (by decide) Hi0.out Hi4.out Mx5.out).mono ?_; rintro ee w6 ⟨e5, K5, s5, M5, E5, K5b, s5b, M5b, E5b, rfl, v5, B⟩; replace X1 := X1.below B; replace hT := hT.below B; replace HB := Lib.hid (bt HB.out B); clear B
  go_wp2_with fail
  refine (fkDiv hT HQ.out v4.top.1 v4.top.2 v5.top.1 v5.top.2 v4.rk v5.rk HD.out).mono ?_; rintro ee w7 ⟨e6, K6, s6, M6, E6, K6b, s6b, M6b, E6b, rfl, v6, B⟩; replace X1 := X1.below B; replace hT := hT.below B; replace HB := Lib.hid (bt HB.out B); clear B; clear v4 v5; obtain ⟨rfl, a6, b6, _, _, _⟩ := v6; obtain ⟨rfl, rfl, rfl, rfl⟩ := b6.uniq (fq_inf2 false)
  go_upto_region 3 with (fail)
  have lX2 := Nat.le_refl (World.heap w7).size; have nX2X1 := X1.lt; generalize hWn : w7.alloc _ = w8 at *; obtain ⟨X2, BW⟩ := Bo.nw hWn; clear hWn; replace X1 := X1.below BW; replace hT := hT.below BW; replace HB := Lib.hid (bt HB.out BW); clear BW; clear lX2; refine Jo.rk [0, 1, 2, 3, 4, 5, 6, 7, 8, 9, 10, 11, 12, 13, 14, 15, 16, 17, 18, 19, 20, 21, 22, 23, 24, 25, 26, 27, 28, 29, 30, 31, 32, 33] [some 9, some 10, some 11, some 12, some 13, some 14, some 15, some 16, some 17, some 18, some 19, some 20, some 21, some 22, some 23, some 24, some 25, some 26, some 27, some 28, some 29, some 30, some 31, some 32, some 33, some 34, some 35, some 36, some 37, some 38, some 39, some 40, some 41, some 0] [[], [], [0, 1], [2], [3], [3, 4], [3, 5], [3, 6], [7], [8], [8, 9], [8, 10], [8, 11], [8, 12], [13], [14], [14, 15], [14], [14, 16, 17], [14, 18], [19], [20], [20, 21], [20], [20, 22, 23], [20, 24], [20, 25], [26], [27], [27, 28], [27], [27, 29, 30], [27, 31], [32]] 34 0 [Jo.q9 false 1 s3 M3 E3 K3b s3b M3b E3b, Jo.Fact.iv (some (k4, i8)), Jo.qb true, Jo.qb true, Jo.qp w3.heap.size 0, Jo.qb false, Jo.qb true, Jo.qb true, Jo.qb true, Jo.qp w3.heap.size 1, Jo.qp w3.heap.size 1, Jo.qi 1, Jo.qb true, Jo.qb true, Jo.qb true, Jo.qp w7.heap.size 5, Jo.q4 2 false 0 0, Jo.q4 2 false 0 0, Jo.qb true, Jo.qb true, Jo.qb true, Jo.qp w7.heap.size 1, Jo.q4 K6 s6 M6 E6, Jo.Fact.num 0, Jo.qi 1, Jo.qb true, Jo.qb true, Jo.qb true, Jo.Fact.iv x1, Jo.Fact.iv x5, Jo.Fact.iv x5, Jo.qb true, Jo.qb true, Jo.qb true] (by kernel_rfl) (by kernel_rfl) (by decide) rfl ?_ ?_
  · refine Jo.jm rfl ?_ ?_
    · rintro wj hJ K hK; simp only [Jo.z] at hK ⊢; obtain ⟨xX10, xX11, xX12, xX13, xX14, xX15, xX16, xX17, xX18⟩ := (X1.below hJ).u9; go_simp; exact hK.out _ _ rfl (br _ _)
    refine Jo.jm rfl ?_ ?_
    · rintro wj hJ K hK; simp only [Jo.z] at hK ⊢; go_simp; refine (kvOf (by decide) (by decide) (by decide) (by decide) Hk4.out Hi8.out Mx3.out).mono ?_; rintro ee wk ⟨e7, K7, s7, M7, E7, K7b, s7b, M7b, E7b, rfl, v7, B⟩; exact hK.out _ _ ⟨e7, K7, s7, M7, E7, K7b, s7b, M7b, E7b, rfl, v7⟩ B
    refine Jo.jm rfl ?_ ?_
    · rintro wj hJ _ rfl _ ⟨e7, K7, s7, M7, E7, K7b, s7b, M7b, E7b, rfl, v7⟩ K hK; simp only [Jo.z] at hK ⊢; obtain ⟨rfl, rfl, rfl, rfl, rfl, rfl, rfl, rfl, rfl⟩ := v3.uniq v7; go_simp
      exact hK.out _ _ (by first | rfl | (show Value.bool _ = Value.bool _; simp)) (br _ _)
    refine Jo.jm rfl ?_ ?_
    · rintro wj hJ _ rfl K hK; simp only [Jo.z] at hK ⊢; go_simp; exact hK.out _ _ rfl (br _ _)
    refine Jo.jm rfl ?_ ?_
    · rintro wj hJ _ rfl K hK; simp only [Jo.z] at hK ⊢; go_simp; exact hK.out _ _ rfl (br _ _)
    refine Jo.jm rfl ?_ ?_
    · rintro wj hJ _ rfl _ rfl K hK; simp only [Jo.z] at hK ⊢; have xX10 := (X1.below hJ).a 0 (.bool false) rfl; go_simp; exact hK.out _ _ rfl (br _ _)
    refine Jo.jm rfl ?_ ?_
    · rintro wj hJ _ rfl _ rfl K hK; simp only [Jo.z] at hK ⊢; go_simp; exact hK.out _ _ rfl (br _ _)
    refine Jo.jm rfl ?_ ?_
    · rintro wj hJ _ rfl _ rfl K hK; simp only [Jo.z] at hK ⊢; go_simp; exact hK.out _ _ rfl (br _ _)
    refine Jo.jm rfl ?_ ?_
    · rintro wj hJ _ rfl K hK; simp only [Jo.z] at hK ⊢; go_simp; exact hK.out _ _ rfl (br _ _)
    refine Jo.jm rfl ?_ ?_
    · rintro wj hJ _ rfl K hK; simp only [Jo.z] at hK ⊢; go_simp; exact hK.out _ _ rfl (br _ _)
    refine Jo.jm rfl ?_ ?_
    · rintro wj hJ _ rfl _ rfl K hK; simp only [Jo.z] at hK ⊢; go_simp; exact hK.out _ _ rfl (br _ _)
    refine Jo.jm rfl ?_ ?_
    · rintro wj hJ _ rfl _ rfl K hK; simp only [Jo.z] at hK ⊢; have xX11 := (X1.below hJ).a 1 (.int .i64 1) rfl; go_simp; exact hK.out _ _ rfl (br _ _)
    refine Jo.jm rfl ?_ ?_
    · rintro wj hJ _ rfl _ rfl K hK; simp only [Jo.z] at hK ⊢; go_simp; exact hK.out _ _ rfl (br _ _)
    refine Jo.jm rfl ?_ ?_
    · rintro wj hJ _ rfl _ rfl K hK; simp only [Jo.z] at hK ⊢; go_simp; exact hK.out _ _ rfl (br _ _)
    refine Jo.jm rfl ?_ ?_
    · rintro wj hJ _ rfl K hK; simp only [Jo.z] at hK ⊢; go_simp; exact hK.out _ _ rfl (br _ _)
    refine Jo.jm rfl ?_ ?_
    · rintro wj hJ _ rfl K hK; simp only [Jo.z] at hK ⊢; go_simp; exact hK.out _ _ rfl (br _ _)
    refine Jo.jm rfl ?_ ?_
    · rintro wj hJ _ rfl _ rfl K hK; simp only [Jo.z] at hK ⊢; obtain ⟨xX25, xX26, xX27, xX28⟩ := (X2.below hJ).v9; go_simp; exact hK.out _ _ rfl (br _ _)
    refine Jo.jm rfl ?_ ?_
    · rintro wj hJ _ rfl K hK; simp only [Jo.z] at hK ⊢; go_simp; refine (nInfE false).mono ?_; rintro ee wk ⟨rfl, B⟩; exact hK.out _ _ rfl B
    refine Jo.jm rfl ?_ ?_
    · rintro wj hJ _ rfl _ rfl _ rfl K hK; simp only [Jo.z] at hK ⊢; go_simp
      exact hK.out _ _ (by first | rfl | (show Value.bool _ = Value.bool _; simp)) (br _ _)
    refine Jo.jm rfl ?_ ?_
    · rintro wj hJ _ rfl _ rfl K hK; simp only [Jo.z] at hK ⊢; go_simp; exact hK.out _ _ rfl (br _ _)
    refine Jo.jm rfl ?_ ?_
    · rintro wj hJ _ rfl K hK; simp only [Jo.z] at hK ⊢; go_simp; exact hK.out _ _ rfl (br _ _)
    refine Jo.jm rfl ?_ ?_
    · rintro wj hJ _ rfl K hK; simp only [Jo.z] at hK ⊢; go_simp; exact hK.out _ _ rfl (br _ _)
    refine Jo.jm rfl ?_ ?_
    · rintro wj hJ _ rfl _ rfl K hK; simp only [Jo.z] at hK ⊢; obtain ⟨xX21, xX22, xX23, xX24⟩ := (X2.below hJ).w9; go_simp; exact hK.out _ _ rfl (br _ _)
    refine Jo.jm rfl ?_ ?_
    · rintro wj hJ _ rfl K hK; simp only [Jo.z] at hK ⊢; go_simp; refine (nOf _ (by decide) (by decide) Hi0.out).mono ?_; rintro ee wk ⟨K8, s8, M8, E8, rfl, q8, B⟩; exact hK.out _ _ ⟨K8, s8, M8, E8, rfl, q8⟩ B
    refine Jo.jm rfl ?_ ?_
    · rintro wj hJ _ rfl _ rfl _ ⟨K8, s8, M8, E8, rfl, q8⟩ K hK; simp only [Jo.z] at hK ⊢; go_simp; refine (nCmp (z := 1) a6.top q8.top (by rw [a6.rk, q8.rk]; exact HU.out)).mono ?_; rintro ee wk ⟨rfl, B⟩; exact hK.out _ _ rfl B
    refine Jo.jm rfl ?_ ?_
    · rintro wj hJ _ rfl _ rfl K hK; simp only [Jo.z] at hK ⊢
      skip
      go_simp
      exact hK.out _ _ (by first | rfl | (show Value.bool _ = Value.bool _; simp only [ht])) (br _ _)
    refine Jo.jm rfl ?_ ?_
    · rintro wj hJ _ rfl _ rfl K hK; simp only [Jo.z] at hK ⊢; go_simp; exact hK.out _ _ rfl (br _ _)
    refine Jo.jm rfl ?_ ?_
    · rintro wj hJ _ rfl K hK; simp only [Jo.z] at hK ⊢; go_simp; exact hK.out _ _ rfl (br _ _)
    refine Jo.jm rfl ?_ ?_
    · rintro wj hJ _ rfl K hK; simp only [Jo.z] at hK ⊢; go_simp; refine (kvOf (by decide) (by decide) (by decide) (by decide) Hk1.out Hi2.out Mx1.out).mono ?_; rintro ee wk ⟨e9, K9, s9, M9, E9, K9b, s9b, M9b, E9b, rfl, v9, B⟩; exact hK.out _ _ ⟨e9, K9, s9, M9, E9, K9b, s9b, M9b, E9b, rfl, v9⟩ B
    refine Jo.jm rfl ?_ ?_
    · rintro wj hJ _ rfl _ ⟨e9, K9, s9, M9, E9, K9b, s9b, M9b, E9b, rfl, v9⟩ K hK; simp only [Jo.z] at hK ⊢; go_simp; refine (fkSqr v9.top.1 v9.top.2 v9.rk HSQ.out).mono ?_; rintro ee wk ⟨e10, K10, s10, M10, E10, K10b, s10b, M10b, E10b, rfl, v10, B⟩; exact hK.out _ _ ⟨e10, K10, s10, M10, E10, K10b, s10b, M10b, E10b, rfl, v10⟩ B
    refine Jo.jm rfl ?_ ?_
    · rintro wj hJ _ rfl K hK; simp only [Jo.z] at hK ⊢; go_simp; refine (kvOf (by decide) (by decide) (by decide) (by decide) Hi0.out Hi4.out Mx5.out).mono ?_; rintro ee wk ⟨e11, K11, s11, M11, E11, K11b, s11b, M11b, E11b, rfl, v11, B⟩; exact hK.out _ _ ⟨e11, K11, s11, M11, E11, K11b, s11b, M11b, E11b, rfl, v11⟩ B
    refine Jo.jm rfl ?_ ?_
    · rintro wj hJ _ rfl _ ⟨e10, K10, s10, M10, E10, K10b, s10b, M10b, E10b, rfl, v10⟩ _ ⟨e11, K11, s11, M11, E11, K11b, s11b, M11b, E11b, rfl, v11⟩ K hK; simp only [Jo.z] at hK ⊢; obtain ⟨rfl, rfl, rfl, rfl, rfl, rfl, rfl, rfl, rfl⟩ := v10.uniq v11; go_simp
      exact hK.out _ _ (by first | rfl | (show Value.bool _ = Value.bool _; simp)) (br _ _)
    refine Jo.jm rfl ?_ ?_
    · rintro wj hJ _ rfl _ rfl K hK; simp only [Jo.z] at hK ⊢; go_simp; exact hK.out _ _ rfl (br _ _)
    refine Jo.jm rfl ?_ ?_
    · rintro wj hJ _ rfl K hK; simp only [Jo.z] at hK ⊢; go_simp; exact hK.out _ _ rfl (br _ _)
    exact Jo.Steps.nil
  rintro w9 hJ _ rfl _ ⟨e7, K7, s7, M7, E7, K7b, s7b, M7b, E7b, rfl, v7⟩ _ rfl _ rfl _ _ _ rfl _ rfl _ rfl _ rfl _ _ _ _ _ rfl _ rfl _ rfl _ rfl _ _ _ rfl _ rfl _ rfl _ rfl _ rfl _ _ _ rfl _ ⟨K8, s8, M8, E8, rfl, _⟩ _ rfl _ rfl _ rfl _ rfl _ ⟨e9, K9, s9, M9, E9, K9b, s9b, M9b, E9b, rfl, v9⟩ _ ⟨e10, K10, s10, M10, E10, K10b, s10b, M10b, E10b, rfl, v10⟩ _ ⟨e11, K11, s11, M11, E11, K11b, s11b, M11b, E11b, rfl, v11⟩ _ rfl _ rfl _ rfl -
  simp only [Jo.z]; replace X1 := X1.below hJ; replace X2 := X2.below hJ; replace hT := hT.below hJ; replace HB := Lib.hid (bt HB.out hJ); refine Jo.jdone (by kernel_rfl) ?_; go_wp2
  go_ret
  exact ⟨rfl, HB.out⟩
end Go.Proofs.YteejbcimmmcnlaaGreatDoor

/-
  What peloruslaw08.Few tells of an interval.
-/
namespace Go.Proofs.YteejbcimmmcnlaaGreatDoor
open Go.RowKit
set_option linter.unusedVariables false
set_option linter.unusedSimpArgs false
set_option maxRecDepth 100000

set_option maxHeartbeats 1000000 in
theorem kvFew9 {w : World} {e0 : Bool} {D0 M0 E0 G0 P0 Q0 : Int} {s0 g0 r : Bool} (hr : (fewq D0 E0 && fewq G0 Q0) = r) : Calls Tryz.prog 11 #[.agg #[.bool e0, .int .i64 D0, .bool s0, .int .u64 M0, .int .i64 E0, .int .i64 G0, .bool g0, .int .u64 P0, .int .i64 Q0]] w (PB w r) := by
  obtain ⟨p, hp⟩ : ∃ p, fewq D0 E0 = p := ⟨_, rfl⟩; obtain ⟨q, hq⟩ : ∃ q, fewq G0 Q0 = q := ⟨_, rfl⟩; rw [hp, hq] at hr; have HP := Lib.hid hp; have HQ := Lib.hid hq; clear hp hq
  go_enter Tryz.func11, Tryz.ntmps11
  go_upto_region 1 with (fail)
  generalize hW1 : w.alloc _ = w1 at *; obtain ⟨X1, HB⟩ := Bo.en1 hW1; clear hW1; obtain ⟨xX10, xX11, xX12, xX13, xX14, xX15, xX16, xX17, xX18⟩ := X1.u9
  go_wp2_with fail
  refine (aFew HP.out).mono ?_; rintro ee w2 ⟨rfl, B⟩; clear xX10 xX11 xX12 xX13 xX14 xX15 xX16 xX17 xX18; replace X1 := X1.below B; replace HB := Lib.hid (bt HB.out B); clear B; obtain ⟨xX10, xX11, xX12, xX13, xX14, xX15, xX16, xX17, xX18⟩ := X1.u9
  go_wp2_with fail
  refine (aFew HQ.out).mono ?_; rintro ee w3 ⟨rfl, B⟩; clear xX10 xX11 xX12 xX13 xX14 xX15 xX16 xX17 xX18; replace X1 := X1.below B; replace HB := Lib.hid (bt HB.out B); clear B
  cases p
  · obtain rfl : false = r := hr
    go_wp2
    go_ret
    exact ⟨rfl, HB.out⟩
  · obtain rfl : q = r := hr
    go_wp2
    go_ret
    exact ⟨rfl, HB.out⟩
theorem rkI_fz {e : Bool} {K M E K' M' E' : Int} {s s' : Bool} (hM : M < 18446744073709551616) (hM' : M' < 18446744073709551616) (h : (fewq K E && fewq K' E') = true) : FzI (rkI e K s M E K' s' M' E') 1600 := by
  rw [Bool.and_eq_true] at h; have f1 := few_fz (s := s) hM h.1; have f2 := few_fz (s := s') hM' h.2
  intro a b hab
  cases e
  · rw [rkI_f] at hab
    split at hab
    · exact FzI.mk f1 f2 a b hab
    · cases hab
  · cases hab
end Go.Proofs.YteejbcimmmcnlaaGreatDoor

/-
  What the document's sum of many intervals is.
-/
namespace Go.Proofs.YteejbcimmmcnlaaGreatDoor
open Go.RowKit
set_option linter.unusedVariables false
set_option linter.unusedSimpArgs false
set_option maxRecDepth 100000

set_option maxHeartbeats 4000000 in
theorem fwAdd0 {w : World} {A : Option Addr} {c : Nat} {z : Sp} (hr : some (0, 0) = z) : Calls Tryz.prog 13 #[.slice A 0 c] w (PV w z) := by
  have hz : mkI 0 0 = z := by rw [← hr]; decide
  have HZ := Lib.hid hz; clear hz hr
  go_enter Tryz.func13, Tryz.ntmps13
  go_upto_region 1 with (fail)
  generalize hW1 : w.alloc _ = w1 at *; obtain ⟨XR, HB⟩ := Bo.en1 hW1; clear hW1
  go_wp2_with fail
  refine (jvPoint (by decide) Fq.nought.rk HZ.out).mono ?_; rintro ee w2 ⟨e1, K1, s1, M1, E1, K1b, s1b, M1b, E1b, rfl, v1, B⟩; replace XR := XR.below B; replace HB := Lib.hid (bt HB.out B); clear B; obtain ⟨xXR0, xXR1, xXR2, xXR3, xXR4, xXR5, xXR6, xXR7, xXR8⟩ := XR.u9; have zXR0 := XR.frozen; go_wp2; clear xXR0 zXR0 xXR1 xXR2 xXR3 xXR4 xXR5 xXR6 xXR7 xXR8; have SX := StN.mk9 XR (.bool e1) (.int .i64 K1) (.bool s1) (.int .u64 M1) (.int .i64 E1) (.int .i64 K1b) (.bool s1b) (.int .u64 M1b) (.int .i64 E1b)
  exact bodyPost_ret (by simp [results, Tryz.results13, go_sem, SX.box.cell]) rfl ⟨_, _, _, _, _, _, _, _, _, rfl, v1, (SX.below HB.out (by omega))⟩
set_option maxHeartbeats 4000000 in
theorem fwAdd1 {w : World} {A : Option Addr} {n c : Nat} {l : List Sp} {z : Sp} (h : Il8 w A n c l) (h0 : 0 < n) (hn : NearI l) (hr : addL l = z) : Calls Tryz.prog 13 #[.slice A n c] w (PV w z) := by
  have HR := Lib.hid hr; have HLn := Lib.hid h.1; have HN := Lib.hid hn; have hcap := h.2.1; have hbig := h.2.2.1; have hD0 := h
  have hne : ((n : Int) == 0) = false := by simp; omega
  clear hr hn
  go_enter Tryz.func13, Tryz.ntmps13
  go_upto_region 1 with (fail)
  generalize hW1 : w.alloc _ = w1 at *; obtain ⟨XR, HB⟩ := Bo.en1 hW1; replace h := h.below HB.out; clear hW1; obtain ⟨b, o, rfl, hcell⟩ := h.2.2.2 h0; obtain ⟨e, D, s, M, E, D', s', M', E', c0, c1, c2, c3, c4, c5, c6, c7, c8, hM, hM', hx⟩ := hcell 0 h0; clear hcell
  have i1 : (0 : Int) < n := by omega
  obtain ⟨x, hX⟩ : ∃ x, rkI e D s M E D' s' M' E' = x := ⟨_, rfl⟩
  have hst : addL (l.take 1) = x := by rw [addL_one (by rw [HLn.out]; exact h0), ← hx]; exact hX
  have HX := Lib.hid hX; have HST := Lib.hid hst; clear hX hx hst; simp only [Nat.zero_mul, Nat.add_zero] at c0 c1 c2 c3 c4 c5 c6 c7 c8
  go_wp2_with fail
  refine (jvFair hM hM' HX.out).mono ?_; rintro ee w2 ⟨e1, K1, s1, M1, E1, K1b, s1b, M1b, E1b, rfl, v1, B⟩; replace XR := XR.below B; replace h := h.below B; replace HB := Lib.hid (bt HB.out B); clear B; clear c0 c1 c2 c3 c4 c5 c6 c7 c8 HX hM hM' i1
  go_upto_region 4 with (fail)
  have lX3 := Nat.le_refl (World.heap w2).size; have nX3XR := XR.lt; generalize hWn : w2.alloc _ = w3 at *; obtain ⟨X3, BW⟩ := Bo.nw hWn; clear hWn; replace XR := XR.below BW; replace h := h.below BW; replace HB := Lib.hid (bt HB.out BW); clear BW
  have gne : w.heap.size < w2.heap.size := nX3XR
  clear lX3 nX3XR; generalize w2.heap.size = g3 at *
  have HI0 := Lib.hid (show IvInv w g3 (addL (l.take 1)) w3 from ⟨_, _, _, _, _, _, _, _, _, XR, X3, HST.out ▸ v1, HB.out⟩)
  clear XR X3 v1 h HST HB; go_wp2
  go_loopw [4] (fun i wr => ∃ k : Nat, 0 < k ∧ k ≤ n ∧ i = .int .i64 k ∧ IvInv w g3 (addL (l.take k)) wr) (fun i _ => n - (intOf i).toNat)
  case atStart => exact ⟨1, by decide, h0, rfl, HI0.out⟩
  case round =>
    obtain ⟨k, hk0, hk, rfl, e1, K1, s1, M1, E1, K1b, s1b, M1b, E1b, XR, X3, v1, hB⟩ := hrel; have HB := Lib.hid hB; clear hB HI0
    by_cases hlt : k < n
    · have tlt : decide ((k : Int) < (n : Int)) = true := by simp; omega
      have h := hD0.below HB.out; obtain ⟨b', o', hp, hcell⟩ := h.2.2.2 (by omega)
      obtain ⟨rfl, rfl⟩ : b' = b ∧ o' = o := by injection hp with h; injection h with h1 h2; exact ⟨h1.symm, h2.symm⟩
      obtain ⟨e, D, s, M, E, D', s', M', E', c0, c1, c2, c3, c4, c5, c6, c7, c8, hM, hM', hx⟩ := hcell k hlt; clear hcell h hD0 hp
      have i1 : (k : Int) < n := by omega
      have i2 : (0 : Int) ≤ k := by omega
      have hst := addL_take (l := l) (k := k) hk0 (by rw [HLn.out]; exact hlt); have hnr := HN.out k hk0 (by rw [HLn.out]; exact hlt); rw [← hx] at hst hnr; generalize addL (l.take k) = R at *; obtain ⟨x, hX⟩ : ∃ x, rkI e D s M E D' s' M' E' = x := ⟨_, rfl⟩; rw [hX] at hst hnr; obtain ⟨r2, hr2⟩ : ∃ r2, addI R x = r2 := ⟨_, rfl⟩; rw [hr2] at hst; have HX := Lib.hid hX; have HST := Lib.hid hst; have HAD := Lib.hid hr2
      have HNR := Lib.hid hnr; clear hst hX hx hr2 hnr
      go_upto_region 7 with (fail)
      refine Jo.rk [0, 1, 2, 3, 4, 5] [some 20, some 21, some 22, some 23, some 24, some 25, none] [[], [], [], [1, 2], [3], [0, 4], []] 7 1 [Jo.q9 e1 K1 s1 M1 E1 K1b s1b M1b E1b, Jo.Fact.eq (.slice (some ⟨b', o', none⟩) n c), Jo.qi k, Jo.Fact.eq (.pointer (some ⟨b', o' + k * 9, none⟩)), Jo.q9 e D s M E D' s' M' E', Jo.Fact.iv r2, Jo.Fact.any] (by kernel_rfl) (by kernel_rfl) (by decide) rfl ?_ ?_
      · refine Jo.jm rfl ?_ ?_
        · rintro wj hJ K hK; simp only [Jo.z] at hK ⊢; obtain ⟨xX30, xX31, xX32, xX33, xX34, xX35, xX36, xX37, xX38⟩ := (X3.below hJ).u9; go_simp; exact hK.out _ _ rfl (br _ _)
        refine Jo.jm rfl ?_ ?_
        · rintro wj hJ K hK; simp only [Jo.z] at hK ⊢; go_simp; exact hK.out _ _ rfl (br _ _)
        refine Jo.jm rfl ?_ ?_
        · rintro wj hJ K hK; simp only [Jo.z] at hK ⊢; go_simp; exact hK.out _ _ rfl (br _ _)
        refine Jo.jm rfl ?_ ?_
        · rintro wj hJ _ rfl _ rfl K hK; simp only [Jo.z] at hK ⊢; go_simp; exact hK.out _ _ rfl (br _ _)
        refine Jo.jm rfl ?_ ?_
        · rintro wj hJ _ rfl K hK; simp only [Jo.z] at hK ⊢
          have c0' := (hJ.cell (p := ⟨b', _, none⟩) (block_lt_of_cell c0)).trans c0
          have c1' := (hJ.cell (p := ⟨b', _, none⟩) (block_lt_of_cell c1)).trans c1
          have c2' := (hJ.cell (p := ⟨b', _, none⟩) (block_lt_of_cell c2)).trans c2
          have c3' := (hJ.cell (p := ⟨b', _, none⟩) (block_lt_of_cell c3)).trans c3
          have c4' := (hJ.cell (p := ⟨b', _, none⟩) (block_lt_of_cell c4)).trans c4
          have c5' := (hJ.cell (p := ⟨b', _, none⟩) (block_lt_of_cell c5)).trans c5
          have c6' := (hJ.cell (p := ⟨b', _, none⟩) (block_lt_of_cell c6)).trans c6
          have c7' := (hJ.cell (p := ⟨b', _, none⟩) (block_lt_of_cell c7)).trans c7
          have c8' := (hJ.cell (p := ⟨b', _, none⟩) (block_lt_of_cell c8)).trans c8
          go_simp; exact hK.out _ _ rfl (br _ _)
        refine Jo.jm rfl ?_ ?_
        · rintro wj hJ _ rfl _ rfl K hK; simp only [Jo.z] at hK ⊢; go_simp; refine (fwTwo v1.top.1 v1.top.2 hM hM' v1.rk HX.out HNR.out HAD.out).mono ?_; rintro ee wk ⟨e2, K2, s2, M2, E2, K2b, s2b, M2b, E2b, rfl, v2, B⟩; exact hK.out _ _ ⟨e2, K2, s2, M2, E2, K2b, s2b, M2b, E2b, rfl, v2⟩ B
        exact Jo.Steps.nil
      rintro w4 hJ _ rfl _ rfl _ rfl _ _ _ rfl _ ⟨e2, K2, s2, M2, E2, K2b, s2b, M2b, E2b, rfl, v2⟩ -; simp only [Jo.z]; replace XR := XR.below hJ; replace X3 := X3.below hJ; replace HB := Lib.hid (bt HB.out hJ); obtain ⟨xX30, xX31, xX32, xX33, xX34, xX35, xX36, xX37, xX38⟩ := X3.u9; have zX30 := X3.frozen
      refine Jo.jnext (i := 6) (o := ⟨none, _, _, _, _, _⟩) (by kernel_rfl) rfl (fun K hK => ?_)
      go_simp; refine hK.out _ _ ?_; clear hK K xX30 zX30 xX31 xX32 xX33 xX34 xX35 xX36 xX37 xX38; generalize hS : ((((((((w4.setCell _ _).setCell _ _).setCell _ _).setCell _ _).setCell _ _).setCell _ _).setCell _ _).setCell _ _).setCell _ _ = w5 at *; have SX := StN.of9 X3 hS; replace XR := XR.stn SX (by omega); replace HB := Lib.hid (SX.below HB.out (by omega)); replace X3 := SX.box; clear SX hS
      refine Jo.jdone (by kernel_rfl) ?_; go_wp2
      go_roundw
      case rel =>
        refine ⟨k + 1, by omega, by omega, by go_num, e2, K2, s2, M2, E2, K2b, s2b, M2b, E2b, XR, X3, ?_, HB.out⟩
        rw [HST.out]; exact v2
      case measure => simp [intOf]; omega
    · obtain rfl : k = n := by omega
      rw [List.take_of_length_le (by rw [HLn.out]; omega), HR.out] at v1
      have tlt : decide ((k : Int) < (k : Int)) = false := by simp
      obtain ⟨xXR0, xXR1, xXR2, xXR3, xXR4, xXR5, xXR6, xXR7, xXR8⟩ := XR.u9; have zXR0 := XR.frozen; obtain ⟨xX30, xX31, xX32, xX33, xX34, xX35, xX36, xX37, xX38⟩ := X3.u9; go_wp2; clear xXR0 zXR0 xXR1 xXR2 xXR3 xXR4 xXR5 xXR6 xXR7 xXR8 xX30 xX31 xX32 xX33 xX34 xX35 xX36 xX37 xX38; have SX := StN.mk9 XR (.bool e1) (.int .i64 K1) (.bool s1) (.int .u64 M1) (.int .i64 E1) (.int .i64 K1b) (.bool s1b) (.int .u64 M1b) (.int .i64 E1b)
      exact bodyPost_ret (by simp [results, Tryz.results13, go_sem, SX.box.cell]) rfl ⟨_, _, _, _, _, _, _, _, _, rfl, v1, (SX.below HB.out (by omega))⟩
theorem fwAdd {w : World} {A : Option Addr} {n c : Nat} {l : List Sp} {z : Sp} (h : Il8 w A n c l) (hn : NearI l) (hr : addL l = z) : Calls Tryz.prog 13 #[.slice A n c] w (PV w z) := by
  by_cases h0 : n = 0
  · subst h0
    have e : l = [] := List.eq_nil_of_length_eq_zero h.1
    subst e; exact fwAdd0 hr
  · exact fwAdd1 h (by omega) hn hr
end Go.Proofs.YteejbcimmmcnlaaGreatDoor

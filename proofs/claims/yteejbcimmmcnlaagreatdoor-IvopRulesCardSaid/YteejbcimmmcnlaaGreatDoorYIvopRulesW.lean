/-
  The walk of IvopRules: for all arguments the call answers true, and nothing that was there has turned.
-/
import Derived.Below
import Derived.BigQuiet
import Derived.Carry
import Derived.Deep.DeepCutAuto
import Derived.Deep.Draws
import Derived.Deep.MidRow
import Derived.Deep.QuietTactic
import Derived.Deep.RegionHeld3
import Derived.Deep.RegionWith
import Derived.IntWalk
import Derived.Laws.Bits64b
import Derived.Laws.CopyOwn
import Derived.Laws.Externs
import Derived.Laws.MakeOwn
import Derived.Laws.OwnMore
import Derived.Laws.Rows
import Derived.Lib.BitFns
import Derived.Lib.Hide
import Derived.Lib.Mul64
import Derived.Lib.TrailingZeros
import Derived.Maps.AppendAt
import Derived.StillTailTactics
import Derived.Test.YteejbcimmmcnlaaGreatDoorRows
import Derived.WalkKit
import Derived.WalkLawsBesides
import Derived.WalkSpells
import Derived.Test.YteejbcimmmcnlaaGreatDoorYBbl
import Derived.Test.YteejbcimmmcnlaaGreatDoorYBbm
import Derived.Test.YteejbcimmmcnlaaGreatDoorYBbp
import Derived.Test.YteejbcimmmcnlaaGreatDoorYBbr
import Derived.Test.YteejbcimmmcnlaaGreatDoorYBbs
namespace Go.Proofs.YteejbcimmmcnlaaGreatDoor
open Go.RowKit
set_option linter.unusedVariables false
set_option linter.unusedSimpArgs false
set_option maxRecDepth 100000

set_option maxHeartbeats 8000000 in
theorem ivopRules_no (e0 : Bool) (D0 : Int) (s0 : Bool) (M0 E0 G0 : Int) (g0 : Bool) (P0 Q0 : Int) (e1 : Bool) (D1 : Int) (s1 : Bool) (M1 E1 G1 : Int) (g1 : Bool) (P1 Q1 : Int) (w : World) (p r : Bool) {q : Bool → Int → Int → Int} (hq : QF q) (hT : Tab w) (u0 : M0 < 18446744073709551616) (v0 : P0 < 18446744073709551616) (u1 : M1 < 18446744073709551616) (v1 : P1 < 18446744073709551616) (h0 : mayI e0 D0 s0 M0 E0 G0 g0 P0 Q0 = p) (h1 : mayI e1 D1 s1 M1 E1 G1 g1 P1 Q1 = r) (h : (p && r) = false) :
    Calls Tryz.prog 8 #[.agg #[.bool e0, .int .i64 D0, .bool s0, .int .u64 M0, .int .i64 E0, .int .i64 G0, .bool g0, .int .u64 P0, .int .i64 Q0], .agg #[.bool e1, .int .i64 D1, .bool s1, .int .u64 M1, .int .i64 E1, .int .i64 G1, .bool g1, .int .u64 P1, .int .i64 Q1]] w (PB w true) := by
  have H0 := Lib.hid h0; have H1 := Lib.hid h1; have HQ := Lib.hid hq; clear h0 h1 hq
  go_enter Tryz.func8, Tryz.ntmps8
  go_upto_region 1 with (fail)
  generalize hW1 : (w.alloc _).alloc _ = w1 at *; obtain ⟨X0, X1, HB⟩ := Bo.en2 hW1; replace hT := hT.below HB.out; clear hW1
  go_wp2_with fail
  refine (awake9 hT HQ.out).mono ?_; rintro ee w2 ⟨rfl, B⟩; replace X0 := X0.below B; replace X1 := X1.below B; replace hT := hT.below B; replace HB := Lib.hid (bt HB.out B); clear B; obtain ⟨xX00, xX01, xX02, xX03, xX04, xX05, xX06, xX07, xX08⟩ := X0.u9
  go_wp2_with fail
  refine (kvMay u0 v0 H0.out).mono ?_; rintro ee w3 ⟨rfl, B⟩; clear xX00 xX01 xX02 xX03 xX04 xX05 xX06 xX07 xX08; replace X0 := X0.below B; replace X1 := X1.below B; replace hT := hT.below B; replace HB := Lib.hid (bt HB.out B); clear B
  cases p
  · obtain ⟨xX00, xX01, xX02, xX03, xX04, xX05, xX06, xX07, xX08⟩ := X0.u9; obtain ⟨xX10, xX11, xX12, xX13, xX14, xX15, xX16, xX17, xX18⟩ := X1.u9; go_wp2
    go_ret
    exact ⟨rfl, HB.out⟩
  · obtain rfl : r = false := h
    obtain ⟨xX10, xX11, xX12, xX13, xX14, xX15, xX16, xX17, xX18⟩ := X1.u9
    go_wp2_with fail
    refine (kvMay u1 v1 H1.out).mono ?_; rintro ee w4 ⟨rfl, B⟩; clear xX10 xX11 xX12 xX13 xX14 xX15 xX16 xX17 xX18; replace X0 := X0.below B; replace X1 := X1.below B; replace hT := hT.below B; replace HB := Lib.hid (bt HB.out B); clear B; obtain ⟨xX00, xX01, xX02, xX03, xX04, xX05, xX06, xX07, xX08⟩ := X0.u9; obtain ⟨xX10, xX11, xX12, xX13, xX14, xX15, xX16, xX17, xX18⟩ := X1.u9; go_wp2
    go_ret
    exact ⟨rfl, HB.out⟩
set_option maxHeartbeats 8000000 in
theorem ivopRules_main (e0 : Bool) (D0 : Int) (s0 : Bool) (M0 E0 G0 : Int) (g0 : Bool) (P0 Q0 : Int) (e1 : Bool) (D1 : Int) (s1 : Bool) (M1 E1 G1 : Int) (g1 : Bool) (P1 Q1 : Int) (w : World) {q : Bool → Int → Int → Int} (hq : QF q) {r : Bool → Int → Int} (hr : RF r) (hT : Tab w) (hT2 : Tb w) (x y s a m n o d p b i : Sp) (c0 : Ci e0 D0 s0 M0 E0 G0 g0 P0 Q0 x) (c1 : Ci e1 D1 s1 M1 E1 G1 g1 P1 Q1 y)
    (h1 : sqrI x = s) (h2 : addL [x, y] = a) (h3 : addL [y, x] = a) (h4 : mulI x y = m) (h5 : mulI y x = m) (h6 : negI x = n) (h7 : negI n = x) (h8 : subI x y = o) (h9 : subI y x = d) (ha : negI d = o) (hb : mulI x x = p) (hc : witI s p = true) (hd : absI x = b) (he : rootI r s = i) (hf : witI b i = true) :
    Calls Tryz.prog 8 #[.agg #[.bool e0, .int .i64 D0, .bool s0, .int .u64 M0, .int .i64 E0, .int .i64 G0, .bool g0, .int .u64 P0, .int .i64 Q0], .agg #[.bool e1, .int .i64 D1, .bool s1, .int .u64 M1, .int .i64 E1, .int .i64 G1, .bool g1, .int .u64 P1, .int .i64 Q1]] w (PB w true) := by
  have HQ := Lib.hid hq; have HRR := Lib.hid hr; have H1 := Lib.hid h1; have H2 := Lib.hid h2; have H3 := Lib.hid h3; have H4 := Lib.hid h4; have H5 := Lib.hid h5; have H6 := Lib.hid h6; have H7 := Lib.hid h7; have H8 := Lib.hid h8; have H9 := Lib.hid h9; have HA := Lib.hid ha; have HBB := Lib.hid hb; have HC := Lib.hid hc; have HD := Lib.hid hd; have HE := Lib.hid he; have HF := Lib.hid hf; clear hq hr h1 h2 h3 h4 h5 h6 h7 h8 h9 ha hb hc hd he hf
  go_enter Tryz.func8, Tryz.ntmps8
  go_upto_region 1 with (fail)
  generalize hW1 : (w.alloc _).alloc _ = w1 at *; obtain ⟨X0, X1, HB⟩ := Bo.en2 hW1; replace hT := hT.below HB.out; replace hT2 := hT2.below HB.out; clear hW1
  go_wp2_with fail
  refine (awake9 hT HQ.out).mono ?_; rintro ee w2 ⟨rfl, B⟩; replace X0 := X0.below B; replace X1 := X1.below B; replace hT := hT.below B; replace hT2 := hT2.below B; replace HB := Lib.hid (bt HB.out B); clear B; obtain ⟨xX00, xX01, xX02, xX03, xX04, xX05, xX06, xX07, xX08⟩ := X0.u9
  go_wp2_with fail
  refine (kvMay c0.top.1 c0.top.2 c0.may).mono ?_; rintro ee w3 ⟨rfl, B⟩; clear xX00 xX01 xX02 xX03 xX04 xX05 xX06 xX07 xX08; replace X0 := X0.below B; replace X1 := X1.below B; replace hT := hT.below B; replace hT2 := hT2.below B; replace HB := Lib.hid (bt HB.out B); clear B; obtain ⟨xX10, xX11, xX12, xX13, xX14, xX15, xX16, xX17, xX18⟩ := X1.u9
  go_wp2_with fail
  refine (kvMay c1.top.1 c1.top.2 c1.may).mono ?_; rintro ee w4 ⟨rfl, B⟩; clear xX10 xX11 xX12 xX13 xX14 xX15 xX16 xX17 xX18; replace X0 := X0.below B; replace X1 := X1.below B; replace hT := hT.below B; replace hT2 := hT2.below B; replace HB := Lib.hid (bt HB.out B); clear B; obtain ⟨xX00, xX01, xX02, xX03, xX04, xX05, xX06, xX07, xX08⟩ := X0.u9
  go_wp2_with fail
  refine (fkSqr c0.top.1 c0.top.2 c0.rk H1.out).mono ?_; rintro ee w5 ⟨e20, K20, s20, M20, E20, K20b, s20b, M20b, E20b, rfl, v20, B⟩; clear xX00 xX01 xX02 xX03 xX04 xX05 xX06 xX07 xX08; replace X0 := X0.below B; replace X1 := X1.below B; replace hT := hT.below B; replace hT2 := hT2.below B; replace HB := Lib.hid (bt HB.out B); clear B
  go_upto_region 5 with (fail)
  have lX6 := Nat.le_refl (World.heap w5).size; have nX6X0 := X0.lt; have nX6X1 := X1.lt; generalize hWn : w5.alloc _ = w6 at *; obtain ⟨X6, BW⟩ := Bo.nw hWn; clear hWn; replace X0 := X0.below BW; replace X1 := X1.below BW; replace hT := hT.below BW; replace hT2 := hT2.below BW; replace HB := Lib.hid (bt HB.out BW); clear BW; clear lX6; refine Jo.rk [0, 1, 2, 3, 4, 5, 6, 7, 8, 9, 10, 11, 12, 13, 14, 15, 16, 17, 18, 19, 20, 21, 22, 23, 24, 25, 26, 27, 28, 29, 30, 31, 32, 33, 34, 35, 36, 37, 38, 39, 40, 41, 42, 43, 44, 45, 46, 47, 48, 49, 50, 51, 52] [some 19, some 20, some 21, some 22, some 23, some 24, some 25, some 26, some 27, some 28, some 29, some 30, some 31, some 32, some 33, some 34, some 35, some 36, some 37, some 38, some 39, some 40, some 41, some 42, some 43, some 44, some 45, some 46, some 47, some 48, some 49, some 50, some 51, some 52, some 53, some 54, some 55, some 56, some 57, some 58, some 59, some 60, some 61, some 62, some 63, some 64, some 65, some 66, some 67, some 68, some 69, some 70, some 4] [[], [0], [1], [1], [1, 2, 3], [1, 4], [1], [1], [1, 6, 7], [1, 8], [1, 5, 9], [1, 10], [11], [12], [12], [12, 13, 14], [12], [12], [12, 16, 17], [12, 15, 18], [12, 19], [20], [21], [21, 22], [21, 23], [21], [21, 24, 25], [21, 26], [27], [28], [28], [28, 29, 30], [28], [28], [28, 32, 33], [28, 34], [28, 31, 35], [28, 36], [37], [38], [38], [38], [38, 40, 41], [38, 39, 42], [38, 43], [44], [45], [45, 46], [45], [45, 48], [45, 47, 49], [45, 50], [51]] 53 0 [Jo.qb true, Jo.qb true, Jo.q9 e0 D0 s0 M0 E0 G0 g0 P0 Q0, Jo.q9 e1 D1 s1 M1 E1 G1 g1 P1 Q1, Jo.Fact.il8 2 [x, y], Jo.Fact.iv a, Jo.q9 e1 D1 s1 M1 E1 G1 g1 P1 Q1, Jo.q9 e0 D0 s0 M0 E0 G0 g0 P0 Q0, Jo.Fact.il8 2 [y, x], Jo.Fact.iv a, Jo.qb true, Jo.qb true, Jo.qb true, Jo.q9 e0 D0 s0 M0 E0 G0 g0 P0 Q0, Jo.q9 e1 D1 s1 M1 E1 G1 g1 P1 Q1, Jo.Fact.iv m, Jo.q9 e1 D1 s1 M1 E1 G1 g1 P1 Q1, Jo.q9 e0 D0 s0 M0 E0 G0 g0 P0 Q0, Jo.Fact.iv m, Jo.qb true, Jo.qb true, Jo.qb true, Jo.q9 e0 D0 s0 M0 E0 G0 g0 P0 Q0, Jo.Fact.iv n, Jo.Fact.iv x, Jo.q9 e0 D0 s0 M0 E0 G0 g0 P0 Q0, Jo.qb true, Jo.qb true, Jo.qb true, Jo.q9 e0 D0 s0 M0 E0 G0 g0 P0 Q0, Jo.q9 e1 D1 s1 M1 E1 G1 g1 P1 Q1, Jo.Fact.iv o, Jo.q9 e1 D1 s1 M1 E1 G1 g1 P1 Q1, Jo.q9 e0 D0 s0 M0 E0 G0 g0 P0 Q0, Jo.Fact.iv d, Jo.Fact.iv o, Jo.qb true, Jo.qb true, Jo.qb true, Jo.q9 e20 K20 s20 M20 E20 K20b s20b M20b E20b, Jo.q9 e0 D0 s0 M0 E0 G0 g0 P0 Q0, Jo.q9 e0 D0 s0 M0 E0 G0 g0 P0 Q0, Jo.Fact.iv p, Jo.qb true, Jo.qb true, Jo.qb true, Jo.q9 e0 D0 s0 M0 E0 G0 g0 P0 Q0, Jo.Fact.iv b, Jo.q9 e20 K20 s20 M20 E20 K20b s20b M20b E20b, Jo.Fact.iv i, Jo.qb true, Jo.qb true, Jo.qb true] (by kernel_rfl) (by kernel_rfl) (by decide) rfl ?_ ?_
  · refine Jo.jm rfl ?_ ?_
    · rintro wj hJ K hK; simp only [Jo.z] at hK ⊢; go_simp; exact hK.out _ _ rfl (br _ _)
    refine Jo.jm rfl ?_ ?_
    · rintro wj hJ _ rfl K hK; simp only [Jo.z] at hK ⊢; go_simp; exact hK.out _ _ rfl (br _ _)
    refine Jo.jm rfl ?_ ?_
    · rintro wj hJ _ rfl K hK; simp only [Jo.z] at hK ⊢; obtain ⟨xX00, xX01, xX02, xX03, xX04, xX05, xX06, xX07, xX08⟩ := (X0.below hJ).u9; go_simp; exact hK.out _ _ rfl (br _ _)
    refine Jo.jm rfl ?_ ?_
    · rintro wj hJ _ rfl K hK; simp only [Jo.z] at hK ⊢; obtain ⟨xX10, xX11, xX12, xX13, xX14, xX15, xX16, xX17, xX18⟩ := (X1.below hJ).u9; go_simp; exact hK.out _ _ rfl (br _ _)
    refine Jo.jm rfl ?_ ?_
    · rintro wj hJ _ rfl _ rfl _ rfl K hK; simp only [Jo.z] at hK ⊢; go_simp; exact hK.out _ _ ⟨_, 2, rfl, Il8.lit2 rfl c0.rw c1.rw⟩ (bel1 _ _)
    refine Jo.jm rfl ?_ ?_
    · rintro wj hJ _ rfl _ ⟨A21, c21, rfl, h21⟩ K hK; simp only [Jo.z] at hK ⊢; go_simp; refine (fkAdd (hT2.below hJ) h21 H2.out).mono ?_; rintro ee wk ⟨e22, K22, s22, M22, E22, K22b, s22b, M22b, E22b, rfl, v22, B⟩; exact hK.out _ _ ⟨e22, K22, s22, M22, E22, K22b, s22b, M22b, E22b, rfl, v22⟩ B
    refine Jo.jm rfl ?_ ?_
    · rintro wj hJ _ rfl K hK; simp only [Jo.z] at hK ⊢; obtain ⟨xX10, xX11, xX12, xX13, xX14, xX15, xX16, xX17, xX18⟩ := (X1.below hJ).u9; go_simp; exact hK.out _ _ rfl (br _ _)
    refine Jo.jm rfl ?_ ?_
    · rintro wj hJ _ rfl K hK; simp only [Jo.z] at hK ⊢; obtain ⟨xX00, xX01, xX02, xX03, xX04, xX05, xX06, xX07, xX08⟩ := (X0.below hJ).u9; go_simp; exact hK.out _ _ rfl (br _ _)
    refine Jo.jm rfl ?_ ?_
    · rintro wj hJ _ rfl _ rfl _ rfl K hK; simp only [Jo.z] at hK ⊢; go_simp; exact hK.out _ _ ⟨_, 2, rfl, Il8.lit2 rfl c1.rw c0.rw⟩ (bel1 _ _)
    refine Jo.jm rfl ?_ ?_
    · rintro wj hJ _ rfl _ ⟨A23, c23, rfl, h23⟩ K hK; simp only [Jo.z] at hK ⊢; go_simp; refine (fkAdd (hT2.below hJ) h23 H3.out).mono ?_; rintro ee wk ⟨e24, K24, s24, M24, E24, K24b, s24b, M24b, E24b, rfl, v24, B⟩; exact hK.out _ _ ⟨e24, K24, s24, M24, E24, K24b, s24b, M24b, E24b, rfl, v24⟩ B
    refine Jo.jm rfl ?_ ?_
    · rintro wj hJ _ rfl _ ⟨e22, K22, s22, M22, E22, K22b, s22b, M22b, E22b, rfl, v22⟩ _ ⟨e24, K24, s24, M24, E24, K24b, s24b, M24b, E24b, rfl, v24⟩ K hK; simp only [Jo.z] at hK ⊢; obtain ⟨rfl, rfl, rfl, rfl, rfl, rfl, rfl, rfl, rfl⟩ := v22.uniq v24; go_simp
      exact hK.out _ _ (by first | rfl | (show Value.bool _ = Value.bool _; simp)) (br _ _)
    refine Jo.jm rfl ?_ ?_
    · rintro wj hJ _ rfl _ rfl K hK; simp only [Jo.z] at hK ⊢; go_simp; exact hK.out _ _ rfl (br _ _)
    refine Jo.jm rfl ?_ ?_
    · rintro wj hJ _ rfl K hK; simp only [Jo.z] at hK ⊢; go_simp; exact hK.out _ _ rfl (br _ _)
    refine Jo.jm rfl ?_ ?_
    · rintro wj hJ _ rfl K hK; simp only [Jo.z] at hK ⊢; obtain ⟨xX00, xX01, xX02, xX03, xX04, xX05, xX06, xX07, xX08⟩ := (X0.below hJ).u9; go_simp; exact hK.out _ _ rfl (br _ _)
    refine Jo.jm rfl ?_ ?_
    · rintro wj hJ _ rfl K hK; simp only [Jo.z] at hK ⊢; obtain ⟨xX10, xX11, xX12, xX13, xX14, xX15, xX16, xX17, xX18⟩ := (X1.below hJ).u9; go_simp; exact hK.out _ _ rfl (br _ _)
    refine Jo.jm rfl ?_ ?_
    · rintro wj hJ _ rfl _ rfl _ rfl K hK; simp only [Jo.z] at hK ⊢; go_simp; refine (fkMul c0.top.1 c0.top.2 c1.top.1 c1.top.2 c0.rk c1.rk H4.out).mono ?_; rintro ee wk ⟨e25, K25, s25, M25, E25, K25b, s25b, M25b, E25b, rfl, v25, B⟩; exact hK.out _ _ ⟨e25, K25, s25, M25, E25, K25b, s25b, M25b, E25b, rfl, v25⟩ B
    refine Jo.jm rfl ?_ ?_
    · rintro wj hJ _ rfl K hK; simp only [Jo.z] at hK ⊢; obtain ⟨xX10, xX11, xX12, xX13, xX14, xX15, xX16, xX17, xX18⟩ := (X1.below hJ).u9; go_simp; exact hK.out _ _ rfl (br _ _)
    refine Jo.jm rfl ?_ ?_
    · rintro wj hJ _ rfl K hK; simp only [Jo.z] at hK ⊢; obtain ⟨xX00, xX01, xX02, xX03, xX04, xX05, xX06, xX07, xX08⟩ := (X0.below hJ).u9; go_simp; exact hK.out _ _ rfl (br _ _)
    refine Jo.jm rfl ?_ ?_
    · rintro wj hJ _ rfl _ rfl _ rfl K hK; simp only [Jo.z] at hK ⊢; go_simp; refine (fkMul c1.top.1 c1.top.2 c0.top.1 c0.top.2 c1.rk c0.rk H5.out).mono ?_; rintro ee wk ⟨e26, K26, s26, M26, E26, K26b, s26b, M26b, E26b, rfl, v26, B⟩; exact hK.out _ _ ⟨e26, K26, s26, M26, E26, K26b, s26b, M26b, E26b, rfl, v26⟩ B
    refine Jo.jm rfl ?_ ?_
    · rintro wj hJ _ rfl _ ⟨e25, K25, s25, M25, E25, K25b, s25b, M25b, E25b, rfl, v25⟩ _ ⟨e26, K26, s26, M26, E26, K26b, s26b, M26b, E26b, rfl, v26⟩ K hK; simp only [Jo.z] at hK ⊢; obtain ⟨rfl, rfl, rfl, rfl, rfl, rfl, rfl, rfl, rfl⟩ := v25.uniq v26; go_simp
      exact hK.out _ _ (by first | rfl | (show Value.bool _ = Value.bool _; simp)) (br _ _)
    refine Jo.jm rfl ?_ ?_
    · rintro wj hJ _ rfl _ rfl K hK; simp only [Jo.z] at hK ⊢; go_simp; exact hK.out _ _ rfl (br _ _)
    refine Jo.jm rfl ?_ ?_
    · rintro wj hJ _ rfl K hK; simp only [Jo.z] at hK ⊢; go_simp; exact hK.out _ _ rfl (br _ _)
    refine Jo.jm rfl ?_ ?_
    · rintro wj hJ _ rfl K hK; simp only [Jo.z] at hK ⊢; obtain ⟨xX00, xX01, xX02, xX03, xX04, xX05, xX06, xX07, xX08⟩ := (X0.below hJ).u9; go_simp; exact hK.out _ _ rfl (br _ _)
    refine Jo.jm rfl ?_ ?_
    · rintro wj hJ _ rfl _ rfl K hK; simp only [Jo.z] at hK ⊢; go_simp; refine (fkNeg c0.top.1 c0.top.2 c0.rk H6.out).mono ?_; rintro ee wk ⟨e27, K27, s27, M27, E27, K27b, s27b, M27b, E27b, rfl, v27, B⟩; exact hK.out _ _ ⟨e27, K27, s27, M27, E27, K27b, s27b, M27b, E27b, rfl, v27⟩ B
    refine Jo.jm rfl ?_ ?_
    · rintro wj hJ _ rfl _ ⟨e27, K27, s27, M27, E27, K27b, s27b, M27b, E27b, rfl, v27⟩ K hK; simp only [Jo.z] at hK ⊢; go_simp; refine (fkNeg v27.top.1 v27.top.2 v27.rk H7.out).mono ?_; rintro ee wk ⟨e28, K28, s28, M28, E28, K28b, s28b, M28b, E28b, rfl, v28, B⟩; exact hK.out _ _ ⟨e28, K28, s28, M28, E28, K28b, s28b, M28b, E28b, rfl, v28⟩ B
    refine Jo.jm rfl ?_ ?_
    · rintro wj hJ _ rfl K hK; simp only [Jo.z] at hK ⊢; obtain ⟨xX00, xX01, xX02, xX03, xX04, xX05, xX06, xX07, xX08⟩ := (X0.below hJ).u9; go_simp; exact hK.out _ _ rfl (br _ _)
    refine Jo.jm rfl ?_ ?_
    · rintro wj hJ _ rfl _ ⟨e28, K28, s28, M28, E28, K28b, s28b, M28b, E28b, rfl, v28⟩ _ rfl K hK; simp only [Jo.z] at hK ⊢; obtain ⟨rfl, rfl, rfl, rfl, rfl, rfl, rfl, rfl, rfl⟩ := v28.uniq c0; go_simp
      exact hK.out _ _ (by first | rfl | (show Value.bool _ = Value.bool _; simp)) (br _ _)
    refine Jo.jm rfl ?_ ?_
    · rintro wj hJ _ rfl _ rfl K hK; simp only [Jo.z] at hK ⊢; go_simp; exact hK.out _ _ rfl (br _ _)
    refine Jo.jm rfl ?_ ?_
    · rintro wj hJ _ rfl K hK; simp only [Jo.z] at hK ⊢; go_simp; exact hK.out _ _ rfl (br _ _)
    refine Jo.jm rfl ?_ ?_
    · rintro wj hJ _ rfl K hK; simp only [Jo.z] at hK ⊢; obtain ⟨xX00, xX01, xX02, xX03, xX04, xX05, xX06, xX07, xX08⟩ := (X0.below hJ).u9; go_simp; exact hK.out _ _ rfl (br _ _)
    refine Jo.jm rfl ?_ ?_
    · rintro wj hJ _ rfl K hK; simp only [Jo.z] at hK ⊢; obtain ⟨xX10, xX11, xX12, xX13, xX14, xX15, xX16, xX17, xX18⟩ := (X1.below hJ).u9; go_simp; exact hK.out _ _ rfl (br _ _)
    refine Jo.jm rfl ?_ ?_
    · rintro wj hJ _ rfl _ rfl _ rfl K hK; simp only [Jo.z] at hK ⊢; go_simp; refine (fkSub (hT2.below hJ) c0.top.1 c0.top.2 c1.top.1 c1.top.2 c0.rk c1.rk H8.out).mono ?_; rintro ee wk ⟨e29, K29, s29, M29, E29, K29b, s29b, M29b, E29b, rfl, v29, B⟩; exact hK.out _ _ ⟨e29, K29, s29, M29, E29, K29b, s29b, M29b, E29b, rfl, v29⟩ B
    refine Jo.jm rfl ?_ ?_
    · rintro wj hJ _ rfl K hK; simp only [Jo.z] at hK ⊢; obtain ⟨xX10, xX11, xX12, xX13, xX14, xX15, xX16, xX17, xX18⟩ := (X1.below hJ).u9; go_simp; exact hK.out _ _ rfl (br _ _)
    refine Jo.jm rfl ?_ ?_
    · rintro wj hJ _ rfl K hK; simp only [Jo.z] at hK ⊢; obtain ⟨xX00, xX01, xX02, xX03, xX04, xX05, xX06, xX07, xX08⟩ := (X0.below hJ).u9; go_simp; exact hK.out _ _ rfl (br _ _)
    refine Jo.jm rfl ?_ ?_
    · rintro wj hJ _ rfl _ rfl _ rfl K hK; simp only [Jo.z] at hK ⊢; go_simp; refine (fkSub (hT2.below hJ) c1.top.1 c1.top.2 c0.top.1 c0.top.2 c1.rk c0.rk H9.out).mono ?_; rintro ee wk ⟨e30, K30, s30, M30, E30, K30b, s30b, M30b, E30b, rfl, v30, B⟩; exact hK.out _ _ ⟨e30, K30, s30, M30, E30, K30b, s30b, M30b, E30b, rfl, v30⟩ B
    refine Jo.jm rfl ?_ ?_
    · rintro wj hJ _ rfl _ ⟨e30, K30, s30, M30, E30, K30b, s30b, M30b, E30b, rfl, v30⟩ K hK; simp only [Jo.z] at hK ⊢; go_simp; refine (fkNeg v30.top.1 v30.top.2 v30.rk HA.out).mono ?_; rintro ee wk ⟨e31, K31, s31, M31, E31, K31b, s31b, M31b, E31b, rfl, v31, B⟩; exact hK.out _ _ ⟨e31, K31, s31, M31, E31, K31b, s31b, M31b, E31b, rfl, v31⟩ B
    refine Jo.jm rfl ?_ ?_
    · rintro wj hJ _ rfl _ ⟨e29, K29, s29, M29, E29, K29b, s29b, M29b, E29b, rfl, v29⟩ _ ⟨e31, K31, s31, M31, E31, K31b, s31b, M31b, E31b, rfl, v31⟩ K hK; simp only [Jo.z] at hK ⊢; obtain ⟨rfl, rfl, rfl, rfl, rfl, rfl, rfl, rfl, rfl⟩ := v29.uniq v31; go_simp
      exact hK.out _ _ (by first | rfl | (show Value.bool _ = Value.bool _; simp)) (br _ _)
    refine Jo.jm rfl ?_ ?_
    · rintro wj hJ _ rfl _ rfl K hK; simp only [Jo.z] at hK ⊢; go_simp; exact hK.out _ _ rfl (br _ _)
    refine Jo.jm rfl ?_ ?_
    · rintro wj hJ _ rfl K hK; simp only [Jo.z] at hK ⊢; go_simp; exact hK.out _ _ rfl (br _ _)
    refine Jo.jm rfl ?_ ?_
    · rintro wj hJ _ rfl K hK; simp only [Jo.z] at hK ⊢; obtain ⟨xX60, xX61, xX62, xX63, xX64, xX65, xX66, xX67, xX68⟩ := (X6.below hJ).u9; go_simp; exact hK.out _ _ rfl (br _ _)
    refine Jo.jm rfl ?_ ?_
    · rintro wj hJ _ rfl K hK; simp only [Jo.z] at hK ⊢; obtain ⟨xX00, xX01, xX02, xX03, xX04, xX05, xX06, xX07, xX08⟩ := (X0.below hJ).u9; go_simp; exact hK.out _ _ rfl (br _ _)
    refine Jo.jm rfl ?_ ?_
    · rintro wj hJ _ rfl K hK; simp only [Jo.z] at hK ⊢; obtain ⟨xX00, xX01, xX02, xX03, xX04, xX05, xX06, xX07, xX08⟩ := (X0.below hJ).u9; go_simp; exact hK.out _ _ rfl (br _ _)
    refine Jo.jm rfl ?_ ?_
    · rintro wj hJ _ rfl _ rfl _ rfl K hK; simp only [Jo.z] at hK ⊢; go_simp; refine (fkMul c0.top.1 c0.top.2 c0.top.1 c0.top.2 c0.rk c0.rk HBB.out).mono ?_; rintro ee wk ⟨e32, K32, s32, M32, E32, K32b, s32b, M32b, E32b, rfl, v32, B⟩; exact hK.out _ _ ⟨e32, K32, s32, M32, E32, K32b, s32b, M32b, E32b, rfl, v32⟩ B
    refine Jo.jm rfl ?_ ?_
    · rintro wj hJ _ rfl _ rfl _ ⟨e32, K32, s32, M32, E32, K32b, s32b, M32b, E32b, rfl, v32⟩ K hK; simp only [Jo.z] at hK ⊢; go_simp; refine (kvWithin v20.top.1 v20.top.2 v32.top.1 v32.top.2 v20.rk v32.rk HC.out).mono ?_; rintro ee wk ⟨rfl, B⟩; exact hK.out _ _ rfl B
    refine Jo.jm rfl ?_ ?_
    · rintro wj hJ _ rfl _ rfl K hK; simp only [Jo.z] at hK ⊢; go_simp; exact hK.out _ _ rfl (br _ _)
    refine Jo.jm rfl ?_ ?_
    · rintro wj hJ _ rfl K hK; simp only [Jo.z] at hK ⊢; go_simp; exact hK.out _ _ rfl (br _ _)
    refine Jo.jm rfl ?_ ?_
    · rintro wj hJ _ rfl K hK; simp only [Jo.z] at hK ⊢; obtain ⟨xX00, xX01, xX02, xX03, xX04, xX05, xX06, xX07, xX08⟩ := (X0.below hJ).u9; go_simp; exact hK.out _ _ rfl (br _ _)
    refine Jo.jm rfl ?_ ?_
    · rintro wj hJ _ rfl _ rfl K hK; simp only [Jo.z] at hK ⊢; go_simp; refine (fkAbs c0.top.1 c0.top.2 c0.rk HD.out).mono ?_; rintro ee wk ⟨e33, K33, s33, M33, E33, K33b, s33b, M33b, E33b, rfl, v33, B⟩; exact hK.out _ _ ⟨e33, K33, s33, M33, E33, K33b, s33b, M33b, E33b, rfl, v33⟩ B
    refine Jo.jm rfl ?_ ?_
    · rintro wj hJ _ rfl K hK; simp only [Jo.z] at hK ⊢; obtain ⟨xX60, xX61, xX62, xX63, xX64, xX65, xX66, xX67, xX68⟩ := (X6.below hJ).u9; go_simp; exact hK.out _ _ rfl (br _ _)
    refine Jo.jm rfl ?_ ?_
    · rintro wj hJ _ rfl _ rfl K hK; simp only [Jo.z] at hK ⊢; go_simp; refine (fkRoot (hT.below hJ) HRR.out v20.top.1 v20.top.2 v20.rk HE.out).mono ?_; rintro ee wk ⟨e34, K34, s34, M34, E34, K34b, s34b, M34b, E34b, rfl, v34, B⟩; exact hK.out _ _ ⟨e34, K34, s34, M34, E34, K34b, s34b, M34b, E34b, rfl, v34⟩ B
    refine Jo.jm rfl ?_ ?_
    · rintro wj hJ _ rfl _ ⟨e33, K33, s33, M33, E33, K33b, s33b, M33b, E33b, rfl, v33⟩ _ ⟨e34, K34, s34, M34, E34, K34b, s34b, M34b, E34b, rfl, v34⟩ K hK; simp only [Jo.z] at hK ⊢; go_simp; refine (kvWithin v33.top.1 v33.top.2 v34.top.1 v34.top.2 v33.rk v34.rk HF.out).mono ?_; rintro ee wk ⟨rfl, B⟩; exact hK.out _ _ rfl B
    refine Jo.jm rfl ?_ ?_
    · rintro wj hJ _ rfl _ rfl K hK; simp only [Jo.z] at hK ⊢; go_simp; exact hK.out _ _ rfl (br _ _)
    refine Jo.jm rfl ?_ ?_
    · rintro wj hJ _ rfl K hK; simp only [Jo.z] at hK ⊢; go_simp; exact hK.out _ _ rfl (br _ _)
    exact Jo.Steps.nil
  rintro w9 hJ _ rfl _ rfl _ rfl _ rfl _ ⟨_, _, rfl, _⟩ _ ⟨e22, K22, s22, M22, E22, K22b, s22b, M22b, E22b, rfl, v22⟩ _ rfl _ rfl _ ⟨_, _, rfl, _⟩ _ ⟨e24, K24, s24, M24, E24, K24b, s24b, M24b, E24b, rfl, v24⟩ _ rfl _ rfl _ rfl _ rfl _ rfl _ ⟨e25, K25, s25, M25, E25, K25b, s25b, M25b, E25b, rfl, v25⟩ _ rfl _ rfl _ ⟨e26, K26, s26, M26, E26, K26b, s26b, M26b, E26b, rfl, v26⟩ _ rfl _ rfl _ rfl _ rfl _ ⟨e27, K27, s27, M27, E27, K27b, s27b, M27b, E27b, rfl, v27⟩ _ ⟨e28, K28, s28, M28, E28, K28b, s28b, M28b, E28b, rfl, v28⟩ _ rfl _ rfl _ rfl _ rfl _ rfl _ rfl _ ⟨e29, K29, s29, M29, E29, K29b, s29b, M29b, E29b, rfl, v29⟩ _ rfl _ rfl _ ⟨e30, K30, s30, M30, E30, K30b, s30b, M30b, E30b, rfl, v30⟩ _ ⟨e31, K31, s31, M31, E31, K31b, s31b, M31b, E31b, rfl, v31⟩ _ rfl _ rfl _ rfl _ rfl _ rfl _ rfl _ ⟨e32, K32, s32, M32, E32, K32b, s32b, M32b, E32b, rfl, v32⟩ _ rfl _ rfl _ rfl _ rfl _ ⟨e33, K33, s33, M33, E33, K33b, s33b, M33b, E33b, rfl, v33⟩ _ rfl _ ⟨e34, K34, s34, M34, E34, K34b, s34b, M34b, E34b, rfl, v34⟩ _ rfl _ rfl _ rfl -
  simp only [Jo.z]; replace X0 := X0.below hJ; replace X1 := X1.below hJ; replace X6 := X6.below hJ; replace hT := hT.below hJ; replace hT2 := hT2.below hJ; replace HB := Lib.hid (bt HB.out hJ); refine Jo.jdone (by kernel_rfl) ?_; go_wp2
  go_ret
  exact ⟨rfl, HB.out⟩

theorem ivopRules_walk (e0 : Bool) (D0 : Int) (s0 : Bool) (M0 E0 G0 : Int) (g0 : Bool) (P0 Q0 : Int) (e1 : Bool) (D1 : Int) (s1 : Bool) (M1 E1 G1 : Int) (g1 : Bool) (P1 Q1 : Int) (w : World) (hT : Tab w) (hT2 : Tb w) (u0 : M0 < 18446744073709551616) (v0 : P0 < 18446744073709551616) (u1 : M1 < 18446744073709551616) (v1 : P1 < 18446744073709551616) :
    Calls Tryz.prog 8 #[.agg #[.bool e0, .int .i64 D0, .bool s0, .int .u64 M0, .int .i64 E0, .int .i64 G0, .bool g0, .int .u64 P0, .int .i64 Q0], .agg #[.bool e1, .int .i64 D1, .bool s1, .int .u64 M1, .int .i64 E1, .int .i64 G1, .bool g1, .int .u64 P1, .int .i64 Q1]] w fun e w' => e = .returned (.bool true) ∧ Below w.heap.size w w' := by
  obtain ⟨q, hq⟩ := qf_ex; obtain ⟨r, hr⟩ := rf_ex
  cases h0 : mayI e0 D0 s0 M0 E0 G0 g0 P0 Q0
  · exact ivopRules_no e0 D0 s0 M0 E0 G0 g0 P0 Q0 e1 D1 s1 M1 E1 G1 g1 P1 Q1 w _ _ hq hT u0 v0 u1 v1 h0 rfl rfl
  · cases h1 : mayI e1 D1 s1 M1 E1 G1 g1 P1 Q1
    · exact ivopRules_no e0 D0 s0 M0 E0 G0 g0 P0 Q0 e1 D1 s1 M1 E1 G1 g1 P1 Q1 w _ _ hq hT u0 v0 u1 v1 h0 h1 rfl
    · have c0 := mayI_ci u0 v0 h0; have c1 := mayI_ci u1 v1 h1; exact ivopRules_main e0 D0 s0 M0 E0 G0 g0 P0 Q0 e1 D1 s1 M1 E1 G1 g1 P1 Q1 w hq hr hT hT2 _ _ _ _ _ _ _ _ _ _ _ c0 c1 rfl rfl (add_comm _ _) rfl (mul_comm _ _) rfl (neg_neg c0.ok) rfl rfl (sub_neg c0.ok c1.ok).symm rfl (sqr_mul c0.ok) rfl rfl (abs_root hr c0.ok)
end Go.Proofs.YteejbcimmmcnlaaGreatDoor

/-
  The walk of NumOrder: for all arguments, where the table lies as it was laid, the call answers true, and nothing that was there has turned.
-/
import Derived.Test.YthibemmhgdbiiaaDoorZay
import Derived.Test.YthibemmhgdbiiaaDoorZba
namespace Go.Proofs.YthibemmhgdbiiaaDoor
open Go.RowKit
set_option linter.unusedVariables false
set_option linter.unusedSimpArgs false
set_option maxRecDepth 100000

theorem cmpI_le {x y : Int} : decide (cmpI x y ≤ 0) = decide (x ≤ y) := by
  rcases cmpI_tri x y with ⟨a, b⟩ | ⟨a, b⟩ | ⟨a, b⟩ <;> rw [b, Bool.eq_iff_iff] <;> simp <;> omega
set_option maxHeartbeats 8000000 in
theorem numOrder_main (D0 : Int) (s0 : Bool) (M0 E0 : Int) (D1 : Int) (s1 : Bool) (M1 E1 : Int) (D2 : Int) (s2 : Bool) (M2 E2 : Int) (w : World) (x y z : Int) (hT : Tab w) (u0 : M0 < 18446744073709551616) (u1 : M1 < 18446744073709551616) (u2 : M2 < 18446744073709551616) (hx : rk D0 s0 M0 E0 = x) (hy : rk D1 s1 M1 E1 = y) (hz : rk D2 s2 M2 E2 = z) :
    Calls Tryd.prog 9 #[.agg #[.int .i64 D0, .bool s0, .int .u64 M0, .int .i64 E0], .agg #[.int .i64 D1, .bool s1, .int .u64 M1, .int .i64 E1], .agg #[.int .i64 D2, .bool s2, .int .u64 M2, .int .i64 E2]] w (PB w true) := by
  have bx : -19342822337206103650074625 ≤ x ∧ x ≤ 19342822337206103650074625 := hx ▸ rk_bd u0
  have by_ : -19342822337206103650074625 ≤ y ∧ y ≤ 19342822337206103650074625 := hy ▸ rk_bd u1
  have bz : -19342822337206103650074625 ≤ z ∧ z ≤ 19342822337206103650074625 := hz ▸ rk_bd u2
  obtain ⟨mn, hmn⟩ : ∃ m, min (min x y) z = m := ⟨_, rfl⟩
  obtain ⟨mx, hmx⟩ : ∃ m, max (max x y) z = m := ⟨_, rfl⟩
  obtain ⟨p, hp1⟩ : ∃ p, cmpI x y = p := ⟨_, rfl⟩
  obtain ⟨q, hq1⟩ : ∃ p, cmpI y z = p := ⟨_, rfl⟩
  obtain ⟨o, ho1⟩ : ∃ p, cmpI x z = p := ⟨_, rfl⟩
  have bp := cmpI_bd x y
  rw [hp1] at bp
  have HMN : Hid (mnp [x, y, z] = mn) := Lib.hid ((mnp_three bx.2).trans hmn)
  have HMX : Hid (mxp [x, y, z] = mx) := Lib.hid ((mxp_three bx.1).trans hmx)
  have HMG : Hid (mnp [-x, -y, -z] = -mx) := Lib.hid ((mnp_three (by omega)).trans (by omega))
  have HP := Lib.hid (show cmpI (rk D0 s0 M0 E0) (rk D1 s1 M1 E1) = p by rw [hx, hy, hp1])
  have HQ := Lib.hid (show cmpI (rk D1 s1 M1 E1) (rk D2 s2 M2 E2) = q by rw [hy, hz, hq1])
  have HO := Lib.hid (show cmpI (rk D0 s0 M0 E0) (rk D2 s2 M2 E2) = o by rw [hx, hz, ho1])
  have HPR := Lib.hid (show cmpI (rk D1 s1 M1 E1) (rk D0 s0 M0 E0) = -p by rw [hx, hy, cmpI_rev x y, hp1])
  have HPN := Lib.hid (show cmpI (-x) (-y) = -p by rw [cmpI_negs, hp1])
  have HW : Hid (IntKind.i64.wrap (-p) = -p) := Lib.hid (IntWalk.i64_in _ (by omega))
  obtain ⟨ca, hca⟩ : ∃ p, cmpI mn x = p := ⟨_, rfl⟩
  obtain ⟨cb, hcb⟩ : ∃ p, cmpI mn y = p := ⟨_, rfl⟩
  obtain ⟨cc, hcc⟩ : ∃ p, cmpI mn z = p := ⟨_, rfl⟩
  obtain ⟨cd, hcd⟩ : ∃ p, cmpI mx mn = p := ⟨_, rfl⟩
  obtain ⟨ce, hce⟩ : ∃ p, cmpI mx y = p := ⟨_, rfl⟩
  have ta : ca ≤ 0 := by rw [← hca]; rcases cmpI_tri mn x with ⟨a, b⟩ | ⟨a, b⟩ | ⟨a, b⟩ <;> rw [b] <;> omega
  have tb : cb ≤ 0 := by rw [← hcb]; rcases cmpI_tri mn y with ⟨a, b⟩ | ⟨a, b⟩ | ⟨a, b⟩ <;> rw [b] <;> omega
  have tc : cc ≤ 0 := by rw [← hcc]; rcases cmpI_tri mn z with ⟨a, b⟩ | ⟨a, b⟩ | ⟨a, b⟩ <;> rw [b] <;> omega
  have td : 0 ≤ cd := by rw [← hcd]; rcases cmpI_tri mx mn with ⟨a, b⟩ | ⟨a, b⟩ | ⟨a, b⟩ <;> rw [b] <;> omega
  have te : 0 ≤ ce := by rw [← hce]; rcases cmpI_tri mx y with ⟨a, b⟩ | ⟨a, b⟩ | ⟨a, b⟩ <;> rw [b] <;> omega
  have TA := Lib.hid (show decide (ca ≤ 0) = true from decide_eq_true ta)
  have TB := Lib.hid (show decide (cb ≤ 0) = true from decide_eq_true tb)
  have TC := Lib.hid (show decide (cc ≤ 0) = true from decide_eq_true tc)
  have TD := Lib.hid (show decide (0 ≤ cd) = true from decide_eq_true td)
  have TE := Lib.hid (show decide (0 ≤ ce) = true from decide_eq_true te)
  have CA := Lib.hid (show cmpI mn (rk D0 s0 M0 E0) = ca by rw [hx, hca])
  have CB := Lib.hid (show cmpI mn (rk D1 s1 M1 E1) = cb by rw [hy, hcb])
  have CC := Lib.hid (show cmpI mn (rk D2 s2 M2 E2) = cc by rw [hz, hcc])
  have CE := Lib.hid (show cmpI mx (rk D1 s1 M1 E1) = ce by rw [hy, hce])
  have CD := Lib.hid hcd
  have NX := Lib.hid (show -rk D0 s0 M0 E0 = -x by rw [hx])
  have NY := Lib.hid (show -rk D1 s1 M1 E1 = -y by rw [hy])
  have NZ := Lib.hid (show -rk D2 s2 M2 E2 = -z by rw [hz])
  have HXX := Lib.hid hx
  have HYY := Lib.hid hy
  have HZZ := Lib.hid hz
  have h6 : decide (p ≤ 0) = false ∨ (decide (p ≤ 0) = true ∧ decide (q ≤ 0) = false) ∨ (decide (p ≤ 0) = true ∧ decide (q ≤ 0) = true ∧ decide (0 < o) = false) := by
    have e1 : decide (p ≤ 0) = decide (x ≤ y) := by rw [← hp1, cmpI_le]
    have e2 : decide (q ≤ 0) = decide (y ≤ z) := by rw [← hq1, cmpI_le]
    rw [e1, e2]
    by_cases c1 : x ≤ y
    · by_cases c2 : y ≤ z
      · exact .inr (.inr ⟨decide_eq_true c1, decide_eq_true c2, decide_eq_false (by rw [← ho1]; rcases cmpI_tri x z with ⟨a, b⟩ | ⟨a, b⟩ | ⟨a, b⟩ <;> rw [b] <;> omega)⟩)
      · exact .inr (.inl ⟨decide_eq_true c1, decide_eq_false c2⟩)
    · exact .inl (decide_eq_false c1)
  have h8 : (ca == 0) = true ∨ ((ca == 0) = false ∧ (cb == 0) = true) ∨ ((ca == 0) = false ∧ (cb == 0) = false ∧ (cc == 0) = true) := by
    by_cases c1 : ca = 0
    · exact .inl (by simpa using c1)
    · have f1 : (ca == 0) = false := by simpa using c1
      have g1 : mn ≠ x := fun e => c1 (by rw [← hca, cmpI_eq e])
      by_cases c2 : cb = 0
      · exact .inr (.inl ⟨f1, by simpa using c2⟩)
      · have g2 : mn ≠ y := fun e => c2 (by rw [← hcb, cmpI_eq e])
        have g3 : mn = z := by omega
        exact .inr (.inr ⟨f1, by simpa using c2, by rw [← hcc, cmpI_eq g3]; rfl⟩)
  have H6 := Lib.hid h6
  have H8 := Lib.hid h8
  clear h6 h8 hx hy hz hmn hmx hp1 hq1 ho1 hca hcb hcc hcd hce ta tb tc td te bx by_ bz bp
  go_enter Tryd.func9, Tryd.ntmps9
  go_upto_region 1 with (fail)
  have X0 := (Bo.newAt w (g := w.heap.size) (by simp) #[.int .i64 D0, .bool s0, .int .u64 M0, .int .i64 E0] 30).below (bel2 _ (.cells #[.int .i64 D1, .bool s1, .int .u64 M1, .int .i64 E1] 30) (.cells #[.int .i64 D2, .bool s2, .int .u64 M2, .int .i64 E2] 30))
  have X1 := (Bo.newAt (w.alloc (.cells #[.int .i64 D0, .bool s0, .int .u64 M0, .int .i64 E0] 30)) (g := w.heap.size + 1) (by simp) #[.int .i64 D1, .bool s1, .int .u64 M1, .int .i64 E1] 30).below (bel1 _ (.cells #[.int .i64 D2, .bool s2, .int .u64 M2, .int .i64 E2] 30))
  have X2 := (Bo.newAt ((w.alloc (.cells #[.int .i64 D0, .bool s0, .int .u64 M0, .int .i64 E0] 30)).alloc (.cells #[.int .i64 D1, .bool s1, .int .u64 M1, .int .i64 E1] 30)) (g := w.heap.size + 1 + 1) (by simp) #[.int .i64 D2, .bool s2, .int .u64 M2, .int .i64 E2] 30)
  have HB := Lib.hid (bel3 w (.cells #[.int .i64 D0, .bool s0, .int .u64 M0, .int .i64 E0] 30) (.cells #[.int .i64 D1, .bool s1, .int .u64 M1, .int .i64 E1] 30) (.cells #[.int .i64 D2, .bool s2, .int .u64 M2, .int .i64 E2] 30))
  replace hT := hT.below HB.out
  generalize hW1 : (((w.alloc (.cells #[.int .i64 D0, .bool s0, .int .u64 M0, .int .i64 E0] 30)).alloc (.cells #[.int .i64 D1, .bool s1, .int .u64 M1, .int .i64 E1] 30)).alloc (.cells #[.int .i64 D2, .bool s2, .int .u64 M2, .int .i64 E2] 30)) = w1 at *
  clear hW1
  go_wp2_with fail
  refine (awake5 _ hT).mono ?_
  rintro ee w2 ⟨rfl, B⟩
  replace X0 := X0.below B
  replace X1 := X1.below B
  replace X2 := X2.below B
  replace hT := hT.below B
  replace HB := Lib.hid (bt HB.out B)
  clear B
  clear hT
  have xX00 := X0.at (i := 0) (v := .int .i64 D0) rfl
  have xX01 := X0.at (i := 1) (v := .bool s0) rfl
  have xX02 := X0.at (i := 2) (v := .int .u64 M0) rfl
  have xX03 := X0.at (i := 3) (v := .int .i64 E0) rfl
  have xX10 := X1.at (i := 0) (v := .int .i64 D1) rfl
  have xX11 := X1.at (i := 1) (v := .bool s1) rfl
  have xX12 := X1.at (i := 2) (v := .int .u64 M1) rfl
  have xX13 := X1.at (i := 3) (v := .int .i64 E1) rfl
  go_wp2_with fail
  refine (nCmp u0 u1 HP.out).mono ?_
  rintro ee w3 ⟨rfl, B⟩
  clear xX00 xX01 xX02 xX03 xX10 xX11 xX12 xX13
  replace X0 := X0.below B
  replace X1 := X1.below B
  replace X2 := X2.below B
  replace HB := Lib.hid (bt HB.out B)
  clear B
  have xX10 := X1.at (i := 0) (v := .int .i64 D1) rfl
  have xX11 := X1.at (i := 1) (v := .bool s1) rfl
  have xX12 := X1.at (i := 2) (v := .int .u64 M1) rfl
  have xX13 := X1.at (i := 3) (v := .int .i64 E1) rfl
  have xX20 := X2.at (i := 0) (v := .int .i64 D2) rfl
  have xX21 := X2.at (i := 1) (v := .bool s2) rfl
  have xX22 := X2.at (i := 2) (v := .int .u64 M2) rfl
  have xX23 := X2.at (i := 3) (v := .int .i64 E2) rfl
  go_wp2_with fail
  refine (nCmp u1 u2 HQ.out).mono ?_
  rintro ee w4 ⟨rfl, B⟩
  clear xX10 xX11 xX12 xX13 xX20 xX21 xX22 xX23
  replace X0 := X0.below B
  replace X1 := X1.below B
  replace X2 := X2.below B
  replace HB := Lib.hid (bt HB.out B)
  clear B
  have xX00 := X0.at (i := 0) (v := .int .i64 D0) rfl
  have xX01 := X0.at (i := 1) (v := .bool s0) rfl
  have xX02 := X0.at (i := 2) (v := .int .u64 M0) rfl
  have xX03 := X0.at (i := 3) (v := .int .i64 E0) rfl
  have xX10 := X1.at (i := 0) (v := .int .i64 D1) rfl
  have xX11 := X1.at (i := 1) (v := .bool s1) rfl
  have xX12 := X1.at (i := 2) (v := .int .u64 M1) rfl
  have xX13 := X1.at (i := 3) (v := .int .i64 E1) rfl
  have xX20 := X2.at (i := 0) (v := .int .i64 D2) rfl
  have xX21 := X2.at (i := 1) (v := .bool s2) rfl
  have xX22 := X2.at (i := 2) (v := .int .u64 M2) rfl
  have xX23 := X2.at (i := 3) (v := .int .i64 E2) rfl
  go_wp2_with fail
  refine (nLeast (Nl.lit3 rfl u0 u1 u2 HXX.out HYY.out HZZ.out) HMN.out).mono ?_
  rintro ee w5 ⟨K7, s7, M7, E7, rfl, q7, B⟩
  replace B := bt (bel1 _ _) B
  clear xX00 xX01 xX02 xX03 xX10 xX11 xX12 xX13 xX20 xX21 xX22 xX23
  replace X0 := X0.below B
  replace X1 := X1.below B
  replace X2 := X2.below B
  replace HB := Lib.hid (bt HB.out B)
  clear B
  go_upto_region 5 with (fail)
  have lX10 := Nat.le_refl (World.heap w5).size
  have nX10X0 := X0.lt
  have nX10X1 := X1.lt
  have nX10X2 := X2.lt
  replace X0 := X0.below (bel1 _ (.cells #[.int .i64 K7, .bool s7, .int .u64 M7, .int .i64 E7] 30))
  replace X1 := X1.below (bel1 _ (.cells #[.int .i64 K7, .bool s7, .int .u64 M7, .int .i64 E7] 30))
  replace X2 := X2.below (bel1 _ (.cells #[.int .i64 K7, .bool s7, .int .u64 M7, .int .i64 E7] 30))
  replace HB := Lib.hid (bt HB.out (bel1 _ (.cells #[.int .i64 K7, .bool s7, .int .u64 M7, .int .i64 E7] 30)))
  have X10 := Bo.new w5 #[.int .i64 K7, .bool s7, .int .u64 M7, .int .i64 E7] 30
  generalize hWn : World.alloc w5 (.cells #[.int .i64 K7, .bool s7, .int .u64 M7, .int .i64 E7] 30) = w6 at *
  clear hWn
  clear lX10
  have xX00 := X0.at (i := 0) (v := .int .i64 D0) rfl
  have xX01 := X0.at (i := 1) (v := .bool s0) rfl
  have xX02 := X0.at (i := 2) (v := .int .u64 M0) rfl
  have xX03 := X0.at (i := 3) (v := .int .i64 E0) rfl
  have xX10 := X1.at (i := 0) (v := .int .i64 D1) rfl
  have xX11 := X1.at (i := 1) (v := .bool s1) rfl
  have xX12 := X1.at (i := 2) (v := .int .u64 M1) rfl
  have xX13 := X1.at (i := 3) (v := .int .i64 E1) rfl
  have xX20 := X2.at (i := 0) (v := .int .i64 D2) rfl
  have xX21 := X2.at (i := 1) (v := .bool s2) rfl
  have xX22 := X2.at (i := 2) (v := .int .u64 M2) rfl
  have xX23 := X2.at (i := 3) (v := .int .i64 E2) rfl
  go_wp2_with fail
  refine (nMost (Nl.lit3 rfl u0 u1 u2 HXX.out HYY.out HZZ.out) HMX.out).mono ?_
  rintro ee w7 ⟨K8, s8, M8, E8, rfl, q8, B⟩
  replace B := bt (bel1 _ _) B
  clear xX00 xX01 xX02 xX03 xX10 xX11 xX12 xX13 xX20 xX21 xX22 xX23
  replace X0 := X0.below B
  replace X1 := X1.below B
  replace X2 := X2.below B
  replace X10 := X10.below B
  replace HB := Lib.hid (bt HB.out B)
  clear B
  go_upto_region 6 with (fail)
  have lX11 := Nat.le_refl (World.heap w7).size
  have nX11X0 := X0.lt
  have nX11X1 := X1.lt
  have nX11X2 := X2.lt
  have nX11X10 := X10.lt
  replace X0 := X0.below (bel1 _ (.cells #[.int .i64 K8, .bool s8, .int .u64 M8, .int .i64 E8] 30))
  replace X1 := X1.below (bel1 _ (.cells #[.int .i64 K8, .bool s8, .int .u64 M8, .int .i64 E8] 30))
  replace X2 := X2.below (bel1 _ (.cells #[.int .i64 K8, .bool s8, .int .u64 M8, .int .i64 E8] 30))
  replace X10 := X10.below (bel1 _ (.cells #[.int .i64 K8, .bool s8, .int .u64 M8, .int .i64 E8] 30))
  replace HB := Lib.hid (bt HB.out (bel1 _ (.cells #[.int .i64 K8, .bool s8, .int .u64 M8, .int .i64 E8] 30)))
  have X11 := Bo.new w7 #[.int .i64 K8, .bool s8, .int .u64 M8, .int .i64 E8] 30
  generalize hWn : World.alloc w7 (.cells #[.int .i64 K8, .bool s8, .int .u64 M8, .int .i64 E8] 30) = w8 at *
  clear hWn
  clear lX11
  clear HMN HMX HXX HYY HZZ HP HQ
  go_cut [59] (fun v wx => v = .bool false ∧ Bo wx (w.heap.size) #[.int .i64 D0, .bool s0, .int .u64 M0, .int .i64 E0] 30 ∧ Bo wx (w.heap.size + 1) #[.int .i64 D1, .bool s1, .int .u64 M1, .int .i64 E1] 30 ∧ Bo wx (w.heap.size + 1 + 1) #[.int .i64 D2, .bool s2, .int .u64 M2, .int .i64 E2] 30 ∧ Bo wx (w5.heap.size) #[.int .i64 K7, .bool s7, .int .u64 M7, .int .i64 E7] 30 ∧ Bo wx (w7.heap.size) #[.int .i64 K8, .bool s8, .int .u64 M8, .int .i64 E8] 30 ∧ Below w.heap.size w wx)
  case first =>
    rcases H6.out with P1 | ⟨P1, Q1⟩ | ⟨P1, Q1, O1⟩
    · have P1 := Lib.hid P1
      refine Jo.region_joint (T := [0, 1, 2, 3, 4, 5, 6, 7, 8, 9, 10, 11, 12, 13, 14, 15, 16, 17, 18, 19, 20, 21, 22, 23, 24, 25, 26, 27, 28, 29]) (ds := [some 30, some 31, some 32, some 33, some 34, some 35, some 36, some 37, some 38, some 39, some 40, some 41, some 42, some 43, some 44, some 45, some 46, some 47, some 48, some 49, some 50, some 51, some 52, some 53, some 54, some 55, some 56, some 57, some 58, some 59]) (ls := [[], [0], [1], [2], [2, 3], [2, 4], [5], [6], [6], [6, 7, 8], [6, 9], [6, 10], [11], [12], [12], [12, 13, 14], [12], [12, 16], [12, 15, 17], [12, 18], [19], [20], [20, 21], [20], [20, 23], [20, 22, 24], [20], [20, 26], [20, 25, 27], [20, 28]]) (k := 30) (L := [(some 30, 0), (some 31, 1), (some 32, 2), (some 33, 3), (some 34, 4), (some 35, 5), (some 36, 6), (some 37, 7), (some 38, 8), (some 39, 9), (some 40, 10), (some 41, 11), (some 42, 12), (some 43, 13), (some 44, 14), (some 45, 15), (some 46, 16), (some 47, 17), (some 48, 18), (some 49, 19), (some 50, 20), (some 51, 21), (some 52, 22), (some 53, 23), (some 54, 24), (some 55, 25), (some 56, 26), (some 57, 27), (some 58, 28), (some 59, 29)]) (fuel := 0) (J := fun wj => Below (World.heap w8).size w8 wj)
        (F := [Jo.Fact.eq (.int .i64 p), Jo.Fact.eq (.bool false), Jo.Fact.eq (.bool false), Jo.Fact.eq undef, Jo.Fact.eq undef, Jo.Fact.eq (.bool false), Jo.Fact.eq (.bool false), Jo.Fact.eq undef, Jo.Fact.eq undef, Jo.Fact.eq undef, Jo.Fact.eq undef, Jo.Fact.eq (.bool false), Jo.Fact.eq (.bool false), Jo.Fact.eq (.agg #[.int .i64 D1, .bool s1, .int .u64 M1, .int .i64 E1]), Jo.Fact.eq (.agg #[.int .i64 D0, .bool s0, .int .u64 M0, .int .i64 E0]), Jo.Fact.eq (.int .i64 (-p)), Jo.Fact.eq (.int .i64 p), Jo.Fact.eq (.int .i64 (-p)), Jo.Fact.eq (.bool false), Jo.Fact.eq (.bool false), Jo.Fact.eq (.bool false), Jo.Fact.eq (.agg #[.int .i64 D0, .bool s0, .int .u64 M0, .int .i64 E0]), Jo.Fact.num (-x), Jo.Fact.eq (.agg #[.int .i64 D1, .bool s1, .int .u64 M1, .int .i64 E1]), Jo.Fact.num (-y), Jo.Fact.eq (.int .i64 (-p)), Jo.Fact.eq (.int .i64 p), Jo.Fact.eq (.int .i64 (-p)), Jo.Fact.eq (.bool false), Jo.Fact.eq (.bool false)])
        (by kernel_rfl) (by kernel_rfl) (by decide) rfl rfl (fun _ _ h b => bt h b) ((Below.refl _ _).drew) ?_ (fun vs w9 hJ hd => ?_)
      · refine Jo.jcons (i := 0) (o := ⟨some 30, _, _, _, _, _⟩) (di := some 30) (L := []) (f := Jo.Fact.eq (.int .i64 p)) rfl rfl rfl rfl (fun vs wj hJ hd K hK => ?_) ?_
        · clear hd
          simp only [Jo.putl, List.foldl_nil, Act.put, List.setIfInBounds_toArray, List.set_cons_zero, List.set_cons_succ] at hK ⊢
          go_simp
          exact hK.out _ _ rfl (Below.refl _ _)
        refine Jo.jcons (i := 1) (o := ⟨some 31, _, _, _, _, _⟩) (di := some 31) (L := [(some 30, 0)]) (f := Jo.Fact.eq (.bool false)) rfl rfl rfl rfl (fun vs wj hJ hd K hK => ?_) ?_
        · have d0 : (Jo.Fact.eq (.int .i64 p)).P (vs 0) wj := hd 0 (by decide)
          clear hd
          simp only [Jo.putl, List.foldl_cons, List.foldl_nil, Act.put, List.setIfInBounds_toArray, List.set_cons_zero, List.set_cons_succ] at hK ⊢
          generalize vs 0 = u0 at hK d0 ⊢
          replace d0 : u0 = _ := d0
          subst d0
          have ht := P1.out
          go_simp
          exact hK.out _ _ (by first | rfl | (show Value.bool _ = Value.bool _; simp only [ht])) (Below.refl _ _)
        refine Jo.jcons (i := 2) (o := ⟨some 32, _, _, _, _, _⟩) (di := some 32) (L := [(some 31, 1)]) (f := Jo.Fact.eq (.bool false)) rfl rfl rfl rfl (fun vs wj hJ hd K hK => ?_) ?_
        · have d1 : (Jo.Fact.eq (.bool false)).P (vs 1) wj := hd 1 (by decide)
          clear hd
          simp only [Jo.putl, List.foldl_cons, List.foldl_nil, Act.put, List.setIfInBounds_toArray, List.set_cons_zero, List.set_cons_succ] at hK ⊢
          generalize vs 1 = u1 at hK d1 ⊢
          replace d1 : u1 = _ := d1
          subst d1
          go_simp
          exact hK.out _ _ rfl (Below.refl _ _)
        refine Jo.jcons (i := 3) (o := ⟨some 33, _, _, _, _, _⟩) (di := some 33) (L := [(some 32, 2)]) (f := Jo.Fact.eq undef) rfl rfl rfl rfl (fun vs wj hJ hd K hK => ?_) ?_
        · have d2 : (Jo.Fact.eq (.bool false)).P (vs 2) wj := hd 2 (by decide)
          clear hd
          simp only [Jo.putl, List.foldl_cons, List.foldl_nil, Act.put, List.setIfInBounds_toArray, List.set_cons_zero, List.set_cons_succ] at hK ⊢
          generalize vs 2 = u2 at hK d2 ⊢
          replace d2 : u2 = _ := d2
          subst d2
          go_simp
          exact hK.out _ _ rfl (Below.refl _ _)
        refine Jo.jcons (i := 4) (o := ⟨some 34, _, _, _, _, _⟩) (di := some 34) (L := [(some 32, 2), (some 33, 3)]) (f := Jo.Fact.eq undef) rfl rfl rfl rfl (fun vs wj hJ hd K hK => ?_) ?_
        · have d2 : (Jo.Fact.eq (.bool false)).P (vs 2) wj := hd 2 (by decide)
          have d3 : (Jo.Fact.eq undef).P (vs 3) wj := hd 3 (by decide)
          clear hd
          simp only [Jo.putl, List.foldl_cons, List.foldl_nil, Act.put, List.setIfInBounds_toArray, List.set_cons_zero, List.set_cons_succ] at hK ⊢
          generalize vs 2 = u2 at hK d2 ⊢
          generalize vs 3 = u3 at hK d3 ⊢
          replace d2 : u2 = _ := d2
          subst d2
          replace d3 : u3 = _ := d3
          subst d3
          go_simp
          exact hK.out _ _ rfl (Below.refl _ _)
        refine Jo.jcons (i := 5) (o := ⟨some 35, _, _, _, _, _⟩) (di := some 35) (L := [(some 32, 2), (some 34, 4)]) (f := Jo.Fact.eq (.bool false)) rfl rfl rfl rfl (fun vs wj hJ hd K hK => ?_) ?_
        · have d2 : (Jo.Fact.eq (.bool false)).P (vs 2) wj := hd 2 (by decide)
          have d4 : (Jo.Fact.eq undef).P (vs 4) wj := hd 4 (by decide)
          clear hd
          simp only [Jo.putl, List.foldl_cons, List.foldl_nil, Act.put, List.setIfInBounds_toArray, List.set_cons_zero, List.set_cons_succ] at hK ⊢
          generalize vs 2 = u2 at hK d2 ⊢
          generalize vs 4 = u4 at hK d4 ⊢
          replace d2 : u2 = _ := d2
          subst d2
          replace d4 : u4 = _ := d4
          subst d4
          go_simp
          exact hK.out _ _ rfl (Below.refl _ _)
        refine Jo.jcons (i := 6) (o := ⟨some 36, _, _, _, _, _⟩) (di := some 36) (L := [(some 35, 5)]) (f := Jo.Fact.eq (.bool false)) rfl rfl rfl rfl (fun vs wj hJ hd K hK => ?_) ?_
        · have d5 : (Jo.Fact.eq (.bool false)).P (vs 5) wj := hd 5 (by decide)
          clear hd
          simp only [Jo.putl, List.foldl_cons, List.foldl_nil, Act.put, List.setIfInBounds_toArray, List.set_cons_zero, List.set_cons_succ] at hK ⊢
          generalize vs 5 = u5 at hK d5 ⊢
          replace d5 : u5 = _ := d5
          subst d5
          go_simp
          exact hK.out _ _ rfl (Below.refl _ _)
        refine Jo.jcons (i := 7) (o := ⟨some 37, _, _, _, _, _⟩) (di := some 37) (L := [(some 36, 6)]) (f := Jo.Fact.eq undef) rfl rfl rfl rfl (fun vs wj hJ hd K hK => ?_) ?_
        · have d6 : (Jo.Fact.eq (.bool false)).P (vs 6) wj := hd 6 (by decide)
          clear hd
          simp only [Jo.putl, List.foldl_cons, List.foldl_nil, Act.put, List.setIfInBounds_toArray, List.set_cons_zero, List.set_cons_succ] at hK ⊢
          generalize vs 6 = u6 at hK d6 ⊢
          replace d6 : u6 = _ := d6
          subst d6
          go_simp
          exact hK.out _ _ rfl (Below.refl _ _)
        refine Jo.jcons (i := 8) (o := ⟨some 38, _, _, _, _, _⟩) (di := some 38) (L := [(some 36, 6)]) (f := Jo.Fact.eq undef) rfl rfl rfl rfl (fun vs wj hJ hd K hK => ?_) ?_
        · have d6 : (Jo.Fact.eq (.bool false)).P (vs 6) wj := hd 6 (by decide)
          clear hd
          simp only [Jo.putl, List.foldl_cons, List.foldl_nil, Act.put, List.setIfInBounds_toArray, List.set_cons_zero, List.set_cons_succ] at hK ⊢
          generalize vs 6 = u6 at hK d6 ⊢
          replace d6 : u6 = _ := d6
          subst d6
          go_simp
          exact hK.out _ _ rfl (Below.refl _ _)
        refine Jo.jcons (i := 9) (o := ⟨some 39, _, _, _, _, _⟩) (di := some 39) (L := [(some 36, 6), (some 37, 7), (some 38, 8)]) (f := Jo.Fact.eq undef) rfl rfl rfl rfl (fun vs wj hJ hd K hK => ?_) ?_
        · have d6 : (Jo.Fact.eq (.bool false)).P (vs 6) wj := hd 6 (by decide)
          have d7 : (Jo.Fact.eq undef).P (vs 7) wj := hd 7 (by decide)
          have d8 : (Jo.Fact.eq undef).P (vs 8) wj := hd 8 (by decide)
          clear hd
          simp only [Jo.putl, List.foldl_cons, List.foldl_nil, Act.put, List.setIfInBounds_toArray, List.set_cons_zero, List.set_cons_succ] at hK ⊢
          generalize vs 6 = u6 at hK d6 ⊢
          generalize vs 7 = u7 at hK d7 ⊢
          generalize vs 8 = u8 at hK d8 ⊢
          replace d6 : u6 = _ := d6
          subst d6
          replace d7 : u7 = _ := d7
          subst d7
          replace d8 : u8 = _ := d8
          subst d8
          go_simp
          exact hK.out _ _ rfl (Below.refl _ _)
        refine Jo.jcons (i := 10) (o := ⟨some 40, _, _, _, _, _⟩) (di := some 40) (L := [(some 36, 6), (some 39, 9)]) (f := Jo.Fact.eq undef) rfl rfl rfl rfl (fun vs wj hJ hd K hK => ?_) ?_
        · have d6 : (Jo.Fact.eq (.bool false)).P (vs 6) wj := hd 6 (by decide)
          have d9 : (Jo.Fact.eq undef).P (vs 9) wj := hd 9 (by decide)
          clear hd
          simp only [Jo.putl, List.foldl_cons, List.foldl_nil, Act.put, List.setIfInBounds_toArray, List.set_cons_zero, List.set_cons_succ] at hK ⊢
          generalize vs 6 = u6 at hK d6 ⊢
          generalize vs 9 = u9 at hK d9 ⊢
          replace d6 : u6 = _ := d6
          subst d6
          replace d9 : u9 = _ := d9
          subst d9
          go_simp
          exact hK.out _ _ rfl (Below.refl _ _)
        refine Jo.jcons (i := 11) (o := ⟨some 41, _, _, _, _, _⟩) (di := some 41) (L := [(some 36, 6), (some 40, 10)]) (f := Jo.Fact.eq (.bool false)) rfl rfl rfl rfl (fun vs wj hJ hd K hK => ?_) ?_
        · have d6 : (Jo.Fact.eq (.bool false)).P (vs 6) wj := hd 6 (by decide)
          have d10 : (Jo.Fact.eq undef).P (vs 10) wj := hd 10 (by decide)
          clear hd
          simp only [Jo.putl, List.foldl_cons, List.foldl_nil, Act.put, List.setIfInBounds_toArray, List.set_cons_zero, List.set_cons_succ] at hK ⊢
          generalize vs 6 = u6 at hK d6 ⊢
          generalize vs 10 = u10 at hK d10 ⊢
          replace d6 : u6 = _ := d6
          subst d6
          replace d10 : u10 = _ := d10
          subst d10
          go_simp
          exact hK.out _ _ rfl (Below.refl _ _)
        refine Jo.jcons (i := 12) (o := ⟨some 42, _, _, _, _, _⟩) (di := some 42) (L := [(some 41, 11)]) (f := Jo.Fact.eq (.bool false)) rfl rfl rfl rfl (fun vs wj hJ hd K hK => ?_) ?_
        · have d11 : (Jo.Fact.eq (.bool false)).P (vs 11) wj := hd 11 (by decide)
          clear hd
          simp only [Jo.putl, List.foldl_cons, List.foldl_nil, Act.put, List.setIfInBounds_toArray, List.set_cons_zero, List.set_cons_succ] at hK ⊢
          generalize vs 11 = u11 at hK d11 ⊢
          replace d11 : u11 = _ := d11
          subst d11
          go_simp
          exact hK.out _ _ rfl (Below.refl _ _)
        refine Jo.jcons (i := 13) (o := ⟨some 43, _, _, _, _, _⟩) (di := some 43) (L := [(some 42, 12)]) (f := Jo.Fact.eq (.agg #[.int .i64 D1, .bool s1, .int .u64 M1, .int .i64 E1])) rfl rfl rfl rfl (fun vs wj hJ hd K hK => ?_) ?_
        · have d12 : (Jo.Fact.eq (.bool false)).P (vs 12) wj := hd 12 (by decide)
          clear hd
          simp only [Jo.putl, List.foldl_cons, List.foldl_nil, Act.put, List.setIfInBounds_toArray, List.set_cons_zero, List.set_cons_succ] at hK ⊢
          generalize vs 12 = u12 at hK d12 ⊢
          replace d12 : u12 = _ := d12
          subst d12
          have xX10 : World.cell? wj ⟨w.heap.size + 1, 0, none⟩ = some (.int .i64 D1) := (X1.below hJ).cell 0
          have xX11 : World.cell? wj ⟨w.heap.size + 1, 1, none⟩ = some (.bool s1) := (X1.below hJ).cell 1
          have xX12 : World.cell? wj ⟨w.heap.size + 1, 2, none⟩ = some (.int .u64 M1) := (X1.below hJ).cell 2
          have xX13 : World.cell? wj ⟨w.heap.size + 1, 3, none⟩ = some (.int .i64 E1) := (X1.below hJ).cell 3
          go_simp
          exact hK.out _ _ rfl (Below.refl _ _)
        refine Jo.jcons (i := 14) (o := ⟨some 44, _, _, _, _, _⟩) (di := some 44) (L := [(some 42, 12)]) (f := Jo.Fact.eq (.agg #[.int .i64 D0, .bool s0, .int .u64 M0, .int .i64 E0])) rfl rfl rfl rfl (fun vs wj hJ hd K hK => ?_) ?_
        · have d12 : (Jo.Fact.eq (.bool false)).P (vs 12) wj := hd 12 (by decide)
          clear hd
          simp only [Jo.putl, List.foldl_cons, List.foldl_nil, Act.put, List.setIfInBounds_toArray, List.set_cons_zero, List.set_cons_succ] at hK ⊢
          generalize vs 12 = u12 at hK d12 ⊢
          replace d12 : u12 = _ := d12
          subst d12
          have xX00 : World.cell? wj ⟨w.heap.size, 0, none⟩ = some (.int .i64 D0) := (X0.below hJ).cell 0
          have xX01 : World.cell? wj ⟨w.heap.size, 1, none⟩ = some (.bool s0) := (X0.below hJ).cell 1
          have xX02 : World.cell? wj ⟨w.heap.size, 2, none⟩ = some (.int .u64 M0) := (X0.below hJ).cell 2
          have xX03 : World.cell? wj ⟨w.heap.size, 3, none⟩ = some (.int .i64 E0) := (X0.below hJ).cell 3
          go_simp
          exact hK.out _ _ rfl (Below.refl _ _)
        refine Jo.jcons (i := 15) (o := ⟨some 45, _, _, _, _, _⟩) (di := some 45) (L := [(some 42, 12), (some 43, 13), (some 44, 14)]) (f := Jo.Fact.eq (.int .i64 (-p))) rfl rfl rfl rfl (fun vs wj hJ hd K hK => ?_) ?_
        · have d12 : (Jo.Fact.eq (.bool false)).P (vs 12) wj := hd 12 (by decide)
          have d13 : (Jo.Fact.eq (.agg #[.int .i64 D1, .bool s1, .int .u64 M1, .int .i64 E1])).P (vs 13) wj := hd 13 (by decide)
          have d14 : (Jo.Fact.eq (.agg #[.int .i64 D0, .bool s0, .int .u64 M0, .int .i64 E0])).P (vs 14) wj := hd 14 (by decide)
          clear hd
          simp only [Jo.putl, List.foldl_cons, List.foldl_nil, Act.put, List.setIfInBounds_toArray, List.set_cons_zero, List.set_cons_succ] at hK ⊢
          generalize vs 12 = u12 at hK d12 ⊢
          generalize vs 13 = u13 at hK d13 ⊢
          generalize vs 14 = u14 at hK d14 ⊢
          replace d12 : u12 = _ := d12
          subst d12
          replace d13 : u13 = _ := d13
          subst d13
          replace d14 : u14 = _ := d14
          subst d14
          go_simp
          refine (nCmp u1 u0 HPR.out).mono ?_
          rintro ee wk ⟨rfl, B⟩
          exact hK.out _ _ rfl B
        refine Jo.jcons (i := 16) (o := ⟨some 46, _, _, _, _, _⟩) (di := some 46) (L := [(some 42, 12)]) (f := Jo.Fact.eq (.int .i64 p)) rfl rfl rfl rfl (fun vs wj hJ hd K hK => ?_) ?_
        · have d12 : (Jo.Fact.eq (.bool false)).P (vs 12) wj := hd 12 (by decide)
          clear hd
          simp only [Jo.putl, List.foldl_cons, List.foldl_nil, Act.put, List.setIfInBounds_toArray, List.set_cons_zero, List.set_cons_succ] at hK ⊢
          generalize vs 12 = u12 at hK d12 ⊢
          replace d12 : u12 = _ := d12
          subst d12
          go_simp
          exact hK.out _ _ rfl (Below.refl _ _)
        refine Jo.jcons (i := 17) (o := ⟨some 47, _, _, _, _, _⟩) (di := some 47) (L := [(some 42, 12), (some 46, 16)]) (f := Jo.Fact.eq (.int .i64 (-p))) rfl rfl rfl rfl (fun vs wj hJ hd K hK => ?_) ?_
        · have d12 : (Jo.Fact.eq (.bool false)).P (vs 12) wj := hd 12 (by decide)
          have d16 : (Jo.Fact.eq (.int .i64 p)).P (vs 16) wj := hd 16 (by decide)
          clear hd
          simp only [Jo.putl, List.foldl_cons, List.foldl_nil, Act.put, List.setIfInBounds_toArray, List.set_cons_zero, List.set_cons_succ] at hK ⊢
          generalize vs 12 = u12 at hK d12 ⊢
          generalize vs 16 = u16 at hK d16 ⊢
          replace d12 : u12 = _ := d12
          subst d12
          replace d16 : u16 = _ := d16
          subst d16
          have hw := HW.out
          go_simp
          exact hK.out _ _ rfl (Below.refl _ _)
        refine Jo.jcons (i := 18) (o := ⟨some 48, _, _, _, _, _⟩) (di := some 48) (L := [(some 42, 12), (some 45, 15), (some 47, 17)]) (f := Jo.Fact.eq (.bool false)) rfl rfl rfl rfl (fun vs wj hJ hd K hK => ?_) ?_
        · have d12 : (Jo.Fact.eq (.bool false)).P (vs 12) wj := hd 12 (by decide)
          have d15 : (Jo.Fact.eq (.int .i64 (-p))).P (vs 15) wj := hd 15 (by decide)
          have d17 : (Jo.Fact.eq (.int .i64 (-p))).P (vs 17) wj := hd 17 (by decide)
          clear hd
          simp only [Jo.putl, List.foldl_cons, List.foldl_nil, Act.put, List.setIfInBounds_toArray, List.set_cons_zero, List.set_cons_succ] at hK ⊢
          generalize vs 12 = u12 at hK d12 ⊢
          generalize vs 15 = u15 at hK d15 ⊢
          generalize vs 17 = u17 at hK d17 ⊢
          replace d12 : u12 = _ := d12
          subst d12
          replace d15 : u15 = _ := d15
          subst d15
          replace d17 : u17 = _ := d17
          subst d17
          go_simp
          exact hK.out _ _ (by first | rfl | (show Value.bool _ = Value.bool _; simp)) (Below.refl _ _)
        refine Jo.jcons (i := 19) (o := ⟨some 49, _, _, _, _, _⟩) (di := some 49) (L := [(some 42, 12), (some 48, 18)]) (f := Jo.Fact.eq (.bool false)) rfl rfl rfl rfl (fun vs wj hJ hd K hK => ?_) ?_
        · have d12 : (Jo.Fact.eq (.bool false)).P (vs 12) wj := hd 12 (by decide)
          have d18 : (Jo.Fact.eq (.bool false)).P (vs 18) wj := hd 18 (by decide)
          clear hd
          simp only [Jo.putl, List.foldl_cons, List.foldl_nil, Act.put, List.setIfInBounds_toArray, List.set_cons_zero, List.set_cons_succ] at hK ⊢
          generalize vs 12 = u12 at hK d12 ⊢
          generalize vs 18 = u18 at hK d18 ⊢
          replace d12 : u12 = _ := d12
          subst d12
          replace d18 : u18 = _ := d18
          subst d18
          go_simp
          exact hK.out _ _ rfl (Below.refl _ _)
        refine Jo.jcons (i := 20) (o := ⟨some 50, _, _, _, _, _⟩) (di := some 50) (L := [(some 49, 19)]) (f := Jo.Fact.eq (.bool false)) rfl rfl rfl rfl (fun vs wj hJ hd K hK => ?_) ?_
        · have d19 : (Jo.Fact.eq (.bool false)).P (vs 19) wj := hd 19 (by decide)
          clear hd
          simp only [Jo.putl, List.foldl_cons, List.foldl_nil, Act.put, List.setIfInBounds_toArray, List.set_cons_zero, List.set_cons_succ] at hK ⊢
          generalize vs 19 = u19 at hK d19 ⊢
          replace d19 : u19 = _ := d19
          subst d19
          go_simp
          exact hK.out _ _ rfl (Below.refl _ _)
        refine Jo.jcons (i := 21) (o := ⟨some 51, _, _, _, _, _⟩) (di := some 51) (L := [(some 50, 20)]) (f := Jo.Fact.eq (.agg #[.int .i64 D0, .bool s0, .int .u64 M0, .int .i64 E0])) rfl rfl rfl rfl (fun vs wj hJ hd K hK => ?_) ?_
        · have d20 : (Jo.Fact.eq (.bool false)).P (vs 20) wj := hd 20 (by decide)
          clear hd
          simp only [Jo.putl, List.foldl_cons, List.foldl_nil, Act.put, List.setIfInBounds_toArray, List.set_cons_zero, List.set_cons_succ] at hK ⊢
          generalize vs 20 = u20 at hK d20 ⊢
          replace d20 : u20 = _ := d20
          subst d20
          have xX00 : World.cell? wj ⟨w.heap.size, 0, none⟩ = some (.int .i64 D0) := (X0.below hJ).cell 0
          have xX01 : World.cell? wj ⟨w.heap.size, 1, none⟩ = some (.bool s0) := (X0.below hJ).cell 1
          have xX02 : World.cell? wj ⟨w.heap.size, 2, none⟩ = some (.int .u64 M0) := (X0.below hJ).cell 2
          have xX03 : World.cell? wj ⟨w.heap.size, 3, none⟩ = some (.int .i64 E0) := (X0.below hJ).cell 3
          go_simp
          exact hK.out _ _ rfl (Below.refl _ _)
        refine Jo.jcons (i := 22) (o := ⟨some 52, _, _, _, _, _⟩) (di := some 52) (L := [(some 50, 20), (some 51, 21)]) (f := Jo.Fact.num (-x)) rfl rfl rfl rfl (fun vs wj hJ hd K hK => ?_) ?_
        · have d20 : (Jo.Fact.eq (.bool false)).P (vs 20) wj := hd 20 (by decide)
          have d21 : (Jo.Fact.eq (.agg #[.int .i64 D0, .bool s0, .int .u64 M0, .int .i64 E0])).P (vs 21) wj := hd 21 (by decide)
          clear hd
          simp only [Jo.putl, List.foldl_cons, List.foldl_nil, Act.put, List.setIfInBounds_toArray, List.set_cons_zero, List.set_cons_succ] at hK ⊢
          generalize vs 20 = u20 at hK d20 ⊢
          generalize vs 21 = u21 at hK d21 ⊢
          replace d20 : u20 = _ := d20
          subst d20
          replace d21 : u21 = _ := d21
          subst d21
          go_simp
          refine (nNeg u0 NX.out).mono ?_
          rintro ee wk ⟨K12, s12, M12, E12, rfl, q12, B⟩
          exact hK.out _ _ ⟨K12, s12, M12, E12, rfl, q12⟩ B
        refine Jo.jcons (i := 23) (o := ⟨some 53, _, _, _, _, _⟩) (di := some 53) (L := [(some 50, 20)]) (f := Jo.Fact.eq (.agg #[.int .i64 D1, .bool s1, .int .u64 M1, .int .i64 E1])) rfl rfl rfl rfl (fun vs wj hJ hd K hK => ?_) ?_
        · have d20 : (Jo.Fact.eq (.bool false)).P (vs 20) wj := hd 20 (by decide)
          clear hd
          simp only [Jo.putl, List.foldl_cons, List.foldl_nil, Act.put, List.setIfInBounds_toArray, List.set_cons_zero, List.set_cons_succ] at hK ⊢
          generalize vs 20 = u20 at hK d20 ⊢
          replace d20 : u20 = _ := d20
          subst d20
          have xX10 : World.cell? wj ⟨w.heap.size + 1, 0, none⟩ = some (.int .i64 D1) := (X1.below hJ).cell 0
          have xX11 : World.cell? wj ⟨w.heap.size + 1, 1, none⟩ = some (.bool s1) := (X1.below hJ).cell 1
          have xX12 : World.cell? wj ⟨w.heap.size + 1, 2, none⟩ = some (.int .u64 M1) := (X1.below hJ).cell 2
          have xX13 : World.cell? wj ⟨w.heap.size + 1, 3, none⟩ = some (.int .i64 E1) := (X1.below hJ).cell 3
          go_simp
          exact hK.out _ _ rfl (Below.refl _ _)
        refine Jo.jcons (i := 24) (o := ⟨some 54, _, _, _, _, _⟩) (di := some 54) (L := [(some 50, 20), (some 53, 23)]) (f := Jo.Fact.num (-y)) rfl rfl rfl rfl (fun vs wj hJ hd K hK => ?_) ?_
        · have d20 : (Jo.Fact.eq (.bool false)).P (vs 20) wj := hd 20 (by decide)
          have d23 : (Jo.Fact.eq (.agg #[.int .i64 D1, .bool s1, .int .u64 M1, .int .i64 E1])).P (vs 23) wj := hd 23 (by decide)
          clear hd
          simp only [Jo.putl, List.foldl_cons, List.foldl_nil, Act.put, List.setIfInBounds_toArray, List.set_cons_zero, List.set_cons_succ] at hK ⊢
          generalize vs 20 = u20 at hK d20 ⊢
          generalize vs 23 = u23 at hK d23 ⊢
          replace d20 : u20 = _ := d20
          subst d20
          replace d23 : u23 = _ := d23
          subst d23
          go_simp
          refine (nNeg u1 NY.out).mono ?_
          rintro ee wk ⟨K13, s13, M13, E13, rfl, q13, B⟩
          exact hK.out _ _ ⟨K13, s13, M13, E13, rfl, q13⟩ B
        refine Jo.jcons (i := 25) (o := ⟨some 55, _, _, _, _, _⟩) (di := some 55) (L := [(some 50, 20), (some 52, 22), (some 54, 24)]) (f := Jo.Fact.eq (.int .i64 (-p))) rfl rfl rfl rfl (fun vs wj hJ hd K hK => ?_) ?_
        · have d20 : (Jo.Fact.eq (.bool false)).P (vs 20) wj := hd 20 (by decide)
          have d22 : (Jo.Fact.num (-x)).P (vs 22) wj := hd 22 (by decide)
          have d24 : (Jo.Fact.num (-y)).P (vs 24) wj := hd 24 (by decide)
          clear hd
          simp only [Jo.putl, List.foldl_cons, List.foldl_nil, Act.put, List.setIfInBounds_toArray, List.set_cons_zero, List.set_cons_succ] at hK ⊢
          generalize vs 20 = u20 at hK d20 ⊢
          generalize vs 22 = u22 at hK d22 ⊢
          generalize vs 24 = u24 at hK d24 ⊢
          replace d20 : u20 = _ := d20
          subst d20
          obtain ⟨K12, s12, M12, E12, rfl, q12⟩ := d22
          obtain ⟨K13, s13, M13, E13, rfl, q13⟩ := d24
          go_simp
          refine (nCmp (z := -p) q12.top q13.top (by rw [q12.rk, q13.rk]; exact HPN.out)).mono ?_
          rintro ee wk ⟨rfl, B⟩
          exact hK.out _ _ rfl B
        refine Jo.jcons (i := 26) (o := ⟨some 56, _, _, _, _, _⟩) (di := some 56) (L := [(some 50, 20)]) (f := Jo.Fact.eq (.int .i64 p)) rfl rfl rfl rfl (fun vs wj hJ hd K hK => ?_) ?_
        · have d20 : (Jo.Fact.eq (.bool false)).P (vs 20) wj := hd 20 (by decide)
          clear hd
          simp only [Jo.putl, List.foldl_cons, List.foldl_nil, Act.put, List.setIfInBounds_toArray, List.set_cons_zero, List.set_cons_succ] at hK ⊢
          generalize vs 20 = u20 at hK d20 ⊢
          replace d20 : u20 = _ := d20
          subst d20
          go_simp
          exact hK.out _ _ rfl (Below.refl _ _)
        refine Jo.jcons (i := 27) (o := ⟨some 57, _, _, _, _, _⟩) (di := some 57) (L := [(some 50, 20), (some 56, 26)]) (f := Jo.Fact.eq (.int .i64 (-p))) rfl rfl rfl rfl (fun vs wj hJ hd K hK => ?_) ?_
        · have d20 : (Jo.Fact.eq (.bool false)).P (vs 20) wj := hd 20 (by decide)
          have d26 : (Jo.Fact.eq (.int .i64 p)).P (vs 26) wj := hd 26 (by decide)
          clear hd
          simp only [Jo.putl, List.foldl_cons, List.foldl_nil, Act.put, List.setIfInBounds_toArray, List.set_cons_zero, List.set_cons_succ] at hK ⊢
          generalize vs 20 = u20 at hK d20 ⊢
          generalize vs 26 = u26 at hK d26 ⊢
          replace d20 : u20 = _ := d20
          subst d20
          replace d26 : u26 = _ := d26
          subst d26
          have hw := HW.out
          go_simp
          exact hK.out _ _ rfl (Below.refl _ _)
        refine Jo.jcons (i := 28) (o := ⟨some 58, _, _, _, _, _⟩) (di := some 58) (L := [(some 50, 20), (some 55, 25), (some 57, 27)]) (f := Jo.Fact.eq (.bool false)) rfl rfl rfl rfl (fun vs wj hJ hd K hK => ?_) ?_
        · have d20 : (Jo.Fact.eq (.bool false)).P (vs 20) wj := hd 20 (by decide)
          have d25 : (Jo.Fact.eq (.int .i64 (-p))).P (vs 25) wj := hd 25 (by decide)
          have d27 : (Jo.Fact.eq (.int .i64 (-p))).P (vs 27) wj := hd 27 (by decide)
          clear hd
          simp only [Jo.putl, List.foldl_cons, List.foldl_nil, Act.put, List.setIfInBounds_toArray, List.set_cons_zero, List.set_cons_succ] at hK ⊢
          generalize vs 20 = u20 at hK d20 ⊢
          generalize vs 25 = u25 at hK d25 ⊢
          generalize vs 27 = u27 at hK d27 ⊢
          replace d20 : u20 = _ := d20
          subst d20
          replace d25 : u25 = _ := d25
          subst d25
          replace d27 : u27 = _ := d27
          subst d27
          go_simp
          exact hK.out _ _ (by first | rfl | (show Value.bool _ = Value.bool _; simp)) (Below.refl _ _)
        refine Jo.jcons (i := 29) (o := ⟨some 59, _, _, _, _, _⟩) (di := some 59) (L := [(some 50, 20), (some 58, 28)]) (f := Jo.Fact.eq (.bool false)) rfl rfl rfl rfl (fun vs wj hJ hd K hK => ?_) ?_
        · have d20 : (Jo.Fact.eq (.bool false)).P (vs 20) wj := hd 20 (by decide)
          have d28 : (Jo.Fact.eq (.bool false)).P (vs 28) wj := hd 28 (by decide)
          clear hd
          simp only [Jo.putl, List.foldl_cons, List.foldl_nil, Act.put, List.setIfInBounds_toArray, List.set_cons_zero, List.set_cons_succ] at hK ⊢
          generalize vs 20 = u20 at hK d20 ⊢
          generalize vs 28 = u28 at hK d28 ⊢
          replace d20 : u20 = _ := d20
          subst d20
          replace d28 : u28 = _ := d28
          subst d28
          go_simp
          exact hK.out _ _ rfl (Below.refl _ _)
        exact Jo.Steps.nil
      have d0 : (Jo.Fact.eq (.int .i64 p)).P (vs 0) w9 := hd 0 (by decide)
      have d1 : (Jo.Fact.eq (.bool false)).P (vs 1) w9 := hd 1 (by decide)
      have d2 : (Jo.Fact.eq (.bool false)).P (vs 2) w9 := hd 2 (by decide)
      have d3 : (Jo.Fact.eq undef).P (vs 3) w9 := hd 3 (by decide)
      have d4 : (Jo.Fact.eq undef).P (vs 4) w9 := hd 4 (by decide)
      have d5 : (Jo.Fact.eq (.bool false)).P (vs 5) w9 := hd 5 (by decide)
      have d6 : (Jo.Fact.eq (.bool false)).P (vs 6) w9 := hd 6 (by decide)
      have d7 : (Jo.Fact.eq undef).P (vs 7) w9 := hd 7 (by decide)
      have d8 : (Jo.Fact.eq undef).P (vs 8) w9 := hd 8 (by decide)
      have d9 : (Jo.Fact.eq undef).P (vs 9) w9 := hd 9 (by decide)
      have d10 : (Jo.Fact.eq undef).P (vs 10) w9 := hd 10 (by decide)
      have d11 : (Jo.Fact.eq (.bool false)).P (vs 11) w9 := hd 11 (by decide)
      have d12 : (Jo.Fact.eq (.bool false)).P (vs 12) w9 := hd 12 (by decide)
      have d13 : (Jo.Fact.eq (.agg #[.int .i64 D1, .bool s1, .int .u64 M1, .int .i64 E1])).P (vs 13) w9 := hd 13 (by decide)
      have d14 : (Jo.Fact.eq (.agg #[.int .i64 D0, .bool s0, .int .u64 M0, .int .i64 E0])).P (vs 14) w9 := hd 14 (by decide)
      have d15 : (Jo.Fact.eq (.int .i64 (-p))).P (vs 15) w9 := hd 15 (by decide)
      have d16 : (Jo.Fact.eq (.int .i64 p)).P (vs 16) w9 := hd 16 (by decide)
      have d17 : (Jo.Fact.eq (.int .i64 (-p))).P (vs 17) w9 := hd 17 (by decide)
      have d18 : (Jo.Fact.eq (.bool false)).P (vs 18) w9 := hd 18 (by decide)
      have d19 : (Jo.Fact.eq (.bool false)).P (vs 19) w9 := hd 19 (by decide)
      have d20 : (Jo.Fact.eq (.bool false)).P (vs 20) w9 := hd 20 (by decide)
      have d21 : (Jo.Fact.eq (.agg #[.int .i64 D0, .bool s0, .int .u64 M0, .int .i64 E0])).P (vs 21) w9 := hd 21 (by decide)
      have d22 : (Jo.Fact.num (-x)).P (vs 22) w9 := hd 22 (by decide)
      have d23 : (Jo.Fact.eq (.agg #[.int .i64 D1, .bool s1, .int .u64 M1, .int .i64 E1])).P (vs 23) w9 := hd 23 (by decide)
      have d24 : (Jo.Fact.num (-y)).P (vs 24) w9 := hd 24 (by decide)
      have d25 : (Jo.Fact.eq (.int .i64 (-p))).P (vs 25) w9 := hd 25 (by decide)
      have d26 : (Jo.Fact.eq (.int .i64 p)).P (vs 26) w9 := hd 26 (by decide)
      have d27 : (Jo.Fact.eq (.int .i64 (-p))).P (vs 27) w9 := hd 27 (by decide)
      have d28 : (Jo.Fact.eq (.bool false)).P (vs 28) w9 := hd 28 (by decide)
      have d29 : (Jo.Fact.eq (.bool false)).P (vs 29) w9 := hd 29 (by decide)
      clear hd
      simp only [Jo.putl, List.foldl_cons, List.foldl_nil, Act.put, List.setIfInBounds_toArray, List.set_cons_zero, List.set_cons_succ]
      generalize vs 0 = u0 at d0 ⊢
      generalize vs 1 = u1 at d1 ⊢
      generalize vs 2 = u2 at d2 ⊢
      generalize vs 3 = u3 at d3 ⊢
      generalize vs 4 = u4 at d4 ⊢
      generalize vs 5 = u5 at d5 ⊢
      generalize vs 6 = u6 at d6 ⊢
      generalize vs 7 = u7 at d7 ⊢
      generalize vs 8 = u8 at d8 ⊢
      generalize vs 9 = u9 at d9 ⊢
      generalize vs 10 = u10 at d10 ⊢
      generalize vs 11 = u11 at d11 ⊢
      generalize vs 12 = u12 at d12 ⊢
      generalize vs 13 = u13 at d13 ⊢
      generalize vs 14 = u14 at d14 ⊢
      generalize vs 15 = u15 at d15 ⊢
      generalize vs 16 = u16 at d16 ⊢
      generalize vs 17 = u17 at d17 ⊢
      generalize vs 18 = u18 at d18 ⊢
      generalize vs 19 = u19 at d19 ⊢
      generalize vs 20 = u20 at d20 ⊢
      generalize vs 21 = u21 at d21 ⊢
      generalize vs 22 = u22 at d22 ⊢
      generalize vs 23 = u23 at d23 ⊢
      generalize vs 24 = u24 at d24 ⊢
      generalize vs 25 = u25 at d25 ⊢
      generalize vs 26 = u26 at d26 ⊢
      generalize vs 27 = u27 at d27 ⊢
      generalize vs 28 = u28 at d28 ⊢
      generalize vs 29 = u29 at d29 ⊢
      clear vs
      replace d0 : u0 = _ := d0
      subst d0
      replace d1 : u1 = _ := d1
      subst d1
      replace d2 : u2 = _ := d2
      subst d2
      replace d3 : u3 = _ := d3
      subst d3
      replace d4 : u4 = _ := d4
      subst d4
      replace d5 : u5 = _ := d5
      subst d5
      replace d6 : u6 = _ := d6
      subst d6
      replace d7 : u7 = _ := d7
      subst d7
      replace d8 : u8 = _ := d8
      subst d8
      replace d9 : u9 = _ := d9
      subst d9
      replace d10 : u10 = _ := d10
      subst d10
      replace d11 : u11 = _ := d11
      subst d11
      replace d12 : u12 = _ := d12
      subst d12
      replace d13 : u13 = _ := d13
      subst d13
      replace d14 : u14 = _ := d14
      subst d14
      replace d15 : u15 = _ := d15
      subst d15
      replace d16 : u16 = _ := d16
      subst d16
      replace d17 : u17 = _ := d17
      subst d17
      replace d18 : u18 = _ := d18
      subst d18
      replace d19 : u19 = _ := d19
      subst d19
      replace d20 : u20 = _ := d20
      subst d20
      replace d21 : u21 = _ := d21
      subst d21
      obtain ⟨K12, s12, M12, E12, rfl, _⟩ := d22
      replace d23 : u23 = _ := d23
      subst d23
      obtain ⟨K13, s13, M13, E13, rfl, _⟩ := d24
      replace d25 : u25 = _ := d25
      subst d25
      replace d26 : u26 = _ := d26
      subst d26
      replace d27 : u27 = _ := d27
      subst d27
      replace d28 : u28 = _ := d28
      subst d28
      replace d29 : u29 = _ := d29
      subst d29
      replace X0 := X0.below hJ
      replace X1 := X1.below hJ
      replace X2 := X2.below hJ
      replace X10 := X10.below hJ
      replace X11 := X11.below hJ
      replace HB := Lib.hid (bt HB.out hJ)
      refine Jo.jdone (by kernel_rfl) ?_
      go_wp2_with fail
      go_meet
      exact ⟨rfl, X0, X1, X2, X10, X11, HB.out⟩
    · have P1 := Lib.hid P1
      have Q1 := Lib.hid Q1
      refine Jo.region_joint (T := [0, 1, 2, 3, 4, 5, 6, 7, 8, 9, 10, 11, 12, 13, 14, 15, 16, 17, 18, 19, 20, 21, 22, 23, 24, 25, 26, 27, 28, 29]) (ds := [some 30, some 31, some 32, some 33, some 34, some 35, some 36, some 37, some 38, some 39, some 40, some 41, some 42, some 43, some 44, some 45, some 46, some 47, some 48, some 49, some 50, some 51, some 52, some 53, some 54, some 55, some 56, some 57, some 58, some 59]) (ls := [[], [0], [1], [2], [2, 3], [2, 4], [5], [6], [6], [6, 7, 8], [6, 9], [6, 10], [11], [12], [12], [12, 13, 14], [12], [12, 16], [12, 15, 17], [12, 18], [19], [20], [20, 21], [20], [20, 23], [20, 22, 24], [20], [20, 26], [20, 25, 27], [20, 28]]) (k := 30) (L := [(some 30, 0), (some 31, 1), (some 32, 2), (some 33, 3), (some 34, 4), (some 35, 5), (some 36, 6), (some 37, 7), (some 38, 8), (some 39, 9), (some 40, 10), (some 41, 11), (some 42, 12), (some 43, 13), (some 44, 14), (some 45, 15), (some 46, 16), (some 47, 17), (some 48, 18), (some 49, 19), (some 50, 20), (some 51, 21), (some 52, 22), (some 53, 23), (some 54, 24), (some 55, 25), (some 56, 26), (some 57, 27), (some 58, 28), (some 59, 29)]) (fuel := 0) (J := fun wj => Below (World.heap w8).size w8 wj)
        (F := [Jo.Fact.eq (.int .i64 p), Jo.Fact.eq (.bool true), Jo.Fact.eq (.bool true), Jo.Fact.eq (.int .i64 q), Jo.Fact.eq (.bool false), Jo.Fact.eq (.bool false), Jo.Fact.eq (.bool false), Jo.Fact.eq undef, Jo.Fact.eq undef, Jo.Fact.eq undef, Jo.Fact.eq undef, Jo.Fact.eq (.bool false), Jo.Fact.eq (.bool false), Jo.Fact.eq (.agg #[.int .i64 D1, .bool s1, .int .u64 M1, .int .i64 E1]), Jo.Fact.eq (.agg #[.int .i64 D0, .bool s0, .int .u64 M0, .int .i64 E0]), Jo.Fact.eq (.int .i64 (-p)), Jo.Fact.eq (.int .i64 p), Jo.Fact.eq (.int .i64 (-p)), Jo.Fact.eq (.bool false), Jo.Fact.eq (.bool false), Jo.Fact.eq (.bool false), Jo.Fact.eq (.agg #[.int .i64 D0, .bool s0, .int .u64 M0, .int .i64 E0]), Jo.Fact.num (-x), Jo.Fact.eq (.agg #[.int .i64 D1, .bool s1, .int .u64 M1, .int .i64 E1]), Jo.Fact.num (-y), Jo.Fact.eq (.int .i64 (-p)), Jo.Fact.eq (.int .i64 p), Jo.Fact.eq (.int .i64 (-p)), Jo.Fact.eq (.bool false), Jo.Fact.eq (.bool false)])
        (by kernel_rfl) (by kernel_rfl) (by decide) rfl rfl (fun _ _ h b => bt h b) ((Below.refl _ _).drew) ?_ (fun vs w9 hJ hd => ?_)
      · refine Jo.jcons (i := 0) (o := ⟨some 30, _, _, _, _, _⟩) (di := some 30) (L := []) (f := Jo.Fact.eq (.int .i64 p)) rfl rfl rfl rfl (fun vs wj hJ hd K hK => ?_) ?_
        · clear hd
          simp only [Jo.putl, List.foldl_nil, Act.put, List.setIfInBounds_toArray, List.set_cons_zero, List.set_cons_succ] at hK ⊢
          go_simp
          exact hK.out _ _ rfl (Below.refl _ _)
        refine Jo.jcons (i := 1) (o := ⟨some 31, _, _, _, _, _⟩) (di := some 31) (L := [(some 30, 0)]) (f := Jo.Fact.eq (.bool true)) rfl rfl rfl rfl (fun vs wj hJ hd K hK => ?_) ?_
        · have d0 : (Jo.Fact.eq (.int .i64 p)).P (vs 0) wj := hd 0 (by decide)
          clear hd
          simp only [Jo.putl, List.foldl_cons, List.foldl_nil, Act.put, List.setIfInBounds_toArray, List.set_cons_zero, List.set_cons_succ] at hK ⊢
          generalize vs 0 = u0 at hK d0 ⊢
          replace d0 : u0 = _ := d0
          subst d0
          have ht := P1.out
          go_simp
          exact hK.out _ _ (by first | rfl | (show Value.bool _ = Value.bool _; simp only [ht])) (Below.refl _ _)
        refine Jo.jcons (i := 2) (o := ⟨some 32, _, _, _, _, _⟩) (di := some 32) (L := [(some 31, 1)]) (f := Jo.Fact.eq (.bool true)) rfl rfl rfl rfl (fun vs wj hJ hd K hK => ?_) ?_
        · have d1 : (Jo.Fact.eq (.bool true)).P (vs 1) wj := hd 1 (by decide)
          clear hd
          simp only [Jo.putl, List.foldl_cons, List.foldl_nil, Act.put, List.setIfInBounds_toArray, List.set_cons_zero, List.set_cons_succ] at hK ⊢
          generalize vs 1 = u1 at hK d1 ⊢
          replace d1 : u1 = _ := d1
          subst d1
          go_simp
          exact hK.out _ _ rfl (Below.refl _ _)
        refine Jo.jcons (i := 3) (o := ⟨some 33, _, _, _, _, _⟩) (di := some 33) (L := [(some 32, 2)]) (f := Jo.Fact.eq (.int .i64 q)) rfl rfl rfl rfl (fun vs wj hJ hd K hK => ?_) ?_
        · have d2 : (Jo.Fact.eq (.bool true)).P (vs 2) wj := hd 2 (by decide)
          clear hd
          simp only [Jo.putl, List.foldl_cons, List.foldl_nil, Act.put, List.setIfInBounds_toArray, List.set_cons_zero, List.set_cons_succ] at hK ⊢
          generalize vs 2 = u2 at hK d2 ⊢
          replace d2 : u2 = _ := d2
          subst d2
          go_simp
          exact hK.out _ _ rfl (Below.refl _ _)
        refine Jo.jcons (i := 4) (o := ⟨some 34, _, _, _, _, _⟩) (di := some 34) (L := [(some 32, 2), (some 33, 3)]) (f := Jo.Fact.eq (.bool false)) rfl rfl rfl rfl (fun vs wj hJ hd K hK => ?_) ?_
        · have d2 : (Jo.Fact.eq (.bool true)).P (vs 2) wj := hd 2 (by decide)
          have d3 : (Jo.Fact.eq (.int .i64 q)).P (vs 3) wj := hd 3 (by decide)
          clear hd
          simp only [Jo.putl, List.foldl_cons, List.foldl_nil, Act.put, List.setIfInBounds_toArray, List.set_cons_zero, List.set_cons_succ] at hK ⊢
          generalize vs 2 = u2 at hK d2 ⊢
          generalize vs 3 = u3 at hK d3 ⊢
          replace d2 : u2 = _ := d2
          subst d2
          replace d3 : u3 = _ := d3
          subst d3
          have ht := Q1.out
          go_simp
          exact hK.out _ _ (by first | rfl | (show Value.bool _ = Value.bool _; simp only [ht])) (Below.refl _ _)
        refine Jo.jcons (i := 5) (o := ⟨some 35, _, _, _, _, _⟩) (di := some 35) (L := [(some 32, 2), (some 34, 4)]) (f := Jo.Fact.eq (.bool false)) rfl rfl rfl rfl (fun vs wj hJ hd K hK => ?_) ?_
        · have d2 : (Jo.Fact.eq (.bool true)).P (vs 2) wj := hd 2 (by decide)
          have d4 : (Jo.Fact.eq (.bool false)).P (vs 4) wj := hd 4 (by decide)
          clear hd
          simp only [Jo.putl, List.foldl_cons, List.foldl_nil, Act.put, List.setIfInBounds_toArray, List.set_cons_zero, List.set_cons_succ] at hK ⊢
          generalize vs 2 = u2 at hK d2 ⊢
          generalize vs 4 = u4 at hK d4 ⊢
          replace d2 : u2 = _ := d2
          subst d2
          replace d4 : u4 = _ := d4
          subst d4
          go_simp
          exact hK.out _ _ rfl (Below.refl _ _)
        refine Jo.jcons (i := 6) (o := ⟨some 36, _, _, _, _, _⟩) (di := some 36) (L := [(some 35, 5)]) (f := Jo.Fact.eq (.bool false)) rfl rfl rfl rfl (fun vs wj hJ hd K hK => ?_) ?_
        · have d5 : (Jo.Fact.eq (.bool false)).P (vs 5) wj := hd 5 (by decide)
          clear hd
          simp only [Jo.putl, List.foldl_cons, List.foldl_nil, Act.put, List.setIfInBounds_toArray, List.set_cons_zero, List.set_cons_succ] at hK ⊢
          generalize vs 5 = u5 at hK d5 ⊢
          replace d5 : u5 = _ := d5
          subst d5
          go_simp
          exact hK.out _ _ rfl (Below.refl _ _)
        refine Jo.jcons (i := 7) (o := ⟨some 37, _, _, _, _, _⟩) (di := some 37) (L := [(some 36, 6)]) (f := Jo.Fact.eq undef) rfl rfl rfl rfl (fun vs wj hJ hd K hK => ?_) ?_
        · have d6 : (Jo.Fact.eq (.bool false)).P (vs 6) wj := hd 6 (by decide)
          clear hd
          simp only [Jo.putl, List.foldl_cons, List.foldl_nil, Act.put, List.setIfInBounds_toArray, List.set_cons_zero, List.set_cons_succ] at hK ⊢
          generalize vs 6 = u6 at hK d6 ⊢
          replace d6 : u6 = _ := d6
          subst d6
          go_simp
          exact hK.out _ _ rfl (Below.refl _ _)
        refine Jo.jcons (i := 8) (o := ⟨some 38, _, _, _, _, _⟩) (di := some 38) (L := [(some 36, 6)]) (f := Jo.Fact.eq undef) rfl rfl rfl rfl (fun vs wj hJ hd K hK => ?_) ?_
        · have d6 : (Jo.Fact.eq (.bool false)).P (vs 6) wj := hd 6 (by decide)
          clear hd
          simp only [Jo.putl, List.foldl_cons, List.foldl_nil, Act.put, List.setIfInBounds_toArray, List.set_cons_zero, List.set_cons_succ] at hK ⊢
          generalize vs 6 = u6 at hK d6 ⊢
          replace d6 : u6 = _ := d6
          subst d6
          go_simp
          exact hK.out _ _ rfl (Below.refl _ _)
        refine Jo.jcons (i := 9) (o := ⟨some 39, _, _, _, _, _⟩) (di := some 39) (L := [(some 36, 6), (some 37, 7), (some 38, 8)]) (f := Jo.Fact.eq undef) rfl rfl rfl rfl (fun vs wj hJ hd K hK => ?_) ?_
        · have d6 : (Jo.Fact.eq (.bool false)).P (vs 6) wj := hd 6 (by decide)
          have d7 : (Jo.Fact.eq undef).P (vs 7) wj := hd 7 (by decide)
          have d8 : (Jo.Fact.eq undef).P (vs 8) wj := hd 8 (by decide)
          clear hd
          simp only [Jo.putl, List.foldl_cons, List.foldl_nil, Act.put, List.setIfInBounds_toArray, List.set_cons_zero, List.set_cons_succ] at hK ⊢
          generalize vs 6 = u6 at hK d6 ⊢
          generalize vs 7 = u7 at hK d7 ⊢
          generalize vs 8 = u8 at hK d8 ⊢
          replace d6 : u6 = _ := d6
          subst d6
          replace d7 : u7 = _ := d7
          subst d7
          replace d8 : u8 = _ := d8
          subst d8
          go_simp
          exact hK.out _ _ rfl (Below.refl _ _)
        refine Jo.jcons (i := 10) (o := ⟨some 40, _, _, _, _, _⟩) (di := some 40) (L := [(some 36, 6), (some 39, 9)]) (f := Jo.Fact.eq undef) rfl rfl rfl rfl (fun vs wj hJ hd K hK => ?_) ?_
        · have d6 : (Jo.Fact.eq (.bool false)).P (vs 6) wj := hd 6 (by decide)
          have d9 : (Jo.Fact.eq undef).P (vs 9) wj := hd 9 (by decide)
          clear hd
          simp only [Jo.putl, List.foldl_cons, List.foldl_nil, Act.put, List.setIfInBounds_toArray, List.set_cons_zero, List.set_cons_succ] at hK ⊢
          generalize vs 6 = u6 at hK d6 ⊢
          generalize vs 9 = u9 at hK d9 ⊢
          replace d6 : u6 = _ := d6
          subst d6
          replace d9 : u9 = _ := d9
          subst d9
          go_simp
          exact hK.out _ _ rfl (Below.refl _ _)
        refine Jo.jcons (i := 11) (o := ⟨some 41, _, _, _, _, _⟩) (di := some 41) (L := [(some 36, 6), (some 40, 10)]) (f := Jo.Fact.eq (.bool false)) rfl rfl rfl rfl (fun vs wj hJ hd K hK => ?_) ?_
        · have d6 : (Jo.Fact.eq (.bool false)).P (vs 6) wj := hd 6 (by decide)
          have d10 : (Jo.Fact.eq undef).P (vs 10) wj := hd 10 (by decide)
          clear hd
          simp only [Jo.putl, List.foldl_cons, List.foldl_nil, Act.put, List.setIfInBounds_toArray, List.set_cons_zero, List.set_cons_succ] at hK ⊢
          generalize vs 6 = u6 at hK d6 ⊢
          generalize vs 10 = u10 at hK d10 ⊢
          replace d6 : u6 = _ := d6
          subst d6
          replace d10 : u10 = _ := d10
          subst d10
          go_simp
          exact hK.out _ _ rfl (Below.refl _ _)
        refine Jo.jcons (i := 12) (o := ⟨some 42, _, _, _, _, _⟩) (di := some 42) (L := [(some 41, 11)]) (f := Jo.Fact.eq (.bool false)) rfl rfl rfl rfl (fun vs wj hJ hd K hK => ?_) ?_
        · have d11 : (Jo.Fact.eq (.bool false)).P (vs 11) wj := hd 11 (by decide)
          clear hd
          simp only [Jo.putl, List.foldl_cons, List.foldl_nil, Act.put, List.setIfInBounds_toArray, List.set_cons_zero, List.set_cons_succ] at hK ⊢
          generalize vs 11 = u11 at hK d11 ⊢
          replace d11 : u11 = _ := d11
          subst d11
          go_simp
          exact hK.out _ _ rfl (Below.refl _ _)
        refine Jo.jcons (i := 13) (o := ⟨some 43, _, _, _, _, _⟩) (di := some 43) (L := [(some 42, 12)]) (f := Jo.Fact.eq (.agg #[.int .i64 D1, .bool s1, .int .u64 M1, .int .i64 E1])) rfl rfl rfl rfl (fun vs wj hJ hd K hK => ?_) ?_
        · have d12 : (Jo.Fact.eq (.bool false)).P (vs 12) wj := hd 12 (by decide)
          clear hd
          simp only [Jo.putl, List.foldl_cons, List.foldl_nil, Act.put, List.setIfInBounds_toArray, List.set_cons_zero, List.set_cons_succ] at hK ⊢
          generalize vs 12 = u12 at hK d12 ⊢
          replace d12 : u12 = _ := d12
          subst d12
          have xX10 : World.cell? wj ⟨w.heap.size + 1, 0, none⟩ = some (.int .i64 D1) := (X1.below hJ).cell 0
          have xX11 : World.cell? wj ⟨w.heap.size + 1, 1, none⟩ = some (.bool s1) := (X1.below hJ).cell 1
          have xX12 : World.cell? wj ⟨w.heap.size + 1, 2, none⟩ = some (.int .u64 M1) := (X1.below hJ).cell 2
          have xX13 : World.cell? wj ⟨w.heap.size + 1, 3, none⟩ = some (.int .i64 E1) := (X1.below hJ).cell 3
          go_simp
          exact hK.out _ _ rfl (Below.refl _ _)
        refine Jo.jcons (i := 14) (o := ⟨some 44, _, _, _, _, _⟩) (di := some 44) (L := [(some 42, 12)]) (f := Jo.Fact.eq (.agg #[.int .i64 D0, .bool s0, .int .u64 M0, .int .i64 E0])) rfl rfl rfl rfl (fun vs wj hJ hd K hK => ?_) ?_
        · have d12 : (Jo.Fact.eq (.bool false)).P (vs 12) wj := hd 12 (by decide)
          clear hd
          simp only [Jo.putl, List.foldl_cons, List.foldl_nil, Act.put, List.setIfInBounds_toArray, List.set_cons_zero, List.set_cons_succ] at hK ⊢
          generalize vs 12 = u12 at hK d12 ⊢
          replace d12 : u12 = _ := d12
          subst d12
          have xX00 : World.cell? wj ⟨w.heap.size, 0, none⟩ = some (.int .i64 D0) := (X0.below hJ).cell 0
          have xX01 : World.cell? wj ⟨w.heap.size, 1, none⟩ = some (.bool s0) := (X0.below hJ).cell 1
          have xX02 : World.cell? wj ⟨w.heap.size, 2, none⟩ = some (.int .u64 M0) := (X0.below hJ).cell 2
          have xX03 : World.cell? wj ⟨w.heap.size, 3, none⟩ = some (.int .i64 E0) := (X0.below hJ).cell 3
          go_simp
          exact hK.out _ _ rfl (Below.refl _ _)
        refine Jo.jcons (i := 15) (o := ⟨some 45, _, _, _, _, _⟩) (di := some 45) (L := [(some 42, 12), (some 43, 13), (some 44, 14)]) (f := Jo.Fact.eq (.int .i64 (-p))) rfl rfl rfl rfl (fun vs wj hJ hd K hK => ?_) ?_
        · have d12 : (Jo.Fact.eq (.bool false)).P (vs 12) wj := hd 12 (by decide)
          have d13 : (Jo.Fact.eq (.agg #[.int .i64 D1, .bool s1, .int .u64 M1, .int .i64 E1])).P (vs 13) wj := hd 13 (by decide)
          have d14 : (Jo.Fact.eq (.agg #[.int .i64 D0, .bool s0, .int .u64 M0, .int .i64 E0])).P (vs 14) wj := hd 14 (by decide)
          clear hd
          simp only [Jo.putl, List.foldl_cons, List.foldl_nil, Act.put, List.setIfInBounds_toArray, List.set_cons_zero, List.set_cons_succ] at hK ⊢
          generalize vs 12 = u12 at hK d12 ⊢
          generalize vs 13 = u13 at hK d13 ⊢
          generalize vs 14 = u14 at hK d14 ⊢
          replace d12 : u12 = _ := d12
          subst d12
          replace d13 : u13 = _ := d13
          subst d13
          replace d14 : u14 = _ := d14
          subst d14
          go_simp
          refine (nCmp u1 u0 HPR.out).mono ?_
          rintro ee wk ⟨rfl, B⟩
          exact hK.out _ _ rfl B
        refine Jo.jcons (i := 16) (o := ⟨some 46, _, _, _, _, _⟩) (di := some 46) (L := [(some 42, 12)]) (f := Jo.Fact.eq (.int .i64 p)) rfl rfl rfl rfl (fun vs wj hJ hd K hK => ?_) ?_
        · have d12 : (Jo.Fact.eq (.bool false)).P (vs 12) wj := hd 12 (by decide)
          clear hd
          simp only [Jo.putl, List.foldl_cons, List.foldl_nil, Act.put, List.setIfInBounds_toArray, List.set_cons_zero, List.set_cons_succ] at hK ⊢
          generalize vs 12 = u12 at hK d12 ⊢
          replace d12 : u12 = _ := d12
          subst d12
          go_simp
          exact hK.out _ _ rfl (Below.refl _ _)
        refine Jo.jcons (i := 17) (o := ⟨some 47, _, _, _, _, _⟩) (di := some 47) (L := [(some 42, 12), (some 46, 16)]) (f := Jo.Fact.eq (.int .i64 (-p))) rfl rfl rfl rfl (fun vs wj hJ hd K hK => ?_) ?_
        · have d12 : (Jo.Fact.eq (.bool false)).P (vs 12) wj := hd 12 (by decide)
          have d16 : (Jo.Fact.eq (.int .i64 p)).P (vs 16) wj := hd 16 (by decide)
          clear hd
          simp only [Jo.putl, List.foldl_cons, List.foldl_nil, Act.put, List.setIfInBounds_toArray, List.set_cons_zero, List.set_cons_succ] at hK ⊢
          generalize vs 12 = u12 at hK d12 ⊢
          generalize vs 16 = u16 at hK d16 ⊢
          replace d12 : u12 = _ := d12
          subst d12
          replace d16 : u16 = _ := d16
          subst d16
          have hw := HW.out
          go_simp
          exact hK.out _ _ rfl (Below.refl _ _)
        refine Jo.jcons (i := 18) (o := ⟨some 48, _, _, _, _, _⟩) (di := some 48) (L := [(some 42, 12), (some 45, 15), (some 47, 17)]) (f := Jo.Fact.eq (.bool false)) rfl rfl rfl rfl (fun vs wj hJ hd K hK => ?_) ?_
        · have d12 : (Jo.Fact.eq (.bool false)).P (vs 12) wj := hd 12 (by decide)
          have d15 : (Jo.Fact.eq (.int .i64 (-p))).P (vs 15) wj := hd 15 (by decide)
          have d17 : (Jo.Fact.eq (.int .i64 (-p))).P (vs 17) wj := hd 17 (by decide)
          clear hd
          simp only [Jo.putl, List.foldl_cons, List.foldl_nil, Act.put, List.setIfInBounds_toArray, List.set_cons_zero, List.set_cons_succ] at hK ⊢
          generalize vs 12 = u12 at hK d12 ⊢
          generalize vs 15 = u15 at hK d15 ⊢
          generalize vs 17 = u17 at hK d17 ⊢
          replace d12 : u12 = _ := d12
          subst d12
          replace d15 : u15 = _ := d15
          subst d15
          replace d17 : u17 = _ := d17
          subst d17
          go_simp
          exact hK.out _ _ (by first | rfl | (show Value.bool _ = Value.bool _; simp)) (Below.refl _ _)
        refine Jo.jcons (i := 19) (o := ⟨some 49, _, _, _, _, _⟩) (di := some 49) (L := [(some 42, 12), (some 48, 18)]) (f := Jo.Fact.eq (.bool false)) rfl rfl rfl rfl (fun vs wj hJ hd K hK => ?_) ?_
        · have d12 : (Jo.Fact.eq (.bool false)).P (vs 12) wj := hd 12 (by decide)
          have d18 : (Jo.Fact.eq (.bool false)).P (vs 18) wj := hd 18 (by decide)
          clear hd
          simp only [Jo.putl, List.foldl_cons, List.foldl_nil, Act.put, List.setIfInBounds_toArray, List.set_cons_zero, List.set_cons_succ] at hK ⊢
          generalize vs 12 = u12 at hK d12 ⊢
          generalize vs 18 = u18 at hK d18 ⊢
          replace d12 : u12 = _ := d12
          subst d12
          replace d18 : u18 = _ := d18
          subst d18
          go_simp
          exact hK.out _ _ rfl (Below.refl _ _)
        refine Jo.jcons (i := 20) (o := ⟨some 50, _, _, _, _, _⟩) (di := some 50) (L := [(some 49, 19)]) (f := Jo.Fact.eq (.bool false)) rfl rfl rfl rfl (fun vs wj hJ hd K hK => ?_) ?_
        · have d19 : (Jo.Fact.eq (.bool false)).P (vs 19) wj := hd 19 (by decide)
          clear hd
          simp only [Jo.putl, List.foldl_cons, List.foldl_nil, Act.put, List.setIfInBounds_toArray, List.set_cons_zero, List.set_cons_succ] at hK ⊢
          generalize vs 19 = u19 at hK d19 ⊢
          replace d19 : u19 = _ := d19
          subst d19
          go_simp
          exact hK.out _ _ rfl (Below.refl _ _)
        refine Jo.jcons (i := 21) (o := ⟨some 51, _, _, _, _, _⟩) (di := some 51) (L := [(some 50, 20)]) (f := Jo.Fact.eq (.agg #[.int .i64 D0, .bool s0, .int .u64 M0, .int .i64 E0])) rfl rfl rfl rfl (fun vs wj hJ hd K hK => ?_) ?_
        · have d20 : (Jo.Fact.eq (.bool false)).P (vs 20) wj := hd 20 (by decide)
          clear hd
          simp only [Jo.putl, List.foldl_cons, List.foldl_nil, Act.put, List.setIfInBounds_toArray, List.set_cons_zero, List.set_cons_succ] at hK ⊢
          generalize vs 20 = u20 at hK d20 ⊢
          replace d20 : u20 = _ := d20
          subst d20
          have xX00 : World.cell? wj ⟨w.heap.size, 0, none⟩ = some (.int .i64 D0) := (X0.below hJ).cell 0
          have xX01 : World.cell? wj ⟨w.heap.size, 1, none⟩ = some (.bool s0) := (X0.below hJ).cell 1
          have xX02 : World.cell? wj ⟨w.heap.size, 2, none⟩ = some (.int .u64 M0) := (X0.below hJ).cell 2
          have xX03 : World.cell? wj ⟨w.heap.size, 3, none⟩ = some (.int .i64 E0) := (X0.below hJ).cell 3
          go_simp
          exact hK.out _ _ rfl (Below.refl _ _)
        refine Jo.jcons (i := 22) (o := ⟨some 52, _, _, _, _, _⟩) (di := some 52) (L := [(some 50, 20), (some 51, 21)]) (f := Jo.Fact.num (-x)) rfl rfl rfl rfl (fun vs wj hJ hd K hK => ?_) ?_
        · have d20 : (Jo.Fact.eq (.bool false)).P (vs 20) wj := hd 20 (by decide)
          have d21 : (Jo.Fact.eq (.agg #[.int .i64 D0, .bool s0, .int .u64 M0, .int .i64 E0])).P (vs 21) wj := hd 21 (by decide)
          clear hd
          simp only [Jo.putl, List.foldl_cons, List.foldl_nil, Act.put, List.setIfInBounds_toArray, List.set_cons_zero, List.set_cons_succ] at hK ⊢
          generalize vs 20 = u20 at hK d20 ⊢
          generalize vs 21 = u21 at hK d21 ⊢
          replace d20 : u20 = _ := d20
          subst d20
          replace d21 : u21 = _ := d21
          subst d21
          go_simp
          refine (nNeg u0 NX.out).mono ?_
          rintro ee wk ⟨K12, s12, M12, E12, rfl, q12, B⟩
          exact hK.out _ _ ⟨K12, s12, M12, E12, rfl, q12⟩ B
        refine Jo.jcons (i := 23) (o := ⟨some 53, _, _, _, _, _⟩) (di := some 53) (L := [(some 50, 20)]) (f := Jo.Fact.eq (.agg #[.int .i64 D1, .bool s1, .int .u64 M1, .int .i64 E1])) rfl rfl rfl rfl (fun vs wj hJ hd K hK => ?_) ?_
        · have d20 : (Jo.Fact.eq (.bool false)).P (vs 20) wj := hd 20 (by decide)
          clear hd
          simp only [Jo.putl, List.foldl_cons, List.foldl_nil, Act.put, List.setIfInBounds_toArray, List.set_cons_zero, List.set_cons_succ] at hK ⊢
          generalize vs 20 = u20 at hK d20 ⊢
          replace d20 : u20 = _ := d20
          subst d20
          have xX10 : World.cell? wj ⟨w.heap.size + 1, 0, none⟩ = some (.int .i64 D1) := (X1.below hJ).cell 0
          have xX11 : World.cell? wj ⟨w.heap.size + 1, 1, none⟩ = some (.bool s1) := (X1.below hJ).cell 1
          have xX12 : World.cell? wj ⟨w.heap.size + 1, 2, none⟩ = some (.int .u64 M1) := (X1.below hJ).cell 2
          have xX13 : World.cell? wj ⟨w.heap.size + 1, 3, none⟩ = some (.int .i64 E1) := (X1.below hJ).cell 3
          go_simp
          exact hK.out _ _ rfl (Below.refl _ _)
        refine Jo.jcons (i := 24) (o := ⟨some 54, _, _, _, _, _⟩) (di := some 54) (L := [(some 50, 20), (some 53, 23)]) (f := Jo.Fact.num (-y)) rfl rfl rfl rfl (fun vs wj hJ hd K hK => ?_) ?_
        · have d20 : (Jo.Fact.eq (.bool false)).P (vs 20) wj := hd 20 (by decide)
          have d23 : (Jo.Fact.eq (.agg #[.int .i64 D1, .bool s1, .int .u64 M1, .int .i64 E1])).P (vs 23) wj := hd 23 (by decide)
          clear hd
          simp only [Jo.putl, List.foldl_cons, List.foldl_nil, Act.put, List.setIfInBounds_toArray, List.set_cons_zero, List.set_cons_succ] at hK ⊢
          generalize vs 20 = u20 at hK d20 ⊢
          generalize vs 23 = u23 at hK d23 ⊢
          replace d20 : u20 = _ := d20
          subst d20
          replace d23 : u23 = _ := d23
          subst d23
          go_simp
          refine (nNeg u1 NY.out).mono ?_
          rintro ee wk ⟨K13, s13, M13, E13, rfl, q13, B⟩
          exact hK.out _ _ ⟨K13, s13, M13, E13, rfl, q13⟩ B
        refine Jo.jcons (i := 25) (o := ⟨some 55, _, _, _, _, _⟩) (di := some 55) (L := [(some 50, 20), (some 52, 22), (some 54, 24)]) (f := Jo.Fact.eq (.int .i64 (-p))) rfl rfl rfl rfl (fun vs wj hJ hd K hK => ?_) ?_
        · have d20 : (Jo.Fact.eq (.bool false)).P (vs 20) wj := hd 20 (by decide)
          have d22 : (Jo.Fact.num (-x)).P (vs 22) wj := hd 22 (by decide)
          have d24 : (Jo.Fact.num (-y)).P (vs 24) wj := hd 24 (by decide)
          clear hd
          simp only [Jo.putl, List.foldl_cons, List.foldl_nil, Act.put, List.setIfInBounds_toArray, List.set_cons_zero, List.set_cons_succ] at hK ⊢
          generalize vs 20 = u20 at hK d20 ⊢
          generalize vs 22 = u22 at hK d22 ⊢
          generalize vs 24 = u24 at hK d24 ⊢
          replace d20 : u20 = _ := d20
          subst d20
          obtain ⟨K12, s12, M12, E12, rfl, q12⟩ := d22
          obtain ⟨K13, s13, M13, E13, rfl, q13⟩ := d24
          go_simp
          refine (nCmp (z := -p) q12.top q13.top (by rw [q12.rk, q13.rk]; exact HPN.out)).mono ?_
          rintro ee wk ⟨rfl, B⟩
          exact hK.out _ _ rfl B
        refine Jo.jcons (i := 26) (o := ⟨some 56, _, _, _, _, _⟩) (di := some 56) (L := [(some 50, 20)]) (f := Jo.Fact.eq (.int .i64 p)) rfl rfl rfl rfl (fun vs wj hJ hd K hK => ?_) ?_
        · have d20 : (Jo.Fact.eq (.bool false)).P (vs 20) wj := hd 20 (by decide)
          clear hd
          simp only [Jo.putl, List.foldl_cons, List.foldl_nil, Act.put, List.setIfInBounds_toArray, List.set_cons_zero, List.set_cons_succ] at hK ⊢
          generalize vs 20 = u20 at hK d20 ⊢
          replace d20 : u20 = _ := d20
          subst d20
          go_simp
          exact hK.out _ _ rfl (Below.refl _ _)
        refine Jo.jcons (i := 27) (o := ⟨some 57, _, _, _, _, _⟩) (di := some 57) (L := [(some 50, 20), (some 56, 26)]) (f := Jo.Fact.eq (.int .i64 (-p))) rfl rfl rfl rfl (fun vs wj hJ hd K hK => ?_) ?_
        · have d20 : (Jo.Fact.eq (.bool false)).P (vs 20) wj := hd 20 (by decide)
          have d26 : (Jo.Fact.eq (.int .i64 p)).P (vs 26) wj := hd 26 (by decide)
          clear hd
          simp only [Jo.putl, List.foldl_cons, List.foldl_nil, Act.put, List.setIfInBounds_toArray, List.set_cons_zero, List.set_cons_succ] at hK ⊢
          generalize vs 20 = u20 at hK d20 ⊢
          generalize vs 26 = u26 at hK d26 ⊢
          replace d20 : u20 = _ := d20
          subst d20
          replace d26 : u26 = _ := d26
          subst d26
          have hw := HW.out
          go_simp
          exact hK.out _ _ rfl (Below.refl _ _)
        refine Jo.jcons (i := 28) (o := ⟨some 58, _, _, _, _, _⟩) (di := some 58) (L := [(some 50, 20), (some 55, 25), (some 57, 27)]) (f := Jo.Fact.eq (.bool false)) rfl rfl rfl rfl (fun vs wj hJ hd K hK => ?_) ?_
        · have d20 : (Jo.Fact.eq (.bool false)).P (vs 20) wj := hd 20 (by decide)
          have d25 : (Jo.Fact.eq (.int .i64 (-p))).P (vs 25) wj := hd 25 (by decide)
          have d27 : (Jo.Fact.eq (.int .i64 (-p))).P (vs 27) wj := hd 27 (by decide)
          clear hd
          simp only [Jo.putl, List.foldl_cons, List.foldl_nil, Act.put, List.setIfInBounds_toArray, List.set_cons_zero, List.set_cons_succ] at hK ⊢
          generalize vs 20 = u20 at hK d20 ⊢
          generalize vs 25 = u25 at hK d25 ⊢
          generalize vs 27 = u27 at hK d27 ⊢
          replace d20 : u20 = _ := d20
          subst d20
          replace d25 : u25 = _ := d25
          subst d25
          replace d27 : u27 = _ := d27
          subst d27
          go_simp
          exact hK.out _ _ (by first | rfl | (show Value.bool _ = Value.bool _; simp)) (Below.refl _ _)
        refine Jo.jcons (i := 29) (o := ⟨some 59, _, _, _, _, _⟩) (di := some 59) (L := [(some 50, 20), (some 58, 28)]) (f := Jo.Fact.eq (.bool false)) rfl rfl rfl rfl (fun vs wj hJ hd K hK => ?_) ?_
        · have d20 : (Jo.Fact.eq (.bool false)).P (vs 20) wj := hd 20 (by decide)
          have d28 : (Jo.Fact.eq (.bool false)).P (vs 28) wj := hd 28 (by decide)
          clear hd
          simp only [Jo.putl, List.foldl_cons, List.foldl_nil, Act.put, List.setIfInBounds_toArray, List.set_cons_zero, List.set_cons_succ] at hK ⊢
          generalize vs 20 = u20 at hK d20 ⊢
          generalize vs 28 = u28 at hK d28 ⊢
          replace d20 : u20 = _ := d20
          subst d20
          replace d28 : u28 = _ := d28
          subst d28
          go_simp
          exact hK.out _ _ rfl (Below.refl _ _)
        exact Jo.Steps.nil
      have d0 : (Jo.Fact.eq (.int .i64 p)).P (vs 0) w9 := hd 0 (by decide)
      have d1 : (Jo.Fact.eq (.bool true)).P (vs 1) w9 := hd 1 (by decide)
      have d2 : (Jo.Fact.eq (.bool true)).P (vs 2) w9 := hd 2 (by decide)
      have d3 : (Jo.Fact.eq (.int .i64 q)).P (vs 3) w9 := hd 3 (by decide)
      have d4 : (Jo.Fact.eq (.bool false)).P (vs 4) w9 := hd 4 (by decide)
      have d5 : (Jo.Fact.eq (.bool false)).P (vs 5) w9 := hd 5 (by decide)
      have d6 : (Jo.Fact.eq (.bool false)).P (vs 6) w9 := hd 6 (by decide)
      have d7 : (Jo.Fact.eq undef).P (vs 7) w9 := hd 7 (by decide)
      have d8 : (Jo.Fact.eq undef).P (vs 8) w9 := hd 8 (by decide)
      have d9 : (Jo.Fact.eq undef).P (vs 9) w9 := hd 9 (by decide)
      have d10 : (Jo.Fact.eq undef).P (vs 10) w9 := hd 10 (by decide)
      have d11 : (Jo.Fact.eq (.bool false)).P (vs 11) w9 := hd 11 (by decide)
      have d12 : (Jo.Fact.eq (.bool false)).P (vs 12) w9 := hd 12 (by decide)
      have d13 : (Jo.Fact.eq (.agg #[.int .i64 D1, .bool s1, .int .u64 M1, .int .i64 E1])).P (vs 13) w9 := hd 13 (by decide)
      have d14 : (Jo.Fact.eq (.agg #[.int .i64 D0, .bool s0, .int .u64 M0, .int .i64 E0])).P (vs 14) w9 := hd 14 (by decide)
      have d15 : (Jo.Fact.eq (.int .i64 (-p))).P (vs 15) w9 := hd 15 (by decide)
      have d16 : (Jo.Fact.eq (.int .i64 p)).P (vs 16) w9 := hd 16 (by decide)
      have d17 : (Jo.Fact.eq (.int .i64 (-p))).P (vs 17) w9 := hd 17 (by decide)
      have d18 : (Jo.Fact.eq (.bool false)).P (vs 18) w9 := hd 18 (by decide)
      have d19 : (Jo.Fact.eq (.bool false)).P (vs 19) w9 := hd 19 (by decide)
      have d20 : (Jo.Fact.eq (.bool false)).P (vs 20) w9 := hd 20 (by decide)
      have d21 : (Jo.Fact.eq (.agg #[.int .i64 D0, .bool s0, .int .u64 M0, .int .i64 E0])).P (vs 21) w9 := hd 21 (by decide)
      have d22 : (Jo.Fact.num (-x)).P (vs 22) w9 := hd 22 (by decide)
      have d23 : (Jo.Fact.eq (.agg #[.int .i64 D1, .bool s1, .int .u64 M1, .int .i64 E1])).P (vs 23) w9 := hd 23 (by decide)
      have d24 : (Jo.Fact.num (-y)).P (vs 24) w9 := hd 24 (by decide)
      have d25 : (Jo.Fact.eq (.int .i64 (-p))).P (vs 25) w9 := hd 25 (by decide)
      have d26 : (Jo.Fact.eq (.int .i64 p)).P (vs 26) w9 := hd 26 (by decide)
      have d27 : (Jo.Fact.eq (.int .i64 (-p))).P (vs 27) w9 := hd 27 (by decide)
      have d28 : (Jo.Fact.eq (.bool false)).P (vs 28) w9 := hd 28 (by decide)
      have d29 : (Jo.Fact.eq (.bool false)).P (vs 29) w9 := hd 29 (by decide)
      clear hd
      simp only [Jo.putl, List.foldl_cons, List.foldl_nil, Act.put, List.setIfInBounds_toArray, List.set_cons_zero, List.set_cons_succ]
      generalize vs 0 = u0 at d0 ⊢
      generalize vs 1 = u1 at d1 ⊢
      generalize vs 2 = u2 at d2 ⊢
      generalize vs 3 = u3 at d3 ⊢
      generalize vs 4 = u4 at d4 ⊢
      generalize vs 5 = u5 at d5 ⊢
      generalize vs 6 = u6 at d6 ⊢
      generalize vs 7 = u7 at d7 ⊢
      generalize vs 8 = u8 at d8 ⊢
      generalize vs 9 = u9 at d9 ⊢
      generalize vs 10 = u10 at d10 ⊢
      generalize vs 11 = u11 at d11 ⊢
      generalize vs 12 = u12 at d12 ⊢
      generalize vs 13 = u13 at d13 ⊢
      generalize vs 14 = u14 at d14 ⊢
      generalize vs 15 = u15 at d15 ⊢
      generalize vs 16 = u16 at d16 ⊢
      generalize vs 17 = u17 at d17 ⊢
      generalize vs 18 = u18 at d18 ⊢
      generalize vs 19 = u19 at d19 ⊢
      generalize vs 20 = u20 at d20 ⊢
      generalize vs 21 = u21 at d21 ⊢
      generalize vs 22 = u22 at d22 ⊢
      generalize vs 23 = u23 at d23 ⊢
      generalize vs 24 = u24 at d24 ⊢
      generalize vs 25 = u25 at d25 ⊢
      generalize vs 26 = u26 at d26 ⊢
      generalize vs 27 = u27 at d27 ⊢
      generalize vs 28 = u28 at d28 ⊢
      generalize vs 29 = u29 at d29 ⊢
      clear vs
      replace d0 : u0 = _ := d0
      subst d0
      replace d1 : u1 = _ := d1
      subst d1
      replace d2 : u2 = _ := d2
      subst d2
      replace d3 : u3 = _ := d3
      subst d3
      replace d4 : u4 = _ := d4
      subst d4
      replace d5 : u5 = _ := d5
      subst d5
      replace d6 : u6 = _ := d6
      subst d6
      replace d7 : u7 = _ := d7
      subst d7
      replace d8 : u8 = _ := d8
      subst d8
      replace d9 : u9 = _ := d9
      subst d9
      replace d10 : u10 = _ := d10
      subst d10
      replace d11 : u11 = _ := d11
      subst d11
      replace d12 : u12 = _ := d12
      subst d12
      replace d13 : u13 = _ := d13
      subst d13
      replace d14 : u14 = _ := d14
      subst d14
      replace d15 : u15 = _ := d15
      subst d15
      replace d16 : u16 = _ := d16
      subst d16
      replace d17 : u17 = _ := d17
      subst d17
      replace d18 : u18 = _ := d18
      subst d18
      replace d19 : u19 = _ := d19
      subst d19
      replace d20 : u20 = _ := d20
      subst d20
      replace d21 : u21 = _ := d21
      subst d21
      obtain ⟨K12, s12, M12, E12, rfl, _⟩ := d22
      replace d23 : u23 = _ := d23
      subst d23
      obtain ⟨K13, s13, M13, E13, rfl, _⟩ := d24
      replace d25 : u25 = _ := d25
      subst d25
      replace d26 : u26 = _ := d26
      subst d26
      replace d27 : u27 = _ := d27
      subst d27
      replace d28 : u28 = _ := d28
      subst d28
      replace d29 : u29 = _ := d29
      subst d29
      replace X0 := X0.below hJ
      replace X1 := X1.below hJ
      replace X2 := X2.below hJ
      replace X10 := X10.below hJ
      replace X11 := X11.below hJ
      replace HB := Lib.hid (bt HB.out hJ)
      refine Jo.jdone (by kernel_rfl) ?_
      go_wp2_with fail
      go_meet
      exact ⟨rfl, X0, X1, X2, X10, X11, HB.out⟩
    · have P1 := Lib.hid P1
      have Q1 := Lib.hid Q1
      have O1 := Lib.hid O1
      refine Jo.region_joint (T := [0, 1, 2, 3, 4, 5, 6, 7, 8, 9, 10, 11, 12, 13, 14, 15, 16, 17, 18, 19, 20, 21, 22, 23, 24, 25, 26, 27, 28, 29]) (ds := [some 30, some 31, some 32, some 33, some 34, some 35, some 36, some 37, some 38, some 39, some 40, some 41, some 42, some 43, some 44, some 45, some 46, some 47, some 48, some 49, some 50, some 51, some 52, some 53, some 54, some 55, some 56, some 57, some 58, some 59]) (ls := [[], [0], [1], [2], [2, 3], [2, 4], [5], [6], [6], [6, 7, 8], [6, 9], [6, 10], [11], [12], [12], [12, 13, 14], [12], [12, 16], [12, 15, 17], [12, 18], [19], [20], [20, 21], [20], [20, 23], [20, 22, 24], [20], [20, 26], [20, 25, 27], [20, 28]]) (k := 30) (L := [(some 30, 0), (some 31, 1), (some 32, 2), (some 33, 3), (some 34, 4), (some 35, 5), (some 36, 6), (some 37, 7), (some 38, 8), (some 39, 9), (some 40, 10), (some 41, 11), (some 42, 12), (some 43, 13), (some 44, 14), (some 45, 15), (some 46, 16), (some 47, 17), (some 48, 18), (some 49, 19), (some 50, 20), (some 51, 21), (some 52, 22), (some 53, 23), (some 54, 24), (some 55, 25), (some 56, 26), (some 57, 27), (some 58, 28), (some 59, 29)]) (fuel := 0) (J := fun wj => Below (World.heap w8).size w8 wj)
        (F := [Jo.Fact.eq (.int .i64 p), Jo.Fact.eq (.bool true), Jo.Fact.eq (.bool true), Jo.Fact.eq (.int .i64 q), Jo.Fact.eq (.bool true), Jo.Fact.eq (.bool true), Jo.Fact.eq (.bool true), Jo.Fact.eq (.agg #[.int .i64 D0, .bool s0, .int .u64 M0, .int .i64 E0]), Jo.Fact.eq (.agg #[.int .i64 D2, .bool s2, .int .u64 M2, .int .i64 E2]), Jo.Fact.eq (.int .i64 o), Jo.Fact.eq (.bool false), Jo.Fact.eq (.bool false), Jo.Fact.eq (.bool false), Jo.Fact.eq (.agg #[.int .i64 D1, .bool s1, .int .u64 M1, .int .i64 E1]), Jo.Fact.eq (.agg #[.int .i64 D0, .bool s0, .int .u64 M0, .int .i64 E0]), Jo.Fact.eq (.int .i64 (-p)), Jo.Fact.eq (.int .i64 p), Jo.Fact.eq (.int .i64 (-p)), Jo.Fact.eq (.bool false), Jo.Fact.eq (.bool false), Jo.Fact.eq (.bool false), Jo.Fact.eq (.agg #[.int .i64 D0, .bool s0, .int .u64 M0, .int .i64 E0]), Jo.Fact.num (-x), Jo.Fact.eq (.agg #[.int .i64 D1, .bool s1, .int .u64 M1, .int .i64 E1]), Jo.Fact.num (-y), Jo.Fact.eq (.int .i64 (-p)), Jo.Fact.eq (.int .i64 p), Jo.Fact.eq (.int .i64 (-p)), Jo.Fact.eq (.bool false), Jo.Fact.eq (.bool false)])
        (by kernel_rfl) (by kernel_rfl) (by decide) rfl rfl (fun _ _ h b => bt h b) ((Below.refl _ _).drew) ?_ (fun vs w9 hJ hd => ?_)
      · refine Jo.jcons (i := 0) (o := ⟨some 30, _, _, _, _, _⟩) (di := some 30) (L := []) (f := Jo.Fact.eq (.int .i64 p)) rfl rfl rfl rfl (fun vs wj hJ hd K hK => ?_) ?_
        · clear hd
          simp only [Jo.putl, List.foldl_nil, Act.put, List.setIfInBounds_toArray, List.set_cons_zero, List.set_cons_succ] at hK ⊢
          go_simp
          exact hK.out _ _ rfl (Below.refl _ _)
        refine Jo.jcons (i := 1) (o := ⟨some 31, _, _, _, _, _⟩) (di := some 31) (L := [(some 30, 0)]) (f := Jo.Fact.eq (.bool true)) rfl rfl rfl rfl (fun vs wj hJ hd K hK => ?_) ?_
        · have d0 : (Jo.Fact.eq (.int .i64 p)).P (vs 0) wj := hd 0 (by decide)
          clear hd
          simp only [Jo.putl, List.foldl_cons, List.foldl_nil, Act.put, List.setIfInBounds_toArray, List.set_cons_zero, List.set_cons_succ] at hK ⊢
          generalize vs 0 = u0 at hK d0 ⊢
          replace d0 : u0 = _ := d0
          subst d0
          have ht := P1.out
          go_simp
          exact hK.out _ _ (by first | rfl | (show Value.bool _ = Value.bool _; simp only [ht])) (Below.refl _ _)
        refine Jo.jcons (i := 2) (o := ⟨some 32, _, _, _, _, _⟩) (di := some 32) (L := [(some 31, 1)]) (f := Jo.Fact.eq (.bool true)) rfl rfl rfl rfl (fun vs wj hJ hd K hK => ?_) ?_
        · have d1 : (Jo.Fact.eq (.bool true)).P (vs 1) wj := hd 1 (by decide)
          clear hd
          simp only [Jo.putl, List.foldl_cons, List.foldl_nil, Act.put, List.setIfInBounds_toArray, List.set_cons_zero, List.set_cons_succ] at hK ⊢
          generalize vs 1 = u1 at hK d1 ⊢
          replace d1 : u1 = _ := d1
          subst d1
          go_simp
          exact hK.out _ _ rfl (Below.refl _ _)
        refine Jo.jcons (i := 3) (o := ⟨some 33, _, _, _, _, _⟩) (di := some 33) (L := [(some 32, 2)]) (f := Jo.Fact.eq (.int .i64 q)) rfl rfl rfl rfl (fun vs wj hJ hd K hK => ?_) ?_
        · have d2 : (Jo.Fact.eq (.bool true)).P (vs 2) wj := hd 2 (by decide)
          clear hd
          simp only [Jo.putl, List.foldl_cons, List.foldl_nil, Act.put, List.setIfInBounds_toArray, List.set_cons_zero, List.set_cons_succ] at hK ⊢
          generalize vs 2 = u2 at hK d2 ⊢
          replace d2 : u2 = _ := d2
          subst d2
          go_simp
          exact hK.out _ _ rfl (Below.refl _ _)
        refine Jo.jcons (i := 4) (o := ⟨some 34, _, _, _, _, _⟩) (di := some 34) (L := [(some 32, 2), (some 33, 3)]) (f := Jo.Fact.eq (.bool true)) rfl rfl rfl rfl (fun vs wj hJ hd K hK => ?_) ?_
        · have d2 : (Jo.Fact.eq (.bool true)).P (vs 2) wj := hd 2 (by decide)
          have d3 : (Jo.Fact.eq (.int .i64 q)).P (vs 3) wj := hd 3 (by decide)
          clear hd
          simp only [Jo.putl, List.foldl_cons, List.foldl_nil, Act.put, List.setIfInBounds_toArray, List.set_cons_zero, List.set_cons_succ] at hK ⊢
          generalize vs 2 = u2 at hK d2 ⊢
          generalize vs 3 = u3 at hK d3 ⊢
          replace d2 : u2 = _ := d2
          subst d2
          replace d3 : u3 = _ := d3
          subst d3
          have ht := Q1.out
          go_simp
          exact hK.out _ _ (by first | rfl | (show Value.bool _ = Value.bool _; simp only [ht])) (Below.refl _ _)
        refine Jo.jcons (i := 5) (o := ⟨some 35, _, _, _, _, _⟩) (di := some 35) (L := [(some 32, 2), (some 34, 4)]) (f := Jo.Fact.eq (.bool true)) rfl rfl rfl rfl (fun vs wj hJ hd K hK => ?_) ?_
        · have d2 : (Jo.Fact.eq (.bool true)).P (vs 2) wj := hd 2 (by decide)
          have d4 : (Jo.Fact.eq (.bool true)).P (vs 4) wj := hd 4 (by decide)
          clear hd
          simp only [Jo.putl, List.foldl_cons, List.foldl_nil, Act.put, List.setIfInBounds_toArray, List.set_cons_zero, List.set_cons_succ] at hK ⊢
          generalize vs 2 = u2 at hK d2 ⊢
          generalize vs 4 = u4 at hK d4 ⊢
          replace d2 : u2 = _ := d2
          subst d2
          replace d4 : u4 = _ := d4
          subst d4
          go_simp
          exact hK.out _ _ rfl (Below.refl _ _)
        refine Jo.jcons (i := 6) (o := ⟨some 36, _, _, _, _, _⟩) (di := some 36) (L := [(some 35, 5)]) (f := Jo.Fact.eq (.bool true)) rfl rfl rfl rfl (fun vs wj hJ hd K hK => ?_) ?_
        · have d5 : (Jo.Fact.eq (.bool true)).P (vs 5) wj := hd 5 (by decide)
          clear hd
          simp only [Jo.putl, List.foldl_cons, List.foldl_nil, Act.put, List.setIfInBounds_toArray, List.set_cons_zero, List.set_cons_succ] at hK ⊢
          generalize vs 5 = u5 at hK d5 ⊢
          replace d5 : u5 = _ := d5
          subst d5
          go_simp
          exact hK.out _ _ rfl (Below.refl _ _)
        refine Jo.jcons (i := 7) (o := ⟨some 37, _, _, _, _, _⟩) (di := some 37) (L := [(some 36, 6)]) (f := Jo.Fact.eq (.agg #[.int .i64 D0, .bool s0, .int .u64 M0, .int .i64 E0])) rfl rfl rfl rfl (fun vs wj hJ hd K hK => ?_) ?_
        · have d6 : (Jo.Fact.eq (.bool true)).P (vs 6) wj := hd 6 (by decide)
          clear hd
          simp only [Jo.putl, List.foldl_cons, List.foldl_nil, Act.put, List.setIfInBounds_toArray, List.set_cons_zero, List.set_cons_succ] at hK ⊢
          generalize vs 6 = u6 at hK d6 ⊢
          replace d6 : u6 = _ := d6
          subst d6
          have xX00 : World.cell? wj ⟨w.heap.size, 0, none⟩ = some (.int .i64 D0) := (X0.below hJ).cell 0
          have xX01 : World.cell? wj ⟨w.heap.size, 1, none⟩ = some (.bool s0) := (X0.below hJ).cell 1
          have xX02 : World.cell? wj ⟨w.heap.size, 2, none⟩ = some (.int .u64 M0) := (X0.below hJ).cell 2
          have xX03 : World.cell? wj ⟨w.heap.size, 3, none⟩ = some (.int .i64 E0) := (X0.below hJ).cell 3
          go_simp
          exact hK.out _ _ rfl (Below.refl _ _)
        refine Jo.jcons (i := 8) (o := ⟨some 38, _, _, _, _, _⟩) (di := some 38) (L := [(some 36, 6)]) (f := Jo.Fact.eq (.agg #[.int .i64 D2, .bool s2, .int .u64 M2, .int .i64 E2])) rfl rfl rfl rfl (fun vs wj hJ hd K hK => ?_) ?_
        · have d6 : (Jo.Fact.eq (.bool true)).P (vs 6) wj := hd 6 (by decide)
          clear hd
          simp only [Jo.putl, List.foldl_cons, List.foldl_nil, Act.put, List.setIfInBounds_toArray, List.set_cons_zero, List.set_cons_succ] at hK ⊢
          generalize vs 6 = u6 at hK d6 ⊢
          replace d6 : u6 = _ := d6
          subst d6
          have xX20 : World.cell? wj ⟨w.heap.size + 1 + 1, 0, none⟩ = some (.int .i64 D2) := (X2.below hJ).cell 0
          have xX21 : World.cell? wj ⟨w.heap.size + 1 + 1, 1, none⟩ = some (.bool s2) := (X2.below hJ).cell 1
          have xX22 : World.cell? wj ⟨w.heap.size + 1 + 1, 2, none⟩ = some (.int .u64 M2) := (X2.below hJ).cell 2
          have xX23 : World.cell? wj ⟨w.heap.size + 1 + 1, 3, none⟩ = some (.int .i64 E2) := (X2.below hJ).cell 3
          go_simp
          exact hK.out _ _ rfl (Below.refl _ _)
        refine Jo.jcons (i := 9) (o := ⟨some 39, _, _, _, _, _⟩) (di := some 39) (L := [(some 36, 6), (some 37, 7), (some 38, 8)]) (f := Jo.Fact.eq (.int .i64 o)) rfl rfl rfl rfl (fun vs wj hJ hd K hK => ?_) ?_
        · have d6 : (Jo.Fact.eq (.bool true)).P (vs 6) wj := hd 6 (by decide)
          have d7 : (Jo.Fact.eq (.agg #[.int .i64 D0, .bool s0, .int .u64 M0, .int .i64 E0])).P (vs 7) wj := hd 7 (by decide)
          have d8 : (Jo.Fact.eq (.agg #[.int .i64 D2, .bool s2, .int .u64 M2, .int .i64 E2])).P (vs 8) wj := hd 8 (by decide)
          clear hd
          simp only [Jo.putl, List.foldl_cons, List.foldl_nil, Act.put, List.setIfInBounds_toArray, List.set_cons_zero, List.set_cons_succ] at hK ⊢
          generalize vs 6 = u6 at hK d6 ⊢
          generalize vs 7 = u7 at hK d7 ⊢
          generalize vs 8 = u8 at hK d8 ⊢
          replace d6 : u6 = _ := d6
          subst d6
          replace d7 : u7 = _ := d7
          subst d7
          replace d8 : u8 = _ := d8
          subst d8
          go_simp
          refine (nCmp u0 u2 HO.out).mono ?_
          rintro ee wk ⟨rfl, B⟩
          exact hK.out _ _ rfl B
        refine Jo.jcons (i := 10) (o := ⟨some 40, _, _, _, _, _⟩) (di := some 40) (L := [(some 36, 6), (some 39, 9)]) (f := Jo.Fact.eq (.bool false)) rfl rfl rfl rfl (fun vs wj hJ hd K hK => ?_) ?_
        · have d6 : (Jo.Fact.eq (.bool true)).P (vs 6) wj := hd 6 (by decide)
          have d9 : (Jo.Fact.eq (.int .i64 o)).P (vs 9) wj := hd 9 (by decide)
          clear hd
          simp only [Jo.putl, List.foldl_cons, List.foldl_nil, Act.put, List.setIfInBounds_toArray, List.set_cons_zero, List.set_cons_succ] at hK ⊢
          generalize vs 6 = u6 at hK d6 ⊢
          generalize vs 9 = u9 at hK d9 ⊢
          replace d6 : u6 = _ := d6
          subst d6
          replace d9 : u9 = _ := d9
          subst d9
          have ht := O1.out
          go_simp
          exact hK.out _ _ (by first | rfl | (show Value.bool _ = Value.bool _; simp only [ht])) (Below.refl _ _)
        refine Jo.jcons (i := 11) (o := ⟨some 41, _, _, _, _, _⟩) (di := some 41) (L := [(some 36, 6), (some 40, 10)]) (f := Jo.Fact.eq (.bool false)) rfl rfl rfl rfl (fun vs wj hJ hd K hK => ?_) ?_
        · have d6 : (Jo.Fact.eq (.bool true)).P (vs 6) wj := hd 6 (by decide)
          have d10 : (Jo.Fact.eq (.bool false)).P (vs 10) wj := hd 10 (by decide)
          clear hd
          simp only [Jo.putl, List.foldl_cons, List.foldl_nil, Act.put, List.setIfInBounds_toArray, List.set_cons_zero, List.set_cons_succ] at hK ⊢
          generalize vs 6 = u6 at hK d6 ⊢
          generalize vs 10 = u10 at hK d10 ⊢
          replace d6 : u6 = _ := d6
          subst d6
          replace d10 : u10 = _ := d10
          subst d10
          go_simp
          exact hK.out _ _ rfl (Below.refl _ _)
        refine Jo.jcons (i := 12) (o := ⟨some 42, _, _, _, _, _⟩) (di := some 42) (L := [(some 41, 11)]) (f := Jo.Fact.eq (.bool false)) rfl rfl rfl rfl (fun vs wj hJ hd K hK => ?_) ?_
        · have d11 : (Jo.Fact.eq (.bool false)).P (vs 11) wj := hd 11 (by decide)
          clear hd
          simp only [Jo.putl, List.foldl_cons, List.foldl_nil, Act.put, List.setIfInBounds_toArray, List.set_cons_zero, List.set_cons_succ] at hK ⊢
          generalize vs 11 = u11 at hK d11 ⊢
          replace d11 : u11 = _ := d11
          subst d11
          go_simp
          exact hK.out _ _ rfl (Below.refl _ _)
        refine Jo.jcons (i := 13) (o := ⟨some 43, _, _, _, _, _⟩) (di := some 43) (L := [(some 42, 12)]) (f := Jo.Fact.eq (.agg #[.int .i64 D1, .bool s1, .int .u64 M1, .int .i64 E1])) rfl rfl rfl rfl (fun vs wj hJ hd K hK => ?_) ?_
        · have d12 : (Jo.Fact.eq (.bool false)).P (vs 12) wj := hd 12 (by decide)
          clear hd
          simp only [Jo.putl, List.foldl_cons, List.foldl_nil, Act.put, List.setIfInBounds_toArray, List.set_cons_zero, List.set_cons_succ] at hK ⊢
          generalize vs 12 = u12 at hK d12 ⊢
          replace d12 : u12 = _ := d12
          subst d12
          have xX10 : World.cell? wj ⟨w.heap.size + 1, 0, none⟩ = some (.int .i64 D1) := (X1.below hJ).cell 0
          have xX11 : World.cell? wj ⟨w.heap.size + 1, 1, none⟩ = some (.bool s1) := (X1.below hJ).cell 1
          have xX12 : World.cell? wj ⟨w.heap.size + 1, 2, none⟩ = some (.int .u64 M1) := (X1.below hJ).cell 2
          have xX13 : World.cell? wj ⟨w.heap.size + 1, 3, none⟩ = some (.int .i64 E1) := (X1.below hJ).cell 3
          go_simp
          exact hK.out _ _ rfl (Below.refl _ _)
        refine Jo.jcons (i := 14) (o := ⟨some 44, _, _, _, _, _⟩) (di := some 44) (L := [(some 42, 12)]) (f := Jo.Fact.eq (.agg #[.int .i64 D0, .bool s0, .int .u64 M0, .int .i64 E0])) rfl rfl rfl rfl (fun vs wj hJ hd K hK => ?_) ?_
        · have d12 : (Jo.Fact.eq (.bool false)).P (vs 12) wj := hd 12 (by decide)
          clear hd
          simp only [Jo.putl, List.foldl_cons, List.foldl_nil, Act.put, List.setIfInBounds_toArray, List.set_cons_zero, List.set_cons_succ] at hK ⊢
          generalize vs 12 = u12 at hK d12 ⊢
          replace d12 : u12 = _ := d12
          subst d12
          have xX00 : World.cell? wj ⟨w.heap.size, 0, none⟩ = some (.int .i64 D0) := (X0.below hJ).cell 0
          have xX01 : World.cell? wj ⟨w.heap.size, 1, none⟩ = some (.bool s0) := (X0.below hJ).cell 1
          have xX02 : World.cell? wj ⟨w.heap.size, 2, none⟩ = some (.int .u64 M0) := (X0.below hJ).cell 2
          have xX03 : World.cell? wj ⟨w.heap.size, 3, none⟩ = some (.int .i64 E0) := (X0.below hJ).cell 3
          go_simp
          exact hK.out _ _ rfl (Below.refl _ _)
        refine Jo.jcons (i := 15) (o := ⟨some 45, _, _, _, _, _⟩) (di := some 45) (L := [(some 42, 12), (some 43, 13), (some 44, 14)]) (f := Jo.Fact.eq (.int .i64 (-p))) rfl rfl rfl rfl (fun vs wj hJ hd K hK => ?_) ?_
        · have d12 : (Jo.Fact.eq (.bool false)).P (vs 12) wj := hd 12 (by decide)
          have d13 : (Jo.Fact.eq (.agg #[.int .i64 D1, .bool s1, .int .u64 M1, .int .i64 E1])).P (vs 13) wj := hd 13 (by decide)
          have d14 : (Jo.Fact.eq (.agg #[.int .i64 D0, .bool s0, .int .u64 M0, .int .i64 E0])).P (vs 14) wj := hd 14 (by decide)
          clear hd
          simp only [Jo.putl, List.foldl_cons, List.foldl_nil, Act.put, List.setIfInBounds_toArray, List.set_cons_zero, List.set_cons_succ] at hK ⊢
          generalize vs 12 = u12 at hK d12 ⊢
          generalize vs 13 = u13 at hK d13 ⊢
          generalize vs 14 = u14 at hK d14 ⊢
          replace d12 : u12 = _ := d12
          subst d12
          replace d13 : u13 = _ := d13
          subst d13
          replace d14 : u14 = _ := d14
          subst d14
          go_simp
          refine (nCmp u1 u0 HPR.out).mono ?_
          rintro ee wk ⟨rfl, B⟩
          exact hK.out _ _ rfl B
        refine Jo.jcons (i := 16) (o := ⟨some 46, _, _, _, _, _⟩) (di := some 46) (L := [(some 42, 12)]) (f := Jo.Fact.eq (.int .i64 p)) rfl rfl rfl rfl (fun vs wj hJ hd K hK => ?_) ?_
        · have d12 : (Jo.Fact.eq (.bool false)).P (vs 12) wj := hd 12 (by decide)
          clear hd
          simp only [Jo.putl, List.foldl_cons, List.foldl_nil, Act.put, List.setIfInBounds_toArray, List.set_cons_zero, List.set_cons_succ] at hK ⊢
          generalize vs 12 = u12 at hK d12 ⊢
          replace d12 : u12 = _ := d12
          subst d12
          go_simp
          exact hK.out _ _ rfl (Below.refl _ _)
        refine Jo.jcons (i := 17) (o := ⟨some 47, _, _, _, _, _⟩) (di := some 47) (L := [(some 42, 12), (some 46, 16)]) (f := Jo.Fact.eq (.int .i64 (-p))) rfl rfl rfl rfl (fun vs wj hJ hd K hK => ?_) ?_
        · have d12 : (Jo.Fact.eq (.bool false)).P (vs 12) wj := hd 12 (by decide)
          have d16 : (Jo.Fact.eq (.int .i64 p)).P (vs 16) wj := hd 16 (by decide)
          clear hd
          simp only [Jo.putl, List.foldl_cons, List.foldl_nil, Act.put, List.setIfInBounds_toArray, List.set_cons_zero, List.set_cons_succ] at hK ⊢
          generalize vs 12 = u12 at hK d12 ⊢
          generalize vs 16 = u16 at hK d16 ⊢
          replace d12 : u12 = _ := d12
          subst d12
          replace d16 : u16 = _ := d16
          subst d16
          have hw := HW.out
          go_simp
          exact hK.out _ _ rfl (Below.refl _ _)
        refine Jo.jcons (i := 18) (o := ⟨some 48, _, _, _, _, _⟩) (di := some 48) (L := [(some 42, 12), (some 45, 15), (some 47, 17)]) (f := Jo.Fact.eq (.bool false)) rfl rfl rfl rfl (fun vs wj hJ hd K hK => ?_) ?_
        · have d12 : (Jo.Fact.eq (.bool false)).P (vs 12) wj := hd 12 (by decide)
          have d15 : (Jo.Fact.eq (.int .i64 (-p))).P (vs 15) wj := hd 15 (by decide)
          have d17 : (Jo.Fact.eq (.int .i64 (-p))).P (vs 17) wj := hd 17 (by decide)
          clear hd
          simp only [Jo.putl, List.foldl_cons, List.foldl_nil, Act.put, List.setIfInBounds_toArray, List.set_cons_zero, List.set_cons_succ] at hK ⊢
          generalize vs 12 = u12 at hK d12 ⊢
          generalize vs 15 = u15 at hK d15 ⊢
          generalize vs 17 = u17 at hK d17 ⊢
          replace d12 : u12 = _ := d12
          subst d12
          replace d15 : u15 = _ := d15
          subst d15
          replace d17 : u17 = _ := d17
          subst d17
          go_simp
          exact hK.out _ _ (by first | rfl | (show Value.bool _ = Value.bool _; simp)) (Below.refl _ _)
        refine Jo.jcons (i := 19) (o := ⟨some 49, _, _, _, _, _⟩) (di := some 49) (L := [(some 42, 12), (some 48, 18)]) (f := Jo.Fact.eq (.bool false)) rfl rfl rfl rfl (fun vs wj hJ hd K hK => ?_) ?_
        · have d12 : (Jo.Fact.eq (.bool false)).P (vs 12) wj := hd 12 (by decide)
          have d18 : (Jo.Fact.eq (.bool false)).P (vs 18) wj := hd 18 (by decide)
          clear hd
          simp only [Jo.putl, List.foldl_cons, List.foldl_nil, Act.put, List.setIfInBounds_toArray, List.set_cons_zero, List.set_cons_succ] at hK ⊢
          generalize vs 12 = u12 at hK d12 ⊢
          generalize vs 18 = u18 at hK d18 ⊢
          replace d12 : u12 = _ := d12
          subst d12
          replace d18 : u18 = _ := d18
          subst d18
          go_simp
          exact hK.out _ _ rfl (Below.refl _ _)
        refine Jo.jcons (i := 20) (o := ⟨some 50, _, _, _, _, _⟩) (di := some 50) (L := [(some 49, 19)]) (f := Jo.Fact.eq (.bool false)) rfl rfl rfl rfl (fun vs wj hJ hd K hK => ?_) ?_
        · have d19 : (Jo.Fact.eq (.bool false)).P (vs 19) wj := hd 19 (by decide)
          clear hd
          simp only [Jo.putl, List.foldl_cons, List.foldl_nil, Act.put, List.setIfInBounds_toArray, List.set_cons_zero, List.set_cons_succ] at hK ⊢
          generalize vs 19 = u19 at hK d19 ⊢
          replace d19 : u19 = _ := d19
          subst d19
          go_simp
          exact hK.out _ _ rfl (Below.refl _ _)
        refine Jo.jcons (i := 21) (o := ⟨some 51, _, _, _, _, _⟩) (di := some 51) (L := [(some 50, 20)]) (f := Jo.Fact.eq (.agg #[.int .i64 D0, .bool s0, .int .u64 M0, .int .i64 E0])) rfl rfl rfl rfl (fun vs wj hJ hd K hK => ?_) ?_
        · have d20 : (Jo.Fact.eq (.bool false)).P (vs 20) wj := hd 20 (by decide)
          clear hd
          simp only [Jo.putl, List.foldl_cons, List.foldl_nil, Act.put, List.setIfInBounds_toArray, List.set_cons_zero, List.set_cons_succ] at hK ⊢
          generalize vs 20 = u20 at hK d20 ⊢
          replace d20 : u20 = _ := d20
          subst d20
          have xX00 : World.cell? wj ⟨w.heap.size, 0, none⟩ = some (.int .i64 D0) := (X0.below hJ).cell 0
          have xX01 : World.cell? wj ⟨w.heap.size, 1, none⟩ = some (.bool s0) := (X0.below hJ).cell 1
          have xX02 : World.cell? wj ⟨w.heap.size, 2, none⟩ = some (.int .u64 M0) := (X0.below hJ).cell 2
          have xX03 : World.cell? wj ⟨w.heap.size, 3, none⟩ = some (.int .i64 E0) := (X0.below hJ).cell 3
          go_simp
          exact hK.out _ _ rfl (Below.refl _ _)
        refine Jo.jcons (i := 22) (o := ⟨some 52, _, _, _, _, _⟩) (di := some 52) (L := [(some 50, 20), (some 51, 21)]) (f := Jo.Fact.num (-x)) rfl rfl rfl rfl (fun vs wj hJ hd K hK => ?_) ?_
        · have d20 : (Jo.Fact.eq (.bool false)).P (vs 20) wj := hd 20 (by decide)
          have d21 : (Jo.Fact.eq (.agg #[.int .i64 D0, .bool s0, .int .u64 M0, .int .i64 E0])).P (vs 21) wj := hd 21 (by decide)
          clear hd
          simp only [Jo.putl, List.foldl_cons, List.foldl_nil, Act.put, List.setIfInBounds_toArray, List.set_cons_zero, List.set_cons_succ] at hK ⊢
          generalize vs 20 = u20 at hK d20 ⊢
          generalize vs 21 = u21 at hK d21 ⊢
          replace d20 : u20 = _ := d20
          subst d20
          replace d21 : u21 = _ := d21
          subst d21
          go_simp
          refine (nNeg u0 NX.out).mono ?_
          rintro ee wk ⟨K12, s12, M12, E12, rfl, q12, B⟩
          exact hK.out _ _ ⟨K12, s12, M12, E12, rfl, q12⟩ B
        refine Jo.jcons (i := 23) (o := ⟨some 53, _, _, _, _, _⟩) (di := some 53) (L := [(some 50, 20)]) (f := Jo.Fact.eq (.agg #[.int .i64 D1, .bool s1, .int .u64 M1, .int .i64 E1])) rfl rfl rfl rfl (fun vs wj hJ hd K hK => ?_) ?_
        · have d20 : (Jo.Fact.eq (.bool false)).P (vs 20) wj := hd 20 (by decide)
          clear hd
          simp only [Jo.putl, List.foldl_cons, List.foldl_nil, Act.put, List.setIfInBounds_toArray, List.set_cons_zero, List.set_cons_succ] at hK ⊢
          generalize vs 20 = u20 at hK d20 ⊢
          replace d20 : u20 = _ := d20
          subst d20
          have xX10 : World.cell? wj ⟨w.heap.size + 1, 0, none⟩ = some (.int .i64 D1) := (X1.below hJ).cell 0
          have xX11 : World.cell? wj ⟨w.heap.size + 1, 1, none⟩ = some (.bool s1) := (X1.below hJ).cell 1
          have xX12 : World.cell? wj ⟨w.heap.size + 1, 2, none⟩ = some (.int .u64 M1) := (X1.below hJ).cell 2
          have xX13 : World.cell? wj ⟨w.heap.size + 1, 3, none⟩ = some (.int .i64 E1) := (X1.below hJ).cell 3
          go_simp
          exact hK.out _ _ rfl (Below.refl _ _)
        refine Jo.jcons (i := 24) (o := ⟨some 54, _, _, _, _, _⟩) (di := some 54) (L := [(some 50, 20), (some 53, 23)]) (f := Jo.Fact.num (-y)) rfl rfl rfl rfl (fun vs wj hJ hd K hK => ?_) ?_
        · have d20 : (Jo.Fact.eq (.bool false)).P (vs 20) wj := hd 20 (by decide)
          have d23 : (Jo.Fact.eq (.agg #[.int .i64 D1, .bool s1, .int .u64 M1, .int .i64 E1])).P (vs 23) wj := hd 23 (by decide)
          clear hd
          simp only [Jo.putl, List.foldl_cons, List.foldl_nil, Act.put, List.setIfInBounds_toArray, List.set_cons_zero, List.set_cons_succ] at hK ⊢
          generalize vs 20 = u20 at hK d20 ⊢
          generalize vs 23 = u23 at hK d23 ⊢
          replace d20 : u20 = _ := d20
          subst d20
          replace d23 : u23 = _ := d23
          subst d23
          go_simp
          refine (nNeg u1 NY.out).mono ?_
          rintro ee wk ⟨K13, s13, M13, E13, rfl, q13, B⟩
          exact hK.out _ _ ⟨K13, s13, M13, E13, rfl, q13⟩ B
        refine Jo.jcons (i := 25) (o := ⟨some 55, _, _, _, _, _⟩) (di := some 55) (L := [(some 50, 20), (some 52, 22), (some 54, 24)]) (f := Jo.Fact.eq (.int .i64 (-p))) rfl rfl rfl rfl (fun vs wj hJ hd K hK => ?_) ?_
        · have d20 : (Jo.Fact.eq (.bool false)).P (vs 20) wj := hd 20 (by decide)
          have d22 : (Jo.Fact.num (-x)).P (vs 22) wj := hd 22 (by decide)
          have d24 : (Jo.Fact.num (-y)).P (vs 24) wj := hd 24 (by decide)
          clear hd
          simp only [Jo.putl, List.foldl_cons, List.foldl_nil, Act.put, List.setIfInBounds_toArray, List.set_cons_zero, List.set_cons_succ] at hK ⊢
          generalize vs 20 = u20 at hK d20 ⊢
          generalize vs 22 = u22 at hK d22 ⊢
          generalize vs 24 = u24 at hK d24 ⊢
          replace d20 : u20 = _ := d20
          subst d20
          obtain ⟨K12, s12, M12, E12, rfl, q12⟩ := d22
          obtain ⟨K13, s13, M13, E13, rfl, q13⟩ := d24
          go_simp
          refine (nCmp (z := -p) q12.top q13.top (by rw [q12.rk, q13.rk]; exact HPN.out)).mono ?_
          rintro ee wk ⟨rfl, B⟩
          exact hK.out _ _ rfl B
        refine Jo.jcons (i := 26) (o := ⟨some 56, _, _, _, _, _⟩) (di := some 56) (L := [(some 50, 20)]) (f := Jo.Fact.eq (.int .i64 p)) rfl rfl rfl rfl (fun vs wj hJ hd K hK => ?_) ?_
        · have d20 : (Jo.Fact.eq (.bool false)).P (vs 20) wj := hd 20 (by decide)
          clear hd
          simp only [Jo.putl, List.foldl_cons, List.foldl_nil, Act.put, List.setIfInBounds_toArray, List.set_cons_zero, List.set_cons_succ] at hK ⊢
          generalize vs 20 = u20 at hK d20 ⊢
          replace d20 : u20 = _ := d20
          subst d20
          go_simp
          exact hK.out _ _ rfl (Below.refl _ _)
        refine Jo.jcons (i := 27) (o := ⟨some 57, _, _, _, _, _⟩) (di := some 57) (L := [(some 50, 20), (some 56, 26)]) (f := Jo.Fact.eq (.int .i64 (-p))) rfl rfl rfl rfl (fun vs wj hJ hd K hK => ?_) ?_
        · have d20 : (Jo.Fact.eq (.bool false)).P (vs 20) wj := hd 20 (by decide)
          have d26 : (Jo.Fact.eq (.int .i64 p)).P (vs 26) wj := hd 26 (by decide)
          clear hd
          simp only [Jo.putl, List.foldl_cons, List.foldl_nil, Act.put, List.setIfInBounds_toArray, List.set_cons_zero, List.set_cons_succ] at hK ⊢
          generalize vs 20 = u20 at hK d20 ⊢
          generalize vs 26 = u26 at hK d26 ⊢
          replace d20 : u20 = _ := d20
          subst d20
          replace d26 : u26 = _ := d26
          subst d26
          have hw := HW.out
          go_simp
          exact hK.out _ _ rfl (Below.refl _ _)
        refine Jo.jcons (i := 28) (o := ⟨some 58, _, _, _, _, _⟩) (di := some 58) (L := [(some 50, 20), (some 55, 25), (some 57, 27)]) (f := Jo.Fact.eq (.bool false)) rfl rfl rfl rfl (fun vs wj hJ hd K hK => ?_) ?_
        · have d20 : (Jo.Fact.eq (.bool false)).P (vs 20) wj := hd 20 (by decide)
          have d25 : (Jo.Fact.eq (.int .i64 (-p))).P (vs 25) wj := hd 25 (by decide)
          have d27 : (Jo.Fact.eq (.int .i64 (-p))).P (vs 27) wj := hd 27 (by decide)
          clear hd
          simp only [Jo.putl, List.foldl_cons, List.foldl_nil, Act.put, List.setIfInBounds_toArray, List.set_cons_zero, List.set_cons_succ] at hK ⊢
          generalize vs 20 = u20 at hK d20 ⊢
          generalize vs 25 = u25 at hK d25 ⊢
          generalize vs 27 = u27 at hK d27 ⊢
          replace d20 : u20 = _ := d20
          subst d20
          replace d25 : u25 = _ := d25
          subst d25
          replace d27 : u27 = _ := d27
          subst d27
          go_simp
          exact hK.out _ _ (by first | rfl | (show Value.bool _ = Value.bool _; simp)) (Below.refl _ _)
        refine Jo.jcons (i := 29) (o := ⟨some 59, _, _, _, _, _⟩) (di := some 59) (L := [(some 50, 20), (some 58, 28)]) (f := Jo.Fact.eq (.bool false)) rfl rfl rfl rfl (fun vs wj hJ hd K hK => ?_) ?_
        · have d20 : (Jo.Fact.eq (.bool false)).P (vs 20) wj := hd 20 (by decide)
          have d28 : (Jo.Fact.eq (.bool false)).P (vs 28) wj := hd 28 (by decide)
          clear hd
          simp only [Jo.putl, List.foldl_cons, List.foldl_nil, Act.put, List.setIfInBounds_toArray, List.set_cons_zero, List.set_cons_succ] at hK ⊢
          generalize vs 20 = u20 at hK d20 ⊢
          generalize vs 28 = u28 at hK d28 ⊢
          replace d20 : u20 = _ := d20
          subst d20
          replace d28 : u28 = _ := d28
          subst d28
          go_simp
          exact hK.out _ _ rfl (Below.refl _ _)
        exact Jo.Steps.nil
      have d0 : (Jo.Fact.eq (.int .i64 p)).P (vs 0) w9 := hd 0 (by decide)
      have d1 : (Jo.Fact.eq (.bool true)).P (vs 1) w9 := hd 1 (by decide)
      have d2 : (Jo.Fact.eq (.bool true)).P (vs 2) w9 := hd 2 (by decide)
      have d3 : (Jo.Fact.eq (.int .i64 q)).P (vs 3) w9 := hd 3 (by decide)
      have d4 : (Jo.Fact.eq (.bool true)).P (vs 4) w9 := hd 4 (by decide)
      have d5 : (Jo.Fact.eq (.bool true)).P (vs 5) w9 := hd 5 (by decide)
      have d6 : (Jo.Fact.eq (.bool true)).P (vs 6) w9 := hd 6 (by decide)
      have d7 : (Jo.Fact.eq (.agg #[.int .i64 D0, .bool s0, .int .u64 M0, .int .i64 E0])).P (vs 7) w9 := hd 7 (by decide)
      have d8 : (Jo.Fact.eq (.agg #[.int .i64 D2, .bool s2, .int .u64 M2, .int .i64 E2])).P (vs 8) w9 := hd 8 (by decide)
      have d9 : (Jo.Fact.eq (.int .i64 o)).P (vs 9) w9 := hd 9 (by decide)
      have d10 : (Jo.Fact.eq (.bool false)).P (vs 10) w9 := hd 10 (by decide)
      have d11 : (Jo.Fact.eq (.bool false)).P (vs 11) w9 := hd 11 (by decide)
      have d12 : (Jo.Fact.eq (.bool false)).P (vs 12) w9 := hd 12 (by decide)
      have d13 : (Jo.Fact.eq (.agg #[.int .i64 D1, .bool s1, .int .u64 M1, .int .i64 E1])).P (vs 13) w9 := hd 13 (by decide)
      have d14 : (Jo.Fact.eq (.agg #[.int .i64 D0, .bool s0, .int .u64 M0, .int .i64 E0])).P (vs 14) w9 := hd 14 (by decide)
      have d15 : (Jo.Fact.eq (.int .i64 (-p))).P (vs 15) w9 := hd 15 (by decide)
      have d16 : (Jo.Fact.eq (.int .i64 p)).P (vs 16) w9 := hd 16 (by decide)
      have d17 : (Jo.Fact.eq (.int .i64 (-p))).P (vs 17) w9 := hd 17 (by decide)
      have d18 : (Jo.Fact.eq (.bool false)).P (vs 18) w9 := hd 18 (by decide)
      have d19 : (Jo.Fact.eq (.bool false)).P (vs 19) w9 := hd 19 (by decide)
      have d20 : (Jo.Fact.eq (.bool false)).P (vs 20) w9 := hd 20 (by decide)
      have d21 : (Jo.Fact.eq (.agg #[.int .i64 D0, .bool s0, .int .u64 M0, .int .i64 E0])).P (vs 21) w9 := hd 21 (by decide)
      have d22 : (Jo.Fact.num (-x)).P (vs 22) w9 := hd 22 (by decide)
      have d23 : (Jo.Fact.eq (.agg #[.int .i64 D1, .bool s1, .int .u64 M1, .int .i64 E1])).P (vs 23) w9 := hd 23 (by decide)
      have d24 : (Jo.Fact.num (-y)).P (vs 24) w9 := hd 24 (by decide)
      have d25 : (Jo.Fact.eq (.int .i64 (-p))).P (vs 25) w9 := hd 25 (by decide)
      have d26 : (Jo.Fact.eq (.int .i64 p)).P (vs 26) w9 := hd 26 (by decide)
      have d27 : (Jo.Fact.eq (.int .i64 (-p))).P (vs 27) w9 := hd 27 (by decide)
      have d28 : (Jo.Fact.eq (.bool false)).P (vs 28) w9 := hd 28 (by decide)
      have d29 : (Jo.Fact.eq (.bool false)).P (vs 29) w9 := hd 29 (by decide)
      clear hd
      simp only [Jo.putl, List.foldl_cons, List.foldl_nil, Act.put, List.setIfInBounds_toArray, List.set_cons_zero, List.set_cons_succ]
      generalize vs 0 = u0 at d0 ⊢
      generalize vs 1 = u1 at d1 ⊢
      generalize vs 2 = u2 at d2 ⊢
      generalize vs 3 = u3 at d3 ⊢
      generalize vs 4 = u4 at d4 ⊢
      generalize vs 5 = u5 at d5 ⊢
      generalize vs 6 = u6 at d6 ⊢
      generalize vs 7 = u7 at d7 ⊢
      generalize vs 8 = u8 at d8 ⊢
      generalize vs 9 = u9 at d9 ⊢
      generalize vs 10 = u10 at d10 ⊢
      generalize vs 11 = u11 at d11 ⊢
      generalize vs 12 = u12 at d12 ⊢
      generalize vs 13 = u13 at d13 ⊢
      generalize vs 14 = u14 at d14 ⊢
      generalize vs 15 = u15 at d15 ⊢
      generalize vs 16 = u16 at d16 ⊢
      generalize vs 17 = u17 at d17 ⊢
      generalize vs 18 = u18 at d18 ⊢
      generalize vs 19 = u19 at d19 ⊢
      generalize vs 20 = u20 at d20 ⊢
      generalize vs 21 = u21 at d21 ⊢
      generalize vs 22 = u22 at d22 ⊢
      generalize vs 23 = u23 at d23 ⊢
      generalize vs 24 = u24 at d24 ⊢
      generalize vs 25 = u25 at d25 ⊢
      generalize vs 26 = u26 at d26 ⊢
      generalize vs 27 = u27 at d27 ⊢
      generalize vs 28 = u28 at d28 ⊢
      generalize vs 29 = u29 at d29 ⊢
      clear vs
      replace d0 : u0 = _ := d0
      subst d0
      replace d1 : u1 = _ := d1
      subst d1
      replace d2 : u2 = _ := d2
      subst d2
      replace d3 : u3 = _ := d3
      subst d3
      replace d4 : u4 = _ := d4
      subst d4
      replace d5 : u5 = _ := d5
      subst d5
      replace d6 : u6 = _ := d6
      subst d6
      replace d7 : u7 = _ := d7
      subst d7
      replace d8 : u8 = _ := d8
      subst d8
      replace d9 : u9 = _ := d9
      subst d9
      replace d10 : u10 = _ := d10
      subst d10
      replace d11 : u11 = _ := d11
      subst d11
      replace d12 : u12 = _ := d12
      subst d12
      replace d13 : u13 = _ := d13
      subst d13
      replace d14 : u14 = _ := d14
      subst d14
      replace d15 : u15 = _ := d15
      subst d15
      replace d16 : u16 = _ := d16
      subst d16
      replace d17 : u17 = _ := d17
      subst d17
      replace d18 : u18 = _ := d18
      subst d18
      replace d19 : u19 = _ := d19
      subst d19
      replace d20 : u20 = _ := d20
      subst d20
      replace d21 : u21 = _ := d21
      subst d21
      obtain ⟨K12, s12, M12, E12, rfl, _⟩ := d22
      replace d23 : u23 = _ := d23
      subst d23
      obtain ⟨K13, s13, M13, E13, rfl, _⟩ := d24
      replace d25 : u25 = _ := d25
      subst d25
      replace d26 : u26 = _ := d26
      subst d26
      replace d27 : u27 = _ := d27
      subst d27
      replace d28 : u28 = _ := d28
      subst d28
      replace d29 : u29 = _ := d29
      subst d29
      replace X0 := X0.below hJ
      replace X1 := X1.below hJ
      replace X2 := X2.below hJ
      replace X10 := X10.below hJ
      replace X11 := X11.below hJ
      replace HB := Lib.hid (bt HB.out hJ)
      refine Jo.jdone (by kernel_rfl) ?_
      go_wp2_with fail
      go_meet
      exact ⟨rfl, X0, X1, X2, X10, X11, HB.out⟩
  case rest =>
    obtain ⟨rfl, X0, X1, X2, X10, X11, hB⟩ := hcut
    replace HB := Lib.hid hB
    clear hB H6 HO HPR HPN HW
    go_upto_region 8 with (fail)
    go_cut [12] (fun v wx => v = .bool true ∧ Bo wx (w.heap.size) #[.int .i64 D0, .bool s0, .int .u64 M0, .int .i64 E0] 30 ∧ Bo wx (w.heap.size + 1) #[.int .i64 D1, .bool s1, .int .u64 M1, .int .i64 E1] 30 ∧ Bo wx (w.heap.size + 1 + 1) #[.int .i64 D2, .bool s2, .int .u64 M2, .int .i64 E2] 30 ∧ Bo wx (w5.heap.size) #[.int .i64 K7, .bool s7, .int .u64 M7, .int .i64 E7] 30 ∧ Bo wx (w7.heap.size) #[.int .i64 K8, .bool s8, .int .u64 M8, .int .i64 E8] 30 ∧ Below w.heap.size w wx)
    case first =>
      rcases H8.out with e1 | ⟨e1, e2⟩ | ⟨e1, e2, e3⟩
      · have xX100 := X10.at (i := 0) (v := .int .i64 K7) rfl
        have xX101 := X10.at (i := 1) (v := .bool s7) rfl
        have xX102 := X10.at (i := 2) (v := .int .u64 M7) rfl
        have xX103 := X10.at (i := 3) (v := .int .i64 E7) rfl
        have xX00 := X0.at (i := 0) (v := .int .i64 D0) rfl
        have xX01 := X0.at (i := 1) (v := .bool s0) rfl
        have xX02 := X0.at (i := 2) (v := .int .u64 M0) rfl
        have xX03 := X0.at (i := 3) (v := .int .i64 E0) rfl
        go_wp2_with fail
        refine (nCmp (z := ca) q7.top u0 (by rw [q7.rk]; exact CA.out)).mono ?_
        rintro ee wa ⟨rfl, B⟩
        clear xX100 xX101 xX102 xX103 xX00 xX01 xX02 xX03
        replace X0 := X0.below B
        replace X1 := X1.below B
        replace X2 := X2.below B
        replace X10 := X10.below B
        replace X11 := X11.below B
        replace HB := Lib.hid (bt HB.out B)
        clear B
        go_wp2_with fail
        go_meet
        exact ⟨rfl, X0, X1, X2, X10, X11, HB.out⟩
      · have xX100 := X10.at (i := 0) (v := .int .i64 K7) rfl
        have xX101 := X10.at (i := 1) (v := .bool s7) rfl
        have xX102 := X10.at (i := 2) (v := .int .u64 M7) rfl
        have xX103 := X10.at (i := 3) (v := .int .i64 E7) rfl
        have xX00 := X0.at (i := 0) (v := .int .i64 D0) rfl
        have xX01 := X0.at (i := 1) (v := .bool s0) rfl
        have xX02 := X0.at (i := 2) (v := .int .u64 M0) rfl
        have xX03 := X0.at (i := 3) (v := .int .i64 E0) rfl
        go_wp2_with fail
        refine (nCmp (z := ca) q7.top u0 (by rw [q7.rk]; exact CA.out)).mono ?_
        rintro ee wa ⟨rfl, B⟩
        clear xX100 xX101 xX102 xX103 xX00 xX01 xX02 xX03
        replace X0 := X0.below B
        replace X1 := X1.below B
        replace X2 := X2.below B
        replace X10 := X10.below B
        replace X11 := X11.below B
        replace HB := Lib.hid (bt HB.out B)
        clear B
        have xX100 := X10.at (i := 0) (v := .int .i64 K7) rfl
        have xX101 := X10.at (i := 1) (v := .bool s7) rfl
        have xX102 := X10.at (i := 2) (v := .int .u64 M7) rfl
        have xX103 := X10.at (i := 3) (v := .int .i64 E7) rfl
        have xX10 := X1.at (i := 0) (v := .int .i64 D1) rfl
        have xX11 := X1.at (i := 1) (v := .bool s1) rfl
        have xX12 := X1.at (i := 2) (v := .int .u64 M1) rfl
        have xX13 := X1.at (i := 3) (v := .int .i64 E1) rfl
        go_wp2_with fail
        refine (nCmp (z := cb) q7.top u1 (by rw [q7.rk]; exact CB.out)).mono ?_
        rintro ee wb ⟨rfl, B⟩
        clear xX100 xX101 xX102 xX103 xX10 xX11 xX12 xX13
        replace X0 := X0.below B
        replace X1 := X1.below B
        replace X2 := X2.below B
        replace X10 := X10.below B
        replace X11 := X11.below B
        replace HB := Lib.hid (bt HB.out B)
        clear B
        go_wp2_with fail
        go_meet
        exact ⟨rfl, X0, X1, X2, X10, X11, HB.out⟩
      · have xX100 := X10.at (i := 0) (v := .int .i64 K7) rfl
        have xX101 := X10.at (i := 1) (v := .bool s7) rfl
        have xX102 := X10.at (i := 2) (v := .int .u64 M7) rfl
        have xX103 := X10.at (i := 3) (v := .int .i64 E7) rfl
        have xX00 := X0.at (i := 0) (v := .int .i64 D0) rfl
        have xX01 := X0.at (i := 1) (v := .bool s0) rfl
        have xX02 := X0.at (i := 2) (v := .int .u64 M0) rfl
        have xX03 := X0.at (i := 3) (v := .int .i64 E0) rfl
        go_wp2_with fail
        refine (nCmp (z := ca) q7.top u0 (by rw [q7.rk]; exact CA.out)).mono ?_
        rintro ee wa ⟨rfl, B⟩
        clear xX100 xX101 xX102 xX103 xX00 xX01 xX02 xX03
        replace X0 := X0.below B
        replace X1 := X1.below B
        replace X2 := X2.below B
        replace X10 := X10.below B
        replace X11 := X11.below B
        replace HB := Lib.hid (bt HB.out B)
        clear B
        have xX100 := X10.at (i := 0) (v := .int .i64 K7) rfl
        have xX101 := X10.at (i := 1) (v := .bool s7) rfl
        have xX102 := X10.at (i := 2) (v := .int .u64 M7) rfl
        have xX103 := X10.at (i := 3) (v := .int .i64 E7) rfl
        have xX10 := X1.at (i := 0) (v := .int .i64 D1) rfl
        have xX11 := X1.at (i := 1) (v := .bool s1) rfl
        have xX12 := X1.at (i := 2) (v := .int .u64 M1) rfl
        have xX13 := X1.at (i := 3) (v := .int .i64 E1) rfl
        go_wp2_with fail
        refine (nCmp (z := cb) q7.top u1 (by rw [q7.rk]; exact CB.out)).mono ?_
        rintro ee wb ⟨rfl, B⟩
        clear xX100 xX101 xX102 xX103 xX10 xX11 xX12 xX13
        replace X0 := X0.below B
        replace X1 := X1.below B
        replace X2 := X2.below B
        replace X10 := X10.below B
        replace X11 := X11.below B
        replace HB := Lib.hid (bt HB.out B)
        clear B
        have xX100 := X10.at (i := 0) (v := .int .i64 K7) rfl
        have xX101 := X10.at (i := 1) (v := .bool s7) rfl
        have xX102 := X10.at (i := 2) (v := .int .u64 M7) rfl
        have xX103 := X10.at (i := 3) (v := .int .i64 E7) rfl
        have xX20 := X2.at (i := 0) (v := .int .i64 D2) rfl
        have xX21 := X2.at (i := 1) (v := .bool s2) rfl
        have xX22 := X2.at (i := 2) (v := .int .u64 M2) rfl
        have xX23 := X2.at (i := 3) (v := .int .i64 E2) rfl
        go_wp2_with fail
        refine (nCmp (z := cc) q7.top u2 (by rw [q7.rk]; exact CC.out)).mono ?_
        rintro ee wd ⟨rfl, B⟩
        clear xX100 xX101 xX102 xX103 xX20 xX21 xX22 xX23
        replace X0 := X0.below B
        replace X1 := X1.below B
        replace X2 := X2.below B
        replace X10 := X10.below B
        replace X11 := X11.below B
        replace HB := Lib.hid (bt HB.out B)
        clear B
        go_wp2_with fail
        go_meet
        exact ⟨rfl, X0, X1, X2, X10, X11, HB.out⟩
    case rest =>
      obtain ⟨rfl, X0, X1, X2, X10, X11, hB⟩ := hcut
      replace HB := Lib.hid hB
      clear hB H8
      go_upto_region 9 with (fail)
      refine Jo.region_joint (T := [0, 1, 2, 3, 4, 5, 6, 7, 8, 9, 10, 11, 12, 13, 14, 15, 16, 17, 18, 19, 20, 21, 22, 23, 24, 25, 26, 27, 28, 29, 30, 31, 32, 33, 34, 35, 36, 37, 38, 39, 40, 41, 42, 43, 44, 45, 46, 47]) (ds := [some 76, some 77, some 78, some 79, some 80, some 81, some 82, some 83, some 84, some 85, some 86, some 87, some 88, some 89, some 90, some 91, some 92, some 93, some 94, some 95, some 96, some 97, some 98, some 99, some 100, some 101, some 102, some 103, some 104, some 105, some 106, some 107, some 108, some 109, some 110, some 111, some 112, some 113, some 114, some 115, some 116, some 117, some 118, some 119, some 120, some 121, some 122, some 6]) (ls := [[], [0], [1], [1, 2], [3], [4], [4], [4, 5, 6], [4, 7], [4, 8], [9], [10], [10], [10, 11, 12], [10, 13], [10, 14], [15], [16], [16], [16, 17, 18], [16, 19], [16, 20], [21], [22], [22], [22, 23, 24], [22, 25], [22, 26], [27], [28], [28], [28, 29, 30], [28, 31], [28, 32], [33], [34], [34, 35], [34], [34, 37], [34], [34, 39], [34], [34, 41], [34, 38, 40, 42], [34, 43], [34, 36, 44], [34, 45], [46]]) (k := 48) (L := [(some 76, 0), (some 77, 1), (some 78, 2), (some 79, 3), (some 80, 4), (some 81, 5), (some 82, 6), (some 83, 7), (some 84, 8), (some 85, 9), (some 86, 10), (some 87, 11), (some 88, 12), (some 89, 13), (some 90, 14), (some 91, 15), (some 92, 16), (some 93, 17), (some 94, 18), (some 95, 19), (some 96, 20), (some 97, 21), (some 98, 22), (some 99, 23), (some 100, 24), (some 101, 25), (some 102, 26), (some 103, 27), (some 104, 28), (some 105, 29), (some 106, 30), (some 107, 31), (some 108, 32), (some 109, 33), (some 110, 34), (some 111, 35), (some 112, 36), (some 113, 37), (some 114, 38), (some 115, 39), (some 116, 40), (some 117, 41), (some 118, 42), (some 119, 43), (some 120, 44), (some 121, 45), (some 122, 46), (some 6, 47)]) (fuel := 0) (J := fun wj => Below (World.heap wc).size wc wj)
        (F := [Jo.Fact.eq (.bool true), Jo.Fact.eq (.bool true), Jo.Fact.eq (.bool true), Jo.Fact.eq (.bool true), Jo.Fact.eq (.bool true), Jo.Fact.eq (.agg #[.int .i64 K7, .bool s7, .int .u64 M7, .int .i64 E7]), Jo.Fact.eq (.agg #[.int .i64 D0, .bool s0, .int .u64 M0, .int .i64 E0]), Jo.Fact.eq (.int .i64 ca), Jo.Fact.eq (.bool true), Jo.Fact.eq (.bool true), Jo.Fact.eq (.bool true), Jo.Fact.eq (.agg #[.int .i64 K7, .bool s7, .int .u64 M7, .int .i64 E7]), Jo.Fact.eq (.agg #[.int .i64 D1, .bool s1, .int .u64 M1, .int .i64 E1]), Jo.Fact.eq (.int .i64 cb), Jo.Fact.eq (.bool true), Jo.Fact.eq (.bool true), Jo.Fact.eq (.bool true), Jo.Fact.eq (.agg #[.int .i64 K7, .bool s7, .int .u64 M7, .int .i64 E7]), Jo.Fact.eq (.agg #[.int .i64 D2, .bool s2, .int .u64 M2, .int .i64 E2]), Jo.Fact.eq (.int .i64 cc), Jo.Fact.eq (.bool true), Jo.Fact.eq (.bool true), Jo.Fact.eq (.bool true), Jo.Fact.eq (.agg #[.int .i64 K8, .bool s8, .int .u64 M8, .int .i64 E8]), Jo.Fact.eq (.agg #[.int .i64 K7, .bool s7, .int .u64 M7, .int .i64 E7]), Jo.Fact.eq (.int .i64 cd), Jo.Fact.eq (.bool true), Jo.Fact.eq (.bool true), Jo.Fact.eq (.bool true), Jo.Fact.eq (.agg #[.int .i64 K8, .bool s8, .int .u64 M8, .int .i64 E8]), Jo.Fact.eq (.agg #[.int .i64 D1, .bool s1, .int .u64 M1, .int .i64 E1]), Jo.Fact.eq (.int .i64 ce), Jo.Fact.eq (.bool true), Jo.Fact.eq (.bool true), Jo.Fact.eq (.bool true), Jo.Fact.eq (.agg #[.int .i64 K8, .bool s8, .int .u64 M8, .int .i64 E8]), Jo.Fact.num (-mx), Jo.Fact.eq (.agg #[.int .i64 D0, .bool s0, .int .u64 M0, .int .i64 E0]), Jo.Fact.num (-x), Jo.Fact.eq (.agg #[.int .i64 D1, .bool s1, .int .u64 M1, .int .i64 E1]), Jo.Fact.num (-y), Jo.Fact.eq (.agg #[.int .i64 D2, .bool s2, .int .u64 M2, .int .i64 E2]), Jo.Fact.num (-z), Jo.Fact.nl 3 [-x, -y, -z], Jo.Fact.num (-mx), Jo.Fact.eq (.bool true), Jo.Fact.eq (.bool true), Jo.Fact.eq (.bool true)])
        (by kernel_rfl) (by kernel_rfl) (by decide) rfl rfl (fun _ _ h b => bt h b) ((Below.refl _ _).drew) ?_ (fun vs wz hJ hd => ?_)
      · refine Jo.jcons (i := 0) (o := ⟨some 76, _, _, _, _, _⟩) (di := some 76) (L := []) (f := Jo.Fact.eq (.bool true)) rfl rfl rfl rfl (fun vs wj hJ hd K hK => ?_) ?_
        · clear hd
          simp only [Jo.putl, List.foldl_nil, Act.put, List.setIfInBounds_toArray, List.set_cons_zero, List.set_cons_succ] at hK ⊢
          go_simp
          exact hK.out _ _ rfl (Below.refl _ _)
        refine Jo.jcons (i := 1) (o := ⟨some 77, _, _, _, _, _⟩) (di := some 77) (L := [(some 76, 0)]) (f := Jo.Fact.eq (.bool true)) rfl rfl rfl rfl (fun vs wj hJ hd K hK => ?_) ?_
        · have d0 : (Jo.Fact.eq (.bool true)).P (vs 0) wj := hd 0 (by decide)
          clear hd
          simp only [Jo.putl, List.foldl_cons, List.foldl_nil, Act.put, List.setIfInBounds_toArray, List.set_cons_zero, List.set_cons_succ] at hK ⊢
          generalize vs 0 = u0 at hK d0 ⊢
          replace d0 : u0 = _ := d0
          subst d0
          go_simp
          exact hK.out _ _ rfl (Below.refl _ _)
        refine Jo.jcons (i := 2) (o := ⟨some 78, _, _, _, _, _⟩) (di := some 78) (L := [(some 77, 1)]) (f := Jo.Fact.eq (.bool true)) rfl rfl rfl rfl (fun vs wj hJ hd K hK => ?_) ?_
        · have d1 : (Jo.Fact.eq (.bool true)).P (vs 1) wj := hd 1 (by decide)
          clear hd
          simp only [Jo.putl, List.foldl_cons, List.foldl_nil, Act.put, List.setIfInBounds_toArray, List.set_cons_zero, List.set_cons_succ] at hK ⊢
          generalize vs 1 = u1 at hK d1 ⊢
          replace d1 : u1 = _ := d1
          subst d1
          go_simp
          exact hK.out _ _ rfl (Below.refl _ _)
        refine Jo.jcons (i := 3) (o := ⟨some 79, _, _, _, _, _⟩) (di := some 79) (L := [(some 77, 1), (some 78, 2)]) (f := Jo.Fact.eq (.bool true)) rfl rfl rfl rfl (fun vs wj hJ hd K hK => ?_) ?_
        · have d1 : (Jo.Fact.eq (.bool true)).P (vs 1) wj := hd 1 (by decide)
          have d2 : (Jo.Fact.eq (.bool true)).P (vs 2) wj := hd 2 (by decide)
          clear hd
          simp only [Jo.putl, List.foldl_cons, List.foldl_nil, Act.put, List.setIfInBounds_toArray, List.set_cons_zero, List.set_cons_succ] at hK ⊢
          generalize vs 1 = u1 at hK d1 ⊢
          generalize vs 2 = u2 at hK d2 ⊢
          replace d1 : u1 = _ := d1
          subst d1
          replace d2 : u2 = _ := d2
          subst d2
          go_simp
          exact hK.out _ _ rfl (Below.refl _ _)
        refine Jo.jcons (i := 4) (o := ⟨some 80, _, _, _, _, _⟩) (di := some 80) (L := [(some 79, 3)]) (f := Jo.Fact.eq (.bool true)) rfl rfl rfl rfl (fun vs wj hJ hd K hK => ?_) ?_
        · have d3 : (Jo.Fact.eq (.bool true)).P (vs 3) wj := hd 3 (by decide)
          clear hd
          simp only [Jo.putl, List.foldl_cons, List.foldl_nil, Act.put, List.setIfInBounds_toArray, List.set_cons_zero, List.set_cons_succ] at hK ⊢
          generalize vs 3 = u3 at hK d3 ⊢
          replace d3 : u3 = _ := d3
          subst d3
          go_simp
          exact hK.out _ _ rfl (Below.refl _ _)
        refine Jo.jcons (i := 5) (o := ⟨some 81, _, _, _, _, _⟩) (di := some 81) (L := [(some 80, 4)]) (f := Jo.Fact.eq (.agg #[.int .i64 K7, .bool s7, .int .u64 M7, .int .i64 E7])) rfl rfl rfl rfl (fun vs wj hJ hd K hK => ?_) ?_
        · have d4 : (Jo.Fact.eq (.bool true)).P (vs 4) wj := hd 4 (by decide)
          clear hd
          simp only [Jo.putl, List.foldl_cons, List.foldl_nil, Act.put, List.setIfInBounds_toArray, List.set_cons_zero, List.set_cons_succ] at hK ⊢
          generalize vs 4 = u4 at hK d4 ⊢
          replace d4 : u4 = _ := d4
          subst d4
          have xX100 : World.cell? wj ⟨w5.heap.size, 0, none⟩ = some (.int .i64 K7) := (X10.below hJ).cell 0
          have xX101 : World.cell? wj ⟨w5.heap.size, 1, none⟩ = some (.bool s7) := (X10.below hJ).cell 1
          have xX102 : World.cell? wj ⟨w5.heap.size, 2, none⟩ = some (.int .u64 M7) := (X10.below hJ).cell 2
          have xX103 : World.cell? wj ⟨w5.heap.size, 3, none⟩ = some (.int .i64 E7) := (X10.below hJ).cell 3
          go_simp
          exact hK.out _ _ rfl (Below.refl _ _)
        refine Jo.jcons (i := 6) (o := ⟨some 82, _, _, _, _, _⟩) (di := some 82) (L := [(some 80, 4)]) (f := Jo.Fact.eq (.agg #[.int .i64 D0, .bool s0, .int .u64 M0, .int .i64 E0])) rfl rfl rfl rfl (fun vs wj hJ hd K hK => ?_) ?_
        · have d4 : (Jo.Fact.eq (.bool true)).P (vs 4) wj := hd 4 (by decide)
          clear hd
          simp only [Jo.putl, List.foldl_cons, List.foldl_nil, Act.put, List.setIfInBounds_toArray, List.set_cons_zero, List.set_cons_succ] at hK ⊢
          generalize vs 4 = u4 at hK d4 ⊢
          replace d4 : u4 = _ := d4
          subst d4
          have xX00 : World.cell? wj ⟨w.heap.size, 0, none⟩ = some (.int .i64 D0) := (X0.below hJ).cell 0
          have xX01 : World.cell? wj ⟨w.heap.size, 1, none⟩ = some (.bool s0) := (X0.below hJ).cell 1
          have xX02 : World.cell? wj ⟨w.heap.size, 2, none⟩ = some (.int .u64 M0) := (X0.below hJ).cell 2
          have xX03 : World.cell? wj ⟨w.heap.size, 3, none⟩ = some (.int .i64 E0) := (X0.below hJ).cell 3
          go_simp
          exact hK.out _ _ rfl (Below.refl _ _)
        refine Jo.jcons (i := 7) (o := ⟨some 83, _, _, _, _, _⟩) (di := some 83) (L := [(some 80, 4), (some 81, 5), (some 82, 6)]) (f := Jo.Fact.eq (.int .i64 ca)) rfl rfl rfl rfl (fun vs wj hJ hd K hK => ?_) ?_
        · have d4 : (Jo.Fact.eq (.bool true)).P (vs 4) wj := hd 4 (by decide)
          have d5 : (Jo.Fact.eq (.agg #[.int .i64 K7, .bool s7, .int .u64 M7, .int .i64 E7])).P (vs 5) wj := hd 5 (by decide)
          have d6 : (Jo.Fact.eq (.agg #[.int .i64 D0, .bool s0, .int .u64 M0, .int .i64 E0])).P (vs 6) wj := hd 6 (by decide)
          clear hd
          simp only [Jo.putl, List.foldl_cons, List.foldl_nil, Act.put, List.setIfInBounds_toArray, List.set_cons_zero, List.set_cons_succ] at hK ⊢
          generalize vs 4 = u4 at hK d4 ⊢
          generalize vs 5 = u5 at hK d5 ⊢
          generalize vs 6 = u6 at hK d6 ⊢
          replace d4 : u4 = _ := d4
          subst d4
          replace d5 : u5 = _ := d5
          subst d5
          replace d6 : u6 = _ := d6
          subst d6
          go_simp
          refine (nCmp (z := ca) q7.top u0 (by rw [q7.rk]; exact CA.out)).mono ?_
          rintro ee wk ⟨rfl, B⟩
          exact hK.out _ _ rfl B
        refine Jo.jcons (i := 8) (o := ⟨some 84, _, _, _, _, _⟩) (di := some 84) (L := [(some 80, 4), (some 83, 7)]) (f := Jo.Fact.eq (.bool true)) rfl rfl rfl rfl (fun vs wj hJ hd K hK => ?_) ?_
        · have d4 : (Jo.Fact.eq (.bool true)).P (vs 4) wj := hd 4 (by decide)
          have d7 : (Jo.Fact.eq (.int .i64 ca)).P (vs 7) wj := hd 7 (by decide)
          clear hd
          simp only [Jo.putl, List.foldl_cons, List.foldl_nil, Act.put, List.setIfInBounds_toArray, List.set_cons_zero, List.set_cons_succ] at hK ⊢
          generalize vs 4 = u4 at hK d4 ⊢
          generalize vs 7 = u7 at hK d7 ⊢
          replace d4 : u4 = _ := d4
          subst d4
          replace d7 : u7 = _ := d7
          subst d7
          have ht := TA.out
          go_simp
          exact hK.out _ _ (by first | rfl | (show Value.bool _ = Value.bool _; simp only [ht])) (Below.refl _ _)
        refine Jo.jcons (i := 9) (o := ⟨some 85, _, _, _, _, _⟩) (di := some 85) (L := [(some 80, 4), (some 84, 8)]) (f := Jo.Fact.eq (.bool true)) rfl rfl rfl rfl (fun vs wj hJ hd K hK => ?_) ?_
        · have d4 : (Jo.Fact.eq (.bool true)).P (vs 4) wj := hd 4 (by decide)
          have d8 : (Jo.Fact.eq (.bool true)).P (vs 8) wj := hd 8 (by decide)
          clear hd
          simp only [Jo.putl, List.foldl_cons, List.foldl_nil, Act.put, List.setIfInBounds_toArray, List.set_cons_zero, List.set_cons_succ] at hK ⊢
          generalize vs 4 = u4 at hK d4 ⊢
          generalize vs 8 = u8 at hK d8 ⊢
          replace d4 : u4 = _ := d4
          subst d4
          replace d8 : u8 = _ := d8
          subst d8
          go_simp
          exact hK.out _ _ rfl (Below.refl _ _)
        refine Jo.jcons (i := 10) (o := ⟨some 86, _, _, _, _, _⟩) (di := some 86) (L := [(some 85, 9)]) (f := Jo.Fact.eq (.bool true)) rfl rfl rfl rfl (fun vs wj hJ hd K hK => ?_) ?_
        · have d9 : (Jo.Fact.eq (.bool true)).P (vs 9) wj := hd 9 (by decide)
          clear hd
          simp only [Jo.putl, List.foldl_cons, List.foldl_nil, Act.put, List.setIfInBounds_toArray, List.set_cons_zero, List.set_cons_succ] at hK ⊢
          generalize vs 9 = u9 at hK d9 ⊢
          replace d9 : u9 = _ := d9
          subst d9
          go_simp
          exact hK.out _ _ rfl (Below.refl _ _)
        refine Jo.jcons (i := 11) (o := ⟨some 87, _, _, _, _, _⟩) (di := some 87) (L := [(some 86, 10)]) (f := Jo.Fact.eq (.agg #[.int .i64 K7, .bool s7, .int .u64 M7, .int .i64 E7])) rfl rfl rfl rfl (fun vs wj hJ hd K hK => ?_) ?_
        · have d10 : (Jo.Fact.eq (.bool true)).P (vs 10) wj := hd 10 (by decide)
          clear hd
          simp only [Jo.putl, List.foldl_cons, List.foldl_nil, Act.put, List.setIfInBounds_toArray, List.set_cons_zero, List.set_cons_succ] at hK ⊢
          generalize vs 10 = u10 at hK d10 ⊢
          replace d10 : u10 = _ := d10
          subst d10
          have xX100 : World.cell? wj ⟨w5.heap.size, 0, none⟩ = some (.int .i64 K7) := (X10.below hJ).cell 0
          have xX101 : World.cell? wj ⟨w5.heap.size, 1, none⟩ = some (.bool s7) := (X10.below hJ).cell 1
          have xX102 : World.cell? wj ⟨w5.heap.size, 2, none⟩ = some (.int .u64 M7) := (X10.below hJ).cell 2
          have xX103 : World.cell? wj ⟨w5.heap.size, 3, none⟩ = some (.int .i64 E7) := (X10.below hJ).cell 3
          go_simp
          exact hK.out _ _ rfl (Below.refl _ _)
        refine Jo.jcons (i := 12) (o := ⟨some 88, _, _, _, _, _⟩) (di := some 88) (L := [(some 86, 10)]) (f := Jo.Fact.eq (.agg #[.int .i64 D1, .bool s1, .int .u64 M1, .int .i64 E1])) rfl rfl rfl rfl (fun vs wj hJ hd K hK => ?_) ?_
        · have d10 : (Jo.Fact.eq (.bool true)).P (vs 10) wj := hd 10 (by decide)
          clear hd
          simp only [Jo.putl, List.foldl_cons, List.foldl_nil, Act.put, List.setIfInBounds_toArray, List.set_cons_zero, List.set_cons_succ] at hK ⊢
          generalize vs 10 = u10 at hK d10 ⊢
          replace d10 : u10 = _ := d10
          subst d10
          have xX10 : World.cell? wj ⟨w.heap.size + 1, 0, none⟩ = some (.int .i64 D1) := (X1.below hJ).cell 0
          have xX11 : World.cell? wj ⟨w.heap.size + 1, 1, none⟩ = some (.bool s1) := (X1.below hJ).cell 1
          have xX12 : World.cell? wj ⟨w.heap.size + 1, 2, none⟩ = some (.int .u64 M1) := (X1.below hJ).cell 2
          have xX13 : World.cell? wj ⟨w.heap.size + 1, 3, none⟩ = some (.int .i64 E1) := (X1.below hJ).cell 3
          go_simp
          exact hK.out _ _ rfl (Below.refl _ _)
        refine Jo.jcons (i := 13) (o := ⟨some 89, _, _, _, _, _⟩) (di := some 89) (L := [(some 86, 10), (some 87, 11), (some 88, 12)]) (f := Jo.Fact.eq (.int .i64 cb)) rfl rfl rfl rfl (fun vs wj hJ hd K hK => ?_) ?_
        · have d10 : (Jo.Fact.eq (.bool true)).P (vs 10) wj := hd 10 (by decide)
          have d11 : (Jo.Fact.eq (.agg #[.int .i64 K7, .bool s7, .int .u64 M7, .int .i64 E7])).P (vs 11) wj := hd 11 (by decide)
          have d12 : (Jo.Fact.eq (.agg #[.int .i64 D1, .bool s1, .int .u64 M1, .int .i64 E1])).P (vs 12) wj := hd 12 (by decide)
          clear hd
          simp only [Jo.putl, List.foldl_cons, List.foldl_nil, Act.put, List.setIfInBounds_toArray, List.set_cons_zero, List.set_cons_succ] at hK ⊢
          generalize vs 10 = u10 at hK d10 ⊢
          generalize vs 11 = u11 at hK d11 ⊢
          generalize vs 12 = u12 at hK d12 ⊢
          replace d10 : u10 = _ := d10
          subst d10
          replace d11 : u11 = _ := d11
          subst d11
          replace d12 : u12 = _ := d12
          subst d12
          go_simp
          refine (nCmp (z := cb) q7.top u1 (by rw [q7.rk]; exact CB.out)).mono ?_
          rintro ee wk ⟨rfl, B⟩
          exact hK.out _ _ rfl B
        refine Jo.jcons (i := 14) (o := ⟨some 90, _, _, _, _, _⟩) (di := some 90) (L := [(some 86, 10), (some 89, 13)]) (f := Jo.Fact.eq (.bool true)) rfl rfl rfl rfl (fun vs wj hJ hd K hK => ?_) ?_
        · have d10 : (Jo.Fact.eq (.bool true)).P (vs 10) wj := hd 10 (by decide)
          have d13 : (Jo.Fact.eq (.int .i64 cb)).P (vs 13) wj := hd 13 (by decide)
          clear hd
          simp only [Jo.putl, List.foldl_cons, List.foldl_nil, Act.put, List.setIfInBounds_toArray, List.set_cons_zero, List.set_cons_succ] at hK ⊢
          generalize vs 10 = u10 at hK d10 ⊢
          generalize vs 13 = u13 at hK d13 ⊢
          replace d10 : u10 = _ := d10
          subst d10
          replace d13 : u13 = _ := d13
          subst d13
          have ht := TB.out
          go_simp
          exact hK.out _ _ (by first | rfl | (show Value.bool _ = Value.bool _; simp only [ht])) (Below.refl _ _)
        refine Jo.jcons (i := 15) (o := ⟨some 91, _, _, _, _, _⟩) (di := some 91) (L := [(some 86, 10), (some 90, 14)]) (f := Jo.Fact.eq (.bool true)) rfl rfl rfl rfl (fun vs wj hJ hd K hK => ?_) ?_
        · have d10 : (Jo.Fact.eq (.bool true)).P (vs 10) wj := hd 10 (by decide)
          have d14 : (Jo.Fact.eq (.bool true)).P (vs 14) wj := hd 14 (by decide)
          clear hd
          simp only [Jo.putl, List.foldl_cons, List.foldl_nil, Act.put, List.setIfInBounds_toArray, List.set_cons_zero, List.set_cons_succ] at hK ⊢
          generalize vs 10 = u10 at hK d10 ⊢
          generalize vs 14 = u14 at hK d14 ⊢
          replace d10 : u10 = _ := d10
          subst d10
          replace d14 : u14 = _ := d14
          subst d14
          go_simp
          exact hK.out _ _ rfl (Below.refl _ _)
        refine Jo.jcons (i := 16) (o := ⟨some 92, _, _, _, _, _⟩) (di := some 92) (L := [(some 91, 15)]) (f := Jo.Fact.eq (.bool true)) rfl rfl rfl rfl (fun vs wj hJ hd K hK => ?_) ?_
        · have d15 : (Jo.Fact.eq (.bool true)).P (vs 15) wj := hd 15 (by decide)
          clear hd
          simp only [Jo.putl, List.foldl_cons, List.foldl_nil, Act.put, List.setIfInBounds_toArray, List.set_cons_zero, List.set_cons_succ] at hK ⊢
          generalize vs 15 = u15 at hK d15 ⊢
          replace d15 : u15 = _ := d15
          subst d15
          go_simp
          exact hK.out _ _ rfl (Below.refl _ _)
        refine Jo.jcons (i := 17) (o := ⟨some 93, _, _, _, _, _⟩) (di := some 93) (L := [(some 92, 16)]) (f := Jo.Fact.eq (.agg #[.int .i64 K7, .bool s7, .int .u64 M7, .int .i64 E7])) rfl rfl rfl rfl (fun vs wj hJ hd K hK => ?_) ?_
        · have d16 : (Jo.Fact.eq (.bool true)).P (vs 16) wj := hd 16 (by decide)
          clear hd
          simp only [Jo.putl, List.foldl_cons, List.foldl_nil, Act.put, List.setIfInBounds_toArray, List.set_cons_zero, List.set_cons_succ] at hK ⊢
          generalize vs 16 = u16 at hK d16 ⊢
          replace d16 : u16 = _ := d16
          subst d16
          have xX100 : World.cell? wj ⟨w5.heap.size, 0, none⟩ = some (.int .i64 K7) := (X10.below hJ).cell 0
          have xX101 : World.cell? wj ⟨w5.heap.size, 1, none⟩ = some (.bool s7) := (X10.below hJ).cell 1
          have xX102 : World.cell? wj ⟨w5.heap.size, 2, none⟩ = some (.int .u64 M7) := (X10.below hJ).cell 2
          have xX103 : World.cell? wj ⟨w5.heap.size, 3, none⟩ = some (.int .i64 E7) := (X10.below hJ).cell 3
          go_simp
          exact hK.out _ _ rfl (Below.refl _ _)
        refine Jo.jcons (i := 18) (o := ⟨some 94, _, _, _, _, _⟩) (di := some 94) (L := [(some 92, 16)]) (f := Jo.Fact.eq (.agg #[.int .i64 D2, .bool s2, .int .u64 M2, .int .i64 E2])) rfl rfl rfl rfl (fun vs wj hJ hd K hK => ?_) ?_
        · have d16 : (Jo.Fact.eq (.bool true)).P (vs 16) wj := hd 16 (by decide)
          clear hd
          simp only [Jo.putl, List.foldl_cons, List.foldl_nil, Act.put, List.setIfInBounds_toArray, List.set_cons_zero, List.set_cons_succ] at hK ⊢
          generalize vs 16 = u16 at hK d16 ⊢
          replace d16 : u16 = _ := d16
          subst d16
          have xX20 : World.cell? wj ⟨w.heap.size + 1 + 1, 0, none⟩ = some (.int .i64 D2) := (X2.below hJ).cell 0
          have xX21 : World.cell? wj ⟨w.heap.size + 1 + 1, 1, none⟩ = some (.bool s2) := (X2.below hJ).cell 1
          have xX22 : World.cell? wj ⟨w.heap.size + 1 + 1, 2, none⟩ = some (.int .u64 M2) := (X2.below hJ).cell 2
          have xX23 : World.cell? wj ⟨w.heap.size + 1 + 1, 3, none⟩ = some (.int .i64 E2) := (X2.below hJ).cell 3
          go_simp
          exact hK.out _ _ rfl (Below.refl _ _)
        refine Jo.jcons (i := 19) (o := ⟨some 95, _, _, _, _, _⟩) (di := some 95) (L := [(some 92, 16), (some 93, 17), (some 94, 18)]) (f := Jo.Fact.eq (.int .i64 cc)) rfl rfl rfl rfl (fun vs wj hJ hd K hK => ?_) ?_
        · have d16 : (Jo.Fact.eq (.bool true)).P (vs 16) wj := hd 16 (by decide)
          have d17 : (Jo.Fact.eq (.agg #[.int .i64 K7, .bool s7, .int .u64 M7, .int .i64 E7])).P (vs 17) wj := hd 17 (by decide)
          have d18 : (Jo.Fact.eq (.agg #[.int .i64 D2, .bool s2, .int .u64 M2, .int .i64 E2])).P (vs 18) wj := hd 18 (by decide)
          clear hd
          simp only [Jo.putl, List.foldl_cons, List.foldl_nil, Act.put, List.setIfInBounds_toArray, List.set_cons_zero, List.set_cons_succ] at hK ⊢
          generalize vs 16 = u16 at hK d16 ⊢
          generalize vs 17 = u17 at hK d17 ⊢
          generalize vs 18 = u18 at hK d18 ⊢
          replace d16 : u16 = _ := d16
          subst d16
          replace d17 : u17 = _ := d17
          subst d17
          replace d18 : u18 = _ := d18
          subst d18
          go_simp
          refine (nCmp (z := cc) q7.top u2 (by rw [q7.rk]; exact CC.out)).mono ?_
          rintro ee wk ⟨rfl, B⟩
          exact hK.out _ _ rfl B
        refine Jo.jcons (i := 20) (o := ⟨some 96, _, _, _, _, _⟩) (di := some 96) (L := [(some 92, 16), (some 95, 19)]) (f := Jo.Fact.eq (.bool true)) rfl rfl rfl rfl (fun vs wj hJ hd K hK => ?_) ?_
        · have d16 : (Jo.Fact.eq (.bool true)).P (vs 16) wj := hd 16 (by decide)
          have d19 : (Jo.Fact.eq (.int .i64 cc)).P (vs 19) wj := hd 19 (by decide)
          clear hd
          simp only [Jo.putl, List.foldl_cons, List.foldl_nil, Act.put, List.setIfInBounds_toArray, List.set_cons_zero, List.set_cons_succ] at hK ⊢
          generalize vs 16 = u16 at hK d16 ⊢
          generalize vs 19 = u19 at hK d19 ⊢
          replace d16 : u16 = _ := d16
          subst d16
          replace d19 : u19 = _ := d19
          subst d19
          have ht := TC.out
          go_simp
          exact hK.out _ _ (by first | rfl | (show Value.bool _ = Value.bool _; simp only [ht])) (Below.refl _ _)
        refine Jo.jcons (i := 21) (o := ⟨some 97, _, _, _, _, _⟩) (di := some 97) (L := [(some 92, 16), (some 96, 20)]) (f := Jo.Fact.eq (.bool true)) rfl rfl rfl rfl (fun vs wj hJ hd K hK => ?_) ?_
        · have d16 : (Jo.Fact.eq (.bool true)).P (vs 16) wj := hd 16 (by decide)
          have d20 : (Jo.Fact.eq (.bool true)).P (vs 20) wj := hd 20 (by decide)
          clear hd
          simp only [Jo.putl, List.foldl_cons, List.foldl_nil, Act.put, List.setIfInBounds_toArray, List.set_cons_zero, List.set_cons_succ] at hK ⊢
          generalize vs 16 = u16 at hK d16 ⊢
          generalize vs 20 = u20 at hK d20 ⊢
          replace d16 : u16 = _ := d16
          subst d16
          replace d20 : u20 = _ := d20
          subst d20
          go_simp
          exact hK.out _ _ rfl (Below.refl _ _)
        refine Jo.jcons (i := 22) (o := ⟨some 98, _, _, _, _, _⟩) (di := some 98) (L := [(some 97, 21)]) (f := Jo.Fact.eq (.bool true)) rfl rfl rfl rfl (fun vs wj hJ hd K hK => ?_) ?_
        · have d21 : (Jo.Fact.eq (.bool true)).P (vs 21) wj := hd 21 (by decide)
          clear hd
          simp only [Jo.putl, List.foldl_cons, List.foldl_nil, Act.put, List.setIfInBounds_toArray, List.set_cons_zero, List.set_cons_succ] at hK ⊢
          generalize vs 21 = u21 at hK d21 ⊢
          replace d21 : u21 = _ := d21
          subst d21
          go_simp
          exact hK.out _ _ rfl (Below.refl _ _)
        refine Jo.jcons (i := 23) (o := ⟨some 99, _, _, _, _, _⟩) (di := some 99) (L := [(some 98, 22)]) (f := Jo.Fact.eq (.agg #[.int .i64 K8, .bool s8, .int .u64 M8, .int .i64 E8])) rfl rfl rfl rfl (fun vs wj hJ hd K hK => ?_) ?_
        · have d22 : (Jo.Fact.eq (.bool true)).P (vs 22) wj := hd 22 (by decide)
          clear hd
          simp only [Jo.putl, List.foldl_cons, List.foldl_nil, Act.put, List.setIfInBounds_toArray, List.set_cons_zero, List.set_cons_succ] at hK ⊢
          generalize vs 22 = u22 at hK d22 ⊢
          replace d22 : u22 = _ := d22
          subst d22
          have xX110 : World.cell? wj ⟨w7.heap.size, 0, none⟩ = some (.int .i64 K8) := (X11.below hJ).cell 0
          have xX111 : World.cell? wj ⟨w7.heap.size, 1, none⟩ = some (.bool s8) := (X11.below hJ).cell 1
          have xX112 : World.cell? wj ⟨w7.heap.size, 2, none⟩ = some (.int .u64 M8) := (X11.below hJ).cell 2
          have xX113 : World.cell? wj ⟨w7.heap.size, 3, none⟩ = some (.int .i64 E8) := (X11.below hJ).cell 3
          go_simp
          exact hK.out _ _ rfl (Below.refl _ _)
        refine Jo.jcons (i := 24) (o := ⟨some 100, _, _, _, _, _⟩) (di := some 100) (L := [(some 98, 22)]) (f := Jo.Fact.eq (.agg #[.int .i64 K7, .bool s7, .int .u64 M7, .int .i64 E7])) rfl rfl rfl rfl (fun vs wj hJ hd K hK => ?_) ?_
        · have d22 : (Jo.Fact.eq (.bool true)).P (vs 22) wj := hd 22 (by decide)
          clear hd
          simp only [Jo.putl, List.foldl_cons, List.foldl_nil, Act.put, List.setIfInBounds_toArray, List.set_cons_zero, List.set_cons_succ] at hK ⊢
          generalize vs 22 = u22 at hK d22 ⊢
          replace d22 : u22 = _ := d22
          subst d22
          have xX100 : World.cell? wj ⟨w5.heap.size, 0, none⟩ = some (.int .i64 K7) := (X10.below hJ).cell 0
          have xX101 : World.cell? wj ⟨w5.heap.size, 1, none⟩ = some (.bool s7) := (X10.below hJ).cell 1
          have xX102 : World.cell? wj ⟨w5.heap.size, 2, none⟩ = some (.int .u64 M7) := (X10.below hJ).cell 2
          have xX103 : World.cell? wj ⟨w5.heap.size, 3, none⟩ = some (.int .i64 E7) := (X10.below hJ).cell 3
          go_simp
          exact hK.out _ _ rfl (Below.refl _ _)
        refine Jo.jcons (i := 25) (o := ⟨some 101, _, _, _, _, _⟩) (di := some 101) (L := [(some 98, 22), (some 99, 23), (some 100, 24)]) (f := Jo.Fact.eq (.int .i64 cd)) rfl rfl rfl rfl (fun vs wj hJ hd K hK => ?_) ?_
        · have d22 : (Jo.Fact.eq (.bool true)).P (vs 22) wj := hd 22 (by decide)
          have d23 : (Jo.Fact.eq (.agg #[.int .i64 K8, .bool s8, .int .u64 M8, .int .i64 E8])).P (vs 23) wj := hd 23 (by decide)
          have d24 : (Jo.Fact.eq (.agg #[.int .i64 K7, .bool s7, .int .u64 M7, .int .i64 E7])).P (vs 24) wj := hd 24 (by decide)
          clear hd
          simp only [Jo.putl, List.foldl_cons, List.foldl_nil, Act.put, List.setIfInBounds_toArray, List.set_cons_zero, List.set_cons_succ] at hK ⊢
          generalize vs 22 = u22 at hK d22 ⊢
          generalize vs 23 = u23 at hK d23 ⊢
          generalize vs 24 = u24 at hK d24 ⊢
          replace d22 : u22 = _ := d22
          subst d22
          replace d23 : u23 = _ := d23
          subst d23
          replace d24 : u24 = _ := d24
          subst d24
          go_simp
          refine (nCmp (z := cd) q8.top q7.top (by rw [q8.rk, q7.rk]; exact CD.out)).mono ?_
          rintro ee wk ⟨rfl, B⟩
          exact hK.out _ _ rfl B
        refine Jo.jcons (i := 26) (o := ⟨some 102, _, _, _, _, _⟩) (di := some 102) (L := [(some 98, 22), (some 101, 25)]) (f := Jo.Fact.eq (.bool true)) rfl rfl rfl rfl (fun vs wj hJ hd K hK => ?_) ?_
        · have d22 : (Jo.Fact.eq (.bool true)).P (vs 22) wj := hd 22 (by decide)
          have d25 : (Jo.Fact.eq (.int .i64 cd)).P (vs 25) wj := hd 25 (by decide)
          clear hd
          simp only [Jo.putl, List.foldl_cons, List.foldl_nil, Act.put, List.setIfInBounds_toArray, List.set_cons_zero, List.set_cons_succ] at hK ⊢
          generalize vs 22 = u22 at hK d22 ⊢
          generalize vs 25 = u25 at hK d25 ⊢
          replace d22 : u22 = _ := d22
          subst d22
          replace d25 : u25 = _ := d25
          subst d25
          have ht := TD.out
          go_simp
          exact hK.out _ _ (by first | rfl | (show Value.bool _ = Value.bool _; simp only [ht])) (Below.refl _ _)
        refine Jo.jcons (i := 27) (o := ⟨some 103, _, _, _, _, _⟩) (di := some 103) (L := [(some 98, 22), (some 102, 26)]) (f := Jo.Fact.eq (.bool true)) rfl rfl rfl rfl (fun vs wj hJ hd K hK => ?_) ?_
        · have d22 : (Jo.Fact.eq (.bool true)).P (vs 22) wj := hd 22 (by decide)
          have d26 : (Jo.Fact.eq (.bool true)).P (vs 26) wj := hd 26 (by decide)
          clear hd
          simp only [Jo.putl, List.foldl_cons, List.foldl_nil, Act.put, List.setIfInBounds_toArray, List.set_cons_zero, List.set_cons_succ] at hK ⊢
          generalize vs 22 = u22 at hK d22 ⊢
          generalize vs 26 = u26 at hK d26 ⊢
          replace d22 : u22 = _ := d22
          subst d22
          replace d26 : u26 = _ := d26
          subst d26
          go_simp
          exact hK.out _ _ rfl (Below.refl _ _)
        refine Jo.jcons (i := 28) (o := ⟨some 104, _, _, _, _, _⟩) (di := some 104) (L := [(some 103, 27)]) (f := Jo.Fact.eq (.bool true)) rfl rfl rfl rfl (fun vs wj hJ hd K hK => ?_) ?_
        · have d27 : (Jo.Fact.eq (.bool true)).P (vs 27) wj := hd 27 (by decide)
          clear hd
          simp only [Jo.putl, List.foldl_cons, List.foldl_nil, Act.put, List.setIfInBounds_toArray, List.set_cons_zero, List.set_cons_succ] at hK ⊢
          generalize vs 27 = u27 at hK d27 ⊢
          replace d27 : u27 = _ := d27
          subst d27
          go_simp
          exact hK.out _ _ rfl (Below.refl _ _)
        refine Jo.jcons (i := 29) (o := ⟨some 105, _, _, _, _, _⟩) (di := some 105) (L := [(some 104, 28)]) (f := Jo.Fact.eq (.agg #[.int .i64 K8, .bool s8, .int .u64 M8, .int .i64 E8])) rfl rfl rfl rfl (fun vs wj hJ hd K hK => ?_) ?_
        · have d28 : (Jo.Fact.eq (.bool true)).P (vs 28) wj := hd 28 (by decide)
          clear hd
          simp only [Jo.putl, List.foldl_cons, List.foldl_nil, Act.put, List.setIfInBounds_toArray, List.set_cons_zero, List.set_cons_succ] at hK ⊢
          generalize vs 28 = u28 at hK d28 ⊢
          replace d28 : u28 = _ := d28
          subst d28
          have xX110 : World.cell? wj ⟨w7.heap.size, 0, none⟩ = some (.int .i64 K8) := (X11.below hJ).cell 0
          have xX111 : World.cell? wj ⟨w7.heap.size, 1, none⟩ = some (.bool s8) := (X11.below hJ).cell 1
          have xX112 : World.cell? wj ⟨w7.heap.size, 2, none⟩ = some (.int .u64 M8) := (X11.below hJ).cell 2
          have xX113 : World.cell? wj ⟨w7.heap.size, 3, none⟩ = some (.int .i64 E8) := (X11.below hJ).cell 3
          go_simp
          exact hK.out _ _ rfl (Below.refl _ _)
        refine Jo.jcons (i := 30) (o := ⟨some 106, _, _, _, _, _⟩) (di := some 106) (L := [(some 104, 28)]) (f := Jo.Fact.eq (.agg #[.int .i64 D1, .bool s1, .int .u64 M1, .int .i64 E1])) rfl rfl rfl rfl (fun vs wj hJ hd K hK => ?_) ?_
        · have d28 : (Jo.Fact.eq (.bool true)).P (vs 28) wj := hd 28 (by decide)
          clear hd
          simp only [Jo.putl, List.foldl_cons, List.foldl_nil, Act.put, List.setIfInBounds_toArray, List.set_cons_zero, List.set_cons_succ] at hK ⊢
          generalize vs 28 = u28 at hK d28 ⊢
          replace d28 : u28 = _ := d28
          subst d28
          have xX10 : World.cell? wj ⟨w.heap.size + 1, 0, none⟩ = some (.int .i64 D1) := (X1.below hJ).cell 0
          have xX11 : World.cell? wj ⟨w.heap.size + 1, 1, none⟩ = some (.bool s1) := (X1.below hJ).cell 1
          have xX12 : World.cell? wj ⟨w.heap.size + 1, 2, none⟩ = some (.int .u64 M1) := (X1.below hJ).cell 2
          have xX13 : World.cell? wj ⟨w.heap.size + 1, 3, none⟩ = some (.int .i64 E1) := (X1.below hJ).cell 3
          go_simp
          exact hK.out _ _ rfl (Below.refl _ _)
        refine Jo.jcons (i := 31) (o := ⟨some 107, _, _, _, _, _⟩) (di := some 107) (L := [(some 104, 28), (some 105, 29), (some 106, 30)]) (f := Jo.Fact.eq (.int .i64 ce)) rfl rfl rfl rfl (fun vs wj hJ hd K hK => ?_) ?_
        · have d28 : (Jo.Fact.eq (.bool true)).P (vs 28) wj := hd 28 (by decide)
          have d29 : (Jo.Fact.eq (.agg #[.int .i64 K8, .bool s8, .int .u64 M8, .int .i64 E8])).P (vs 29) wj := hd 29 (by decide)
          have d30 : (Jo.Fact.eq (.agg #[.int .i64 D1, .bool s1, .int .u64 M1, .int .i64 E1])).P (vs 30) wj := hd 30 (by decide)
          clear hd
          simp only [Jo.putl, List.foldl_cons, List.foldl_nil, Act.put, List.setIfInBounds_toArray, List.set_cons_zero, List.set_cons_succ] at hK ⊢
          generalize vs 28 = u28 at hK d28 ⊢
          generalize vs 29 = u29 at hK d29 ⊢
          generalize vs 30 = u30 at hK d30 ⊢
          replace d28 : u28 = _ := d28
          subst d28
          replace d29 : u29 = _ := d29
          subst d29
          replace d30 : u30 = _ := d30
          subst d30
          go_simp
          refine (nCmp (z := ce) q8.top u1 (by rw [q8.rk]; exact CE.out)).mono ?_
          rintro ee wk ⟨rfl, B⟩
          exact hK.out _ _ rfl B
        refine Jo.jcons (i := 32) (o := ⟨some 108, _, _, _, _, _⟩) (di := some 108) (L := [(some 104, 28), (some 107, 31)]) (f := Jo.Fact.eq (.bool true)) rfl rfl rfl rfl (fun vs wj hJ hd K hK => ?_) ?_
        · have d28 : (Jo.Fact.eq (.bool true)).P (vs 28) wj := hd 28 (by decide)
          have d31 : (Jo.Fact.eq (.int .i64 ce)).P (vs 31) wj := hd 31 (by decide)
          clear hd
          simp only [Jo.putl, List.foldl_cons, List.foldl_nil, Act.put, List.setIfInBounds_toArray, List.set_cons_zero, List.set_cons_succ] at hK ⊢
          generalize vs 28 = u28 at hK d28 ⊢
          generalize vs 31 = u31 at hK d31 ⊢
          replace d28 : u28 = _ := d28
          subst d28
          replace d31 : u31 = _ := d31
          subst d31
          have ht := TE.out
          go_simp
          exact hK.out _ _ (by first | rfl | (show Value.bool _ = Value.bool _; simp only [ht])) (Below.refl _ _)
        refine Jo.jcons (i := 33) (o := ⟨some 109, _, _, _, _, _⟩) (di := some 109) (L := [(some 104, 28), (some 108, 32)]) (f := Jo.Fact.eq (.bool true)) rfl rfl rfl rfl (fun vs wj hJ hd K hK => ?_) ?_
        · have d28 : (Jo.Fact.eq (.bool true)).P (vs 28) wj := hd 28 (by decide)
          have d32 : (Jo.Fact.eq (.bool true)).P (vs 32) wj := hd 32 (by decide)
          clear hd
          simp only [Jo.putl, List.foldl_cons, List.foldl_nil, Act.put, List.setIfInBounds_toArray, List.set_cons_zero, List.set_cons_succ] at hK ⊢
          generalize vs 28 = u28 at hK d28 ⊢
          generalize vs 32 = u32 at hK d32 ⊢
          replace d28 : u28 = _ := d28
          subst d28
          replace d32 : u32 = _ := d32
          subst d32
          go_simp
          exact hK.out _ _ rfl (Below.refl _ _)
        refine Jo.jcons (i := 34) (o := ⟨some 110, _, _, _, _, _⟩) (di := some 110) (L := [(some 109, 33)]) (f := Jo.Fact.eq (.bool true)) rfl rfl rfl rfl (fun vs wj hJ hd K hK => ?_) ?_
        · have d33 : (Jo.Fact.eq (.bool true)).P (vs 33) wj := hd 33 (by decide)
          clear hd
          simp only [Jo.putl, List.foldl_cons, List.foldl_nil, Act.put, List.setIfInBounds_toArray, List.set_cons_zero, List.set_cons_succ] at hK ⊢
          generalize vs 33 = u33 at hK d33 ⊢
          replace d33 : u33 = _ := d33
          subst d33
          go_simp
          exact hK.out _ _ rfl (Below.refl _ _)
        refine Jo.jcons (i := 35) (o := ⟨some 111, _, _, _, _, _⟩) (di := some 111) (L := [(some 110, 34)]) (f := Jo.Fact.eq (.agg #[.int .i64 K8, .bool s8, .int .u64 M8, .int .i64 E8])) rfl rfl rfl rfl (fun vs wj hJ hd K hK => ?_) ?_
        · have d34 : (Jo.Fact.eq (.bool true)).P (vs 34) wj := hd 34 (by decide)
          clear hd
          simp only [Jo.putl, List.foldl_cons, List.foldl_nil, Act.put, List.setIfInBounds_toArray, List.set_cons_zero, List.set_cons_succ] at hK ⊢
          generalize vs 34 = u34 at hK d34 ⊢
          replace d34 : u34 = _ := d34
          subst d34
          have xX110 : World.cell? wj ⟨w7.heap.size, 0, none⟩ = some (.int .i64 K8) := (X11.below hJ).cell 0
          have xX111 : World.cell? wj ⟨w7.heap.size, 1, none⟩ = some (.bool s8) := (X11.below hJ).cell 1
          have xX112 : World.cell? wj ⟨w7.heap.size, 2, none⟩ = some (.int .u64 M8) := (X11.below hJ).cell 2
          have xX113 : World.cell? wj ⟨w7.heap.size, 3, none⟩ = some (.int .i64 E8) := (X11.below hJ).cell 3
          go_simp
          exact hK.out _ _ rfl (Below.refl _ _)
        refine Jo.jcons (i := 36) (o := ⟨some 112, _, _, _, _, _⟩) (di := some 112) (L := [(some 110, 34), (some 111, 35)]) (f := Jo.Fact.num (-mx)) rfl rfl rfl rfl (fun vs wj hJ hd K hK => ?_) ?_
        · have d34 : (Jo.Fact.eq (.bool true)).P (vs 34) wj := hd 34 (by decide)
          have d35 : (Jo.Fact.eq (.agg #[.int .i64 K8, .bool s8, .int .u64 M8, .int .i64 E8])).P (vs 35) wj := hd 35 (by decide)
          clear hd
          simp only [Jo.putl, List.foldl_cons, List.foldl_nil, Act.put, List.setIfInBounds_toArray, List.set_cons_zero, List.set_cons_succ] at hK ⊢
          generalize vs 34 = u34 at hK d34 ⊢
          generalize vs 35 = u35 at hK d35 ⊢
          replace d34 : u34 = _ := d34
          subst d34
          replace d35 : u35 = _ := d35
          subst d35
          go_simp
          refine (nNeg (r := -mx) q8.top (by rw [q8.rk])).mono ?_
          rintro ee wk ⟨K14, s14, M14, E14, rfl, q14, B⟩
          exact hK.out _ _ ⟨K14, s14, M14, E14, rfl, q14⟩ B
        refine Jo.jcons (i := 37) (o := ⟨some 113, _, _, _, _, _⟩) (di := some 113) (L := [(some 110, 34)]) (f := Jo.Fact.eq (.agg #[.int .i64 D0, .bool s0, .int .u64 M0, .int .i64 E0])) rfl rfl rfl rfl (fun vs wj hJ hd K hK => ?_) ?_
        · have d34 : (Jo.Fact.eq (.bool true)).P (vs 34) wj := hd 34 (by decide)
          clear hd
          simp only [Jo.putl, List.foldl_cons, List.foldl_nil, Act.put, List.setIfInBounds_toArray, List.set_cons_zero, List.set_cons_succ] at hK ⊢
          generalize vs 34 = u34 at hK d34 ⊢
          replace d34 : u34 = _ := d34
          subst d34
          have xX00 : World.cell? wj ⟨w.heap.size, 0, none⟩ = some (.int .i64 D0) := (X0.below hJ).cell 0
          have xX01 : World.cell? wj ⟨w.heap.size, 1, none⟩ = some (.bool s0) := (X0.below hJ).cell 1
          have xX02 : World.cell? wj ⟨w.heap.size, 2, none⟩ = some (.int .u64 M0) := (X0.below hJ).cell 2
          have xX03 : World.cell? wj ⟨w.heap.size, 3, none⟩ = some (.int .i64 E0) := (X0.below hJ).cell 3
          go_simp
          exact hK.out _ _ rfl (Below.refl _ _)
        refine Jo.jcons (i := 38) (o := ⟨some 114, _, _, _, _, _⟩) (di := some 114) (L := [(some 110, 34), (some 113, 37)]) (f := Jo.Fact.num (-x)) rfl rfl rfl rfl (fun vs wj hJ hd K hK => ?_) ?_
        · have d34 : (Jo.Fact.eq (.bool true)).P (vs 34) wj := hd 34 (by decide)
          have d37 : (Jo.Fact.eq (.agg #[.int .i64 D0, .bool s0, .int .u64 M0, .int .i64 E0])).P (vs 37) wj := hd 37 (by decide)
          clear hd
          simp only [Jo.putl, List.foldl_cons, List.foldl_nil, Act.put, List.setIfInBounds_toArray, List.set_cons_zero, List.set_cons_succ] at hK ⊢
          generalize vs 34 = u34 at hK d34 ⊢
          generalize vs 37 = u37 at hK d37 ⊢
          replace d34 : u34 = _ := d34
          subst d34
          replace d37 : u37 = _ := d37
          subst d37
          go_simp
          refine (nNeg u0 NX.out).mono ?_
          rintro ee wk ⟨K15, s15, M15, E15, rfl, q15, B⟩
          exact hK.out _ _ ⟨K15, s15, M15, E15, rfl, q15⟩ B
        refine Jo.jcons (i := 39) (o := ⟨some 115, _, _, _, _, _⟩) (di := some 115) (L := [(some 110, 34)]) (f := Jo.Fact.eq (.agg #[.int .i64 D1, .bool s1, .int .u64 M1, .int .i64 E1])) rfl rfl rfl rfl (fun vs wj hJ hd K hK => ?_) ?_
        · have d34 : (Jo.Fact.eq (.bool true)).P (vs 34) wj := hd 34 (by decide)
          clear hd
          simp only [Jo.putl, List.foldl_cons, List.foldl_nil, Act.put, List.setIfInBounds_toArray, List.set_cons_zero, List.set_cons_succ] at hK ⊢
          generalize vs 34 = u34 at hK d34 ⊢
          replace d34 : u34 = _ := d34
          subst d34
          have xX10 : World.cell? wj ⟨w.heap.size + 1, 0, none⟩ = some (.int .i64 D1) := (X1.below hJ).cell 0
          have xX11 : World.cell? wj ⟨w.heap.size + 1, 1, none⟩ = some (.bool s1) := (X1.below hJ).cell 1
          have xX12 : World.cell? wj ⟨w.heap.size + 1, 2, none⟩ = some (.int .u64 M1) := (X1.below hJ).cell 2
          have xX13 : World.cell? wj ⟨w.heap.size + 1, 3, none⟩ = some (.int .i64 E1) := (X1.below hJ).cell 3
          go_simp
          exact hK.out _ _ rfl (Below.refl _ _)
        refine Jo.jcons (i := 40) (o := ⟨some 116, _, _, _, _, _⟩) (di := some 116) (L := [(some 110, 34), (some 115, 39)]) (f := Jo.Fact.num (-y)) rfl rfl rfl rfl (fun vs wj hJ hd K hK => ?_) ?_
        · have d34 : (Jo.Fact.eq (.bool true)).P (vs 34) wj := hd 34 (by decide)
          have d39 : (Jo.Fact.eq (.agg #[.int .i64 D1, .bool s1, .int .u64 M1, .int .i64 E1])).P (vs 39) wj := hd 39 (by decide)
          clear hd
          simp only [Jo.putl, List.foldl_cons, List.foldl_nil, Act.put, List.setIfInBounds_toArray, List.set_cons_zero, List.set_cons_succ] at hK ⊢
          generalize vs 34 = u34 at hK d34 ⊢
          generalize vs 39 = u39 at hK d39 ⊢
          replace d34 : u34 = _ := d34
          subst d34
          replace d39 : u39 = _ := d39
          subst d39
          go_simp
          refine (nNeg u1 NY.out).mono ?_
          rintro ee wk ⟨K16, s16, M16, E16, rfl, q16, B⟩
          exact hK.out _ _ ⟨K16, s16, M16, E16, rfl, q16⟩ B
        refine Jo.jcons (i := 41) (o := ⟨some 117, _, _, _, _, _⟩) (di := some 117) (L := [(some 110, 34)]) (f := Jo.Fact.eq (.agg #[.int .i64 D2, .bool s2, .int .u64 M2, .int .i64 E2])) rfl rfl rfl rfl (fun vs wj hJ hd K hK => ?_) ?_
        · have d34 : (Jo.Fact.eq (.bool true)).P (vs 34) wj := hd 34 (by decide)
          clear hd
          simp only [Jo.putl, List.foldl_cons, List.foldl_nil, Act.put, List.setIfInBounds_toArray, List.set_cons_zero, List.set_cons_succ] at hK ⊢
          generalize vs 34 = u34 at hK d34 ⊢
          replace d34 : u34 = _ := d34
          subst d34
          have xX20 : World.cell? wj ⟨w.heap.size + 1 + 1, 0, none⟩ = some (.int .i64 D2) := (X2.below hJ).cell 0
          have xX21 : World.cell? wj ⟨w.heap.size + 1 + 1, 1, none⟩ = some (.bool s2) := (X2.below hJ).cell 1
          have xX22 : World.cell? wj ⟨w.heap.size + 1 + 1, 2, none⟩ = some (.int .u64 M2) := (X2.below hJ).cell 2
          have xX23 : World.cell? wj ⟨w.heap.size + 1 + 1, 3, none⟩ = some (.int .i64 E2) := (X2.below hJ).cell 3
          go_simp
          exact hK.out _ _ rfl (Below.refl _ _)
        refine Jo.jcons (i := 42) (o := ⟨some 118, _, _, _, _, _⟩) (di := some 118) (L := [(some 110, 34), (some 117, 41)]) (f := Jo.Fact.num (-z)) rfl rfl rfl rfl (fun vs wj hJ hd K hK => ?_) ?_
        · have d34 : (Jo.Fact.eq (.bool true)).P (vs 34) wj := hd 34 (by decide)
          have d41 : (Jo.Fact.eq (.agg #[.int .i64 D2, .bool s2, .int .u64 M2, .int .i64 E2])).P (vs 41) wj := hd 41 (by decide)
          clear hd
          simp only [Jo.putl, List.foldl_cons, List.foldl_nil, Act.put, List.setIfInBounds_toArray, List.set_cons_zero, List.set_cons_succ] at hK ⊢
          generalize vs 34 = u34 at hK d34 ⊢
          generalize vs 41 = u41 at hK d41 ⊢
          replace d34 : u34 = _ := d34
          subst d34
          replace d41 : u41 = _ := d41
          subst d41
          go_simp
          refine (nNeg u2 NZ.out).mono ?_
          rintro ee wk ⟨K17, s17, M17, E17, rfl, q17, B⟩
          exact hK.out _ _ ⟨K17, s17, M17, E17, rfl, q17⟩ B
        refine Jo.jcons (i := 43) (o := ⟨some 119, _, _, _, _, _⟩) (di := some 119) (L := [(some 110, 34), (some 114, 38), (some 116, 40), (some 118, 42)]) (f := Jo.Fact.nl 3 [-x, -y, -z]) rfl rfl rfl rfl (fun vs wj hJ hd K hK => ?_) ?_
        · have d34 : (Jo.Fact.eq (.bool true)).P (vs 34) wj := hd 34 (by decide)
          have d38 : (Jo.Fact.num (-x)).P (vs 38) wj := hd 38 (by decide)
          have d40 : (Jo.Fact.num (-y)).P (vs 40) wj := hd 40 (by decide)
          have d42 : (Jo.Fact.num (-z)).P (vs 42) wj := hd 42 (by decide)
          clear hd
          simp only [Jo.putl, List.foldl_cons, List.foldl_nil, Act.put, List.setIfInBounds_toArray, List.set_cons_zero, List.set_cons_succ] at hK ⊢
          generalize vs 34 = u34 at hK d34 ⊢
          generalize vs 38 = u38 at hK d38 ⊢
          generalize vs 40 = u40 at hK d40 ⊢
          generalize vs 42 = u42 at hK d42 ⊢
          replace d34 : u34 = _ := d34
          subst d34
          obtain ⟨K15, s15, M15, E15, rfl, q15⟩ := d38
          obtain ⟨K16, s16, M16, E16, rfl, q16⟩ := d40
          obtain ⟨K17, s17, M17, E17, rfl, q17⟩ := d42
          go_simp
          exact hK.out _ _ ⟨_, 3, rfl, Nl.lit3 rfl q15.top q16.top q17.top q15.rk q16.rk q17.rk⟩ (bel1 _ _)
        refine Jo.jcons (i := 44) (o := ⟨some 120, _, _, _, _, _⟩) (di := some 120) (L := [(some 110, 34), (some 119, 43)]) (f := Jo.Fact.num (-mx)) rfl rfl rfl rfl (fun vs wj hJ hd K hK => ?_) ?_
        · have d34 : (Jo.Fact.eq (.bool true)).P (vs 34) wj := hd 34 (by decide)
          have d43 : (Jo.Fact.nl 3 [-x, -y, -z]).P (vs 43) wj := hd 43 (by decide)
          clear hd
          simp only [Jo.putl, List.foldl_cons, List.foldl_nil, Act.put, List.setIfInBounds_toArray, List.set_cons_zero, List.set_cons_succ] at hK ⊢
          generalize vs 34 = u34 at hK d34 ⊢
          generalize vs 43 = u43 at hK d43 ⊢
          replace d34 : u34 = _ := d34
          subst d34
          obtain ⟨A5, c5, rfl, p5⟩ := d43
          go_simp
          refine (nLeast p5 HMG.out).mono ?_
          rintro ee wk ⟨K18, s18, M18, E18, rfl, q18, B⟩
          exact hK.out _ _ ⟨K18, s18, M18, E18, rfl, q18⟩ B
        refine Jo.jcons (i := 45) (o := ⟨some 121, _, _, _, _, _⟩) (di := some 121) (L := [(some 110, 34), (some 112, 36), (some 120, 44)]) (f := Jo.Fact.eq (.bool true)) rfl rfl rfl rfl (fun vs wj hJ hd K hK => ?_) ?_
        · have d34 : (Jo.Fact.eq (.bool true)).P (vs 34) wj := hd 34 (by decide)
          have d36 : (Jo.Fact.num (-mx)).P (vs 36) wj := hd 36 (by decide)
          have d44 : (Jo.Fact.num (-mx)).P (vs 44) wj := hd 44 (by decide)
          clear hd
          simp only [Jo.putl, List.foldl_cons, List.foldl_nil, Act.put, List.setIfInBounds_toArray, List.set_cons_zero, List.set_cons_succ] at hK ⊢
          generalize vs 34 = u34 at hK d34 ⊢
          generalize vs 36 = u36 at hK d36 ⊢
          generalize vs 44 = u44 at hK d44 ⊢
          replace d34 : u34 = _ := d34
          subst d34
          obtain ⟨K14, s14, M14, E14, rfl, q14⟩ := d36
          obtain ⟨K18, s18, M18, E18, rfl, q18⟩ := d44
          obtain ⟨rfl, rfl, rfl, rfl⟩ := q14.uniq q18
          go_simp
          exact hK.out _ _ (by first | rfl | (show Value.bool _ = Value.bool _; simp)) (Below.refl _ _)
        refine Jo.jcons (i := 46) (o := ⟨some 122, _, _, _, _, _⟩) (di := some 122) (L := [(some 110, 34), (some 121, 45)]) (f := Jo.Fact.eq (.bool true)) rfl rfl rfl rfl (fun vs wj hJ hd K hK => ?_) ?_
        · have d34 : (Jo.Fact.eq (.bool true)).P (vs 34) wj := hd 34 (by decide)
          have d45 : (Jo.Fact.eq (.bool true)).P (vs 45) wj := hd 45 (by decide)
          clear hd
          simp only [Jo.putl, List.foldl_cons, List.foldl_nil, Act.put, List.setIfInBounds_toArray, List.set_cons_zero, List.set_cons_succ] at hK ⊢
          generalize vs 34 = u34 at hK d34 ⊢
          generalize vs 45 = u45 at hK d45 ⊢
          replace d34 : u34 = _ := d34
          subst d34
          replace d45 : u45 = _ := d45
          subst d45
          go_simp
          exact hK.out _ _ rfl (Below.refl _ _)
        refine Jo.jcons (i := 47) (o := ⟨some 6, _, _, _, _, _⟩) (di := some 6) (L := [(some 122, 46)]) (f := Jo.Fact.eq (.bool true)) rfl rfl rfl rfl (fun vs wj hJ hd K hK => ?_) ?_
        · have d46 : (Jo.Fact.eq (.bool true)).P (vs 46) wj := hd 46 (by decide)
          clear hd
          simp only [Jo.putl, List.foldl_cons, List.foldl_nil, Act.put, List.setIfInBounds_toArray, List.set_cons_zero, List.set_cons_succ] at hK ⊢
          generalize vs 46 = u46 at hK d46 ⊢
          replace d46 : u46 = _ := d46
          subst d46
          go_simp
          exact hK.out _ _ rfl (Below.refl _ _)
        exact Jo.Steps.nil
      have d0 : (Jo.Fact.eq (.bool true)).P (vs 0) wz := hd 0 (by decide)
      have d1 : (Jo.Fact.eq (.bool true)).P (vs 1) wz := hd 1 (by decide)
      have d2 : (Jo.Fact.eq (.bool true)).P (vs 2) wz := hd 2 (by decide)
      have d3 : (Jo.Fact.eq (.bool true)).P (vs 3) wz := hd 3 (by decide)
      have d4 : (Jo.Fact.eq (.bool true)).P (vs 4) wz := hd 4 (by decide)
      have d5 : (Jo.Fact.eq (.agg #[.int .i64 K7, .bool s7, .int .u64 M7, .int .i64 E7])).P (vs 5) wz := hd 5 (by decide)
      have d6 : (Jo.Fact.eq (.agg #[.int .i64 D0, .bool s0, .int .u64 M0, .int .i64 E0])).P (vs 6) wz := hd 6 (by decide)
      have d7 : (Jo.Fact.eq (.int .i64 ca)).P (vs 7) wz := hd 7 (by decide)
      have d8 : (Jo.Fact.eq (.bool true)).P (vs 8) wz := hd 8 (by decide)
      have d9 : (Jo.Fact.eq (.bool true)).P (vs 9) wz := hd 9 (by decide)
      have d10 : (Jo.Fact.eq (.bool true)).P (vs 10) wz := hd 10 (by decide)
      have d11 : (Jo.Fact.eq (.agg #[.int .i64 K7, .bool s7, .int .u64 M7, .int .i64 E7])).P (vs 11) wz := hd 11 (by decide)
      have d12 : (Jo.Fact.eq (.agg #[.int .i64 D1, .bool s1, .int .u64 M1, .int .i64 E1])).P (vs 12) wz := hd 12 (by decide)
      have d13 : (Jo.Fact.eq (.int .i64 cb)).P (vs 13) wz := hd 13 (by decide)
      have d14 : (Jo.Fact.eq (.bool true)).P (vs 14) wz := hd 14 (by decide)
      have d15 : (Jo.Fact.eq (.bool true)).P (vs 15) wz := hd 15 (by decide)
      have d16 : (Jo.Fact.eq (.bool true)).P (vs 16) wz := hd 16 (by decide)
      have d17 : (Jo.Fact.eq (.agg #[.int .i64 K7, .bool s7, .int .u64 M7, .int .i64 E7])).P (vs 17) wz := hd 17 (by decide)
      have d18 : (Jo.Fact.eq (.agg #[.int .i64 D2, .bool s2, .int .u64 M2, .int .i64 E2])).P (vs 18) wz := hd 18 (by decide)
      have d19 : (Jo.Fact.eq (.int .i64 cc)).P (vs 19) wz := hd 19 (by decide)
      have d20 : (Jo.Fact.eq (.bool true)).P (vs 20) wz := hd 20 (by decide)
      have d21 : (Jo.Fact.eq (.bool true)).P (vs 21) wz := hd 21 (by decide)
      have d22 : (Jo.Fact.eq (.bool true)).P (vs 22) wz := hd 22 (by decide)
      have d23 : (Jo.Fact.eq (.agg #[.int .i64 K8, .bool s8, .int .u64 M8, .int .i64 E8])).P (vs 23) wz := hd 23 (by decide)
      have d24 : (Jo.Fact.eq (.agg #[.int .i64 K7, .bool s7, .int .u64 M7, .int .i64 E7])).P (vs 24) wz := hd 24 (by decide)
      have d25 : (Jo.Fact.eq (.int .i64 cd)).P (vs 25) wz := hd 25 (by decide)
      have d26 : (Jo.Fact.eq (.bool true)).P (vs 26) wz := hd 26 (by decide)
      have d27 : (Jo.Fact.eq (.bool true)).P (vs 27) wz := hd 27 (by decide)
      have d28 : (Jo.Fact.eq (.bool true)).P (vs 28) wz := hd 28 (by decide)
      have d29 : (Jo.Fact.eq (.agg #[.int .i64 K8, .bool s8, .int .u64 M8, .int .i64 E8])).P (vs 29) wz := hd 29 (by decide)
      have d30 : (Jo.Fact.eq (.agg #[.int .i64 D1, .bool s1, .int .u64 M1, .int .i64 E1])).P (vs 30) wz := hd 30 (by decide)
      have d31 : (Jo.Fact.eq (.int .i64 ce)).P (vs 31) wz := hd 31 (by decide)
      have d32 : (Jo.Fact.eq (.bool true)).P (vs 32) wz := hd 32 (by decide)
      have d33 : (Jo.Fact.eq (.bool true)).P (vs 33) wz := hd 33 (by decide)
      have d34 : (Jo.Fact.eq (.bool true)).P (vs 34) wz := hd 34 (by decide)
      have d35 : (Jo.Fact.eq (.agg #[.int .i64 K8, .bool s8, .int .u64 M8, .int .i64 E8])).P (vs 35) wz := hd 35 (by decide)
      have d36 : (Jo.Fact.num (-mx)).P (vs 36) wz := hd 36 (by decide)
      have d37 : (Jo.Fact.eq (.agg #[.int .i64 D0, .bool s0, .int .u64 M0, .int .i64 E0])).P (vs 37) wz := hd 37 (by decide)
      have d38 : (Jo.Fact.num (-x)).P (vs 38) wz := hd 38 (by decide)
      have d39 : (Jo.Fact.eq (.agg #[.int .i64 D1, .bool s1, .int .u64 M1, .int .i64 E1])).P (vs 39) wz := hd 39 (by decide)
      have d40 : (Jo.Fact.num (-y)).P (vs 40) wz := hd 40 (by decide)
      have d41 : (Jo.Fact.eq (.agg #[.int .i64 D2, .bool s2, .int .u64 M2, .int .i64 E2])).P (vs 41) wz := hd 41 (by decide)
      have d42 : (Jo.Fact.num (-z)).P (vs 42) wz := hd 42 (by decide)
      have d43 : (Jo.Fact.nl 3 [-x, -y, -z]).P (vs 43) wz := hd 43 (by decide)
      have d44 : (Jo.Fact.num (-mx)).P (vs 44) wz := hd 44 (by decide)
      have d45 : (Jo.Fact.eq (.bool true)).P (vs 45) wz := hd 45 (by decide)
      have d46 : (Jo.Fact.eq (.bool true)).P (vs 46) wz := hd 46 (by decide)
      have d47 : (Jo.Fact.eq (.bool true)).P (vs 47) wz := hd 47 (by decide)
      clear hd
      simp only [Jo.putl, List.foldl_cons, List.foldl_nil, Act.put, List.setIfInBounds_toArray, List.set_cons_zero, List.set_cons_succ]
      generalize vs 0 = u0 at d0 ⊢
      generalize vs 1 = u1 at d1 ⊢
      generalize vs 2 = u2 at d2 ⊢
      generalize vs 3 = u3 at d3 ⊢
      generalize vs 4 = u4 at d4 ⊢
      generalize vs 5 = u5 at d5 ⊢
      generalize vs 6 = u6 at d6 ⊢
      generalize vs 7 = u7 at d7 ⊢
      generalize vs 8 = u8 at d8 ⊢
      generalize vs 9 = u9 at d9 ⊢
      generalize vs 10 = u10 at d10 ⊢
      generalize vs 11 = u11 at d11 ⊢
      generalize vs 12 = u12 at d12 ⊢
      generalize vs 13 = u13 at d13 ⊢
      generalize vs 14 = u14 at d14 ⊢
      generalize vs 15 = u15 at d15 ⊢
      generalize vs 16 = u16 at d16 ⊢
      generalize vs 17 = u17 at d17 ⊢
      generalize vs 18 = u18 at d18 ⊢
      generalize vs 19 = u19 at d19 ⊢
      generalize vs 20 = u20 at d20 ⊢
      generalize vs 21 = u21 at d21 ⊢
      generalize vs 22 = u22 at d22 ⊢
      generalize vs 23 = u23 at d23 ⊢
      generalize vs 24 = u24 at d24 ⊢
      generalize vs 25 = u25 at d25 ⊢
      generalize vs 26 = u26 at d26 ⊢
      generalize vs 27 = u27 at d27 ⊢
      generalize vs 28 = u28 at d28 ⊢
      generalize vs 29 = u29 at d29 ⊢
      generalize vs 30 = u30 at d30 ⊢
      generalize vs 31 = u31 at d31 ⊢
      generalize vs 32 = u32 at d32 ⊢
      generalize vs 33 = u33 at d33 ⊢
      generalize vs 34 = u34 at d34 ⊢
      generalize vs 35 = u35 at d35 ⊢
      generalize vs 36 = u36 at d36 ⊢
      generalize vs 37 = u37 at d37 ⊢
      generalize vs 38 = u38 at d38 ⊢
      generalize vs 39 = u39 at d39 ⊢
      generalize vs 40 = u40 at d40 ⊢
      generalize vs 41 = u41 at d41 ⊢
      generalize vs 42 = u42 at d42 ⊢
      generalize vs 43 = u43 at d43 ⊢
      generalize vs 44 = u44 at d44 ⊢
      generalize vs 45 = u45 at d45 ⊢
      generalize vs 46 = u46 at d46 ⊢
      generalize vs 47 = u47 at d47 ⊢
      clear vs
      replace d0 : u0 = _ := d0
      subst d0
      replace d1 : u1 = _ := d1
      subst d1
      replace d2 : u2 = _ := d2
      subst d2
      replace d3 : u3 = _ := d3
      subst d3
      replace d4 : u4 = _ := d4
      subst d4
      replace d5 : u5 = _ := d5
      subst d5
      replace d6 : u6 = _ := d6
      subst d6
      replace d7 : u7 = _ := d7
      subst d7
      replace d8 : u8 = _ := d8
      subst d8
      replace d9 : u9 = _ := d9
      subst d9
      replace d10 : u10 = _ := d10
      subst d10
      replace d11 : u11 = _ := d11
      subst d11
      replace d12 : u12 = _ := d12
      subst d12
      replace d13 : u13 = _ := d13
      subst d13
      replace d14 : u14 = _ := d14
      subst d14
      replace d15 : u15 = _ := d15
      subst d15
      replace d16 : u16 = _ := d16
      subst d16
      replace d17 : u17 = _ := d17
      subst d17
      replace d18 : u18 = _ := d18
      subst d18
      replace d19 : u19 = _ := d19
      subst d19
      replace d20 : u20 = _ := d20
      subst d20
      replace d21 : u21 = _ := d21
      subst d21
      replace d22 : u22 = _ := d22
      subst d22
      replace d23 : u23 = _ := d23
      subst d23
      replace d24 : u24 = _ := d24
      subst d24
      replace d25 : u25 = _ := d25
      subst d25
      replace d26 : u26 = _ := d26
      subst d26
      replace d27 : u27 = _ := d27
      subst d27
      replace d28 : u28 = _ := d28
      subst d28
      replace d29 : u29 = _ := d29
      subst d29
      replace d30 : u30 = _ := d30
      subst d30
      replace d31 : u31 = _ := d31
      subst d31
      replace d32 : u32 = _ := d32
      subst d32
      replace d33 : u33 = _ := d33
      subst d33
      replace d34 : u34 = _ := d34
      subst d34
      replace d35 : u35 = _ := d35
      subst d35
      obtain ⟨K14, s14, M14, E14, rfl, _⟩ := d36
      replace d37 : u37 = _ := d37
      subst d37
      obtain ⟨K15, s15, M15, E15, rfl, _⟩ := d38
      replace d39 : u39 = _ := d39
      subst d39
      obtain ⟨K16, s16, M16, E16, rfl, _⟩ := d40
      replace d41 : u41 = _ := d41
      subst d41
      obtain ⟨K17, s17, M17, E17, rfl, _⟩ := d42
      obtain ⟨A5, c5, rfl, _⟩ := d43
      obtain ⟨K18, s18, M18, E18, rfl, _⟩ := d44
      replace d45 : u45 = _ := d45
      subst d45
      replace d46 : u46 = _ := d46
      subst d46
      replace d47 : u47 = _ := d47
      subst d47
      replace X0 := X0.below hJ
      replace X1 := X1.below hJ
      replace X2 := X2.below hJ
      replace X10 := X10.below hJ
      replace X11 := X11.below hJ
      replace HB := Lib.hid (bt HB.out hJ)
      refine Jo.jdone (by kernel_rfl) ?_
      go_wp2
      go_ret
      exact ⟨rfl, HB.out⟩

theorem numOrder_walk (D0 : Int) (s0 : Bool) (M0 E0 : Int) (D1 : Int) (s1 : Bool) (M1 E1 : Int) (D2 : Int) (s2 : Bool) (M2 E2 : Int) (w : World) (hT : Tab w) (w0 : 0 ≤ M0) (u0 : M0 < 18446744073709551616) (w1 : 0 ≤ M1) (u1 : M1 < 18446744073709551616) (w2 : 0 ≤ M2) (u2 : M2 < 18446744073709551616) :
    Calls Tryd.prog 9 #[.agg #[.int .i64 D0, .bool s0, .int .u64 M0, .int .i64 E0], .agg #[.int .i64 D1, .bool s1, .int .u64 M1, .int .i64 E1], .agg #[.int .i64 D2, .bool s2, .int .u64 M2, .int .i64 E2]] w fun e w' => e = .returned (.bool true) ∧ Below w.heap.size w w' :=
  numOrder_main D0 s0 M0 E0 D1 s1 M1 E1 D2 s2 M2 E2 w _ _ _ hT u0 u1 u2 rfl rfl rfl
end Go.Proofs.YthibemmhgdbiiaaDoor

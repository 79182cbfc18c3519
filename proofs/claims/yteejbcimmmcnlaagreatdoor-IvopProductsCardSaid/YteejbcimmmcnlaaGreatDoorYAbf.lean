/-
  Contracts and words that the statement's proof rests on, several texts in one: Ce, Cf, Cl, Ia.
-/
import Derived.Maps.AppendAt
import Derived.Test.YteejbcimmmcnlaaGreatDoorYAbd
import Derived.Test.YteejbcimmmcnlaaGreatDoorYAbe
/-
  What the document's Has and Within do.
-/
namespace Go.Proofs.YteejbcimmmcnlaaGreatDoor
open Go.RowKit
set_option linter.unusedVariables false
set_option linter.unusedSimpArgs false
set_option maxRecDepth 100000

theorem cmp_le {x y c : Int} (h : cmpI x y = c) : decide (c ≤ 0) = decide (x ≤ y) := by
  rw [← h]
  by_cases e : x ≤ y
  · rw [decide_eq_true e]
    exact decide_eq_true (by rcases cmpI_tri x y with ⟨a, b⟩ | ⟨a, b⟩ | ⟨a, b⟩ <;> rw [b] <;> omega)
  · rw [decide_eq_false e]
    exact decide_eq_false (by rcases cmpI_tri x y with ⟨a, b⟩ | ⟨a, b⟩ | ⟨a, b⟩ <;> rw [b] <;> omega)
set_option maxHeartbeats 2000000 in
theorem jvHas {w : World} {e : Bool} {D M E D' M' E' : Int} {s s' : Bool} {G P Q : Int} {g : Bool} {x : Sp} {n : Int} {r : Bool} (hM : M < 18446744073709551616) (hM' : M' < 18446744073709551616) (hP : P < 18446744073709551616) (hx : rkI e D s M E D' s' M' E' = x) (hn : rk G g P Q = n) (hr : hasI x n = r) : Calls Tryz.prog 63 #[.agg #[.bool e, .int .i64 D, .bool s, .int .u64 M, .int .i64 E, .int .i64 D', .bool s', .int .u64 M', .int .i64 E'], .agg #[.int .i64 G, .bool g, .int .u64 P, .int .i64 Q]] w (PB w r) := by
  have HX := Lib.hid hx; have HN := Lib.hid hn; clear hx hn
  go_enter Tryz.func63, Tryz.ntmps63
  go_upto_region 1 with (fail)
  generalize hW1 : (w.alloc _).alloc _ = w1 at *; obtain ⟨X2, X3, HB⟩ := Bo.en2 hW1; clear hW1; obtain ⟨xX20, xX21, xX22, xX23, xX24, xX25, xX26, xX27, xX28⟩ := X2.u9
  go_wp2_with fail
  refine (jvFair hM hM' HX.out).mono ?_; rintro ee w2 ⟨e1, K1, s1, M1, E1, K1b, s1b, M1b, E1b, rfl, v1, B⟩; clear xX20 xX21 xX22 xX23 xX24 xX25 xX26 xX27 xX28; replace X2 := X2.below B; replace X3 := X3.below B; replace HB := Lib.hid (bt HB.out B); clear B
  go_upto_region 2 with (fail)
  have lX5 := Nat.le_refl (World.heap w2).size; have nX5X2 := X2.lt; have nX5X3 := X3.lt; generalize hWn : w2.alloc _ = w3 at *; obtain ⟨X5, BW⟩ := Bo.nw hWn; clear hWn; replace X2 := X2.below BW; replace X3 := X3.below BW; replace HB := Lib.hid (bt HB.out BW); clear BW; clear lX5; obtain ⟨xX30, xX31, xX32, xX33⟩ := X3.u4
  go_wp2_with fail
  refine (gFair hP HN.out).mono ?_; rintro ee w4 ⟨K2, s2, M2, E2, rfl, q2, B⟩; clear xX30 xX31 xX32 xX33; replace X2 := X2.below B; replace X3 := X3.below B; replace X5 := X5.below B; replace HB := Lib.hid (bt HB.out B); clear B
  go_upto_region 3 with (fail)
  have lX6 := Nat.le_refl (World.heap w4).size; have nX6X2 := X2.lt; have nX6X3 := X3.lt; have nX6X5 := X5.lt; generalize hWn : w4.alloc _ = w5 at *; obtain ⟨X6, BW⟩ := Bo.nw hWn; clear hWn; replace X2 := X2.below BW; replace X3 := X3.below BW; replace X5 := X5.below BW; replace HB := Lib.hid (bt HB.out BW); clear BW; clear lX6; clear HX HN hM hM' hP
  rcases x with _ | ⟨xa, xb⟩
  · obtain ⟨rfl, y1, y1b⟩ := v1
    obtain rfl : false = r := hr
    obtain ⟨xX50, xX51, xX52, xX53, xX54, xX55, xX56, xX57, xX58⟩ := X5.u9; obtain ⟨xX60, xX61, xX62, xX63⟩ := X6.u4; go_wp2
    go_ret
    exact ⟨rfl, HB.out⟩
  · obtain ⟨rfl, a1, b1, o1, o1l, o1h⟩ := v1; have i2 := fq_inf q2
    have hr2 : (!infp n && decide (xa ≤ n) && decide (n ≤ xb)) = r := hr
    rw [i2] at hr2; clear hr i2
    by_cases hk : K2 = 2
    · subst hk
      obtain rfl : false = r := hr2
      obtain ⟨xX50, xX51, xX52, xX53, xX54, xX55, xX56, xX57, xX58⟩ := X5.u9; obtain ⟨xX60, xX61, xX62, xX63⟩ := X6.u4; go_wp2
      go_ret
      exact ⟨rfl, HB.out⟩
    · have hk2 : (K2 == 2) = false := by simpa using hk
      rw [hk2] at hr2
      have hne : (K2 != 2) = true := by simpa using hk
      cases hk1 : decide (xa ≤ n)
      · rw [hk1] at hr2
        obtain rfl : false = r := hr2
        obtain ⟨c1, hc1⟩ : ∃ c, cmpI xa n = c := ⟨_, rfl⟩; have ht1 := cmp_le hc1; rw [hk1] at ht1
        have HC1 : Hid (cmpI (rk K1 s1 M1 E1) (rk K2 s2 M2 E2) = c1) := Lib.hid (by rw [a1.rk, q2.rk]; exact hc1)
        clear hc1 hk1; obtain ⟨xX50, xX51, xX52, xX53, xX54, xX55, xX56, xX57, xX58⟩ := X5.u9; obtain ⟨xX60, xX61, xX62, xX63⟩ := X6.u4
        go_wp2_with fail
        refine (yCmp a1.top q2.top HC1.out).mono ?_; rintro ee w6 ⟨rfl, B⟩; clear xX50 xX51 xX52 xX53 xX54 xX55 xX56 xX57 xX58 xX60 xX61 xX62 xX63; replace X5 := X5.below B; replace X6 := X6.below B; replace HB := Lib.hid (bt HB.out B); clear B; go_wp2
        go_ret
        exact ⟨rfl, HB.out⟩
      · rw [hk1] at hr2; obtain ⟨z, hk3⟩ : ∃ z, decide (n ≤ xb) = z := ⟨_, rfl⟩; rw [hk3] at hr2
        obtain rfl : z = r := hr2
        obtain ⟨c1, hc1⟩ : ∃ c, cmpI xa n = c := ⟨_, rfl⟩; have ht1 := cmp_le hc1; rw [hk1] at ht1
        have HC1 : Hid (cmpI (rk K1 s1 M1 E1) (rk K2 s2 M2 E2) = c1) := Lib.hid (by rw [a1.rk, q2.rk]; exact hc1)
        clear hc1 hk1; obtain ⟨xX50, xX51, xX52, xX53, xX54, xX55, xX56, xX57, xX58⟩ := X5.u9; obtain ⟨xX60, xX61, xX62, xX63⟩ := X6.u4
        go_wp2_with fail
        refine (yCmp a1.top q2.top HC1.out).mono ?_; rintro ee w6 ⟨rfl, B⟩; clear xX50 xX51 xX52 xX53 xX54 xX55 xX56 xX57 xX58 xX60 xX61 xX62 xX63; replace X5 := X5.below B; replace X6 := X6.below B; replace HB := Lib.hid (bt HB.out B); clear B; obtain ⟨c3, hc3⟩ : ∃ c, cmpI n xb = c := ⟨_, rfl⟩; have ht3 := cmp_le hc3; rw [hk3] at ht3
        have HC3 : Hid (cmpI (rk K2 s2 M2 E2) (rk K1b s1b M1b E1b) = c3) := Lib.hid (by rw [q2.rk, b1.rk]; exact hc3)
        clear hc3 hk3; obtain ⟨xX50, xX51, xX52, xX53, xX54, xX55, xX56, xX57, xX58⟩ := X5.u9; obtain ⟨xX60, xX61, xX62, xX63⟩ := X6.u4
        go_wp2_with fail
        refine (yCmp q2.top b1.top HC3.out).mono ?_; rintro ee w7 ⟨rfl, B⟩; clear xX50 xX51 xX52 xX53 xX54 xX55 xX56 xX57 xX58 xX60 xX61 xX62 xX63; replace X5 := X5.below B; replace X6 := X6.below B; replace HB := Lib.hid (bt HB.out B); clear B; go_wp2
        go_ret
        exact ⟨by first | rfl | (show Ending.returned (.bool _) = _; rw [ht3]), HB.out⟩
end Go.Proofs.YteejbcimmmcnlaaGreatDoor

/-
  What the document's Two, Both, Meet and Hull of intervals do.
-/
namespace Go.Proofs.YteejbcimmmcnlaaGreatDoor
open Go.RowKit
set_option linter.unusedVariables false
set_option linter.unusedSimpArgs false
set_option maxRecDepth 100000

theorem Nl.lit2 {W : World} {g : Nat} {D1 D2 M1 M2 E1 E2 r1 r2 : Int} {s1 s2 : Bool} (hg : W.heap.size = g) (h1 : M1 < 18446744073709551616) (h2 : M2 < 18446744073709551616) (k1 : rk D1 s1 M1 E1 = r1) (k2 : rk D2 s2 M2 E2 = r2) :
    Nl (W.alloc (.cells #[.int .i64 D1, .bool s1, .int .u64 M1, .int .i64 E1, .int .i64 D2, .bool s2, .int .u64 M2, .int .i64 E2] 24)) (some ⟨g, 0, none⟩) 2 2 [r1, r2] := by
  subst hg; have hh := heap_alloc_new W (.cells #[.int .i64 D1, .bool s1, .int .u64 M1, .int .i64 E1, .int .i64 D2, .bool s2, .int .u64 M2, .int .i64 E2] 24)
  refine ⟨rfl, Nat.le_refl _, by decide, fun _ => ⟨_, 0, rfl, fun k hk => ?_⟩⟩
  rcases (by omega : k = 0 ∨ k = 1) with rfl | rfl
  · exact ⟨D1, s1, M1, E1, by rw [cell_of_row _ _ _ _ _ _ hh]; rfl, by rw [cell_of_row _ _ _ _ _ _ hh]; rfl, by rw [cell_of_row _ _ _ _ _ _ hh]; rfl, by rw [cell_of_row _ _ _ _ _ _ hh]; rfl, h1, k1⟩
  · exact ⟨D2, s2, M2, E2, by rw [cell_of_row _ _ _ _ _ _ hh]; rfl, by rw [cell_of_row _ _ _ _ _ _ hh]; rfl, by rw [cell_of_row _ _ _ _ _ _ hh]; rfl, by rw [cell_of_row _ _ _ _ _ _ hh]; rfl, h2, k2⟩
theorem mnp_two {a b : Int} (ha : a ≤ 19342822337206103650074625) : mnp [a, b] = min a b := by
  have := TP_eq
  show min (min TP a) b = _
  omega
theorem mxp_two {a b : Int} (ha : -19342822337206103650074625 ≤ a) : mxp [a, b] = max a b := by
  have := TP_eq
  show max (max (-TP) a) b = _
  omega
set_option maxHeartbeats 2000000 in
theorem jvTwo {w : World} {e : Bool} {D M E D' M' E' : Int} {s s' : Bool} {e2 : Bool} {G P Q G' P' Q' : Int} {g g' : Bool} {x y z : Sp} (hM : M < 18446744073709551616) (hM' : M' < 18446744073709551616) (hP : P < 18446744073709551616) (hP' : P' < 18446744073709551616) (hx : rkI e D s M E D' s' M' E' = x) (hy : rkI e2 G g P Q G' g' P' Q' = y) (hr : meetI x y = z) : Calls Tryz.prog 71 #[.agg #[.bool e, .int .i64 D, .bool s, .int .u64 M, .int .i64 E, .int .i64 D', .bool s', .int .u64 M', .int .i64 E'], .agg #[.bool e2, .int .i64 G, .bool g, .int .u64 P, .int .i64 Q, .int .i64 G', .bool g', .int .u64 P', .int .i64 Q']] w (PV w z) := by
  have HX := Lib.hid hx; have HY := Lib.hid hy; clear hx hy
  go_enter Tryz.func71, Tryz.ntmps71
  go_upto_region 1 with (fail)
  generalize hW1 : ((w.alloc _).alloc _).alloc _ = w1 at *; obtain ⟨X2, X3, XR, HB⟩ := Bo.en3 hW1; clear hW1; obtain ⟨xX20, xX21, xX22, xX23, xX24, xX25, xX26, xX27, xX28⟩ := X2.u9
  go_wp2_with fail
  refine (jvFair hM hM' HX.out).mono ?_; rintro ee w2 ⟨e1, K1, s1, M1, E1, K1b, s1b, M1b, E1b, rfl, v1, B⟩; clear xX20 xX21 xX22 xX23 xX24 xX25 xX26 xX27 xX28; replace X2 := X2.below B; replace X3 := X3.below B; replace XR := XR.below B; replace HB := Lib.hid (bt HB.out B); clear B
  go_upto_region 2 with (fail)
  have lX5 := Nat.le_refl (World.heap w2).size; have nX5X2 := X2.lt; have nX5X3 := X3.lt; have nX5XR := XR.lt; generalize hWn : w2.alloc _ = w3 at *; obtain ⟨X5, BW⟩ := Bo.nw hWn; clear hWn; replace X2 := X2.below BW; replace X3 := X3.below BW; replace XR := XR.below BW; replace HB := Lib.hid (bt HB.out BW); clear BW; clear lX5; obtain ⟨xX30, xX31, xX32, xX33, xX34, xX35, xX36, xX37, xX38⟩ := X3.u9
  go_wp2_with fail
  refine (jvFair hP hP' HY.out).mono ?_; rintro ee w4 ⟨e2, K2, s2, M2, E2, K2b, s2b, M2b, E2b, rfl, v2, B⟩; clear xX30 xX31 xX32 xX33 xX34 xX35 xX36 xX37 xX38; replace X2 := X2.below B; replace X3 := X3.below B; replace XR := XR.below B; replace X5 := X5.below B; replace HB := Lib.hid (bt HB.out B); clear B
  go_upto_region 3 with (fail)
  have lX6 := Nat.le_refl (World.heap w4).size; have nX6X2 := X2.lt; have nX6X3 := X3.lt; have nX6XR := XR.lt; have nX6X5 := X5.lt; generalize hWn : w4.alloc _ = w5 at *; obtain ⟨X6, BW⟩ := Bo.nw hWn; clear hWn; replace X2 := X2.below BW; replace X3 := X3.below BW; replace XR := XR.below BW; replace X5 := X5.below BW; replace HB := Lib.hid (bt HB.out BW); clear BW; clear lX6; clear HX HY hM hM' hP hP'
  rcases x with _ | ⟨xa, xb⟩
  · obtain ⟨rfl, y1, y1b⟩ := v1
    obtain rfl : none = z := hr
    obtain ⟨xX50, xX51, xX52, xX53, xX54, xX55, xX56, xX57, xX58⟩ := X5.u9; obtain ⟨xX60, xX61, xX62, xX63, xX64, xX65, xX66, xX67, xX68⟩ := X6.u9
    go_wp2_with fail
    refine (jvNoneE).mono ?_; rintro ee w7 ⟨rfl, B⟩; clear xX50 xX51 xX52 xX53 xX54 xX55 xX56 xX57 xX58 xX60 xX61 xX62 xX63 xX64 xX65 xX66 xX67 xX68; replace XR := XR.below B; replace X5 := X5.below B; replace X6 := X6.below B; replace HB := Lib.hid (bt HB.out B); clear B; obtain ⟨xXR0, xXR1, xXR2, xXR3, xXR4, xXR5, xXR6, xXR7, xXR8⟩ := XR.u9; have zXR0 := XR.frozen; go_wp2; clear xXR0 zXR0 xXR1 xXR2 xXR3 xXR4 xXR5 xXR6 xXR7 xXR8
    have SX := StN.mk9 XR (.bool true) (.int .i64 0) (.bool false) (.int .u64 0) (.int .i64 0) (.int .i64 0) (.bool false) (.int .u64 0) (.int .i64 0); exact bodyPost_ret (by simp [results, Tryz.results71, go_sem, SX.box.cell]) rfl ⟨_, _, _, _, _, _, _, _, _, rfl, Ci.none, (SX.below HB.out (by omega))⟩
  · obtain ⟨rfl, a1, b1, o1, o1l, o1h⟩ := v1
    rcases y with _ | ⟨ya, yb⟩
    · obtain ⟨rfl, y2, y2b⟩ := v2; clear o1 o1l o1h
      obtain rfl : none = z := hr
      obtain ⟨xX50, xX51, xX52, xX53, xX54, xX55, xX56, xX57, xX58⟩ := X5.u9; obtain ⟨xX60, xX61, xX62, xX63, xX64, xX65, xX66, xX67, xX68⟩ := X6.u9
      go_wp2_with fail
      refine (jvNoneE).mono ?_; rintro ee w7 ⟨rfl, B⟩; clear xX50 xX51 xX52 xX53 xX54 xX55 xX56 xX57 xX58 xX60 xX61 xX62 xX63 xX64 xX65 xX66 xX67 xX68; replace XR := XR.below B; replace X5 := X5.below B; replace X6 := X6.below B; replace HB := Lib.hid (bt HB.out B); clear B; obtain ⟨xXR0, xXR1, xXR2, xXR3, xXR4, xXR5, xXR6, xXR7, xXR8⟩ := XR.u9; have zXR0 := XR.frozen; go_wp2; clear xXR0 zXR0 xXR1 xXR2 xXR3 xXR4 xXR5 xXR6 xXR7 xXR8
      have SX := StN.mk9 XR (.bool true) (.int .i64 0) (.bool false) (.int .u64 0) (.int .i64 0) (.int .i64 0) (.bool false) (.int .u64 0) (.int .i64 0); exact bodyPost_ret (by simp [results, Tryz.results71, go_sem, SX.box.cell]) rfl ⟨_, _, _, _, _, _, _, _, _, rfl, Ci.none, (SX.below HB.out (by omega))⟩
    · obtain ⟨rfl, a2, b2, o2, o2l, o2h⟩ := v2
      have hu : mxp [xa, ya] = max xa ya := mxp_two a1.bd.1
      have hl : mnp [xb, yb] = min xb yb := mnp_two b1.bd.2
      obtain ⟨u, hu2⟩ : ∃ u, max xa ya = u := ⟨_, rfl⟩; obtain ⟨l, hl2⟩ : ∃ l, min xb yb = l := ⟨_, rfl⟩
      have hr2 : mkI u l = z := by rw [← hu2, ← hl2]; exact hr
      rw [hu2] at hu; rw [hl2] at hl; have HU := Lib.hid hu; have HL := Lib.hid hl; have HR := Lib.hid hr2; clear hu hl hu2 hl2 hr hr2 o1 o1l o1h o2 o2l o2h; obtain ⟨xX50, xX51, xX52, xX53, xX54, xX55, xX56, xX57, xX58⟩ := X5.u9; obtain ⟨xX60, xX61, xX62, xX63, xX64, xX65, xX66, xX67, xX68⟩ := X6.u9
      go_upto_region 5 with (fail)
      clear xX50 xX51 xX52 xX53 xX54 xX55 xX56 xX57 xX58 xX60 xX61 xX62 xX63 xX64 xX65 xX66 xX67 xX68; refine Jo.rk [0, 1, 2, 3, 4, 5, 6, 7, 8, 9, 10, 11, 12] [some 18, some 19, some 20, some 21, some 22, some 23, some 24, some 25, some 26, some 27, some 28, some 29, some 30, none] [[], [0], [], [2], [1, 3], [4], [], [6], [], [8], [7, 9], [10], [5, 11], []] 14 1 [Jo.qp w2.heap.size 1, Jo.q4 K1 s1 M1 E1, Jo.qp w4.heap.size 1, Jo.q4 K2 s2 M2 E2, Jo.Fact.nl 2 [xa, ya], Jo.Fact.num u, Jo.qp w2.heap.size 5, Jo.q4 K1b s1b M1b E1b, Jo.qp w4.heap.size 5, Jo.q4 K2b s2b M2b E2b, Jo.Fact.nl 2 [xb, yb], Jo.Fact.num l, Jo.Fact.iv z, Jo.Fact.any] (by kernel_rfl) (by kernel_rfl) (by decide) rfl ?_ ?_
      · refine Jo.jm rfl ?_ ?_
        · rintro wj hJ K hK; simp only [Jo.z] at hK ⊢; go_simp; exact hK.out _ _ rfl (br _ _)
        refine Jo.jm rfl ?_ ?_
        · rintro wj hJ _ rfl K hK; simp only [Jo.z] at hK ⊢; obtain ⟨xX50, xX51, xX52, xX53, xX54, xX55, xX56, xX57, xX58⟩ := (X5.below hJ).u9; go_simp; exact hK.out _ _ rfl (br _ _)
        refine Jo.jm rfl ?_ ?_
        · rintro wj hJ K hK; simp only [Jo.z] at hK ⊢; go_simp; exact hK.out _ _ rfl (br _ _)
        refine Jo.jm rfl ?_ ?_
        · rintro wj hJ _ rfl K hK; simp only [Jo.z] at hK ⊢; obtain ⟨xX60, xX61, xX62, xX63, xX64, xX65, xX66, xX67, xX68⟩ := (X6.below hJ).u9; go_simp; exact hK.out _ _ rfl (br _ _)
        refine Jo.jm rfl ?_ ?_
        · rintro wj hJ _ rfl _ rfl K hK; simp only [Jo.z] at hK ⊢; go_simp; exact hK.out _ _ ⟨_, 2, rfl, Nl.lit2 rfl a1.top a2.top a1.rk a2.rk⟩ (bel1 _ _)
        refine Jo.jm rfl ?_ ?_
        · rintro wj hJ _ ⟨A4, c4, rfl, h4⟩ K hK; simp only [Jo.z] at hK ⊢; go_simp; refine (yMost h4 HU.out).mono ?_; rintro ee wk ⟨K3, s3, M3, E3, rfl, q3, B⟩; exact hK.out _ _ ⟨K3, s3, M3, E3, rfl, q3⟩ B
        refine Jo.jm rfl ?_ ?_
        · rintro wj hJ K hK; simp only [Jo.z] at hK ⊢; go_simp; exact hK.out _ _ rfl (br _ _)
        refine Jo.jm rfl ?_ ?_
        · rintro wj hJ _ rfl K hK; simp only [Jo.z] at hK ⊢; obtain ⟨xX50, xX51, xX52, xX53, xX54, xX55, xX56, xX57, xX58⟩ := (X5.below hJ).u9; go_simp; exact hK.out _ _ rfl (br _ _)
        refine Jo.jm rfl ?_ ?_
        · rintro wj hJ K hK; simp only [Jo.z] at hK ⊢; go_simp; exact hK.out _ _ rfl (br _ _)
        refine Jo.jm rfl ?_ ?_
        · rintro wj hJ _ rfl K hK; simp only [Jo.z] at hK ⊢; obtain ⟨xX60, xX61, xX62, xX63, xX64, xX65, xX66, xX67, xX68⟩ := (X6.below hJ).u9; go_simp; exact hK.out _ _ rfl (br _ _)
        refine Jo.jm rfl ?_ ?_
        · rintro wj hJ _ rfl _ rfl K hK; simp only [Jo.z] at hK ⊢; go_simp; exact hK.out _ _ ⟨_, 2, rfl, Nl.lit2 rfl b1.top b2.top b1.rk b2.rk⟩ (bel1 _ _)
        refine Jo.jm rfl ?_ ?_
        · rintro wj hJ _ ⟨A5, c5, rfl, h5⟩ K hK; simp only [Jo.z] at hK ⊢; go_simp; refine (yLeast h5 HL.out).mono ?_; rintro ee wk ⟨K4, s4, M4, E4, rfl, q4, B⟩; exact hK.out _ _ ⟨K4, s4, M4, E4, rfl, q4⟩ B
        refine Jo.jm rfl ?_ ?_
        · rintro wj hJ _ ⟨K3, s3, M3, E3, rfl, q3⟩ _ ⟨K4, s4, M4, E4, rfl, q4⟩ K hK; simp only [Jo.z] at hK ⊢; go_simp; refine (jvMake q3.top q4.top q3.rk q4.rk HR.out).mono ?_; rintro ee wk ⟨e5, K5, s5, M5, E5, K5b, s5b, M5b, E5b, rfl, v5, B⟩; exact hK.out _ _ ⟨e5, K5, s5, M5, E5, K5b, s5b, M5b, E5b, rfl, v5⟩ B
        exact Jo.Steps.nil
      rintro w8 hJ _ _ _ rfl _ _ _ rfl _ ⟨A4, c4, rfl, _⟩ _ ⟨K3, s3, M3, E3, rfl, q3⟩ _ _ _ rfl _ _ _ rfl _ ⟨A5, c5, rfl, _⟩ _ ⟨K4, s4, M4, E4, rfl, q4⟩ _ ⟨e5, K5, s5, M5, E5, K5b, s5b, M5b, E5b, rfl, v5⟩ -; simp only [Jo.z]; replace XR := XR.below hJ; replace X5 := X5.below hJ; replace X6 := X6.below hJ; replace HB := Lib.hid (bt HB.out hJ); obtain ⟨xXR0, xXR1, xXR2, xXR3, xXR4, xXR5, xXR6, xXR7, xXR8⟩ := XR.u9
      have zXR0 := XR.frozen
      refine Jo.jnext (i := 13) (o := ⟨none, _, _, _, _, _⟩) (by kernel_rfl) rfl (fun K hK => ?_)
      go_simp; refine hK.out _ _ ?_; clear hK K xXR0 zXR0 xXR1 xXR2 xXR3 xXR4 xXR5 xXR6 xXR7 xXR8; have SX := StN.mk9 XR (.bool e5) (.int .i64 K5) (.bool s5) (.int .u64 M5) (.int .i64 E5) (.int .i64 K5b) (.bool s5b) (.int .u64 M5b) (.int .i64 E5b); refine Jo.jdone (by kernel_rfl) ?_; go_wp2; exact bodyPost_ret (by simp [results, Tryz.results71, go_sem, SX.box.cell]) rfl ⟨_, _, _, _, _, _, _, _, _, rfl, v5, (SX.below HB.out (by omega))⟩
end Go.Proofs.YteejbcimmmcnlaaGreatDoor

/-
  append of one number, onto a row of numbers of the call's own.
-/
namespace Go.Proofs.YteejbcimmmcnlaaGreatDoor
open Go.RowKit
set_option linter.unusedVariables false
set_option maxRecDepth 100000

theorem infoNum : (Tryz.prog.info? 24).map (fun i => (i.zero, i.size, i.bytes)) = some (some (.agg #[.int .i64 0, .bool false, .int .u64 0, .int .i64 0]), 4, 32) := by kernel_rfl
section
variable {w w' : World} {base n c : Nat} {A : Option Addr} {l : List Int}
/-- The block it lies in. -/
def ownA (A : Option Addr) : Option Nat := A.map (·.block)
theorem own_eq (A : Option Addr) (n c : Nat) : (Value.slice A n c).ownBlock = ownA A := by cases A <;> rfl
/-- What grows another row leaves it. -/
theorem Na.kept {row : Option Nat} (h : Na w base A n c l) (hg : w.grownBy w' row) (hne : ownA A = none ∨ ownA A ≠ row) : Na w' base A n c l := by
  obtain ⟨r, h1, h2⟩ := h; exact ⟨r, h1.kept hg (by rw [own_eq]; exact hne), h2⟩
theorem Na.own_lt (h : Na w base A n c l) : ∀ k, ownA A = some k → base ≤ k ∧ k < w.heap.size := by
  obtain ⟨r, h1, h2⟩ := h
  intro k hk
  exact h1.lt k (by rw [own_eq]; exact hk)
theorem run_na {ty : TypeId} {g : Nat} {K M E a : Int} {s : Bool} (h : Na w base A n c l) (q : Fq K s M E a) (X : Bo w g #[.int .i64 K, .bool s, .int .u64 M, .int .i64 E] 24) (hn : n + 1 ≤ 1099511627776) (hb : base ≤ w.heap.size) :
    ∃ A2 c2 w', (Builtin.append_ #[59, 59] ty #[.slice A n c, .slice (some ⟨g, 0, none⟩) 1 1]).run Tryz.prog w = .ok (.slice A2 (n + 1) c2) w' ∧ Na w' base A2 (n + 1) c2 (l ++ [a]) ∧ w.grownBy w' (ownA A) ∧ (ownA A2 = ownA A ∨ ownA A2 = some w.heap.size) := by
  obtain ⟨i, hi, hz, hsi, hby⟩ := info_parts infoNum; obtain ⟨r, h1, h2, h3, h4⟩ := h
  obtain ⟨v', w', hr, ho, hg, _, hat⟩ := run_append_own_at (P := Tryz.prog) w base 59 ty 24 i _ 4 32 Tryz.underlying59 hi hz hsi hby rfl (by decide) _ n (nrow r) h1 ⟨g, 0, none⟩ 1 1 (nrow [(K, s, M, E)]) rfl (by
    intro j u hj
    have hc := X.cell
    rcases j with _ | _ | _ | _ | j
    · cases hj
      exact hc 0
    · cases hj
      exact hc 1
    · cases hj
      exact hc 2
    · cases hj
      exact hc 3
    · cases hj) (by
    intro u hu
    simp only [nrow, List.mem_cons, List.not_mem_nil, or_false] at hu
    rcases hu with rfl | rfl | rfl | rfl <;> rfl) (by unfold maxLen; omega) (by omega) hb
  rw [own_eq] at hg hat; rw [← nrow_append] at ho
  obtain ⟨A2, c2, rfl⟩ : ∃ A2 c2, v' = .slice A2 (n + 1) c2 := by
    rcases ho.2 with ⟨_, h0⟩ | ⟨g', cap', cur', hv, _⟩
    · omega
    · exact ⟨_, _, hv⟩
  rw [own_eq] at hat
  refine ⟨A2, c2, w', hr, ⟨_, ho, by rw [List.length_append, h2]; rfl, by rw [List.length_append, h3]; rfl, fun k hk => ?_⟩, hg, hat⟩
  by_cases hkn : k < n
  · obtain ⟨K1, s1, M1, E1, hq, qq⟩ := h4 k hkn; refine ⟨K1, s1, M1, E1, by rw [List.getElem?_append_left (by omega)]; exact hq, ?_⟩
    rw [List.getD_eq_getElem?_getD, List.getElem?_append_left (by omega), ← List.getD_eq_getElem?_getD]; exact qq
  · obtain rfl : k = n := by omega
    refine ⟨K, s, M, E, by rw [List.getElem?_append_right (by omega), h2]; simp, ?_⟩
    rw [List.getD_eq_getElem?_getD, List.getElem?_append_right (by omega), h3]
    simpa using q
/-- append(d, x), in a walk. -/
theorem wpList_na {ops : Array Oper} {rest : List Oper} {o : Oper} {a : Act} {Q : Exit → Act → World → Prop} (hgd : o.guard = none) (s x : Operand)
    (ho : o.op = .call { callee := .builtin .append, args := #[s, x], argTypes := #[59, 59] }) {g : Nat} {K M E p : Int} {b : Bool}
    (hs : a.eval s = .slice A n c) (hx : a.eval x = .slice (some ⟨g, 0, none⟩) 1 1) (h : Na w base A n c l) (q : Fq K b M E p) (X : Bo w g #[.int .i64 K, .bool b, .int .u64 M, .int .i64 E] 24) (hn : n + 1 ≤ 1099511627776) (hb : base ≤ w.heap.size)
    (hK : ∀ A2 c2 w', Na w' base A2 (n + 1) c2 (l ++ [p]) → w.grownBy w' (ownA A) → (ownA A2 = ownA A ∨ ownA A2 = some w.heap.size) → wpList Tryz.prog ops Q rest (a.put o.dst (.slice A2 (n + 1) c2)) w') : wpList Tryz.prog ops Q (o :: rest) a w := by
  refine wpList_plain hgd fun K hK2 => ?_
  obtain ⟨A2, c2, w', hr, h1, h2, h3⟩ := run_na (ty := o.type) h q X hn hb
  unfold Oper.wp execOp
  simp only [ho, resolve, invoke, builtin, Sem.run_bind, Sem.run_pure, Result.andThen_ok, List.map_toArray, List.map_cons, List.map_nil, hs, hx, hr]; exact hK2 _ _ (hK A2 c2 w' h1 h2 h3)
end
end Go.Proofs.YteejbcimmmcnlaaGreatDoor

/-
  Places next to a quotient, by worth alone: unique, rising; what is rounded of a number that lies between the same two. Plain arithmetic; no Go text.
-/
namespace Go.Proofs.YteejbcimmmcnlaaGreatDoor
open Go.RowKit
set_option linter.unusedVariables false

/-- The place of the greatest number that is not above A / B, and of the least that is not below it (B above nought). -/
def DnQ (A B r : Int) : Prop := -19342822337206103650074625 ≤ r ∧ r ≤ 19342822337206103650074624 ∧ (-19342822337206103650074625 < r → vr r * B ≤ A) ∧ (r < 19342822337206103650074624 → A < vr (r + 1) * B)
def UpQ (A B r : Int) : Prop := DnQ (-A) B (-r)
def Sid (up : Bool) (A B r : Int) : Prop := if up = true then UpQ A B r else DnQ A B r
theorem sid_f {A B r : Int} : Sid false A B r = DnQ A B r := if_neg (by decide)
theorem sid_t {A B r : Int} : Sid true A B r = UpQ A B r := if_pos rfl
theorem DnQ.mono {A B C D r t : Int} (hB : 0 < B) (hD : 0 < D) (h : DnQ A B r) (k : DnQ C D t) (hAC : A * D ≤ C * B) : r ≤ t := by
  obtain ⟨h1, h2, h3, h4⟩ := h; obtain ⟨k1, k2, k3, k4⟩ := k
  rcases Int.lt_or_le t r with q | q
  · exfalso
    have a := h3 (by omega); have b := k4 (by omega)
    have c : vr (t + 1) ≤ vr r := vr_le (by omega)
    have a2 : vr r * B * D ≤ A * D := Int.mul_le_mul_of_nonneg_right a (Int.le_of_lt hD)
    have b2 : C * B < vr (t + 1) * D * B := Int.mul_lt_mul_of_pos_right b hB
    have c2 : vr (t + 1) * (D * B) ≤ vr r * (D * B) := Int.mul_le_mul_of_nonneg_right c (Int.le_of_lt (Int.mul_pos hD hB))
    rw [Int.mul_assoc, Int.mul_comm B D] at a2; rw [Int.mul_assoc] at b2
    omega
  · exact q
theorem DnQ.uniq {A B r t : Int} (hB : 0 < B) (h : DnQ A B r) (k : DnQ A B t) : r = t := by
  have a := h.mono hB hB k (Int.le_refl _); have b := k.mono hB hB h (Int.le_refl _)
  omega
theorem Sid.uniq {up : Bool} {A B r t : Int} (hB : 0 < B) (h : Sid up A B r) (k : Sid up A B t) : r = t := by
  cases up
  · rw [sid_f] at h k; exact h.uniq hB k
  · rw [sid_t] at h k
    have := DnQ.uniq hB h k
    omega
theorem Sid.mono {up : Bool} {A B C D r t : Int} (hB : 0 < B) (hD : 0 < D) (h : Sid up A B r) (k : Sid up C D t) (hAC : A * D ≤ C * B) : r ≤ t := by
  cases up
  · rw [sid_f] at h k; exact h.mono hB hD k hAC
  · rw [sid_t] at h k
    have := DnQ.mono hD hB k h (by rw [Int.neg_mul, Int.neg_mul]; omega)
    omega
/-- Of the opposite, to the other side, the opposite. -/
theorem Sid.neg {up : Bool} {A B r : Int} (h : Sid up A B r) : Sid (!up) (-A) B (-r) := by
  cases up
  · rw [sid_f] at h
    rw [show (!false) = true from rfl, sid_t]
    unfold UpQ
    rw [Int.neg_neg, Int.neg_neg]; exact h
  · rw [sid_t] at h
    rw [show (!true) = false from rfl, sid_f]
    exact h
theorem sid_sgi {s up : Bool} {A B r : Int} (h : Sid (up != s) A B r) : Sid up (sgi s A) B (sgi s r) := by
  cases s
  · rw [wsg_f, wsg_f]
    cases up <;> exact h
  · rw [wsg_t, wsg_t]
    have h2 : Sid (!up) A B r := by cases up <;> exact h
    have := h2.neg
    rwa [Bool.not_not] at this
theorem Sid.bd {up : Bool} {A B r : Int} (h : Sid up A B r) : -19342822337206103650074625 ≤ r ∧ r ≤ 19342822337206103650074625 := by
  cases up
  · rw [sid_f] at h
    have := h.1; have := h.2.1
    omega
  · rw [sid_t] at h
    have := h.1; have := h.2.1
    omega
/-- There is one. -/
theorem last_yes (p : Nat → Prop) (h0 : p 0) : ∀ n, ¬ p n → ∃ k, k < n ∧ p k ∧ ¬ p (k + 1)
  | 0, h => absurd h0 h
  | n + 1, h => by
    by_cases q : p n
    · exact ⟨n, Nat.lt_succ_self _, q, h⟩
    · obtain ⟨k, a, b, c⟩ := last_yes p h0 n q; exact ⟨k, Nat.lt_succ_of_lt a, b, c⟩
theorem dnq_ex (A : Int) {B : Int} (hB : 0 < B) : ∃ r, DnQ A B r := by
  obtain ⟨n, hn⟩ : ∃ n : Nat, (n : Int) = 38685644674412207300149250 := ⟨38685644674412207300149250, rfl⟩
  obtain ⟨k, hk, a, b⟩ := last_yes (fun k => k = 0 ∨ ((k : Int) ≤ 38685644674412207300149249 ∧ vr ((k : Int) - 19342822337206103650074625) * B ≤ A)) (.inl rfl) n (by omega)
  refine ⟨(k : Int) - 19342822337206103650074625, by omega, by omega, fun h => ?_, fun h => ?_⟩
  · rcases a with a | a
    · omega
    · exact a.2
  · have c : ¬ vr (((k + 1 : Nat) : Int) - 19342822337206103650074625) * B ≤ A := fun c => b (.inr ⟨by omega, c⟩)
    rw [show ((k + 1 : Nat) : Int) - 19342822337206103650074625 = (k : Int) - 19342822337206103650074625 + 1 by omega] at c
    omega
theorem sid_ex (up : Bool) (A : Int) {B : Int} (hB : 0 < B) : ∃ r, Sid up A B r := by
  cases up
  · obtain ⟨r, h⟩ := dnq_ex A hB; exact ⟨r, by rw [sid_f]; exact h⟩
  · obtain ⟨r, h⟩ := dnq_ex (-A) hB; refine ⟨-r, ?_⟩; rw [sid_t]
    unfold UpQ
    rw [Int.neg_neg]; exact h
/-- By a worth that lies between the same two. -/
theorem DnQ.of_dn {X A B a b r : Int} (hB : 0 < B) (h : Dn X r) (h1 : a < X) (h2 : X < b) (h3 : a * B < A) (h4 : A < b * B) (hs : ∀ s, ¬ (a < vr s ∧ vr s < b)) : DnQ A B r := by
  obtain ⟨d1, d2, d3, d4⟩ := h
  refine ⟨d1, d2, fun k => ?_, fun k => ?_⟩
  · have e := d3 k; have n := hs r
    have l : vr r ≤ a := by omega
    have := Int.mul_le_mul_of_nonneg_right l (Int.le_of_lt hB)
    omega
  · have e := d4 k; have n := hs (r + 1)
    have l : b ≤ vr (r + 1) := by omega
    have := Int.mul_le_mul_of_nonneg_right l (Int.le_of_lt hB)
    omega
theorem DnQ.of_eq {X A B r : Int} (hB : 0 < B) (h : Dn X r) (e : X * B = A) : DnQ A B r := by
  obtain ⟨d1, d2, d3, d4⟩ := h; subst e
  exact ⟨d1, d2, fun k => Int.mul_le_mul_of_nonneg_right (d3 k) (Int.le_of_lt hB), fun k => Int.mul_lt_mul_of_pos_right (d4 k) hB⟩
theorem sid_of {P : Int × Int} {A B a b : Int} (up : Bool) (hP : Nf P) (hB : 0 < B) (h1 : a < vl P) (h2 : vl P < b) (h3 : a * B < A) (h4 : A < b * B) (hs : ∀ s, ¬ (a < vr s ∧ vr s < b)) : Sid up A B (rnd up P.1 P.2) := by
  obtain ⟨p1, p2⟩ := rnd_spec hP
  cases up
  · rw [sid_f]; exact DnQ.of_dn hB p1 h1 h2 h3 h4 hs
  · rw [sid_t]
    refine DnQ.of_dn (a := -b) (b := -a) hB p2 (by omega) (by omega) (by rw [Int.neg_mul]; omega) (by rw [Int.neg_mul]; omega) (fun s => ?_)
    have := hs (-s)
    rw [vr_neg] at this
    omega
theorem sid_eq {P : Int × Int} {A B : Int} (up : Bool) (hP : Nf P) (hB : 0 < B) (e : vl P * B = A) : Sid up A B (rnd up P.1 P.2) := by
  obtain ⟨p1, p2⟩ := rnd_spec hP
  cases up
  · rw [sid_f]; exact DnQ.of_eq hB p1 e
  · rw [sid_t]; exact DnQ.of_eq hB p2 (by rw [Int.neg_mul]; omega)
/-- Far enough from nought no place lies between two even multiples. -/
theorem no_placeQ {i : Int} {u : Nat} (hi : 9223372036854775808 ≤ i) (s : Int) : ¬ (2 * i * 2 ^ u < vr s ∧ vr s < (2 * i + 2) * 2 ^ u) := by
  rintro ⟨h1, h2⟩; have hu := p2pos u
  have hpos : 0 < vr s := Int.lt_of_le_of_lt (Int.mul_nonneg (by omega) (Int.le_of_lt hu)) h1
  have hs : 0 < s := by
    rcases Int.lt_or_le 0 s with q | q
    · exact q
    · exfalso
      have := vr_le q
      rw [show vr 0 = 0 from rfl] at this
      omega
  have e0 : vr s = ((s - 1) % 9223372036854775808 + 9223372036854775808) * 2 ^ ((s - 1) / 9223372036854775808 - 1048576 + KK).toNat := by
    unfold vr vp
    rw [if_neg (by omega), if_neg (by omega)]
  obtain ⟨M, hM⟩ : ∃ M, (s - 1) % 9223372036854775808 + 9223372036854775808 = M := ⟨_, rfl⟩; obtain ⟨t, ht⟩ : ∃ t, ((s - 1) / 9223372036854775808 - 1048576 + (KK : Int)).toNat = t := ⟨_, rfl⟩; rw [hM, ht] at e0
  have hMl : M < 18446744073709551616 := by omega
  rw [e0] at h1 h2; clear e0 hM ht hs hpos
  rcases Nat.lt_or_ge u t with q | q
  · obtain ⟨d, rfl⟩ : ∃ d, t = u + 1 + d := ⟨t - (u + 1), by omega⟩
    have e1 : M * 2 ^ (u + 1 + d) = M * 2 ^ d * 2 * 2 ^ u := by
      rw [Int.pow_add, Int.pow_succ]; generalize (2 : Int) ^ u = U; generalize (2 : Int) ^ d = D; rw [Int.mul_assoc M D 2, Int.mul_assoc M, Int.mul_comm U 2, Int.mul_comm (2 * U) D, Int.mul_assoc D 2 U]
    rw [e1] at h1 h2; have a1 := Int.lt_of_mul_lt_mul_right h1 (Int.le_of_lt hu); have a2 := Int.lt_of_mul_lt_mul_right h2 (Int.le_of_lt hu)
    omega
  · obtain ⟨d, rfl⟩ : ∃ d, u = t + d := ⟨u - t, by omega⟩
    have ht := p2pos t; have hd := p2pos d; rw [Int.pow_add] at h1
    have l1 : (2 : Int) ^ t * 1 ≤ 2 ^ t * 2 ^ d := Int.mul_le_mul_of_nonneg_left hd (Int.le_of_lt ht)
    rw [Int.mul_one] at l1
    have l2 : 2 * i * (2 : Int) ^ t ≤ 2 * i * (2 ^ t * 2 ^ d) := Int.mul_le_mul_of_nonneg_left l1 (by omega)
    have a1 := Int.lt_of_mul_lt_mul_right (Int.lt_of_le_of_lt l2 h1) (Int.le_of_lt ht)
    omega
theorem mk_vlB {z e : Int} (h : z.natAbs < 2 ^ 500000) (h1 : -3000000 ≤ e) (h2 : e ≤ 3000000) : vl (mk z e) = z * 2 ^ (e + KK).toNat := by
  obtain ⟨η, hη⟩ : ∃ η : Nat, η = 4000000 := ⟨_, rfl⟩; refine (mk_fit (h := η) (by omega) (by omega) ?_).2; obtain ⟨κ, hκ⟩ : ∃ κ : Nat, κ = 500000 := ⟨_, rfl⟩; rw [← hκ] at h
  have := Nat.mul_lt_mul_of_pos_right h (Nat.pow_pos (n := (e + (η : Int)).toNat) (show 0 < 2 by decide))
  rw [← Nat.pow_add] at this; exact Nat.lt_of_lt_of_le this (Nat.pow_le_pow_right (by decide) (by omega))
/-- A quotient's bits, and one more that tells whether something is left. -/
def stk (q r : Nat) : Nat := 2 * q + if r = 0 then 0 else 1
theorem quo_big {α β n : Nat} (hβ : 0 < β) (hn : 70 + blen β ≤ n) (ha : α ≠ 0) : 9223372036854775808 ≤ α * 2 ^ n / β := by
  rw [Nat.le_div_iff_mul_le hβ]; have l1 := blen_lt β
  have l2 : 2 ^ 69 * β ≤ 2 ^ 69 * 2 ^ blen β := Nat.mul_le_mul_left _ (Nat.le_of_lt l1)
  rw [← Nat.pow_add] at l2
  have l3 : 2 ^ (69 + blen β) ≤ 2 ^ n := Nat.pow_le_pow_right (by decide) (by omega)
  have l4 : 1 * 2 ^ n ≤ α * 2 ^ n := Nat.mul_le_mul_right _ (by omega)
  omega
/-- A quotient of natural numbers, rounded by its first bits and what is left. -/
theorem quo_side {α β : Nat} {e : Int} {n κ : Nat} (up : Bool) (hβ : 0 < β) (hq0 : α ≠ 0 → 9223372036854775808 ≤ α * 2 ^ n / β) (hκ : κ = 500000) (hs : stk (α * 2 ^ n / β) (α * 2 ^ n % β) < 2 ^ κ) (h1 : -2900000 ≤ e - n) (h2 : e ≤ 2900000) :
    Sid up ((α : Int) * 2 ^ (e + KK).toNat) (β : Int) (rnd up (mk ((stk (α * 2 ^ n / β) (α * 2 ^ n % β) : Nat) : Int) (e - n - 1)).1 (mk ((stk (α * 2 ^ n / β) (α * 2 ^ n % β) : Nat) : Int) (e - n - 1)).2) := by
  have hk := KK_eq
  have hb0 : (0 : Int) < (β : Int) := by omega
  have nf := mk_nf ((stk (α * 2 ^ n / β) (α * 2 ^ n % β) : Nat) : Int) (e - n - 1); have ev := mk_vlB (z := ((stk (α * 2 ^ n / β) (α * 2 ^ n % β) : Nat) : Int)) (e := e - n - 1) (by rw [Int.natAbs_natCast, ← hκ]; exact hs) (by omega) (by omega); obtain ⟨u, hu⟩ : ∃ u : Nat, (e - n - 1 + (KK : Int)).toNat = u := ⟨_, rfl⟩
  have e1 : (e + (KK : Int)).toNat = n + (1 + u) := by omega
  rw [hu] at ev
  rw [e1, Int.pow_add, Int.pow_add, show (2 : Int) ^ 1 = 2 from rfl, ← Int.mul_assoc]
  have hd := Nat.div_add_mod (α * 2 ^ n) β; have hm := Nat.mod_lt (α * 2 ^ n) hβ; have hpu := p2pos u
  have hcast : ((α * 2 ^ n : Nat) : Int) = (α : Int) * 2 ^ n := by push_cast; rfl
  by_cases ha : α = 0
  · subst ha
    have e2 : stk (0 * 2 ^ n / β) (0 * 2 ^ n % β) = 0 := by
      rw [Nat.zero_mul, Nat.zero_div, Nat.zero_mod]
      rfl
    rw [e2] at ev nf ⊢; refine sid_eq up nf hb0 ?_; rw [ev]
    show (((0 : Nat) : Int)) * 2 ^ u * (β : Int) = ((0 : Nat) : Int) * 2 ^ n * (2 * 2 ^ u)
    rw [show (((0 : Nat) : Int)) = 0 from rfl, Int.zero_mul, Int.zero_mul, Int.zero_mul, Int.zero_mul]
  · have hq := hq0 ha; clear hq0; clear hs; rw [← hcast]; clear hcast; generalize α * 2 ^ n = X at ev nf hd hm hq ⊢; generalize X / β = q at ev nf hd hq ⊢; generalize X % β = r at ev nf hd hm ⊢
    have hdI : (β : Int) * (q : Int) + (r : Int) = (X : Int) := by exact_mod_cast hd
    by_cases hr : r = 0
    · have e3 : stk q r = 2 * q := by
        unfold stk
        rw [if_pos hr]
        omega
      rw [e3] at ev nf ⊢; refine sid_eq up nf hb0 ?_; rw [ev, ← hdI, hr]
      show (((2 * q : Nat)) : Int) * 2 ^ u * (β : Int) = ((β : Int) * (q : Int) + ((0 : Nat) : Int)) * (2 * 2 ^ u)
      push_cast
      generalize (2 : Int) ^ u = U; rw [Int.add_zero, Int.mul_assoc, Int.mul_comm U, Int.mul_assoc 2, ← Int.mul_assoc (q : Int), Int.mul_comm (q : Int), Int.mul_left_comm]
    · have e3 : stk q r = 2 * q + 1 := by
        unfold stk
        rw [if_neg hr]
      rw [e3] at ev nf ⊢
      have c1 : (((2 * q + 1 : Nat)) : Int) = 2 * (q : Int) + 1 := by omega
      have c2 : (2 * (q : Int) * 2 ^ u) * (β : Int) = (β : Int) * (q : Int) * (2 * 2 ^ u) := by
        generalize (2 : Int) ^ u = U; rw [Int.mul_right_comm, Int.mul_comm 2 (q : Int), Int.mul_assoc (q : Int) 2, Int.mul_comm 2 (β : Int), ← Int.mul_assoc (q : Int), Int.mul_comm (q : Int), Int.mul_assoc]
      have c3 : ((2 * (q : Int) + 2) * 2 ^ u) * (β : Int) = ((β : Int) * (q : Int) + (β : Int)) * (2 * 2 ^ u) := by
        rw [show 2 * (q : Int) + 2 = 2 * ((q : Int) + 1) by omega, show (β : Int) * (q : Int) + (β : Int) = (β : Int) * ((q : Int) + 1) by rw [Int.mul_add, Int.mul_one]]
        generalize (2 : Int) ^ u = U; generalize (q : Int) + 1 = p; rw [Int.mul_right_comm, Int.mul_comm 2 p, Int.mul_assoc p 2, Int.mul_comm 2 (β : Int), ← Int.mul_assoc p, Int.mul_comm p, Int.mul_assoc]
      have h2u : (0 : Int) < 2 * 2 ^ u := by omega
      refine sid_of up nf hb0 (a := 2 * (q : Int) * 2 ^ u) (b := (2 * (q : Int) + 2) * 2 ^ u) ?_ ?_ ?_ ?_ (no_placeQ (by omega))
      · rw [ev, c1]; exact Int.mul_lt_mul_of_pos_right (by omega) hpu
      · rw [ev, c1]; exact Int.mul_lt_mul_of_pos_right (by omega) hpu
      · rw [c2]; exact Int.mul_lt_mul_of_pos_right (by omega) h2u
      · rw [c3]; exact Int.mul_lt_mul_of_pos_right (by omega) h2u
end Go.Proofs.YteejbcimmmcnlaaGreatDoor

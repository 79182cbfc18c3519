/-
  Contracts and words that the statement's proof rests on, several texts in one: Ce, Cf, Ck, Cl.
-/
import Derived.Maps.AppendAt
import Derived.Test.YthhlccdmflgbbaaYAan
import Derived.Test.YthhlccdmflgbbaaYAao
/-
  What the document's Has and Within do.
-/
namespace Go.Proofs.Ythhlccdmflgbbaa
open Go.RowKit
set_option linter.unusedVariables false
set_option linter.unusedSimpArgs false
set_option maxRecDepth 100000

theorem cmp_le {x y c : Int} (h : cmpI x y = c) : decide (c ≤ 0) = decide (x ≤ y) := by
  rw [← h]
  by_cases e : x ≤ y
  · rw [decide_eq_true e]
    exact decide_eq_true (by rcases cmpI_tri x y with ⟨a, b⟩ | ⟨a, b⟩ | ⟨a, b⟩ <;> rw [b] <;> omega)
  · rw [decide_eq_false e]
    exact decide_eq_false (by rcases cmpI_tri x y with ⟨a, b⟩ | ⟨a, b⟩ | ⟨a, b⟩ <;> rw [b] <;> omega)
set_option maxHeartbeats 2000000 in
theorem jvHas {w : World} {e : Bool} {D M E D' M' E' : Int} {s s' : Bool} {G P Q : Int} {g : Bool} {x : Sp} {n : Int} {r : Bool} (hM : M < 18446744073709551616) (hM' : M' < 18446744073709551616) (hP : P < 18446744073709551616) (hx : rkI e D s M E D' s' M' E' = x) (hn : rk G g P Q = n) (hr : hasI x n = r) : Calls Try.prog 14 #[.agg #[.bool e, .int .i64 D, .bool s, .int .u64 M, .int .i64 E, .int .i64 D', .bool s', .int .u64 M', .int .i64 E'], .agg #[.int .i64 G, .bool g, .int .u64 P, .int .i64 Q]] w (PB w r) := by
  have HX := Lib.hid hx
  have HN := Lib.hid hn
  clear hx hn
  go_enter Try.func14, Try.ntmps14
  go_upto_region 1 with (fail)
  have X2 := (Bo.newAt w (g := w.heap.size) (by simp) #[.bool e, .int .i64 D, .bool s, .int .u64 M, .int .i64 E, .int .i64 D', .bool s', .int .u64 M', .int .i64 E'] 26).below (bel1 _ (.cells #[.int .i64 G, .bool g, .int .u64 P, .int .i64 Q] 24))
  have X3 := (Bo.newAt (w.alloc (.cells #[.bool e, .int .i64 D, .bool s, .int .u64 M, .int .i64 E, .int .i64 D', .bool s', .int .u64 M', .int .i64 E'] 26)) (g := w.heap.size + 1) (by simp) #[.int .i64 G, .bool g, .int .u64 P, .int .i64 Q] 24)
  have HB := Lib.hid (bel2 w (.cells #[.bool e, .int .i64 D, .bool s, .int .u64 M, .int .i64 E, .int .i64 D', .bool s', .int .u64 M', .int .i64 E'] 26) (.cells #[.int .i64 G, .bool g, .int .u64 P, .int .i64 Q] 24))
  generalize hW1 : ((w.alloc (.cells #[.bool e, .int .i64 D, .bool s, .int .u64 M, .int .i64 E, .int .i64 D', .bool s', .int .u64 M', .int .i64 E'] 26)).alloc (.cells #[.int .i64 G, .bool g, .int .u64 P, .int .i64 Q] 24)) = w1 at *
  clear hW1
  obtain ⟨xX20, xX21, xX22, xX23, xX24, xX25, xX26, xX27, xX28⟩ := X2.ce9 rfl rfl rfl rfl rfl rfl rfl rfl rfl
  go_wp2_with fail
  refine (jvFair hM hM' HX.out).mono ?_
  rintro ee w2 ⟨e1, K1, s1, M1, E1, K1b, s1b, M1b, E1b, rfl, v1, B⟩
  clear xX20 xX21 xX22 xX23 xX24 xX25 xX26 xX27 xX28
  replace X2 := X2.below B
  replace X3 := X3.below B
  replace HB := Lib.hid (bt HB.out B)
  clear B
  go_upto_region 2 with (fail)
  have lX5 := Nat.le_refl (World.heap w2).size
  have nX5X2 := X2.lt
  have nX5X3 := X3.lt
  replace X2 := X2.below (bel1 _ (.cells #[.bool e1, .int .i64 K1, .bool s1, .int .u64 M1, .int .i64 E1, .int .i64 K1b, .bool s1b, .int .u64 M1b, .int .i64 E1b] 26))
  replace X3 := X3.below (bel1 _ (.cells #[.bool e1, .int .i64 K1, .bool s1, .int .u64 M1, .int .i64 E1, .int .i64 K1b, .bool s1b, .int .u64 M1b, .int .i64 E1b] 26))
  replace HB := Lib.hid (bt HB.out (bel1 _ (.cells #[.bool e1, .int .i64 K1, .bool s1, .int .u64 M1, .int .i64 E1, .int .i64 K1b, .bool s1b, .int .u64 M1b, .int .i64 E1b] 26)))
  have X5 := Bo.new w2 #[.bool e1, .int .i64 K1, .bool s1, .int .u64 M1, .int .i64 E1, .int .i64 K1b, .bool s1b, .int .u64 M1b, .int .i64 E1b] 26
  generalize hWn : World.alloc w2 (.cells #[.bool e1, .int .i64 K1, .bool s1, .int .u64 M1, .int .i64 E1, .int .i64 K1b, .bool s1b, .int .u64 M1b, .int .i64 E1b] 26) = w3 at *
  clear hWn
  clear lX5
  obtain ⟨xX30, xX31, xX32, xX33⟩ := X3.ce4 rfl rfl rfl rfl
  go_wp2_with fail
  refine (gFair hP HN.out).mono ?_
  rintro ee w4 ⟨K2, s2, M2, E2, rfl, q2, B⟩
  clear xX30 xX31 xX32 xX33
  replace X2 := X2.below B
  replace X3 := X3.below B
  replace X5 := X5.below B
  replace HB := Lib.hid (bt HB.out B)
  clear B
  go_upto_region 3 with (fail)
  have lX6 := Nat.le_refl (World.heap w4).size
  have nX6X2 := X2.lt
  have nX6X3 := X3.lt
  have nX6X5 := X5.lt
  replace X2 := X2.below (bel1 _ (.cells #[.int .i64 K2, .bool s2, .int .u64 M2, .int .i64 E2] 24))
  replace X3 := X3.below (bel1 _ (.cells #[.int .i64 K2, .bool s2, .int .u64 M2, .int .i64 E2] 24))
  replace X5 := X5.below (bel1 _ (.cells #[.int .i64 K2, .bool s2, .int .u64 M2, .int .i64 E2] 24))
  replace HB := Lib.hid (bt HB.out (bel1 _ (.cells #[.int .i64 K2, .bool s2, .int .u64 M2, .int .i64 E2] 24)))
  have X6 := Bo.new w4 #[.int .i64 K2, .bool s2, .int .u64 M2, .int .i64 E2] 24
  generalize hWn : World.alloc w4 (.cells #[.int .i64 K2, .bool s2, .int .u64 M2, .int .i64 E2] 24) = w5 at *
  clear hWn
  clear lX6
  clear HX HN hM hM' hP
  rcases x with _ | ⟨xa, xb⟩
  · obtain ⟨rfl, y1, y1b⟩ := v1
    obtain rfl : false = r := hr
    obtain ⟨xX50, xX51, xX52, xX53, xX54, xX55, xX56, xX57, xX58⟩ := X5.ce9 rfl rfl rfl rfl rfl rfl rfl rfl rfl
    obtain ⟨xX60, xX61, xX62, xX63⟩ := X6.ce4 rfl rfl rfl rfl
    go_wp2
    go_ret
    exact ⟨rfl, HB.out⟩
  · obtain ⟨rfl, a1, b1, o1, o1l, o1h⟩ := v1
    have i2 := fq_inf q2
    have hr2 : (!infp n && decide (xa ≤ n) && decide (n ≤ xb)) = r := hr
    rw [i2] at hr2
    clear hr i2
    by_cases hk : K2 = 2
    · subst hk
      obtain rfl : false = r := hr2
      obtain ⟨xX50, xX51, xX52, xX53, xX54, xX55, xX56, xX57, xX58⟩ := X5.ce9 rfl rfl rfl rfl rfl rfl rfl rfl rfl
      obtain ⟨xX60, xX61, xX62, xX63⟩ := X6.ce4 rfl rfl rfl rfl
      go_wp2
      go_ret
      exact ⟨rfl, HB.out⟩
    · have hk2 : (K2 == 2) = false := by simpa using hk
      rw [hk2] at hr2
      have hne : (K2 != 2) = true := by simpa using hk
      cases hk1 : decide (xa ≤ n)
      · rw [hk1] at hr2
        obtain rfl : false = r := hr2
        obtain ⟨c1, hc1⟩ : ∃ c, cmpI xa n = c := ⟨_, rfl⟩
        have ht1 := cmp_le hc1
        rw [hk1] at ht1
        have HC1 : Hid (cmpI (rk K1 s1 M1 E1) (rk K2 s2 M2 E2) = c1) := Lib.hid (by rw [a1.rk, q2.rk]; exact hc1)
        clear hc1 hk1
        obtain ⟨xX50, xX51, xX52, xX53, xX54, xX55, xX56, xX57, xX58⟩ := X5.ce9 rfl rfl rfl rfl rfl rfl rfl rfl rfl
        obtain ⟨xX60, xX61, xX62, xX63⟩ := X6.ce4 rfl rfl rfl rfl
        go_wp2_with fail
        refine (yCmp a1.top q2.top HC1.out).mono ?_
        rintro ee w6 ⟨rfl, B⟩
        clear xX50 xX51 xX52 xX53 xX54 xX55 xX56 xX57 xX58 xX60 xX61 xX62 xX63
        replace X5 := X5.below B
        replace X6 := X6.below B
        replace HB := Lib.hid (bt HB.out B)
        clear B
        go_wp2
        go_ret
        exact ⟨rfl, HB.out⟩
      · rw [hk1] at hr2
        obtain ⟨z, hk3⟩ : ∃ z, decide (n ≤ xb) = z := ⟨_, rfl⟩
        rw [hk3] at hr2
        obtain rfl : z = r := hr2
        obtain ⟨c1, hc1⟩ : ∃ c, cmpI xa n = c := ⟨_, rfl⟩
        have ht1 := cmp_le hc1
        rw [hk1] at ht1
        have HC1 : Hid (cmpI (rk K1 s1 M1 E1) (rk K2 s2 M2 E2) = c1) := Lib.hid (by rw [a1.rk, q2.rk]; exact hc1)
        clear hc1 hk1
        obtain ⟨xX50, xX51, xX52, xX53, xX54, xX55, xX56, xX57, xX58⟩ := X5.ce9 rfl rfl rfl rfl rfl rfl rfl rfl rfl
        obtain ⟨xX60, xX61, xX62, xX63⟩ := X6.ce4 rfl rfl rfl rfl
        go_wp2_with fail
        refine (yCmp a1.top q2.top HC1.out).mono ?_
        rintro ee w6 ⟨rfl, B⟩
        clear xX50 xX51 xX52 xX53 xX54 xX55 xX56 xX57 xX58 xX60 xX61 xX62 xX63
        replace X5 := X5.below B
        replace X6 := X6.below B
        replace HB := Lib.hid (bt HB.out B)
        clear B
        obtain ⟨c3, hc3⟩ : ∃ c, cmpI n xb = c := ⟨_, rfl⟩
        have ht3 := cmp_le hc3
        rw [hk3] at ht3
        have HC3 : Hid (cmpI (rk K2 s2 M2 E2) (rk K1b s1b M1b E1b) = c3) := Lib.hid (by rw [q2.rk, b1.rk]; exact hc3)
        clear hc3 hk3
        obtain ⟨xX50, xX51, xX52, xX53, xX54, xX55, xX56, xX57, xX58⟩ := X5.ce9 rfl rfl rfl rfl rfl rfl rfl rfl rfl
        obtain ⟨xX60, xX61, xX62, xX63⟩ := X6.ce4 rfl rfl rfl rfl
        go_wp2_with fail
        refine (yCmp q2.top b1.top HC3.out).mono ?_
        rintro ee w7 ⟨rfl, B⟩
        clear xX50 xX51 xX52 xX53 xX54 xX55 xX56 xX57 xX58 xX60 xX61 xX62 xX63
        replace X5 := X5.below B
        replace X6 := X6.below B
        replace HB := Lib.hid (bt HB.out B)
        clear B
        go_wp2
        go_ret
        exact ⟨by first | rfl | (show Ending.returned (.bool _) = _; rw [ht3]), HB.out⟩
set_option maxHeartbeats 2000000 in
theorem jvWithin {w : World} {e : Bool} {D M E D' M' E' : Int} {s s' : Bool} {e2 : Bool} {G P Q G' P' Q' : Int} {g g' : Bool} {x y : Sp} {r : Bool} (hM : M < 18446744073709551616) (hM' : M' < 18446744073709551616) (hP : P < 18446744073709551616) (hP' : P' < 18446744073709551616) (hx : rkI e D s M E D' s' M' E' = x) (hy : rkI e2 G g P Q G' g' P' Q' = y) (hr : witI x y = r) : Calls Try.prog 16 #[.agg #[.bool e, .int .i64 D, .bool s, .int .u64 M, .int .i64 E, .int .i64 D', .bool s', .int .u64 M', .int .i64 E'], .agg #[.bool e2, .int .i64 G, .bool g, .int .u64 P, .int .i64 Q, .int .i64 G', .bool g', .int .u64 P', .int .i64 Q']] w (PB w r) := by
  have HX := Lib.hid hx
  have HY := Lib.hid hy
  clear hx hy
  go_enter Try.func16, Try.ntmps16
  go_upto_region 1 with (fail)
  have X2 := (Bo.newAt w (g := w.heap.size) (by simp) #[.bool e, .int .i64 D, .bool s, .int .u64 M, .int .i64 E, .int .i64 D', .bool s', .int .u64 M', .int .i64 E'] 26).below (bel1 _ (.cells #[.bool e2, .int .i64 G, .bool g, .int .u64 P, .int .i64 Q, .int .i64 G', .bool g', .int .u64 P', .int .i64 Q'] 26))
  have X3 := (Bo.newAt (w.alloc (.cells #[.bool e, .int .i64 D, .bool s, .int .u64 M, .int .i64 E, .int .i64 D', .bool s', .int .u64 M', .int .i64 E'] 26)) (g := w.heap.size + 1) (by simp) #[.bool e2, .int .i64 G, .bool g, .int .u64 P, .int .i64 Q, .int .i64 G', .bool g', .int .u64 P', .int .i64 Q'] 26)
  have HB := Lib.hid (bel2 w (.cells #[.bool e, .int .i64 D, .bool s, .int .u64 M, .int .i64 E, .int .i64 D', .bool s', .int .u64 M', .int .i64 E'] 26) (.cells #[.bool e2, .int .i64 G, .bool g, .int .u64 P, .int .i64 Q, .int .i64 G', .bool g', .int .u64 P', .int .i64 Q'] 26))
  generalize hW1 : ((w.alloc (.cells #[.bool e, .int .i64 D, .bool s, .int .u64 M, .int .i64 E, .int .i64 D', .bool s', .int .u64 M', .int .i64 E'] 26)).alloc (.cells #[.bool e2, .int .i64 G, .bool g, .int .u64 P, .int .i64 Q, .int .i64 G', .bool g', .int .u64 P', .int .i64 Q'] 26)) = w1 at *
  clear hW1
  obtain ⟨xX20, xX21, xX22, xX23, xX24, xX25, xX26, xX27, xX28⟩ := X2.ce9 rfl rfl rfl rfl rfl rfl rfl rfl rfl
  go_wp2_with fail
  refine (jvFair hM hM' HX.out).mono ?_
  rintro ee w2 ⟨e1, K1, s1, M1, E1, K1b, s1b, M1b, E1b, rfl, v1, B⟩
  clear xX20 xX21 xX22 xX23 xX24 xX25 xX26 xX27 xX28
  replace X2 := X2.below B
  replace X3 := X3.below B
  replace HB := Lib.hid (bt HB.out B)
  clear B
  go_upto_region 2 with (fail)
  have lX5 := Nat.le_refl (World.heap w2).size
  have nX5X2 := X2.lt
  have nX5X3 := X3.lt
  replace X2 := X2.below (bel1 _ (.cells #[.bool e1, .int .i64 K1, .bool s1, .int .u64 M1, .int .i64 E1, .int .i64 K1b, .bool s1b, .int .u64 M1b, .int .i64 E1b] 26))
  replace X3 := X3.below (bel1 _ (.cells #[.bool e1, .int .i64 K1, .bool s1, .int .u64 M1, .int .i64 E1, .int .i64 K1b, .bool s1b, .int .u64 M1b, .int .i64 E1b] 26))
  replace HB := Lib.hid (bt HB.out (bel1 _ (.cells #[.bool e1, .int .i64 K1, .bool s1, .int .u64 M1, .int .i64 E1, .int .i64 K1b, .bool s1b, .int .u64 M1b, .int .i64 E1b] 26)))
  have X5 := Bo.new w2 #[.bool e1, .int .i64 K1, .bool s1, .int .u64 M1, .int .i64 E1, .int .i64 K1b, .bool s1b, .int .u64 M1b, .int .i64 E1b] 26
  generalize hWn : World.alloc w2 (.cells #[.bool e1, .int .i64 K1, .bool s1, .int .u64 M1, .int .i64 E1, .int .i64 K1b, .bool s1b, .int .u64 M1b, .int .i64 E1b] 26) = w3 at *
  clear hWn
  clear lX5
  obtain ⟨xX30, xX31, xX32, xX33, xX34, xX35, xX36, xX37, xX38⟩ := X3.ce9 rfl rfl rfl rfl rfl rfl rfl rfl rfl
  go_wp2_with fail
  refine (jvFair hP hP' HY.out).mono ?_
  rintro ee w4 ⟨e2, K2, s2, M2, E2, K2b, s2b, M2b, E2b, rfl, v2, B⟩
  clear xX30 xX31 xX32 xX33 xX34 xX35 xX36 xX37 xX38
  replace X2 := X2.below B
  replace X3 := X3.below B
  replace X5 := X5.below B
  replace HB := Lib.hid (bt HB.out B)
  clear B
  go_upto_region 3 with (fail)
  have lX6 := Nat.le_refl (World.heap w4).size
  have nX6X2 := X2.lt
  have nX6X3 := X3.lt
  have nX6X5 := X5.lt
  replace X2 := X2.below (bel1 _ (.cells #[.bool e2, .int .i64 K2, .bool s2, .int .u64 M2, .int .i64 E2, .int .i64 K2b, .bool s2b, .int .u64 M2b, .int .i64 E2b] 26))
  replace X3 := X3.below (bel1 _ (.cells #[.bool e2, .int .i64 K2, .bool s2, .int .u64 M2, .int .i64 E2, .int .i64 K2b, .bool s2b, .int .u64 M2b, .int .i64 E2b] 26))
  replace X5 := X5.below (bel1 _ (.cells #[.bool e2, .int .i64 K2, .bool s2, .int .u64 M2, .int .i64 E2, .int .i64 K2b, .bool s2b, .int .u64 M2b, .int .i64 E2b] 26))
  replace HB := Lib.hid (bt HB.out (bel1 _ (.cells #[.bool e2, .int .i64 K2, .bool s2, .int .u64 M2, .int .i64 E2, .int .i64 K2b, .bool s2b, .int .u64 M2b, .int .i64 E2b] 26)))
  have X6 := Bo.new w4 #[.bool e2, .int .i64 K2, .bool s2, .int .u64 M2, .int .i64 E2, .int .i64 K2b, .bool s2b, .int .u64 M2b, .int .i64 E2b] 26
  generalize hWn : World.alloc w4 (.cells #[.bool e2, .int .i64 K2, .bool s2, .int .u64 M2, .int .i64 E2, .int .i64 K2b, .bool s2b, .int .u64 M2b, .int .i64 E2b] 26) = w5 at *
  clear hWn
  clear lX6
  clear HX HY hM hM' hP hP'
  rcases x with _ | ⟨xa, xb⟩
  · obtain ⟨rfl, y1, y1b⟩ := v1
    obtain rfl : true = r := hr
    obtain ⟨xX50, xX51, xX52, xX53, xX54, xX55, xX56, xX57, xX58⟩ := X5.ce9 rfl rfl rfl rfl rfl rfl rfl rfl rfl
    obtain ⟨xX60, xX61, xX62, xX63, xX64, xX65, xX66, xX67, xX68⟩ := X6.ce9 rfl rfl rfl rfl rfl rfl rfl rfl rfl
    go_wp2
    go_ret
    exact ⟨rfl, HB.out⟩
  · obtain ⟨rfl, a1, b1, o1, o1l, o1h⟩ := v1
    rcases y with _ | ⟨ya, yb⟩
    · obtain ⟨rfl, y2, y2b⟩ := v2
      obtain rfl : false = r := hr
      obtain ⟨xX50, xX51, xX52, xX53, xX54, xX55, xX56, xX57, xX58⟩ := X5.ce9 rfl rfl rfl rfl rfl rfl rfl rfl rfl
      obtain ⟨xX60, xX61, xX62, xX63, xX64, xX65, xX66, xX67, xX68⟩ := X6.ce9 rfl rfl rfl rfl rfl rfl rfl rfl rfl
      go_wp2
      go_ret
      exact ⟨rfl, HB.out⟩
    · obtain ⟨rfl, a2, b2, o2, o2l, o2h⟩ := v2
      have hr2 : (decide (ya ≤ xa) && decide (xb ≤ yb)) = r := hr
      clear hr
      cases hk1 : decide (ya ≤ xa)
      · rw [hk1] at hr2
        obtain rfl : false = r := hr2
        obtain ⟨c1, hc1⟩ : ∃ c, cmpI ya xa = c := ⟨_, rfl⟩
        have ht1 := cmp_le hc1
        rw [hk1] at ht1
        have HC1 : Hid (cmpI (rk K2 s2 M2 E2) (rk K1 s1 M1 E1) = c1) := Lib.hid (by rw [a2.rk, a1.rk]; exact hc1)
        clear hc1 hk1
        obtain ⟨xX50, xX51, xX52, xX53, xX54, xX55, xX56, xX57, xX58⟩ := X5.ce9 rfl rfl rfl rfl rfl rfl rfl rfl rfl
        obtain ⟨xX60, xX61, xX62, xX63, xX64, xX65, xX66, xX67, xX68⟩ := X6.ce9 rfl rfl rfl rfl rfl rfl rfl rfl rfl
        go_wp2_with fail
        refine (yCmp a2.top a1.top HC1.out).mono ?_
        rintro ee w6 ⟨rfl, B⟩
        clear xX50 xX51 xX52 xX53 xX54 xX55 xX56 xX57 xX58 xX60 xX61 xX62 xX63 xX64 xX65 xX66 xX67 xX68
        replace X5 := X5.below B
        replace X6 := X6.below B
        replace HB := Lib.hid (bt HB.out B)
        clear B
        go_wp2
        go_ret
        exact ⟨rfl, HB.out⟩
      · rw [hk1] at hr2
        obtain ⟨z, hk3⟩ : ∃ z, decide (xb ≤ yb) = z := ⟨_, rfl⟩
        rw [hk3] at hr2
        obtain rfl : z = r := hr2
        obtain ⟨c1, hc1⟩ : ∃ c, cmpI ya xa = c := ⟨_, rfl⟩
        have ht1 := cmp_le hc1
        rw [hk1] at ht1
        have HC1 : Hid (cmpI (rk K2 s2 M2 E2) (rk K1 s1 M1 E1) = c1) := Lib.hid (by rw [a2.rk, a1.rk]; exact hc1)
        clear hc1 hk1
        obtain ⟨xX50, xX51, xX52, xX53, xX54, xX55, xX56, xX57, xX58⟩ := X5.ce9 rfl rfl rfl rfl rfl rfl rfl rfl rfl
        obtain ⟨xX60, xX61, xX62, xX63, xX64, xX65, xX66, xX67, xX68⟩ := X6.ce9 rfl rfl rfl rfl rfl rfl rfl rfl rfl
        go_wp2_with fail
        refine (yCmp a2.top a1.top HC1.out).mono ?_
        rintro ee w6 ⟨rfl, B⟩
        clear xX50 xX51 xX52 xX53 xX54 xX55 xX56 xX57 xX58 xX60 xX61 xX62 xX63 xX64 xX65 xX66 xX67 xX68
        replace X5 := X5.below B
        replace X6 := X6.below B
        replace HB := Lib.hid (bt HB.out B)
        clear B
        obtain ⟨c3, hc3⟩ : ∃ c, cmpI xb yb = c := ⟨_, rfl⟩
        have ht3 := cmp_le hc3
        rw [hk3] at ht3
        have HC3 : Hid (cmpI (rk K1b s1b M1b E1b) (rk K2b s2b M2b E2b) = c3) := Lib.hid (by rw [b1.rk, b2.rk]; exact hc3)
        clear hc3 hk3
        obtain ⟨xX50, xX51, xX52, xX53, xX54, xX55, xX56, xX57, xX58⟩ := X5.ce9 rfl rfl rfl rfl rfl rfl rfl rfl rfl
        obtain ⟨xX60, xX61, xX62, xX63, xX64, xX65, xX66, xX67, xX68⟩ := X6.ce9 rfl rfl rfl rfl rfl rfl rfl rfl rfl
        go_wp2_with fail
        refine (yCmp b1.top b2.top HC3.out).mono ?_
        rintro ee w7 ⟨rfl, B⟩
        clear xX50 xX51 xX52 xX53 xX54 xX55 xX56 xX57 xX58 xX60 xX61 xX62 xX63 xX64 xX65 xX66 xX67 xX68
        replace X5 := X5.below B
        replace X6 := X6.below B
        replace HB := Lib.hid (bt HB.out B)
        clear B
        go_wp2
        go_ret
        exact ⟨by first | rfl | (show Ending.returned (.bool _) = _; rw [ht3]), HB.out⟩
end Go.Proofs.Ythhlccdmflgbbaa

/-
  What the document's Two, Both, Meet and Hull of intervals do.
-/
namespace Go.Proofs.Ythhlccdmflgbbaa
open Go.RowKit
set_option linter.unusedVariables false
set_option linter.unusedSimpArgs false
set_option maxRecDepth 100000

theorem Nl.lit2 {W : World} {g : Nat} {D1 D2 M1 M2 E1 E2 r1 r2 : Int} {s1 s2 : Bool} (hg : W.heap.size = g) (h1 : M1 < 18446744073709551616) (h2 : M2 < 18446744073709551616) (k1 : rk D1 s1 M1 E1 = r1) (k2 : rk D2 s2 M2 E2 = r2) :
    Nl (W.alloc (.cells #[.int .i64 D1, .bool s1, .int .u64 M1, .int .i64 E1, .int .i64 D2, .bool s2, .int .u64 M2, .int .i64 E2] 24)) (some ⟨g, 0, none⟩) 2 2 [r1, r2] := by
  subst hg
  have hh := heap_alloc_new W (.cells #[.int .i64 D1, .bool s1, .int .u64 M1, .int .i64 E1, .int .i64 D2, .bool s2, .int .u64 M2, .int .i64 E2] 24)
  refine ⟨rfl, Nat.le_refl _, by decide, fun _ => ⟨_, 0, rfl, fun k hk => ?_⟩⟩
  rcases (by omega : k = 0 ∨ k = 1) with rfl | rfl
  · exact ⟨D1, s1, M1, E1, by rw [cell_of_row _ _ _ _ _ _ hh]; rfl, by rw [cell_of_row _ _ _ _ _ _ hh]; rfl, by rw [cell_of_row _ _ _ _ _ _ hh]; rfl, by rw [cell_of_row _ _ _ _ _ _ hh]; rfl, h1, k1⟩
  · exact ⟨D2, s2, M2, E2, by rw [cell_of_row _ _ _ _ _ _ hh]; rfl, by rw [cell_of_row _ _ _ _ _ _ hh]; rfl, by rw [cell_of_row _ _ _ _ _ _ hh]; rfl, by rw [cell_of_row _ _ _ _ _ _ hh]; rfl, h2, k2⟩
theorem mnp_two {a b : Int} (ha : a ≤ 19342822337206103650074625) : mnp [a, b] = min a b := by
  have := TP_eq
  show min (min TP a) b = _
  omega
theorem mxp_two {a b : Int} (ha : -19342822337206103650074625 ≤ a) : mxp [a, b] = max a b := by
  have := TP_eq
  show max (max (-TP) a) b = _
  omega
set_option maxHeartbeats 2000000 in
theorem jvTwo {w : World} {e : Bool} {D M E D' M' E' : Int} {s s' : Bool} {e2 : Bool} {G P Q G' P' Q' : Int} {g g' : Bool} {x y z : Sp} (hM : M < 18446744073709551616) (hM' : M' < 18446744073709551616) (hP : P < 18446744073709551616) (hP' : P' < 18446744073709551616) (hx : rkI e D s M E D' s' M' E' = x) (hy : rkI e2 G g P Q G' g' P' Q' = y) (hr : meetI x y = z) : Calls Try.prog 41 #[.agg #[.bool e, .int .i64 D, .bool s, .int .u64 M, .int .i64 E, .int .i64 D', .bool s', .int .u64 M', .int .i64 E'], .agg #[.bool e2, .int .i64 G, .bool g, .int .u64 P, .int .i64 Q, .int .i64 G', .bool g', .int .u64 P', .int .i64 Q']] w (PV w z) := by
  have HX := Lib.hid hx
  have HY := Lib.hid hy
  clear hx hy
  go_enter Try.func41, Try.ntmps41
  go_upto_region 1 with (fail)
  have X2 := (Bo.newAt w (g := w.heap.size) (by simp) #[.bool e, .int .i64 D, .bool s, .int .u64 M, .int .i64 E, .int .i64 D', .bool s', .int .u64 M', .int .i64 E'] 26).below (bel2 _ (.cells #[.bool e2, .int .i64 G, .bool g, .int .u64 P, .int .i64 Q, .int .i64 G', .bool g', .int .u64 P', .int .i64 Q'] 26) (.cells #[.bool false, .int .i64 0, .bool false, .int .u64 0, .int .i64 0, .int .i64 0, .bool false, .int .u64 0, .int .i64 0] 26))
  have X3 := (Bo.newAt (w.alloc (.cells #[.bool e, .int .i64 D, .bool s, .int .u64 M, .int .i64 E, .int .i64 D', .bool s', .int .u64 M', .int .i64 E'] 26)) (g := w.heap.size + 1) (by simp) #[.bool e2, .int .i64 G, .bool g, .int .u64 P, .int .i64 Q, .int .i64 G', .bool g', .int .u64 P', .int .i64 Q'] 26).below (bel1 _ (.cells #[.bool false, .int .i64 0, .bool false, .int .u64 0, .int .i64 0, .int .i64 0, .bool false, .int .u64 0, .int .i64 0] 26))
  have XR := (Bo.newAt ((w.alloc (.cells #[.bool e, .int .i64 D, .bool s, .int .u64 M, .int .i64 E, .int .i64 D', .bool s', .int .u64 M', .int .i64 E'] 26)).alloc (.cells #[.bool e2, .int .i64 G, .bool g, .int .u64 P, .int .i64 Q, .int .i64 G', .bool g', .int .u64 P', .int .i64 Q'] 26)) (g := w.heap.size + 1 + 1) (by simp) #[.bool false, .int .i64 0, .bool false, .int .u64 0, .int .i64 0, .int .i64 0, .bool false, .int .u64 0, .int .i64 0] 26)
  have HB := Lib.hid (bel3 w (.cells #[.bool e, .int .i64 D, .bool s, .int .u64 M, .int .i64 E, .int .i64 D', .bool s', .int .u64 M', .int .i64 E'] 26) (.cells #[.bool e2, .int .i64 G, .bool g, .int .u64 P, .int .i64 Q, .int .i64 G', .bool g', .int .u64 P', .int .i64 Q'] 26) (.cells #[.bool false, .int .i64 0, .bool false, .int .u64 0, .int .i64 0, .int .i64 0, .bool false, .int .u64 0, .int .i64 0] 26))
  generalize hW1 : (((w.alloc (.cells #[.bool e, .int .i64 D, .bool s, .int .u64 M, .int .i64 E, .int .i64 D', .bool s', .int .u64 M', .int .i64 E'] 26)).alloc (.cells #[.bool e2, .int .i64 G, .bool g, .int .u64 P, .int .i64 Q, .int .i64 G', .bool g', .int .u64 P', .int .i64 Q'] 26)).alloc (.cells #[.bool false, .int .i64 0, .bool false, .int .u64 0, .int .i64 0, .int .i64 0, .bool false, .int .u64 0, .int .i64 0] 26)) = w1 at *
  clear hW1
  obtain ⟨xX20, xX21, xX22, xX23, xX24, xX25, xX26, xX27, xX28⟩ := X2.ce9 rfl rfl rfl rfl rfl rfl rfl rfl rfl
  go_wp2_with fail
  refine (jvFair hM hM' HX.out).mono ?_
  rintro ee w2 ⟨e1, K1, s1, M1, E1, K1b, s1b, M1b, E1b, rfl, v1, B⟩
  clear xX20 xX21 xX22 xX23 xX24 xX25 xX26 xX27 xX28
  replace X2 := X2.below B
  replace X3 := X3.below B
  replace XR := XR.below B
  replace HB := Lib.hid (bt HB.out B)
  clear B
  go_upto_region 2 with (fail)
  have lX5 := Nat.le_refl (World.heap w2).size
  have nX5X2 := X2.lt
  have nX5X3 := X3.lt
  have nX5XR := XR.lt
  replace X2 := X2.below (bel1 _ (.cells #[.bool e1, .int .i64 K1, .bool s1, .int .u64 M1, .int .i64 E1, .int .i64 K1b, .bool s1b, .int .u64 M1b, .int .i64 E1b] 26))
  replace X3 := X3.below (bel1 _ (.cells #[.bool e1, .int .i64 K1, .bool s1, .int .u64 M1, .int .i64 E1, .int .i64 K1b, .bool s1b, .int .u64 M1b, .int .i64 E1b] 26))
  replace XR := XR.below (bel1 _ (.cells #[.bool e1, .int .i64 K1, .bool s1, .int .u64 M1, .int .i64 E1, .int .i64 K1b, .bool s1b, .int .u64 M1b, .int .i64 E1b] 26))
  replace HB := Lib.hid (bt HB.out (bel1 _ (.cells #[.bool e1, .int .i64 K1, .bool s1, .int .u64 M1, .int .i64 E1, .int .i64 K1b, .bool s1b, .int .u64 M1b, .int .i64 E1b] 26)))
  have X5 := Bo.new w2 #[.bool e1, .int .i64 K1, .bool s1, .int .u64 M1, .int .i64 E1, .int .i64 K1b, .bool s1b, .int .u64 M1b, .int .i64 E1b] 26
  generalize hWn : World.alloc w2 (.cells #[.bool e1, .int .i64 K1, .bool s1, .int .u64 M1, .int .i64 E1, .int .i64 K1b, .bool s1b, .int .u64 M1b, .int .i64 E1b] 26) = w3 at *
  clear hWn
  clear lX5
  obtain ⟨xX30, xX31, xX32, xX33, xX34, xX35, xX36, xX37, xX38⟩ := X3.ce9 rfl rfl rfl rfl rfl rfl rfl rfl rfl
  go_wp2_with fail
  refine (jvFair hP hP' HY.out).mono ?_
  rintro ee w4 ⟨e2, K2, s2, M2, E2, K2b, s2b, M2b, E2b, rfl, v2, B⟩
  clear xX30 xX31 xX32 xX33 xX34 xX35 xX36 xX37 xX38
  replace X2 := X2.below B
  replace X3 := X3.below B
  replace XR := XR.below B
  replace X5 := X5.below B
  replace HB := Lib.hid (bt HB.out B)
  clear B
  go_upto_region 3 with (fail)
  have lX6 := Nat.le_refl (World.heap w4).size
  have nX6X2 := X2.lt
  have nX6X3 := X3.lt
  have nX6XR := XR.lt
  have nX6X5 := X5.lt
  replace X2 := X2.below (bel1 _ (.cells #[.bool e2, .int .i64 K2, .bool s2, .int .u64 M2, .int .i64 E2, .int .i64 K2b, .bool s2b, .int .u64 M2b, .int .i64 E2b] 26))
  replace X3 := X3.below (bel1 _ (.cells #[.bool e2, .int .i64 K2, .bool s2, .int .u64 M2, .int .i64 E2, .int .i64 K2b, .bool s2b, .int .u64 M2b, .int .i64 E2b] 26))
  replace XR := XR.below (bel1 _ (.cells #[.bool e2, .int .i64 K2, .bool s2, .int .u64 M2, .int .i64 E2, .int .i64 K2b, .bool s2b, .int .u64 M2b, .int .i64 E2b] 26))
  replace X5 := X5.below (bel1 _ (.cells #[.bool e2, .int .i64 K2, .bool s2, .int .u64 M2, .int .i64 E2, .int .i64 K2b, .bool s2b, .int .u64 M2b, .int .i64 E2b] 26))
  replace HB := Lib.hid (bt HB.out (bel1 _ (.cells #[.bool e2, .int .i64 K2, .bool s2, .int .u64 M2, .int .i64 E2, .int .i64 K2b, .bool s2b, .int .u64 M2b, .int .i64 E2b] 26)))
  have X6 := Bo.new w4 #[.bool e2, .int .i64 K2, .bool s2, .int .u64 M2, .int .i64 E2, .int .i64 K2b, .bool s2b, .int .u64 M2b, .int .i64 E2b] 26
  generalize hWn : World.alloc w4 (.cells #[.bool e2, .int .i64 K2, .bool s2, .int .u64 M2, .int .i64 E2, .int .i64 K2b, .bool s2b, .int .u64 M2b, .int .i64 E2b] 26) = w5 at *
  clear hWn
  clear lX6
  clear HX HY hM hM' hP hP'
  rcases x with _ | ⟨xa, xb⟩
  · obtain ⟨rfl, y1, y1b⟩ := v1
    obtain rfl : none = z := hr
    obtain ⟨xX50, xX51, xX52, xX53, xX54, xX55, xX56, xX57, xX58⟩ := X5.ce9 rfl rfl rfl rfl rfl rfl rfl rfl rfl
    obtain ⟨xX60, xX61, xX62, xX63, xX64, xX65, xX66, xX67, xX68⟩ := X6.ce9 rfl rfl rfl rfl rfl rfl rfl rfl rfl
    go_wp2_with fail
    refine (jvNoneE).mono ?_
    rintro ee w7 ⟨rfl, B⟩
    clear xX50 xX51 xX52 xX53 xX54 xX55 xX56 xX57 xX58 xX60 xX61 xX62 xX63 xX64 xX65 xX66 xX67 xX68
    replace XR := XR.below B
    replace X5 := X5.below B
    replace X6 := X6.below B
    replace HB := Lib.hid (bt HB.out B)
    clear B
    obtain ⟨xXR0, xXR1, xXR2, xXR3, xXR4, xXR5, xXR6, xXR7, xXR8⟩ := XR.ce9 rfl rfl rfl rfl rfl rfl rfl rfl rfl
    have zXR0 := XR.frozen
    go_wp2
    clear xXR0 zXR0 xXR1 xXR2 xXR3 xXR4 xXR5 xXR6 xXR7 xXR8
    have SX := StN.mk9 XR (.bool true) (.int .i64 0) (.bool false) (.int .u64 0) (.int .i64 0) (.int .i64 0) (.bool false) (.int .u64 0) (.int .i64 0)
    exact bodyPost_ret (v := .agg #[.bool true, .int .i64 0, .bool false, .int .u64 0, .int .i64 0, .int .i64 0, .bool false, .int .u64 0, .int .i64 0]) (by simp [results, Try.results41, go_sem, SX.box.cell]) rfl ⟨_, _, _, _, _, _, _, _, _, rfl, Ci.none, (SX.below HB.out (by omega))⟩
  · obtain ⟨rfl, a1, b1, o1, o1l, o1h⟩ := v1
    rcases y with _ | ⟨ya, yb⟩
    · obtain ⟨rfl, y2, y2b⟩ := v2
      clear o1 o1l o1h
      obtain rfl : none = z := hr
      obtain ⟨xX50, xX51, xX52, xX53, xX54, xX55, xX56, xX57, xX58⟩ := X5.ce9 rfl rfl rfl rfl rfl rfl rfl rfl rfl
      obtain ⟨xX60, xX61, xX62, xX63, xX64, xX65, xX66, xX67, xX68⟩ := X6.ce9 rfl rfl rfl rfl rfl rfl rfl rfl rfl
      go_wp2_with fail
      refine (jvNoneE).mono ?_
      rintro ee w7 ⟨rfl, B⟩
      clear xX50 xX51 xX52 xX53 xX54 xX55 xX56 xX57 xX58 xX60 xX61 xX62 xX63 xX64 xX65 xX66 xX67 xX68
      replace XR := XR.below B
      replace X5 := X5.below B
      replace X6 := X6.below B
      replace HB := Lib.hid (bt HB.out B)
      clear B
      obtain ⟨xXR0, xXR1, xXR2, xXR3, xXR4, xXR5, xXR6, xXR7, xXR8⟩ := XR.ce9 rfl rfl rfl rfl rfl rfl rfl rfl rfl
      have zXR0 := XR.frozen
      go_wp2
      clear xXR0 zXR0 xXR1 xXR2 xXR3 xXR4 xXR5 xXR6 xXR7 xXR8
      have SX := StN.mk9 XR (.bool true) (.int .i64 0) (.bool false) (.int .u64 0) (.int .i64 0) (.int .i64 0) (.bool false) (.int .u64 0) (.int .i64 0)
      exact bodyPost_ret (v := .agg #[.bool true, .int .i64 0, .bool false, .int .u64 0, .int .i64 0, .int .i64 0, .bool false, .int .u64 0, .int .i64 0]) (by simp [results, Try.results41, go_sem, SX.box.cell]) rfl ⟨_, _, _, _, _, _, _, _, _, rfl, Ci.none, (SX.below HB.out (by omega))⟩
    · obtain ⟨rfl, a2, b2, o2, o2l, o2h⟩ := v2
      have hu : mxp [xa, ya] = max xa ya := mxp_two a1.bd.1
      have hl : mnp [xb, yb] = min xb yb := mnp_two b1.bd.2
      obtain ⟨u, hu2⟩ : ∃ u, max xa ya = u := ⟨_, rfl⟩
      obtain ⟨l, hl2⟩ : ∃ l, min xb yb = l := ⟨_, rfl⟩
      have hr2 : mkI u l = z := by rw [← hu2, ← hl2]; exact hr
      rw [hu2] at hu
      rw [hl2] at hl
      have HU := Lib.hid hu
      have HL := Lib.hid hl
      have HR := Lib.hid hr2
      clear hu hl hu2 hl2 hr hr2 o1 o1l o1h o2 o2l o2h
      obtain ⟨xX50, xX51, xX52, xX53, xX54, xX55, xX56, xX57, xX58⟩ := X5.ce9 rfl rfl rfl rfl rfl rfl rfl rfl rfl
      obtain ⟨xX60, xX61, xX62, xX63, xX64, xX65, xX66, xX67, xX68⟩ := X6.ce9 rfl rfl rfl rfl rfl rfl rfl rfl rfl
      go_upto_region 5 with (fail)
      clear xX50 xX51 xX52 xX53 xX54 xX55 xX56 xX57 xX58 xX60 xX61 xX62 xX63 xX64 xX65 xX66 xX67 xX68
      refine Jo.region_joint (T := [0, 1, 2, 3, 4, 5, 6, 7, 8, 9, 10, 11, 12]) (ds := [some 18, some 19, some 20, some 21, some 22, some 23, some 24, some 25, some 26, some 27, some 28, some 29, some 30, none]) (ls := [[], [0], [], [2], [1, 3], [4], [], [6], [], [8], [7, 9], [10], [5, 11], []]) (k := 14) (L := [(some 18, 0), (some 19, 1), (some 20, 2), (some 21, 3), (some 22, 4), (some 23, 5), (some 24, 6), (some 25, 7), (some 26, 8), (some 27, 9), (some 28, 10), (some 29, 11), (some 30, 12)]) (fuel := 1) (J := fun wj => Below (World.heap w5).size w5 wj)
        (F := [Jo.Fact.eq (.pointer (some ⟨w2.heap.size, 1, none⟩)), Jo.Fact.eq (.agg #[.int .i64 K1, .bool s1, .int .u64 M1, .int .i64 E1]), Jo.Fact.eq (.pointer (some ⟨w4.heap.size, 1, none⟩)), Jo.Fact.eq (.agg #[.int .i64 K2, .bool s2, .int .u64 M2, .int .i64 E2]), Jo.Fact.nl 2 [xa, ya], Jo.Fact.num u, Jo.Fact.eq (.pointer (some ⟨w2.heap.size, 5, none⟩)), Jo.Fact.eq (.agg #[.int .i64 K1b, .bool s1b, .int .u64 M1b, .int .i64 E1b]), Jo.Fact.eq (.pointer (some ⟨w4.heap.size, 5, none⟩)), Jo.Fact.eq (.agg #[.int .i64 K2b, .bool s2b, .int .u64 M2b, .int .i64 E2b]), Jo.Fact.nl 2 [xb, yb], Jo.Fact.num l, Jo.Fact.iv z, Jo.Fact.any])
        (by kernel_rfl) (by kernel_rfl) (by decide) rfl rfl (fun _ _ h b => bt h b) ((Below.refl _ _).drew) ?_ (fun vs w8 hJ hd => ?_)
      · refine Jo.jd 0 (some 18) [] (Jo.Fact.eq (.pointer (some ⟨w2.heap.size, 1, none⟩))) rfl rfl rfl rfl (fun vs wj hJ hd K hK => ?_) ?_
        · simp only [Jo.putl, Jo.ze, Act.put, Jo.za, Jo.zb, Jo.zc] at hK ⊢
          clear hd
          go_simp
          exact hK.out _ _ rfl (Below.refl _ _)
        refine Jo.jd 1 (some 19) [(some 18, 0)] (Jo.Fact.eq (.agg #[.int .i64 K1, .bool s1, .int .u64 M1, .int .i64 E1])) rfl rfl rfl rfl (fun vs wj hJ hd K hK => ?_) ?_
        · simp only [Jo.putl, Jo.zd, Jo.ze, Act.put, Jo.za, Jo.zb, Jo.zc] at hK ⊢
          rw [show vs 0 = _ from hd 0 (by decide)] at hK ⊢
          clear hd
          have xX50 := (X5.below hJ).a 0 (.bool false) rfl
          have xX51 := (X5.below hJ).a 1 (.int .i64 K1) rfl
          have xX52 := (X5.below hJ).a 2 (.bool s1) rfl
          have xX53 := (X5.below hJ).a 3 (.int .u64 M1) rfl
          have xX54 := (X5.below hJ).a 4 (.int .i64 E1) rfl
          have xX55 := (X5.below hJ).a 5 (.int .i64 K1b) rfl
          have xX56 := (X5.below hJ).a 6 (.bool s1b) rfl
          have xX57 := (X5.below hJ).a 7 (.int .u64 M1b) rfl
          have xX58 := (X5.below hJ).a 8 (.int .i64 E1b) rfl
          go_simp
          exact hK.out _ _ rfl (Below.refl _ _)
        refine Jo.jd 2 (some 20) [] (Jo.Fact.eq (.pointer (some ⟨w4.heap.size, 1, none⟩))) rfl rfl rfl rfl (fun vs wj hJ hd K hK => ?_) ?_
        · simp only [Jo.putl, Jo.ze, Act.put, Jo.za, Jo.zb, Jo.zc] at hK ⊢
          clear hd
          go_simp
          exact hK.out _ _ rfl (Below.refl _ _)
        refine Jo.jd 3 (some 21) [(some 20, 2)] (Jo.Fact.eq (.agg #[.int .i64 K2, .bool s2, .int .u64 M2, .int .i64 E2])) rfl rfl rfl rfl (fun vs wj hJ hd K hK => ?_) ?_
        · simp only [Jo.putl, Jo.zd, Jo.ze, Act.put, Jo.za, Jo.zb, Jo.zc] at hK ⊢
          rw [show vs 2 = _ from hd 2 (by decide)] at hK ⊢
          clear hd
          have xX60 := (X6.below hJ).a 0 (.bool false) rfl
          have xX61 := (X6.below hJ).a 1 (.int .i64 K2) rfl
          have xX62 := (X6.below hJ).a 2 (.bool s2) rfl
          have xX63 := (X6.below hJ).a 3 (.int .u64 M2) rfl
          have xX64 := (X6.below hJ).a 4 (.int .i64 E2) rfl
          have xX65 := (X6.below hJ).a 5 (.int .i64 K2b) rfl
          have xX66 := (X6.below hJ).a 6 (.bool s2b) rfl
          have xX67 := (X6.below hJ).a 7 (.int .u64 M2b) rfl
          have xX68 := (X6.below hJ).a 8 (.int .i64 E2b) rfl
          go_simp
          exact hK.out _ _ rfl (Below.refl _ _)
        refine Jo.jd 4 (some 22) [(some 19, 1), (some 21, 3)] (Jo.Fact.nl 2 [xa, ya]) rfl rfl rfl rfl (fun vs wj hJ hd K hK => ?_) ?_
        · simp only [Jo.putl, Jo.zd, Jo.ze, Act.put, Jo.za, Jo.zb, Jo.zc] at hK ⊢
          rw [show vs 1 = _ from hd 1 (by decide), show vs 3 = _ from hd 3 (by decide)] at hK ⊢
          clear hd
          go_simp
          exact hK.out _ _ ⟨_, 2, rfl, Nl.lit2 rfl a1.top a2.top a1.rk a2.rk⟩ (bel1 _ _)
        refine Jo.jd 5 (some 23) [(some 22, 4)] (Jo.Fact.num u) rfl rfl rfl rfl (fun vs wj hJ hd K hK => ?_) ?_
        · have d4 : (Jo.Fact.nl 2 [xa, ya]).P (vs 4) wj := hd 4 (by decide)
          simp only [Jo.putl, Jo.zd, Jo.ze, Act.put, Jo.za, Jo.zb, Jo.zc] at hK ⊢
          clear hd
          generalize vs 4 = u4 at hK d4 ⊢
          obtain ⟨A4, c4, rfl, h4⟩ := d4
          go_simp
          refine (yMost h4 HU.out).mono ?_
          rintro ee wk ⟨K3, s3, M3, E3, rfl, q3, B⟩
          exact hK.out _ _ ⟨K3, s3, M3, E3, rfl, q3⟩ B
        refine Jo.jd 6 (some 24) [] (Jo.Fact.eq (.pointer (some ⟨w2.heap.size, 5, none⟩))) rfl rfl rfl rfl (fun vs wj hJ hd K hK => ?_) ?_
        · simp only [Jo.putl, Jo.ze, Act.put, Jo.za, Jo.zb, Jo.zc] at hK ⊢
          clear hd
          go_simp
          exact hK.out _ _ rfl (Below.refl _ _)
        refine Jo.jd 7 (some 25) [(some 24, 6)] (Jo.Fact.eq (.agg #[.int .i64 K1b, .bool s1b, .int .u64 M1b, .int .i64 E1b])) rfl rfl rfl rfl (fun vs wj hJ hd K hK => ?_) ?_
        · simp only [Jo.putl, Jo.zd, Jo.ze, Act.put, Jo.za, Jo.zb, Jo.zc] at hK ⊢
          rw [show vs 6 = _ from hd 6 (by decide)] at hK ⊢
          clear hd
          have xX50 := (X5.below hJ).a 0 (.bool false) rfl
          have xX51 := (X5.below hJ).a 1 (.int .i64 K1) rfl
          have xX52 := (X5.below hJ).a 2 (.bool s1) rfl
          have xX53 := (X5.below hJ).a 3 (.int .u64 M1) rfl
          have xX54 := (X5.below hJ).a 4 (.int .i64 E1) rfl
          have xX55 := (X5.below hJ).a 5 (.int .i64 K1b) rfl
          have xX56 := (X5.below hJ).a 6 (.bool s1b) rfl
          have xX57 := (X5.below hJ).a 7 (.int .u64 M1b) rfl
          have xX58 := (X5.below hJ).a 8 (.int .i64 E1b) rfl
          go_simp
          exact hK.out _ _ rfl (Below.refl _ _)
        refine Jo.jd 8 (some 26) [] (Jo.Fact.eq (.pointer (some ⟨w4.heap.size, 5, none⟩))) rfl rfl rfl rfl (fun vs wj hJ hd K hK => ?_) ?_
        · simp only [Jo.putl, Jo.ze, Act.put, Jo.za, Jo.zb, Jo.zc] at hK ⊢
          clear hd
          go_simp
          exact hK.out _ _ rfl (Below.refl _ _)
        refine Jo.jd 9 (some 27) [(some 26, 8)] (Jo.Fact.eq (.agg #[.int .i64 K2b, .bool s2b, .int .u64 M2b, .int .i64 E2b])) rfl rfl rfl rfl (fun vs wj hJ hd K hK => ?_) ?_
        · simp only [Jo.putl, Jo.zd, Jo.ze, Act.put, Jo.za, Jo.zb, Jo.zc] at hK ⊢
          rw [show vs 8 = _ from hd 8 (by decide)] at hK ⊢
          clear hd
          have xX60 := (X6.below hJ).a 0 (.bool false) rfl
          have xX61 := (X6.below hJ).a 1 (.int .i64 K2) rfl
          have xX62 := (X6.below hJ).a 2 (.bool s2) rfl
          have xX63 := (X6.below hJ).a 3 (.int .u64 M2) rfl
          have xX64 := (X6.below hJ).a 4 (.int .i64 E2) rfl
          have xX65 := (X6.below hJ).a 5 (.int .i64 K2b) rfl
          have xX66 := (X6.below hJ).a 6 (.bool s2b) rfl
          have xX67 := (X6.below hJ).a 7 (.int .u64 M2b) rfl
          have xX68 := (X6.below hJ).a 8 (.int .i64 E2b) rfl
          go_simp
          exact hK.out _ _ rfl (Below.refl _ _)
        refine Jo.jd 10 (some 28) [(some 25, 7), (some 27, 9)] (Jo.Fact.nl 2 [xb, yb]) rfl rfl rfl rfl (fun vs wj hJ hd K hK => ?_) ?_
        · simp only [Jo.putl, Jo.zd, Jo.ze, Act.put, Jo.za, Jo.zb, Jo.zc] at hK ⊢
          rw [show vs 7 = _ from hd 7 (by decide), show vs 9 = _ from hd 9 (by decide)] at hK ⊢
          clear hd
          go_simp
          exact hK.out _ _ ⟨_, 2, rfl, Nl.lit2 rfl b1.top b2.top b1.rk b2.rk⟩ (bel1 _ _)
        refine Jo.jd 11 (some 29) [(some 28, 10)] (Jo.Fact.num l) rfl rfl rfl rfl (fun vs wj hJ hd K hK => ?_) ?_
        · have d10 : (Jo.Fact.nl 2 [xb, yb]).P (vs 10) wj := hd 10 (by decide)
          simp only [Jo.putl, Jo.zd, Jo.ze, Act.put, Jo.za, Jo.zb, Jo.zc] at hK ⊢
          clear hd
          generalize vs 10 = u10 at hK d10 ⊢
          obtain ⟨A5, c5, rfl, h5⟩ := d10
          go_simp
          refine (yLeast h5 HL.out).mono ?_
          rintro ee wk ⟨K4, s4, M4, E4, rfl, q4, B⟩
          exact hK.out _ _ ⟨K4, s4, M4, E4, rfl, q4⟩ B
        refine Jo.jd 12 (some 30) [(some 23, 5), (some 29, 11)] (Jo.Fact.iv z) rfl rfl rfl rfl (fun vs wj hJ hd K hK => ?_) ?_
        · have d5 : (Jo.Fact.num u).P (vs 5) wj := hd 5 (by decide)
          have d11 : (Jo.Fact.num l).P (vs 11) wj := hd 11 (by decide)
          simp only [Jo.putl, Jo.zd, Jo.ze, Act.put, Jo.za, Jo.zb, Jo.zc] at hK ⊢
          clear hd
          generalize vs 5 = u5 at hK d5 ⊢
          generalize vs 11 = u11 at hK d11 ⊢
          obtain ⟨K3, s3, M3, E3, rfl, q3⟩ := d5
          obtain ⟨K4, s4, M4, E4, rfl, q4⟩ := d11
          go_simp
          refine (jvMake q3.top q4.top q3.rk q4.rk HR.out).mono ?_
          rintro ee wk ⟨e5, K5, s5, M5, E5, K5b, s5b, M5b, E5b, rfl, v5, B⟩
          exact hK.out _ _ ⟨e5, K5, s5, M5, E5, K5b, s5b, M5b, E5b, rfl, v5⟩ B
        exact Jo.Steps.nil
      have d4 : (Jo.Fact.nl 2 [xa, ya]).P (vs 4) w8 := hd 4 (by decide)
      have d5 : (Jo.Fact.num u).P (vs 5) w8 := hd 5 (by decide)
      have d10 : (Jo.Fact.nl 2 [xb, yb]).P (vs 10) w8 := hd 10 (by decide)
      have d11 : (Jo.Fact.num l).P (vs 11) w8 := hd 11 (by decide)
      have d12 : (Jo.Fact.iv z).P (vs 12) w8 := hd 12 (by decide)
      simp only [Jo.putl, Jo.zd, Jo.ze, Act.put, Jo.za, Jo.zb, Jo.zc]
      rw [show vs 1 = _ from hd 1 (by decide), show vs 3 = _ from hd 3 (by decide), show vs 7 = _ from hd 7 (by decide), show vs 9 = _ from hd 9 (by decide)]
      clear hd
      generalize vs 4 = u4 at d4 ⊢
      generalize vs 5 = u5 at d5 ⊢
      generalize vs 10 = u10 at d10 ⊢
      generalize vs 11 = u11 at d11 ⊢
      generalize vs 12 = u12 at d12 ⊢
      obtain ⟨A4, c4, rfl, _⟩ := d4
      obtain ⟨K3, s3, M3, E3, rfl, q3⟩ := d5
      obtain ⟨A5, c5, rfl, _⟩ := d10
      obtain ⟨K4, s4, M4, E4, rfl, q4⟩ := d11
      obtain ⟨e5, K5, s5, M5, E5, K5b, s5b, M5b, E5b, rfl, v5⟩ := d12
      replace XR := XR.below hJ
      replace X5 := X5.below hJ
      replace X6 := X6.below hJ
      replace HB := Lib.hid (bt HB.out hJ)
      obtain ⟨xXR0, xXR1, xXR2, xXR3, xXR4, xXR5, xXR6, xXR7, xXR8⟩ := XR.ce9 rfl rfl rfl rfl rfl rfl rfl rfl rfl
      have zXR0 := XR.frozen
      refine Jo.jnext (i := 13) (o := ⟨none, _, _, _, _, _⟩) (by kernel_rfl) rfl (fun K hK => ?_)
      go_simp
      refine hK.out _ _ ?_
      clear hK K xXR0 zXR0 xXR1 xXR2 xXR3 xXR4 xXR5 xXR6 xXR7 xXR8
      have SX := StN.mk9 XR (.bool e5) (.int .i64 K5) (.bool s5) (.int .u64 M5) (.int .i64 E5) (.int .i64 K5b) (.bool s5b) (.int .u64 M5b) (.int .i64 E5b)
      refine Jo.jdone (by kernel_rfl) ?_
      go_wp2
      exact bodyPost_ret (v := .agg #[.bool e5, .int .i64 K5, .bool s5, .int .u64 M5, .int .i64 E5, .int .i64 K5b, .bool s5b, .int .u64 M5b, .int .i64 E5b]) (by simp [results, Try.results41, go_sem, SX.box.cell]) rfl ⟨_, _, _, _, _, _, _, _, _, rfl, v5, (SX.below HB.out (by omega))⟩
set_option maxHeartbeats 2000000 in
theorem jvBoth {w : World} {e : Bool} {D M E D' M' E' : Int} {s s' : Bool} {e2 : Bool} {G P Q G' P' Q' : Int} {g g' : Bool} {x y z : Sp} (hM : M < 18446744073709551616) (hM' : M' < 18446744073709551616) (hP : P < 18446744073709551616) (hP' : P' < 18446744073709551616) (hx : rkI e D s M E D' s' M' E' = x) (hy : rkI e2 G g P Q G' g' P' Q' = y) (hr : hullI x y = z) : Calls Try.prog 42 #[.agg #[.bool e, .int .i64 D, .bool s, .int .u64 M, .int .i64 E, .int .i64 D', .bool s', .int .u64 M', .int .i64 E'], .agg #[.bool e2, .int .i64 G, .bool g, .int .u64 P, .int .i64 Q, .int .i64 G', .bool g', .int .u64 P', .int .i64 Q']] w (PV w z) := by
  have HX := Lib.hid hx
  have HY := Lib.hid hy
  clear hx hy
  go_enter Try.func42, Try.ntmps42
  go_upto_region 1 with (fail)
  have X2 := (Bo.newAt w (g := w.heap.size) (by simp) #[.bool e, .int .i64 D, .bool s, .int .u64 M, .int .i64 E, .int .i64 D', .bool s', .int .u64 M', .int .i64 E'] 26).below (bel2 _ (.cells #[.bool e2, .int .i64 G, .bool g, .int .u64 P, .int .i64 Q, .int .i64 G', .bool g', .int .u64 P', .int .i64 Q'] 26) (.cells #[.bool false, .int .i64 0, .bool false, .int .u64 0, .int .i64 0, .int .i64 0, .bool false, .int .u64 0, .int .i64 0] 26))
  have X3 := (Bo.newAt (w.alloc (.cells #[.bool e, .int .i64 D, .bool s, .int .u64 M, .int .i64 E, .int .i64 D', .bool s', .int .u64 M', .int .i64 E'] 26)) (g := w.heap.size + 1) (by simp) #[.bool e2, .int .i64 G, .bool g, .int .u64 P, .int .i64 Q, .int .i64 G', .bool g', .int .u64 P', .int .i64 Q'] 26).below (bel1 _ (.cells #[.bool false, .int .i64 0, .bool false, .int .u64 0, .int .i64 0, .int .i64 0, .bool false, .int .u64 0, .int .i64 0] 26))
  have XR := (Bo.newAt ((w.alloc (.cells #[.bool e, .int .i64 D, .bool s, .int .u64 M, .int .i64 E, .int .i64 D', .bool s', .int .u64 M', .int .i64 E'] 26)).alloc (.cells #[.bool e2, .int .i64 G, .bool g, .int .u64 P, .int .i64 Q, .int .i64 G', .bool g', .int .u64 P', .int .i64 Q'] 26)) (g := w.heap.size + 1 + 1) (by simp) #[.bool false, .int .i64 0, .bool false, .int .u64 0, .int .i64 0, .int .i64 0, .bool false, .int .u64 0, .int .i64 0] 26)
  have HB := Lib.hid (bel3 w (.cells #[.bool e, .int .i64 D, .bool s, .int .u64 M, .int .i64 E, .int .i64 D', .bool s', .int .u64 M', .int .i64 E'] 26) (.cells #[.bool e2, .int .i64 G, .bool g, .int .u64 P, .int .i64 Q, .int .i64 G', .bool g', .int .u64 P', .int .i64 Q'] 26) (.cells #[.bool false, .int .i64 0, .bool false, .int .u64 0, .int .i64 0, .int .i64 0, .bool false, .int .u64 0, .int .i64 0] 26))
  generalize hW1 : (((w.alloc (.cells #[.bool e, .int .i64 D, .bool s, .int .u64 M, .int .i64 E, .int .i64 D', .bool s', .int .u64 M', .int .i64 E'] 26)).alloc (.cells #[.bool e2, .int .i64 G, .bool g, .int .u64 P, .int .i64 Q, .int .i64 G', .bool g', .int .u64 P', .int .i64 Q'] 26)).alloc (.cells #[.bool false, .int .i64 0, .bool false, .int .u64 0, .int .i64 0, .int .i64 0, .bool false, .int .u64 0, .int .i64 0] 26)) = w1 at *
  clear hW1
  obtain ⟨xX20, xX21, xX22, xX23, xX24, xX25, xX26, xX27, xX28⟩ := X2.ce9 rfl rfl rfl rfl rfl rfl rfl rfl rfl
  go_wp2_with fail
  refine (jvFair hM hM' HX.out).mono ?_
  rintro ee w2 ⟨e1, K1, s1, M1, E1, K1b, s1b, M1b, E1b, rfl, v1, B⟩
  clear xX20 xX21 xX22 xX23 xX24 xX25 xX26 xX27 xX28
  replace X2 := X2.below B
  replace X3 := X3.below B
  replace XR := XR.below B
  replace HB := Lib.hid (bt HB.out B)
  clear B
  go_upto_region 2 with (fail)
  have lX5 := Nat.le_refl (World.heap w2).size
  have nX5X2 := X2.lt
  have nX5X3 := X3.lt
  have nX5XR := XR.lt
  replace X2 := X2.below (bel1 _ (.cells #[.bool e1, .int .i64 K1, .bool s1, .int .u64 M1, .int .i64 E1, .int .i64 K1b, .bool s1b, .int .u64 M1b, .int .i64 E1b] 26))
  replace X3 := X3.below (bel1 _ (.cells #[.bool e1, .int .i64 K1, .bool s1, .int .u64 M1, .int .i64 E1, .int .i64 K1b, .bool s1b, .int .u64 M1b, .int .i64 E1b] 26))
  replace XR := XR.below (bel1 _ (.cells #[.bool e1, .int .i64 K1, .bool s1, .int .u64 M1, .int .i64 E1, .int .i64 K1b, .bool s1b, .int .u64 M1b, .int .i64 E1b] 26))
  replace HB := Lib.hid (bt HB.out (bel1 _ (.cells #[.bool e1, .int .i64 K1, .bool s1, .int .u64 M1, .int .i64 E1, .int .i64 K1b, .bool s1b, .int .u64 M1b, .int .i64 E1b] 26)))
  have X5 := Bo.new w2 #[.bool e1, .int .i64 K1, .bool s1, .int .u64 M1, .int .i64 E1, .int .i64 K1b, .bool s1b, .int .u64 M1b, .int .i64 E1b] 26
  generalize hWn : World.alloc w2 (.cells #[.bool e1, .int .i64 K1, .bool s1, .int .u64 M1, .int .i64 E1, .int .i64 K1b, .bool s1b, .int .u64 M1b, .int .i64 E1b] 26) = w3 at *
  clear hWn
  clear lX5
  obtain ⟨xX30, xX31, xX32, xX33, xX34, xX35, xX36, xX37, xX38⟩ := X3.ce9 rfl rfl rfl rfl rfl rfl rfl rfl rfl
  go_wp2_with fail
  refine (jvFair hP hP' HY.out).mono ?_
  rintro ee w4 ⟨e2, K2, s2, M2, E2, K2b, s2b, M2b, E2b, rfl, v2, B⟩
  clear xX30 xX31 xX32 xX33 xX34 xX35 xX36 xX37 xX38
  replace X2 := X2.below B
  replace X3 := X3.below B
  replace XR := XR.below B
  replace X5 := X5.below B
  replace HB := Lib.hid (bt HB.out B)
  clear B
  go_upto_region 3 with (fail)
  have lX6 := Nat.le_refl (World.heap w4).size
  have nX6X2 := X2.lt
  have nX6X3 := X3.lt
  have nX6XR := XR.lt
  have nX6X5 := X5.lt
  replace X2 := X2.below (bel1 _ (.cells #[.bool e2, .int .i64 K2, .bool s2, .int .u64 M2, .int .i64 E2, .int .i64 K2b, .bool s2b, .int .u64 M2b, .int .i64 E2b] 26))
  replace X3 := X3.below (bel1 _ (.cells #[.bool e2, .int .i64 K2, .bool s2, .int .u64 M2, .int .i64 E2, .int .i64 K2b, .bool s2b, .int .u64 M2b, .int .i64 E2b] 26))
  replace XR := XR.below (bel1 _ (.cells #[.bool e2, .int .i64 K2, .bool s2, .int .u64 M2, .int .i64 E2, .int .i64 K2b, .bool s2b, .int .u64 M2b, .int .i64 E2b] 26))
  replace X5 := X5.below (bel1 _ (.cells #[.bool e2, .int .i64 K2, .bool s2, .int .u64 M2, .int .i64 E2, .int .i64 K2b, .bool s2b, .int .u64 M2b, .int .i64 E2b] 26))
  replace HB := Lib.hid (bt HB.out (bel1 _ (.cells #[.bool e2, .int .i64 K2, .bool s2, .int .u64 M2, .int .i64 E2, .int .i64 K2b, .bool s2b, .int .u64 M2b, .int .i64 E2b] 26)))
  have X6 := Bo.new w4 #[.bool e2, .int .i64 K2, .bool s2, .int .u64 M2, .int .i64 E2, .int .i64 K2b, .bool s2b, .int .u64 M2b, .int .i64 E2b] 26
  generalize hWn : World.alloc w4 (.cells #[.bool e2, .int .i64 K2, .bool s2, .int .u64 M2, .int .i64 E2, .int .i64 K2b, .bool s2b, .int .u64 M2b, .int .i64 E2b] 26) = w5 at *
  clear hWn
  clear lX6
  clear HX HY hM hM' hP hP'
  rcases x with _ | ⟨xa, xb⟩
  · obtain ⟨rfl, y1, y1b⟩ := v1
    obtain rfl : y = z := hr
    obtain ⟨xXR0, xXR1, xXR2, xXR3, xXR4, xXR5, xXR6, xXR7, xXR8⟩ := XR.ce9 rfl rfl rfl rfl rfl rfl rfl rfl rfl
    have zXR0 := XR.frozen
    obtain ⟨xX50, xX51, xX52, xX53, xX54, xX55, xX56, xX57, xX58⟩ := X5.ce9 rfl rfl rfl rfl rfl rfl rfl rfl rfl
    obtain ⟨xX60, xX61, xX62, xX63, xX64, xX65, xX66, xX67, xX68⟩ := X6.ce9 rfl rfl rfl rfl rfl rfl rfl rfl rfl
    go_wp2
    clear xXR0 zXR0 xXR1 xXR2 xXR3 xXR4 xXR5 xXR6 xXR7 xXR8 xX50 xX51 xX52 xX53 xX54 xX55 xX56 xX57 xX58 xX60 xX61 xX62 xX63 xX64 xX65 xX66 xX67 xX68
    have SX := StN.mk9 XR (.bool e2) (.int .i64 K2) (.bool s2) (.int .u64 M2) (.int .i64 E2) (.int .i64 K2b) (.bool s2b) (.int .u64 M2b) (.int .i64 E2b)
    exact bodyPost_ret (v := .agg #[.bool e2, .int .i64 K2, .bool s2, .int .u64 M2, .int .i64 E2, .int .i64 K2b, .bool s2b, .int .u64 M2b, .int .i64 E2b]) (by simp [results, Try.results42, go_sem, SX.box.cell]) rfl ⟨_, _, _, _, _, _, _, _, _, rfl, v2, (SX.below HB.out (by omega))⟩
  · obtain ⟨rfl, a1, b1, o1, o1l, o1h⟩ := v1
    rcases y with _ | ⟨ya, yb⟩
    · obtain ⟨rfl, y2, y2b⟩ := v2
      obtain rfl : some (xa, xb) = z := hr
      obtain ⟨xXR0, xXR1, xXR2, xXR3, xXR4, xXR5, xXR6, xXR7, xXR8⟩ := XR.ce9 rfl rfl rfl rfl rfl rfl rfl rfl rfl
      have zXR0 := XR.frozen
      obtain ⟨xX50, xX51, xX52, xX53, xX54, xX55, xX56, xX57, xX58⟩ := X5.ce9 rfl rfl rfl rfl rfl rfl rfl rfl rfl
      obtain ⟨xX60, xX61, xX62, xX63, xX64, xX65, xX66, xX67, xX68⟩ := X6.ce9 rfl rfl rfl rfl rfl rfl rfl rfl rfl
      go_wp2
      clear xXR0 zXR0 xXR1 xXR2 xXR3 xXR4 xXR5 xXR6 xXR7 xXR8 xX50 xX51 xX52 xX53 xX54 xX55 xX56 xX57 xX58 xX60 xX61 xX62 xX63 xX64 xX65 xX66 xX67 xX68
      have SX := StN.mk9 XR (.bool false) (.int .i64 K1) (.bool s1) (.int .u64 M1) (.int .i64 E1) (.int .i64 K1b) (.bool s1b) (.int .u64 M1b) (.int .i64 E1b)
      exact bodyPost_ret (v := .agg #[.bool false, .int .i64 K1, .bool s1, .int .u64 M1, .int .i64 E1, .int .i64 K1b, .bool s1b, .int .u64 M1b, .int .i64 E1b]) (by simp [results, Try.results42, go_sem, SX.box.cell]) rfl ⟨_, _, _, _, _, _, _, _, _, rfl, ⟨rfl, a1, b1, o1, o1l, o1h⟩, (SX.below HB.out (by omega))⟩
    · obtain ⟨rfl, a2, b2, o2, o2l, o2h⟩ := v2
      have hu : mnp [xa, ya] = min xa ya := mnp_two a1.bd.2
      have hl : mxp [xb, yb] = max xb yb := mxp_two b1.bd.1
      obtain ⟨u, hu2⟩ : ∃ u, min xa ya = u := ⟨_, rfl⟩
      obtain ⟨l, hl2⟩ : ∃ l, max xb yb = l := ⟨_, rfl⟩
      have hr2 : mkI u l = z := by rw [← hu2, ← hl2]; exact hr
      rw [hu2] at hu
      rw [hl2] at hl
      have HU := Lib.hid hu
      have HL := Lib.hid hl
      have HR := Lib.hid hr2
      clear hu hl hu2 hl2 hr hr2 o1 o1l o1h o2 o2l o2h
      obtain ⟨xX50, xX51, xX52, xX53, xX54, xX55, xX56, xX57, xX58⟩ := X5.ce9 rfl rfl rfl rfl rfl rfl rfl rfl rfl
      obtain ⟨xX60, xX61, xX62, xX63, xX64, xX65, xX66, xX67, xX68⟩ := X6.ce9 rfl rfl rfl rfl rfl rfl rfl rfl rfl
      go_upto_region 7 with (fail)
      clear xX50 xX51 xX52 xX53 xX54 xX55 xX56 xX57 xX58 xX60 xX61 xX62 xX63 xX64 xX65 xX66 xX67 xX68
      refine Jo.region_joint (T := [0, 1, 2, 3, 4, 5, 6, 7, 8, 9, 10, 11, 12]) (ds := [some 17, some 18, some 19, some 20, some 21, some 22, some 23, some 24, some 25, some 26, some 27, some 28, some 29, none]) (ls := [[], [0], [], [2], [1, 3], [4], [], [6], [], [8], [7, 9], [10], [5, 11], []]) (k := 14) (L := [(some 17, 0), (some 18, 1), (some 19, 2), (some 20, 3), (some 21, 4), (some 22, 5), (some 23, 6), (some 24, 7), (some 25, 8), (some 26, 9), (some 27, 10), (some 28, 11), (some 29, 12)]) (fuel := 1) (J := fun wj => Below (World.heap w5).size w5 wj)
        (F := [Jo.Fact.eq (.pointer (some ⟨w2.heap.size, 1, none⟩)), Jo.Fact.eq (.agg #[.int .i64 K1, .bool s1, .int .u64 M1, .int .i64 E1]), Jo.Fact.eq (.pointer (some ⟨w4.heap.size, 1, none⟩)), Jo.Fact.eq (.agg #[.int .i64 K2, .bool s2, .int .u64 M2, .int .i64 E2]), Jo.Fact.nl 2 [xa, ya], Jo.Fact.num u, Jo.Fact.eq (.pointer (some ⟨w2.heap.size, 5, none⟩)), Jo.Fact.eq (.agg #[.int .i64 K1b, .bool s1b, .int .u64 M1b, .int .i64 E1b]), Jo.Fact.eq (.pointer (some ⟨w4.heap.size, 5, none⟩)), Jo.Fact.eq (.agg #[.int .i64 K2b, .bool s2b, .int .u64 M2b, .int .i64 E2b]), Jo.Fact.nl 2 [xb, yb], Jo.Fact.num l, Jo.Fact.iv z, Jo.Fact.any])
        (by kernel_rfl) (by kernel_rfl) (by decide) rfl rfl (fun _ _ h b => bt h b) ((Below.refl _ _).drew) ?_ (fun vs w8 hJ hd => ?_)
      · refine Jo.jd 0 (some 17) [] (Jo.Fact.eq (.pointer (some ⟨w2.heap.size, 1, none⟩))) rfl rfl rfl rfl (fun vs wj hJ hd K hK => ?_) ?_
        · simp only [Jo.putl, Jo.ze, Act.put, Jo.za, Jo.zb, Jo.zc] at hK ⊢
          clear hd
          go_simp
          exact hK.out _ _ rfl (Below.refl _ _)
        refine Jo.jd 1 (some 18) [(some 17, 0)] (Jo.Fact.eq (.agg #[.int .i64 K1, .bool s1, .int .u64 M1, .int .i64 E1])) rfl rfl rfl rfl (fun vs wj hJ hd K hK => ?_) ?_
        · simp only [Jo.putl, Jo.zd, Jo.ze, Act.put, Jo.za, Jo.zb, Jo.zc] at hK ⊢
          rw [show vs 0 = _ from hd 0 (by decide)] at hK ⊢
          clear hd
          have xX50 := (X5.below hJ).a 0 (.bool false) rfl
          have xX51 := (X5.below hJ).a 1 (.int .i64 K1) rfl
          have xX52 := (X5.below hJ).a 2 (.bool s1) rfl
          have xX53 := (X5.below hJ).a 3 (.int .u64 M1) rfl
          have xX54 := (X5.below hJ).a 4 (.int .i64 E1) rfl
          have xX55 := (X5.below hJ).a 5 (.int .i64 K1b) rfl
          have xX56 := (X5.below hJ).a 6 (.bool s1b) rfl
          have xX57 := (X5.below hJ).a 7 (.int .u64 M1b) rfl
          have xX58 := (X5.below hJ).a 8 (.int .i64 E1b) rfl
          go_simp
          exact hK.out _ _ rfl (Below.refl _ _)
        refine Jo.jd 2 (some 19) [] (Jo.Fact.eq (.pointer (some ⟨w4.heap.size, 1, none⟩))) rfl rfl rfl rfl (fun vs wj hJ hd K hK => ?_) ?_
        · simp only [Jo.putl, Jo.ze, Act.put, Jo.za, Jo.zb, Jo.zc] at hK ⊢
          clear hd
          go_simp
          exact hK.out _ _ rfl (Below.refl _ _)
        refine Jo.jd 3 (some 20) [(some 19, 2)] (Jo.Fact.eq (.agg #[.int .i64 K2, .bool s2, .int .u64 M2, .int .i64 E2])) rfl rfl rfl rfl (fun vs wj hJ hd K hK => ?_) ?_
        · simp only [Jo.putl, Jo.zd, Jo.ze, Act.put, Jo.za, Jo.zb, Jo.zc] at hK ⊢
          rw [show vs 2 = _ from hd 2 (by decide)] at hK ⊢
          clear hd
          have xX60 := (X6.below hJ).a 0 (.bool false) rfl
          have xX61 := (X6.below hJ).a 1 (.int .i64 K2) rfl
          have xX62 := (X6.below hJ).a 2 (.bool s2) rfl
          have xX63 := (X6.below hJ).a 3 (.int .u64 M2) rfl
          have xX64 := (X6.below hJ).a 4 (.int .i64 E2) rfl
          have xX65 := (X6.below hJ).a 5 (.int .i64 K2b) rfl
          have xX66 := (X6.below hJ).a 6 (.bool s2b) rfl
          have xX67 := (X6.below hJ).a 7 (.int .u64 M2b) rfl
          have xX68 := (X6.below hJ).a 8 (.int .i64 E2b) rfl
          go_simp
          exact hK.out _ _ rfl (Below.refl _ _)
        refine Jo.jd 4 (some 21) [(some 18, 1), (some 20, 3)] (Jo.Fact.nl 2 [xa, ya]) rfl rfl rfl rfl (fun vs wj hJ hd K hK => ?_) ?_
        · simp only [Jo.putl, Jo.zd, Jo.ze, Act.put, Jo.za, Jo.zb, Jo.zc] at hK ⊢
          rw [show vs 1 = _ from hd 1 (by decide), show vs 3 = _ from hd 3 (by decide)] at hK ⊢
          clear hd
          go_simp
          exact hK.out _ _ ⟨_, 2, rfl, Nl.lit2 rfl a1.top a2.top a1.rk a2.rk⟩ (bel1 _ _)
        refine Jo.jd 5 (some 22) [(some 21, 4)] (Jo.Fact.num u) rfl rfl rfl rfl (fun vs wj hJ hd K hK => ?_) ?_
        · have d4 : (Jo.Fact.nl 2 [xa, ya]).P (vs 4) wj := hd 4 (by decide)
          simp only [Jo.putl, Jo.zd, Jo.ze, Act.put, Jo.za, Jo.zb, Jo.zc] at hK ⊢
          clear hd
          generalize vs 4 = u4 at hK d4 ⊢
          obtain ⟨A4, c4, rfl, h4⟩ := d4
          go_simp
          refine (yLeast h4 HU.out).mono ?_
          rintro ee wk ⟨K3, s3, M3, E3, rfl, q3, B⟩
          exact hK.out _ _ ⟨K3, s3, M3, E3, rfl, q3⟩ B
        refine Jo.jd 6 (some 23) [] (Jo.Fact.eq (.pointer (some ⟨w2.heap.size, 5, none⟩))) rfl rfl rfl rfl (fun vs wj hJ hd K hK => ?_) ?_
        · simp only [Jo.putl, Jo.ze, Act.put, Jo.za, Jo.zb, Jo.zc] at hK ⊢
          clear hd
          go_simp
          exact hK.out _ _ rfl (Below.refl _ _)
        refine Jo.jd 7 (some 24) [(some 23, 6)] (Jo.Fact.eq (.agg #[.int .i64 K1b, .bool s1b, .int .u64 M1b, .int .i64 E1b])) rfl rfl rfl rfl (fun vs wj hJ hd K hK => ?_) ?_
        · simp only [Jo.putl, Jo.zd, Jo.ze, Act.put, Jo.za, Jo.zb, Jo.zc] at hK ⊢
          rw [show vs 6 = _ from hd 6 (by decide)] at hK ⊢
          clear hd
          have xX50 := (X5.below hJ).a 0 (.bool false) rfl
          have xX51 := (X5.below hJ).a 1 (.int .i64 K1) rfl
          have xX52 := (X5.below hJ).a 2 (.bool s1) rfl
          have xX53 := (X5.below hJ).a 3 (.int .u64 M1) rfl
          have xX54 := (X5.below hJ).a 4 (.int .i64 E1) rfl
          have xX55 := (X5.below hJ).a 5 (.int .i64 K1b) rfl
          have xX56 := (X5.below hJ).a 6 (.bool s1b) rfl
          have xX57 := (X5.below hJ).a 7 (.int .u64 M1b) rfl
          have xX58 := (X5.below hJ).a 8 (.int .i64 E1b) rfl
          go_simp
          exact hK.out _ _ rfl (Below.refl _ _)
        refine Jo.jd 8 (some 25) [] (Jo.Fact.eq (.pointer (some ⟨w4.heap.size, 5, none⟩))) rfl rfl rfl rfl (fun vs wj hJ hd K hK => ?_) ?_
        · simp only [Jo.putl, Jo.ze, Act.put, Jo.za, Jo.zb, Jo.zc] at hK ⊢
          clear hd
          go_simp
          exact hK.out _ _ rfl (Below.refl _ _)
        refine Jo.jd 9 (some 26) [(some 25, 8)] (Jo.Fact.eq (.agg #[.int .i64 K2b, .bool s2b, .int .u64 M2b, .int .i64 E2b])) rfl rfl rfl rfl (fun vs wj hJ hd K hK => ?_) ?_
        · simp only [Jo.putl, Jo.zd, Jo.ze, Act.put, Jo.za, Jo.zb, Jo.zc] at hK ⊢
          rw [show vs 8 = _ from hd 8 (by decide)] at hK ⊢
          clear hd
          have xX60 := (X6.below hJ).a 0 (.bool false) rfl
          have xX61 := (X6.below hJ).a 1 (.int .i64 K2) rfl
          have xX62 := (X6.below hJ).a 2 (.bool s2) rfl
          have xX63 := (X6.below hJ).a 3 (.int .u64 M2) rfl
          have xX64 := (X6.below hJ).a 4 (.int .i64 E2) rfl
          have xX65 := (X6.below hJ).a 5 (.int .i64 K2b) rfl
          have xX66 := (X6.below hJ).a 6 (.bool s2b) rfl
          have xX67 := (X6.below hJ).a 7 (.int .u64 M2b) rfl
          have xX68 := (X6.below hJ).a 8 (.int .i64 E2b) rfl
          go_simp
          exact hK.out _ _ rfl (Below.refl _ _)
        refine Jo.jd 10 (some 27) [(some 24, 7), (some 26, 9)] (Jo.Fact.nl 2 [xb, yb]) rfl rfl rfl rfl (fun vs wj hJ hd K hK => ?_) ?_
        · simp only [Jo.putl, Jo.zd, Jo.ze, Act.put, Jo.za, Jo.zb, Jo.zc] at hK ⊢
          rw [show vs 7 = _ from hd 7 (by decide), show vs 9 = _ from hd 9 (by decide)] at hK ⊢
          clear hd
          go_simp
          exact hK.out _ _ ⟨_, 2, rfl, Nl.lit2 rfl b1.top b2.top b1.rk b2.rk⟩ (bel1 _ _)
        refine Jo.jd 11 (some 28) [(some 27, 10)] (Jo.Fact.num l) rfl rfl rfl rfl (fun vs wj hJ hd K hK => ?_) ?_
        · have d10 : (Jo.Fact.nl 2 [xb, yb]).P (vs 10) wj := hd 10 (by decide)
          simp only [Jo.putl, Jo.zd, Jo.ze, Act.put, Jo.za, Jo.zb, Jo.zc] at hK ⊢
          clear hd
          generalize vs 10 = u10 at hK d10 ⊢
          obtain ⟨A5, c5, rfl, h5⟩ := d10
          go_simp
          refine (yMost h5 HL.out).mono ?_
          rintro ee wk ⟨K4, s4, M4, E4, rfl, q4, B⟩
          exact hK.out _ _ ⟨K4, s4, M4, E4, rfl, q4⟩ B
        refine Jo.jd 12 (some 29) [(some 22, 5), (some 28, 11)] (Jo.Fact.iv z) rfl rfl rfl rfl (fun vs wj hJ hd K hK => ?_) ?_
        · have d5 : (Jo.Fact.num u).P (vs 5) wj := hd 5 (by decide)
          have d11 : (Jo.Fact.num l).P (vs 11) wj := hd 11 (by decide)
          simp only [Jo.putl, Jo.zd, Jo.ze, Act.put, Jo.za, Jo.zb, Jo.zc] at hK ⊢
          clear hd
          generalize vs 5 = u5 at hK d5 ⊢
          generalize vs 11 = u11 at hK d11 ⊢
          obtain ⟨K3, s3, M3, E3, rfl, q3⟩ := d5
          obtain ⟨K4, s4, M4, E4, rfl, q4⟩ := d11
          go_simp
          refine (jvMake q3.top q4.top q3.rk q4.rk HR.out).mono ?_
          rintro ee wk ⟨e5, K5, s5, M5, E5, K5b, s5b, M5b, E5b, rfl, v5, B⟩
          exact hK.out _ _ ⟨e5, K5, s5, M5, E5, K5b, s5b, M5b, E5b, rfl, v5⟩ B
        exact Jo.Steps.nil
      have d4 : (Jo.Fact.nl 2 [xa, ya]).P (vs 4) w8 := hd 4 (by decide)
      have d5 : (Jo.Fact.num u).P (vs 5) w8 := hd 5 (by decide)
      have d10 : (Jo.Fact.nl 2 [xb, yb]).P (vs 10) w8 := hd 10 (by decide)
      have d11 : (Jo.Fact.num l).P (vs 11) w8 := hd 11 (by decide)
      have d12 : (Jo.Fact.iv z).P (vs 12) w8 := hd 12 (by decide)
      simp only [Jo.putl, Jo.zd, Jo.ze, Act.put, Jo.za, Jo.zb, Jo.zc]
      rw [show vs 1 = _ from hd 1 (by decide), show vs 3 = _ from hd 3 (by decide), show vs 7 = _ from hd 7 (by decide), show vs 9 = _ from hd 9 (by decide)]
      clear hd
      generalize vs 4 = u4 at d4 ⊢
      generalize vs 5 = u5 at d5 ⊢
      generalize vs 10 = u10 at d10 ⊢
      generalize vs 11 = u11 at d11 ⊢
      generalize vs 12 = u12 at d12 ⊢
      obtain ⟨A4, c4, rfl, _⟩ := d4
      obtain ⟨K3, s3, M3, E3, rfl, q3⟩ := d5
      obtain ⟨A5, c5, rfl, _⟩ := d10
      obtain ⟨K4, s4, M4, E4, rfl, q4⟩ := d11
      obtain ⟨e5, K5, s5, M5, E5, K5b, s5b, M5b, E5b, rfl, v5⟩ := d12
      replace XR := XR.below hJ
      replace X5 := X5.below hJ
      replace X6 := X6.below hJ
      replace HB := Lib.hid (bt HB.out hJ)
      obtain ⟨xXR0, xXR1, xXR2, xXR3, xXR4, xXR5, xXR6, xXR7, xXR8⟩ := XR.ce9 rfl rfl rfl rfl rfl rfl rfl rfl rfl
      have zXR0 := XR.frozen
      refine Jo.jnext (i := 13) (o := ⟨none, _, _, _, _, _⟩) (by kernel_rfl) rfl (fun K hK => ?_)
      go_simp
      refine hK.out _ _ ?_
      clear hK K xXR0 zXR0 xXR1 xXR2 xXR3 xXR4 xXR5 xXR6 xXR7 xXR8
      have SX := StN.mk9 XR (.bool e5) (.int .i64 K5) (.bool s5) (.int .u64 M5) (.int .i64 E5) (.int .i64 K5b) (.bool s5b) (.int .u64 M5b) (.int .i64 E5b)
      refine Jo.jdone (by kernel_rfl) ?_
      go_wp2
      exact bodyPost_ret (v := .agg #[.bool e5, .int .i64 K5, .bool s5, .int .u64 M5, .int .i64 E5, .int .i64 K5b, .bool s5b, .int .u64 M5b, .int .i64 E5b]) (by simp [results, Try.results42, go_sem, SX.box.cell]) rfl ⟨_, _, _, _, _, _, _, _, _, rfl, v5, (SX.below HB.out (by omega))⟩
def IvInv (w : World) (g3 : Nat) (x : Sp) (wr : World) : Prop :=
  ∃ e K s M E K' s' M' E', Bo wr w.heap.size #[.bool false, .int .i64 0, .bool false, .int .u64 0, .int .i64 0, .int .i64 0, .bool false, .int .u64 0, .int .i64 0] 26 ∧ Bo wr g3 #[.bool e, .int .i64 K, .bool s, .int .u64 M, .int .i64 E, .int .i64 K', .bool s', .int .u64 M', .int .i64 E'] 26 ∧ Ci e K s M E K' s' M' E' x ∧ Below w.heap.size w wr
set_option maxHeartbeats 4000000 in
theorem jvMeet {w : World} {A : Option Addr} {n c : Nat} {l : List Sp} {z : Sp} (h : Il8 w A n c l) (hr : meetL l = z) : Calls Try.prog 25 #[.slice A n c] w (PV w z) := by
  have HR := Lib.hid hr
  have HLn := Lib.hid h.1
  have hcap := h.2.1
  have hbig := h.2.2.1
  have hD0 := h
  clear hr
  go_enter Try.func25, Try.ntmps25
  go_upto_region 1 with (fail)
  have XR := (Bo.newAt w (g := w.heap.size) (by simp) #[.bool false, .int .i64 0, .bool false, .int .u64 0, .int .i64 0, .int .i64 0, .bool false, .int .u64 0, .int .i64 0] 26)
  have HB := Lib.hid (bel1 w (.cells #[.bool false, .int .i64 0, .bool false, .int .u64 0, .int .i64 0, .int .i64 0, .bool false, .int .u64 0, .int .i64 0] 26))
  replace h := h.below HB.out
  generalize hW1 : (w.alloc (.cells #[.bool false, .int .i64 0, .bool false, .int .u64 0, .int .i64 0, .int .i64 0, .bool false, .int .u64 0, .int .i64 0] 26)) = w1 at *
  clear hW1
  go_wp2_with fail
  refine (jvAll).mono ?_
  rintro ee w2 ⟨e1, K1, s1, M1, E1, K1b, s1b, M1b, E1b, rfl, v1, B⟩
  replace XR := XR.below B
  replace h := h.below B
  replace HB := Lib.hid (bt HB.out B)
  clear B
  go_upto_region 2 with (fail)
  have lX3 := Nat.le_refl (World.heap w2).size
  have nX3XR := XR.lt
  replace XR := XR.below (bel1 _ (.cells #[.bool e1, .int .i64 K1, .bool s1, .int .u64 M1, .int .i64 E1, .int .i64 K1b, .bool s1b, .int .u64 M1b, .int .i64 E1b] 26))
  replace h := h.below (bel1 _ (.cells #[.bool e1, .int .i64 K1, .bool s1, .int .u64 M1, .int .i64 E1, .int .i64 K1b, .bool s1b, .int .u64 M1b, .int .i64 E1b] 26))
  replace HB := Lib.hid (bt HB.out (bel1 _ (.cells #[.bool e1, .int .i64 K1, .bool s1, .int .u64 M1, .int .i64 E1, .int .i64 K1b, .bool s1b, .int .u64 M1b, .int .i64 E1b] 26)))
  have X3 := Bo.new w2 #[.bool e1, .int .i64 K1, .bool s1, .int .u64 M1, .int .i64 E1, .int .i64 K1b, .bool s1b, .int .u64 M1b, .int .i64 E1b] 26
  generalize hWn : World.alloc w2 (.cells #[.bool e1, .int .i64 K1, .bool s1, .int .u64 M1, .int .i64 E1, .int .i64 K1b, .bool s1b, .int .u64 M1b, .int .i64 E1b] 26) = w3 at *
  clear hWn
  have gne : w.heap.size < w2.heap.size := nX3XR
  clear lX3 nX3XR
  have hD1 := h
  generalize w2.heap.size = g3 at *
  have HI0 := Lib.hid (show IvInv w g3 (meetL (l.take 0)) w3 from ⟨_, _, _, _, _, _, _, _, _, XR, X3, v1, HB.out⟩)
  clear XR X3 v1 h
  go_wp2
  go_loopw [4] (fun i wr => ∃ k : Nat, k ≤ n ∧ i = .int .i64 k ∧ IvInv w g3 (meetL (l.take k)) wr) (fun i _ => n - (intOf i).toNat)
  case atStart => exact ⟨0, Nat.zero_le _, rfl, HI0.out⟩
  case round =>
    obtain ⟨k, hk, rfl, e1, K1, s1, M1, E1, K1b, s1b, M1b, E1b, XR, X3, v1, hB⟩ := hrel
    have HB := Lib.hid hB
    clear hB HI0
    by_cases hlt : k < n
    · have tlt : decide ((k : Int) < (n : Int)) = true := by simp; omega
      have h := hD0.below HB.out
      obtain ⟨b, o, rfl, hcell⟩ := h.2.2.2 (by omega)
      obtain ⟨e, D, s, M, E, D', s', M', E', c0, c1, c2, c3, c4, c5, c6, c7, c8, hM, hM', hx⟩ := hcell k hlt
      clear hcell h hD0 hD1
      have i1 : (k : Int) < n := by omega
      have i2 : (0 : Int) ≤ k := by omega
      have hst := meetL_take (l := l) (k := k) (by rw [HLn.out]; exact hlt)
      rw [← hx] at hst
      generalize meetL (l.take k) = R at *
      obtain ⟨x, hX⟩ : ∃ x, rkI e D s M E D' s' M' E' = x := ⟨_, rfl⟩
      rw [hX] at hst
      obtain ⟨r2, hr2⟩ : ∃ r2, meetI R x = r2 := ⟨_, rfl⟩
      rw [hr2] at hst
      have HX := Lib.hid hX
      have HST := Lib.hid hst
      have HAD := Lib.hid hr2
      clear hst hX hx hr2
      go_upto_region 5 with (fail)
      refine Jo.region_joint (T := [0, 1, 2, 3, 4, 5]) (ds := [some 12, some 13, some 14, some 15, some 16, some 17, none]) (ls := [[], [], [], [1, 2], [3], [0, 4], []]) (k := 7) (L := [(some 12, 0), (some 13, 1), (some 14, 2), (some 15, 3), (some 16, 4), (some 17, 5)]) (fuel := 1) (J := fun wj => Below (World.heap wr).size wr wj)
        (F := [Jo.Fact.eq (.agg #[.bool e1, .int .i64 K1, .bool s1, .int .u64 M1, .int .i64 E1, .int .i64 K1b, .bool s1b, .int .u64 M1b, .int .i64 E1b]), Jo.Fact.eq (.slice (some ⟨b, o, none⟩) n c), Jo.Fact.eq (.int .i64 k), Jo.Fact.eq (.pointer (some ⟨b, o + k * 9, none⟩)), Jo.Fact.eq (.agg #[.bool e, .int .i64 D, .bool s, .int .u64 M, .int .i64 E, .int .i64 D', .bool s', .int .u64 M', .int .i64 E']), Jo.Fact.iv r2, Jo.Fact.any])
        (by kernel_rfl) (by kernel_rfl) (by decide) rfl rfl (fun _ _ h b => bt h b) ((Below.refl _ _).drew) ?_ (fun vs w4 hJ hd => ?_)
      · refine Jo.jd 0 (some 12) [] (Jo.Fact.eq (.agg #[.bool e1, .int .i64 K1, .bool s1, .int .u64 M1, .int .i64 E1, .int .i64 K1b, .bool s1b, .int .u64 M1b, .int .i64 E1b])) rfl rfl rfl rfl (fun vs wj hJ hd K hK => ?_) ?_
        · simp only [Jo.putl, Jo.ze, Act.put, Jo.za, Jo.zb, Jo.zc] at hK ⊢
          clear hd
          have xX30 := (X3.below hJ).a 0 (.bool e1) rfl
          have xX31 := (X3.below hJ).a 1 (.int .i64 K1) rfl
          have xX32 := (X3.below hJ).a 2 (.bool s1) rfl
          have xX33 := (X3.below hJ).a 3 (.int .u64 M1) rfl
          have xX34 := (X3.below hJ).a 4 (.int .i64 E1) rfl
          have xX35 := (X3.below hJ).a 5 (.int .i64 K1b) rfl
          have xX36 := (X3.below hJ).a 6 (.bool s1b) rfl
          have xX37 := (X3.below hJ).a 7 (.int .u64 M1b) rfl
          have xX38 := (X3.below hJ).a 8 (.int .i64 E1b) rfl
          go_simp
          exact hK.out _ _ rfl (Below.refl _ _)
        refine Jo.jd 1 (some 13) [] (Jo.Fact.eq (.slice (some ⟨b, o, none⟩) n c)) rfl rfl rfl rfl (fun vs wj hJ hd K hK => ?_) ?_
        · simp only [Jo.putl, Jo.ze, Act.put, Jo.za, Jo.zb, Jo.zc] at hK ⊢
          clear hd
          go_simp
          exact hK.out _ _ rfl (Below.refl _ _)
        refine Jo.jd 2 (some 14) [] (Jo.Fact.eq (.int .i64 k)) rfl rfl rfl rfl (fun vs wj hJ hd K hK => ?_) ?_
        · simp only [Jo.putl, Jo.ze, Act.put, Jo.za, Jo.zb, Jo.zc] at hK ⊢
          clear hd
          go_simp
          exact hK.out _ _ rfl (Below.refl _ _)
        refine Jo.jd 3 (some 15) [(some 13, 1), (some 14, 2)] (Jo.Fact.eq (.pointer (some ⟨b, o + k * 9, none⟩))) rfl rfl rfl rfl (fun vs wj hJ hd K hK => ?_) ?_
        · simp only [Jo.putl, Jo.zd, Jo.ze, Act.put, Jo.za, Jo.zb, Jo.zc] at hK ⊢
          rw [show vs 1 = _ from hd 1 (by decide), show vs 2 = _ from hd 2 (by decide)] at hK ⊢
          clear hd
          go_simp
          exact hK.out _ _ rfl (Below.refl _ _)
        refine Jo.jd 4 (some 16) [(some 15, 3)] (Jo.Fact.eq (.agg #[.bool e, .int .i64 D, .bool s, .int .u64 M, .int .i64 E, .int .i64 D', .bool s', .int .u64 M', .int .i64 E'])) rfl rfl rfl rfl (fun vs wj hJ hd K hK => ?_) ?_
        · simp only [Jo.putl, Jo.zd, Jo.ze, Act.put, Jo.za, Jo.zb, Jo.zc] at hK ⊢
          rw [show vs 3 = _ from hd 3 (by decide)] at hK ⊢
          clear hd
          have c0' := (hJ.cell (p := ⟨b, _, none⟩) (block_lt_of_cell c0)).trans c0
          have c1' := (hJ.cell (p := ⟨b, _, none⟩) (block_lt_of_cell c1)).trans c1
          have c2' := (hJ.cell (p := ⟨b, _, none⟩) (block_lt_of_cell c2)).trans c2
          have c3' := (hJ.cell (p := ⟨b, _, none⟩) (block_lt_of_cell c3)).trans c3
          have c4' := (hJ.cell (p := ⟨b, _, none⟩) (block_lt_of_cell c4)).trans c4
          have c5' := (hJ.cell (p := ⟨b, _, none⟩) (block_lt_of_cell c5)).trans c5
          have c6' := (hJ.cell (p := ⟨b, _, none⟩) (block_lt_of_cell c6)).trans c6
          have c7' := (hJ.cell (p := ⟨b, _, none⟩) (block_lt_of_cell c7)).trans c7
          have c8' := (hJ.cell (p := ⟨b, _, none⟩) (block_lt_of_cell c8)).trans c8
          go_simp
          exact hK.out _ _ rfl (Below.refl _ _)
        refine Jo.jd 5 (some 17) [(some 12, 0), (some 16, 4)] (Jo.Fact.iv r2) rfl rfl rfl rfl (fun vs wj hJ hd K hK => ?_) ?_
        · simp only [Jo.putl, Jo.zd, Jo.ze, Act.put, Jo.za, Jo.zb, Jo.zc] at hK ⊢
          rw [show vs 0 = _ from hd 0 (by decide), show vs 4 = _ from hd 4 (by decide)] at hK ⊢
          clear hd
          go_simp
          refine (jvTwo v1.top.1 v1.top.2 hM hM' v1.rk HX.out HAD.out).mono ?_
          rintro ee wk ⟨e2, K2, s2, M2, E2, K2b, s2b, M2b, E2b, rfl, v2, B⟩
          exact hK.out _ _ ⟨e2, K2, s2, M2, E2, K2b, s2b, M2b, E2b, rfl, v2⟩ B
        exact Jo.Steps.nil
      have d5 : (Jo.Fact.iv r2).P (vs 5) w4 := hd 5 (by decide)
      simp only [Jo.putl, Jo.zd, Jo.ze, Act.put, Jo.za, Jo.zb, Jo.zc]
      rw [show vs 0 = _ from hd 0 (by decide), show vs 1 = _ from hd 1 (by decide), show vs 2 = _ from hd 2 (by decide), show vs 4 = _ from hd 4 (by decide)]
      clear hd
      generalize vs 5 = u5 at d5 ⊢
      obtain ⟨e2, K2, s2, M2, E2, K2b, s2b, M2b, E2b, rfl, v2⟩ := d5
      replace XR := XR.below hJ
      replace X3 := X3.below hJ
      replace HB := Lib.hid (bt HB.out hJ)
      obtain ⟨xX30, xX31, xX32, xX33, xX34, xX35, xX36, xX37, xX38⟩ := X3.ce9 rfl rfl rfl rfl rfl rfl rfl rfl rfl
      have zX30 := X3.frozen
      refine Jo.jnext (i := 6) (o := ⟨none, _, _, _, _, _⟩) (by kernel_rfl) rfl (fun K hK => ?_)
      go_simp
      refine hK.out _ _ ?_
      clear hK K xX30 zX30 xX31 xX32 xX33 xX34 xX35 xX36 xX37 xX38
      have SX := StN.mk9 X3 (.bool e2) (.int .i64 K2) (.bool s2) (.int .u64 M2) (.int .i64 E2) (.int .i64 K2b) (.bool s2b) (.int .u64 M2b) (.int .i64 E2b)
      replace XR := XR.stn SX (by omega)
      replace HB := Lib.hid (SX.below HB.out (by omega))
      replace X3 := SX.box
      clear SX
      generalize (World.setCell (World.setCell (World.setCell (World.setCell (World.setCell (World.setCell (World.setCell (World.setCell (World.setCell w4 ⟨g3, 0, none⟩ (.bool e2)) ⟨g3, 1, none⟩ (.int .i64 K2)) ⟨g3, 2, none⟩ (.bool s2)) ⟨g3, 3, none⟩ (.int .u64 M2)) ⟨g3, 4, none⟩ (.int .i64 E2)) ⟨g3, 5, none⟩ (.int .i64 K2b)) ⟨g3, 6, none⟩ (.bool s2b)) ⟨g3, 7, none⟩ (.int .u64 M2b)) ⟨g3, 8, none⟩ (.int .i64 E2b)) = w5 at *
      refine Jo.jdone (by kernel_rfl) ?_
      go_wp2
      go_roundw
      case rel =>
        refine ⟨k + 1, by omega, by go_num, e2, K2, s2, M2, E2, K2b, s2b, M2b, E2b, XR, X3, ?_, HB.out⟩
        rw [HST.out]; exact v2
      case measure => simp [intOf]; omega
    · obtain rfl : k = n := by omega
      rw [List.take_of_length_le (by rw [HLn.out]; omega), HR.out] at v1
      obtain ⟨xXR0, xXR1, xXR2, xXR3, xXR4, xXR5, xXR6, xXR7, xXR8⟩ := XR.ce9 rfl rfl rfl rfl rfl rfl rfl rfl rfl
      have zXR0 := XR.frozen
      obtain ⟨xX30, xX31, xX32, xX33, xX34, xX35, xX36, xX37, xX38⟩ := X3.ce9 rfl rfl rfl rfl rfl rfl rfl rfl rfl
      go_wp2
      clear xXR0 zXR0 xXR1 xXR2 xXR3 xXR4 xXR5 xXR6 xXR7 xXR8 xX30 xX31 xX32 xX33 xX34 xX35 xX36 xX37 xX38
      have SX := StN.mk9 XR (.bool e1) (.int .i64 K1) (.bool s1) (.int .u64 M1) (.int .i64 E1) (.int .i64 K1b) (.bool s1b) (.int .u64 M1b) (.int .i64 E1b)
      exact bodyPost_ret (v := .agg #[.bool e1, .int .i64 K1, .bool s1, .int .u64 M1, .int .i64 E1, .int .i64 K1b, .bool s1b, .int .u64 M1b, .int .i64 E1b]) (by simp [results, Try.results25, go_sem, SX.box.cell]) rfl ⟨_, _, _, _, _, _, _, _, _, rfl, v1, (SX.below HB.out (by omega))⟩
set_option maxHeartbeats 4000000 in
theorem jvHull {w : World} {A : Option Addr} {n c : Nat} {l : List Sp} {z : Sp} (h : Il8 w A n c l) (hr : hullL l = z) : Calls Try.prog 26 #[.slice A n c] w (PV w z) := by
  have HR := Lib.hid hr
  have HLn := Lib.hid h.1
  have hcap := h.2.1
  have hbig := h.2.2.1
  have hD0 := h
  clear hr
  go_enter Try.func26, Try.ntmps26
  go_upto_region 1 with (fail)
  have XR := (Bo.newAt w (g := w.heap.size) (by simp) #[.bool false, .int .i64 0, .bool false, .int .u64 0, .int .i64 0, .int .i64 0, .bool false, .int .u64 0, .int .i64 0] 26)
  have HB := Lib.hid (bel1 w (.cells #[.bool false, .int .i64 0, .bool false, .int .u64 0, .int .i64 0, .int .i64 0, .bool false, .int .u64 0, .int .i64 0] 26))
  replace h := h.below HB.out
  generalize hW1 : (w.alloc (.cells #[.bool false, .int .i64 0, .bool false, .int .u64 0, .int .i64 0, .int .i64 0, .bool false, .int .u64 0, .int .i64 0] 26)) = w1 at *
  clear hW1
  go_wp2_with fail
  refine (jvNone).mono ?_
  rintro ee w2 ⟨e1, K1, s1, M1, E1, K1b, s1b, M1b, E1b, rfl, v1, B⟩
  replace XR := XR.below B
  replace h := h.below B
  replace HB := Lib.hid (bt HB.out B)
  clear B
  go_upto_region 2 with (fail)
  have lX3 := Nat.le_refl (World.heap w2).size
  have nX3XR := XR.lt
  replace XR := XR.below (bel1 _ (.cells #[.bool e1, .int .i64 K1, .bool s1, .int .u64 M1, .int .i64 E1, .int .i64 K1b, .bool s1b, .int .u64 M1b, .int .i64 E1b] 26))
  replace h := h.below (bel1 _ (.cells #[.bool e1, .int .i64 K1, .bool s1, .int .u64 M1, .int .i64 E1, .int .i64 K1b, .bool s1b, .int .u64 M1b, .int .i64 E1b] 26))
  replace HB := Lib.hid (bt HB.out (bel1 _ (.cells #[.bool e1, .int .i64 K1, .bool s1, .int .u64 M1, .int .i64 E1, .int .i64 K1b, .bool s1b, .int .u64 M1b, .int .i64 E1b] 26)))
  have X3 := Bo.new w2 #[.bool e1, .int .i64 K1, .bool s1, .int .u64 M1, .int .i64 E1, .int .i64 K1b, .bool s1b, .int .u64 M1b, .int .i64 E1b] 26
  generalize hWn : World.alloc w2 (.cells #[.bool e1, .int .i64 K1, .bool s1, .int .u64 M1, .int .i64 E1, .int .i64 K1b, .bool s1b, .int .u64 M1b, .int .i64 E1b] 26) = w3 at *
  clear hWn
  have gne : w.heap.size < w2.heap.size := nX3XR
  clear lX3 nX3XR
  have hD1 := h
  generalize w2.heap.size = g3 at *
  have HI0 := Lib.hid (show IvInv w g3 (hullL (l.take 0)) w3 from ⟨_, _, _, _, _, _, _, _, _, XR, X3, v1, HB.out⟩)
  clear XR X3 v1 h
  go_wp2
  go_loopw [4] (fun i wr => ∃ k : Nat, k ≤ n ∧ i = .int .i64 k ∧ IvInv w g3 (hullL (l.take k)) wr) (fun i _ => n - (intOf i).toNat)
  case atStart => exact ⟨0, Nat.zero_le _, rfl, HI0.out⟩
  case round =>
    obtain ⟨k, hk, rfl, e1, K1, s1, M1, E1, K1b, s1b, M1b, E1b, XR, X3, v1, hB⟩ := hrel
    have HB := Lib.hid hB
    clear hB HI0
    by_cases hlt : k < n
    · have tlt : decide ((k : Int) < (n : Int)) = true := by simp; omega
      have h := hD0.below HB.out
      obtain ⟨b, o, rfl, hcell⟩ := h.2.2.2 (by omega)
      obtain ⟨e, D, s, M, E, D', s', M', E', c0, c1, c2, c3, c4, c5, c6, c7, c8, hM, hM', hx⟩ := hcell k hlt
      clear hcell h hD0 hD1
      have i1 : (k : Int) < n := by omega
      have i2 : (0 : Int) ≤ k := by omega
      have hst := hullL_take (l := l) (k := k) (by rw [HLn.out]; exact hlt)
      rw [← hx] at hst
      generalize hullL (l.take k) = R at *
      obtain ⟨x, hX⟩ : ∃ x, rkI e D s M E D' s' M' E' = x := ⟨_, rfl⟩
      rw [hX] at hst
      obtain ⟨r2, hr2⟩ : ∃ r2, hullI R x = r2 := ⟨_, rfl⟩
      rw [hr2] at hst
      have HX := Lib.hid hX
      have HST := Lib.hid hst
      have HAD := Lib.hid hr2
      clear hst hX hx hr2
      go_upto_region 5 with (fail)
      refine Jo.region_joint (T := [0, 1, 2, 3, 4, 5]) (ds := [some 12, some 13, some 14, some 15, some 16, some 17, none]) (ls := [[], [], [], [1, 2], [3], [0, 4], []]) (k := 7) (L := [(some 12, 0), (some 13, 1), (some 14, 2), (some 15, 3), (some 16, 4), (some 17, 5)]) (fuel := 1) (J := fun wj => Below (World.heap wr).size wr wj)
        (F := [Jo.Fact.eq (.agg #[.bool e1, .int .i64 K1, .bool s1, .int .u64 M1, .int .i64 E1, .int .i64 K1b, .bool s1b, .int .u64 M1b, .int .i64 E1b]), Jo.Fact.eq (.slice (some ⟨b, o, none⟩) n c), Jo.Fact.eq (.int .i64 k), Jo.Fact.eq (.pointer (some ⟨b, o + k * 9, none⟩)), Jo.Fact.eq (.agg #[.bool e, .int .i64 D, .bool s, .int .u64 M, .int .i64 E, .int .i64 D', .bool s', .int .u64 M', .int .i64 E']), Jo.Fact.iv r2, Jo.Fact.any])
        (by kernel_rfl) (by kernel_rfl) (by decide) rfl rfl (fun _ _ h b => bt h b) ((Below.refl _ _).drew) ?_ (fun vs w4 hJ hd => ?_)
      · refine Jo.jd 0 (some 12) [] (Jo.Fact.eq (.agg #[.bool e1, .int .i64 K1, .bool s1, .int .u64 M1, .int .i64 E1, .int .i64 K1b, .bool s1b, .int .u64 M1b, .int .i64 E1b])) rfl rfl rfl rfl (fun vs wj hJ hd K hK => ?_) ?_
        · simp only [Jo.putl, Jo.ze, Act.put, Jo.za, Jo.zb, Jo.zc] at hK ⊢
          clear hd
          have xX30 := (X3.below hJ).a 0 (.bool e1) rfl
          have xX31 := (X3.below hJ).a 1 (.int .i64 K1) rfl
          have xX32 := (X3.below hJ).a 2 (.bool s1) rfl
          have xX33 := (X3.below hJ).a 3 (.int .u64 M1) rfl
          have xX34 := (X3.below hJ).a 4 (.int .i64 E1) rfl
          have xX35 := (X3.below hJ).a 5 (.int .i64 K1b) rfl
          have xX36 := (X3.below hJ).a 6 (.bool s1b) rfl
          have xX37 := (X3.below hJ).a 7 (.int .u64 M1b) rfl
          have xX38 := (X3.below hJ).a 8 (.int .i64 E1b) rfl
          go_simp
          exact hK.out _ _ rfl (Below.refl _ _)
        refine Jo.jd 1 (some 13) [] (Jo.Fact.eq (.slice (some ⟨b, o, none⟩) n c)) rfl rfl rfl rfl (fun vs wj hJ hd K hK => ?_) ?_
        · simp only [Jo.putl, Jo.ze, Act.put, Jo.za, Jo.zb, Jo.zc] at hK ⊢
          clear hd
          go_simp
          exact hK.out _ _ rfl (Below.refl _ _)
        refine Jo.jd 2 (some 14) [] (Jo.Fact.eq (.int .i64 k)) rfl rfl rfl rfl (fun vs wj hJ hd K hK => ?_) ?_
        · simp only [Jo.putl, Jo.ze, Act.put, Jo.za, Jo.zb, Jo.zc] at hK ⊢
          clear hd
          go_simp
          exact hK.out _ _ rfl (Below.refl _ _)
        refine Jo.jd 3 (some 15) [(some 13, 1), (some 14, 2)] (Jo.Fact.eq (.pointer (some ⟨b, o + k * 9, none⟩))) rfl rfl rfl rfl (fun vs wj hJ hd K hK => ?_) ?_
        · simp only [Jo.putl, Jo.zd, Jo.ze, Act.put, Jo.za, Jo.zb, Jo.zc] at hK ⊢
          rw [show vs 1 = _ from hd 1 (by decide), show vs 2 = _ from hd 2 (by decide)] at hK ⊢
          clear hd
          go_simp
          exact hK.out _ _ rfl (Below.refl _ _)
        refine Jo.jd 4 (some 16) [(some 15, 3)] (Jo.Fact.eq (.agg #[.bool e, .int .i64 D, .bool s, .int .u64 M, .int .i64 E, .int .i64 D', .bool s', .int .u64 M', .int .i64 E'])) rfl rfl rfl rfl (fun vs wj hJ hd K hK => ?_) ?_
        · simp only [Jo.putl, Jo.zd, Jo.ze, Act.put, Jo.za, Jo.zb, Jo.zc] at hK ⊢
          rw [show vs 3 = _ from hd 3 (by decide)] at hK ⊢
          clear hd
          have c0' := (hJ.cell (p := ⟨b, _, none⟩) (block_lt_of_cell c0)).trans c0
          have c1' := (hJ.cell (p := ⟨b, _, none⟩) (block_lt_of_cell c1)).trans c1
          have c2' := (hJ.cell (p := ⟨b, _, none⟩) (block_lt_of_cell c2)).trans c2
          have c3' := (hJ.cell (p := ⟨b, _, none⟩) (block_lt_of_cell c3)).trans c3
          have c4' := (hJ.cell (p := ⟨b, _, none⟩) (block_lt_of_cell c4)).trans c4
          have c5' := (hJ.cell (p := ⟨b, _, none⟩) (block_lt_of_cell c5)).trans c5
          have c6' := (hJ.cell (p := ⟨b, _, none⟩) (block_lt_of_cell c6)).trans c6
          have c7' := (hJ.cell (p := ⟨b, _, none⟩) (block_lt_of_cell c7)).trans c7
          have c8' := (hJ.cell (p := ⟨b, _, none⟩) (block_lt_of_cell c8)).trans c8
          go_simp
          exact hK.out _ _ rfl (Below.refl _ _)
        refine Jo.jd 5 (some 17) [(some 12, 0), (some 16, 4)] (Jo.Fact.iv r2) rfl rfl rfl rfl (fun vs wj hJ hd K hK => ?_) ?_
        · simp only [Jo.putl, Jo.zd, Jo.ze, Act.put, Jo.za, Jo.zb, Jo.zc] at hK ⊢
          rw [show vs 0 = _ from hd 0 (by decide), show vs 4 = _ from hd 4 (by decide)] at hK ⊢
          clear hd
          go_simp
          refine (jvBoth v1.top.1 v1.top.2 hM hM' v1.rk HX.out HAD.out).mono ?_
          rintro ee wk ⟨e2, K2, s2, M2, E2, K2b, s2b, M2b, E2b, rfl, v2, B⟩
          exact hK.out _ _ ⟨e2, K2, s2, M2, E2, K2b, s2b, M2b, E2b, rfl, v2⟩ B
        exact Jo.Steps.nil
      have d5 : (Jo.Fact.iv r2).P (vs 5) w4 := hd 5 (by decide)
      simp only [Jo.putl, Jo.zd, Jo.ze, Act.put, Jo.za, Jo.zb, Jo.zc]
      rw [show vs 0 = _ from hd 0 (by decide), show vs 1 = _ from hd 1 (by decide), show vs 2 = _ from hd 2 (by decide), show vs 4 = _ from hd 4 (by decide)]
      clear hd
      generalize vs 5 = u5 at d5 ⊢
      obtain ⟨e2, K2, s2, M2, E2, K2b, s2b, M2b, E2b, rfl, v2⟩ := d5
      replace XR := XR.below hJ
      replace X3 := X3.below hJ
      replace HB := Lib.hid (bt HB.out hJ)
      obtain ⟨xX30, xX31, xX32, xX33, xX34, xX35, xX36, xX37, xX38⟩ := X3.ce9 rfl rfl rfl rfl rfl rfl rfl rfl rfl
      have zX30 := X3.frozen
      refine Jo.jnext (i := 6) (o := ⟨none, _, _, _, _, _⟩) (by kernel_rfl) rfl (fun K hK => ?_)
      go_simp
      refine hK.out _ _ ?_
      clear hK K xX30 zX30 xX31 xX32 xX33 xX34 xX35 xX36 xX37 xX38
      have SX := StN.mk9 X3 (.bool e2) (.int .i64 K2) (.bool s2) (.int .u64 M2) (.int .i64 E2) (.int .i64 K2b) (.bool s2b) (.int .u64 M2b) (.int .i64 E2b)
      replace XR := XR.stn SX (by omega)
      replace HB := Lib.hid (SX.below HB.out (by omega))
      replace X3 := SX.box
      clear SX
      generalize (World.setCell (World.setCell (World.setCell (World.setCell (World.setCell (World.setCell (World.setCell (World.setCell (World.setCell w4 ⟨g3, 0, none⟩ (.bool e2)) ⟨g3, 1, none⟩ (.int .i64 K2)) ⟨g3, 2, none⟩ (.bool s2)) ⟨g3, 3, none⟩ (.int .u64 M2)) ⟨g3, 4, none⟩ (.int .i64 E2)) ⟨g3, 5, none⟩ (.int .i64 K2b)) ⟨g3, 6, none⟩ (.bool s2b)) ⟨g3, 7, none⟩ (.int .u64 M2b)) ⟨g3, 8, none⟩ (.int .i64 E2b)) = w5 at *
      refine Jo.jdone (by kernel_rfl) ?_
      go_wp2
      go_roundw
      case rel =>
        refine ⟨k + 1, by omega, by go_num, e2, K2, s2, M2, E2, K2b, s2b, M2b, E2b, XR, X3, ?_, HB.out⟩
        rw [HST.out]; exact v2
      case measure => simp [intOf]; omega
    · obtain rfl : k = n := by omega
      rw [List.take_of_length_le (by rw [HLn.out]; omega), HR.out] at v1
      obtain ⟨xXR0, xXR1, xXR2, xXR3, xXR4, xXR5, xXR6, xXR7, xXR8⟩ := XR.ce9 rfl rfl rfl rfl rfl rfl rfl rfl rfl
      have zXR0 := XR.frozen
      obtain ⟨xX30, xX31, xX32, xX33, xX34, xX35, xX36, xX37, xX38⟩ := X3.ce9 rfl rfl rfl rfl rfl rfl rfl rfl rfl
      go_wp2
      clear xXR0 zXR0 xXR1 xXR2 xXR3 xXR4 xXR5 xXR6 xXR7 xXR8 xX30 xX31 xX32 xX33 xX34 xX35 xX36 xX37 xX38
      have SX := StN.mk9 XR (.bool e1) (.int .i64 K1) (.bool s1) (.int .u64 M1) (.int .i64 E1) (.int .i64 K1b) (.bool s1b) (.int .u64 M1b) (.int .i64 E1b)
      exact bodyPost_ret (v := .agg #[.bool e1, .int .i64 K1, .bool s1, .int .u64 M1, .int .i64 E1, .int .i64 K1b, .bool s1b, .int .u64 M1b, .int .i64 E1b]) (by simp [results, Try.results26, go_sem, SX.box.cell]) rfl ⟨_, _, _, _, _, _, _, _, _, rfl, v1, (SX.below HB.out (by omega))⟩
end Go.Proofs.Ythhlccdmflgbbaa

/-
  The lower and the upper ends of many intervals, what they have together and their hull by these. Plain; no Go text.
-/
namespace Go.Proofs.Ythhlccdmflgbbaa
open Go.RowKit
set_option linter.unusedVariables false

/-- The ends of one: none of the empty one. -/
def lo1 : Sp → List Int
  | none => []
  | some (a, _) => [a]
def hi1 : Sp → List Int
  | none => []
  | some (_, b) => [b]
def lowL : List Sp → List Int
  | [] => []
  | x :: l => lo1 x ++ lowL l
def highL : List Sp → List Int
  | [] => []
  | x :: l => hi1 x ++ highL l
theorem lowL_append : ∀ (l m : List Sp), lowL (l ++ m) = lowL l ++ lowL m
  | [], m => rfl
  | x :: l, m => by
    show lo1 x ++ lowL (l ++ m) = (lo1 x ++ lowL l) ++ lowL m
    rw [lowL_append l m, List.append_assoc]
theorem highL_append : ∀ (l m : List Sp), highL (l ++ m) = highL l ++ highL m
  | [], m => rfl
  | x :: l, m => by
    show hi1 x ++ highL (l ++ m) = (hi1 x ++ highL l) ++ highL m
    rw [highL_append l m, List.append_assoc]
theorem lowL_take {l : List Sp} {k : Nat} (h : k < l.length) : lowL (l.take (k + 1)) = lowL (l.take k) ++ lo1 (l.getD k none) := by
  rw [List.take_succ_eq_append_getElem h, lowL_append, List.getD_eq_getElem?_getD, List.getElem?_eq_getElem h]
  exact congrArg _ (List.append_nil _)
theorem highL_take {l : List Sp} {k : Nat} (h : k < l.length) : highL (l.take (k + 1)) = highL (l.take k) ++ hi1 (l.getD k none) := by
  rw [List.take_succ_eq_append_getElem h, highL_append, List.getD_eq_getElem?_getD, List.getElem?_eq_getElem h]
  exact congrArg _ (List.append_nil _)
theorem len_lo : ∀ l : List Sp, (lowL l).length ≤ l.length
  | [] => Nat.le_refl _
  | none :: l => Nat.le_succ_of_le (len_lo l)
  | some (a, b) :: l => Nat.succ_le_succ (len_lo l)
theorem meetI_mk (A B a b : Int) : meetI (mkI A B) (some (a, b)) = mkI (max A a) (min B b) := by
  by_cases h : A ≤ B ∧ A < 19342822337206103650074625 ∧ -19342822337206103650074625 < B
  · rw [mkI_some h.1 h.2.1 h.2.2]
    rfl
  · rw [mkI_none h, mkI_none (fun c => h (by omega))]
    rfl
theorem meet_fold : ∀ (l : List Sp) (A B : Int), (lowL l).length = l.length → l.foldl meetI (mkI A B) = mkI ((lowL l).foldl max A) ((highL l).foldl min B)
  | [], A, B, _ => rfl
  | none :: l, A, B, h => by
    have h1 : (lowL l).length = l.length + 1 := h
    have h2 := len_lo l
    omega
  | some (a, b) :: l, A, B, h => by
    show l.foldl meetI (meetI (mkI A B) (some (a, b))) = _
    rw [meetI_mk]
    exact meet_fold l (max A a) (min B b) (Nat.succ_inj.1 h)
theorem meet_some {l : List Sp} (h : (lowL l).length = l.length) : meetL l = mkI (mxp (lowL l)) (mnp (highL l)) := by
  have e : allI = mkI (-19342822337206103650074625) 19342822337206103650074625 := (mkI_some (by omega) (by omega) (by omega)).symm
  unfold meetL mxp mnp
  rw [e, TP_eq]
  exact meet_fold l _ _ h
theorem meet_gone : ∀ (l : List Sp) (x : Sp), (lowL l).length < l.length → l.foldl meetI x = none
  | [], x, h => absurd h (Nat.lt_irrefl _)
  | none :: l, x, h => by
    show l.foldl meetI (meetI x none) = none
    rw [meetI_none]
    exact meet_stuck l
  | some (a, b) :: l, x, h => meet_gone l _ (Nat.lt_of_succ_lt_succ h)
theorem meet_no {l : List Sp} (h : (lowL l).length < l.length) : meetL l = none := meet_gone l allI h
theorem hullI_mk {A B a b : Int} (h : A = 19342822337206103650074625 ∧ B = -19342822337206103650074625 ∨ A ≤ B ∧ A < 19342822337206103650074625 ∧ -19342822337206103650074625 < B) (k : SpOk (some (a, b))) :
    hullI (mkI A B) (some (a, b)) = mkI (min A a) (max B b) ∧ (min A a ≤ max B b ∧ min A a < 19342822337206103650074625 ∧ -19342822337206103650074625 < max B b) := by
  obtain ⟨k1, k2, k3, k4, k5⟩ := k
  refine ⟨?_, by omega, by omega, by omega⟩
  rcases h with ⟨rfl, rfl⟩ | ⟨h1, h2, h3⟩
  · rw [mkI_none (by omega), mkI_some (by omega) (by omega) (by omega)]
    have e1 : min 19342822337206103650074625 a = a := by omega
    have e2 : max (-19342822337206103650074625) b = b := by omega
    rw [e1, e2]
    rfl
  · rw [mkI_some h1 h2 h3]
    rfl
theorem hull_fold : ∀ (l : List Sp) (A B : Int), (A = 19342822337206103650074625 ∧ B = -19342822337206103650074625 ∨ A ≤ B ∧ A < 19342822337206103650074625 ∧ -19342822337206103650074625 < B) → (∀ y ∈ l, SpOk y) → l.foldl hullI (mkI A B) = mkI ((lowL l).foldl min A) ((highL l).foldl max B)
  | [], A, B, _, _ => rfl
  | none :: l, A, B, h, k => by
    show l.foldl hullI (hullI (mkI A B) none) = _
    rw [hullI_none]
    exact hull_fold l A B h (fun y hy => k y (List.mem_cons_of_mem _ hy))
  | some (a, b) :: l, A, B, h, k => by
    obtain ⟨e, g⟩ := hullI_mk h (k _ (List.mem_cons_self ..))
    show l.foldl hullI (hullI (mkI A B) (some (a, b))) = _
    rw [e]
    exact hull_fold l _ _ (.inr g) (fun y hy => k y (List.mem_cons_of_mem _ hy))
theorem hull_ends {l : List Sp} (h : ∀ y ∈ l, SpOk y) : hullL l = mkI (mnp (lowL l)) (mxp (highL l)) := by
  have e : (none : Sp) = mkI 19342822337206103650074625 (-19342822337206103650074625) := (mkI_none (by omega)).symm
  unfold hullL mxp mnp
  rw [e, TP_eq]
  exact hull_fold l _ _ (.inl ⟨rfl, rfl⟩) h
/-- A row of numbers, by their cells. -/
def nrow : List (Int × Bool × Int × Int) → List Value
  | [] => []
  | (K, s, M, E) :: l => .int .i64 K :: .bool s :: .int .u64 M :: .int .i64 E :: nrow l
theorem nrow_append : ∀ l m, nrow (l ++ m) = nrow l ++ nrow m
  | [], m => rfl
  | (K, s, M, E) :: l, m => by
    show _ :: _ :: _ :: _ :: nrow (l ++ m) = _
    rw [nrow_append l m]
    rfl
theorem nrow_at : ∀ (l : List (Int × Bool × Int × Int)) (k : Nat) (K : Int) (s : Bool) (M E : Int), l[k]? = some (K, s, M, E) → (nrow l)[k * 4]? = some (.int .i64 K) ∧ (nrow l)[k * 4 + 1]? = some (.bool s) ∧ (nrow l)[k * 4 + 2]? = some (.int .u64 M) ∧ (nrow l)[k * 4 + 3]? = some (.int .i64 E)
  | [], k, _, _, _, _, h => by cases h
  | (K, s, M, E) :: l, 0, _, _, _, _, h => by
    cases h
    exact ⟨rfl, rfl, rfl, rfl⟩
  | (K, s, M, E) :: l, k + 1, K2, s2, M2, E2, h => by
    have := nrow_at l k K2 s2 M2 E2 h
    have e : (k + 1) * 4 = k * 4 + 4 := by omega
    rw [e]
    exact this
/-- A slice of numbers of the call's own, that may be appended to; their places are l. -/
def Na (w : World) (base : Nat) (A : Option Addr) (n c : Nat) (l : List Int) : Prop :=
  ∃ r : List (Int × Bool × Int × Int), w.ownsRow base 24 4 (.slice A n c) n (nrow r) ∧ r.length = n ∧ l.length = n ∧ ∀ k, k < n → ∃ K s M E, r[k]? = some (K, s, M, E) ∧ Fq K s M E (l.getD k 0)
theorem Na.nil (w : World) (base : Nat) : Na w base none 0 0 [] := ⟨[], World.ownsRow_nil w base _ 4, rfl, rfl, fun k h => absurd h (Nat.not_lt_zero _)⟩
theorem Na.len {w : World} {base n c : Nat} {A : Option Addr} {l : List Int} (h : Na w base A n c l) : l.length = n := by
  obtain ⟨_, _, _, h, _⟩ := h
  exact h
/-- It lies below, so nothing above changes it. -/
theorem Na.below {w w' : World} {base n c : Nat} {A : Option Addr} {l : List Int} (h : Na w base A n c l) (hb : Below w.heap.size w w') : Na w' base A n c l := by
  obtain ⟨r, h1, h2⟩ := h
  refine ⟨r, ⟨h1.1, ?_⟩, h2⟩
  rcases h1.2 with h3 | ⟨g, cap, cur, hv, hg, hh, q⟩
  · exact .inl h3
  · refine .inr ⟨g, cap, cur, hv, hg, ?_, q⟩
    rw [hb.block g (Array.getElem?_eq_some_iff.1 hh).1]
    exact hh
/-- It reads as a slice. -/
theorem Na.nl {w : World} {base n c : Nat} {A : Option Addr} {l : List Int} (h : Na w base A n c l) (hn : n ≤ 1099511627776) : Nl w A n c l := by
  obtain ⟨r, h1, h2, h3, h4⟩ := h
  rcases h1.2 with ⟨e1, e2⟩ | ⟨g, cap, cur, hv, hg, hh, hc, hm, hs, ht⟩
  · injection e1 with a1 a2 a3
    subst a1; subst a2; subst a3
    exact ⟨h3, Nat.le_refl _, by omega, fun h => absurd h (Nat.lt_irrefl _)⟩
  · injection hv with a1 a2 a3
    subst a1; subst a3
    refine ⟨h3, hc, hn, fun _ => ⟨g, 0, rfl, fun k hk => ?_⟩⟩
    obtain ⟨K, s, M, E, hr, q⟩ := h4 k hk
    obtain ⟨c0, c1, c2, c3⟩ := nrow_at r k K s M E hr
    have cell : ∀ j v, (nrow r)[j]? = some v → w.cell? ⟨g, 0 + j, none⟩ = some v := by
      intro j v hv
      rw [cell_of_row w g (0 + j) _ _ (0, 0) hh, Nat.zero_add, ← Array.getElem?_toList]
      rw [← ht, List.getElem?_take] at hv
      split at hv
      · exact hv
      · cases hv
    exact ⟨K, s, M, E, cell _ _ c0, by rw [Nat.add_assoc]; exact cell _ _ c1, by rw [Nat.add_assoc]; exact cell _ _ c2, by rw [Nat.add_assoc]; exact cell _ _ c3, q.top, q.rk⟩
end Go.Proofs.Ythhlccdmflgbbaa

/-
  append of one number, onto a row of numbers of the call's own.
-/
namespace Go.Proofs.Ythhlccdmflgbbaa
open Go.RowKit
set_option linter.unusedVariables false
set_option maxRecDepth 100000

theorem infoNum : (Try.prog.info? 24).map (fun i => (i.zero, i.size, i.bytes)) = some (some (.agg #[.int .i64 0, .bool false, .int .u64 0, .int .i64 0]), 4, 32) := by kernel_rfl
section
variable {w w' : World} {base n c : Nat} {A : Option Addr} {l : List Int}
/-- The block it lies in. -/
def ownA (A : Option Addr) : Option Nat := A.map (·.block)
theorem own_eq (A : Option Addr) (n c : Nat) : (Value.slice A n c).ownBlock = ownA A := by cases A <;> rfl
/-- What grows another row leaves it. -/
theorem Na.kept {row : Option Nat} (h : Na w base A n c l) (hg : w.grownBy w' row) (hne : ownA A = none ∨ ownA A ≠ row) : Na w' base A n c l := by
  obtain ⟨r, h1, h2⟩ := h
  exact ⟨r, h1.kept hg (by rw [own_eq]; exact hne), h2⟩
theorem Na.own_lt (h : Na w base A n c l) : ∀ k, ownA A = some k → base ≤ k ∧ k < w.heap.size := by
  obtain ⟨r, h1, h2⟩ := h
  intro k hk
  exact h1.lt k (by rw [own_eq]; exact hk)
theorem run_na {ty : TypeId} {g : Nat} {K M E a : Int} {s : Bool} (h : Na w base A n c l) (q : Fq K s M E a) (X : Bo w g #[.int .i64 K, .bool s, .int .u64 M, .int .i64 E] 24) (hn : n + 1 ≤ 1099511627776) (hb : base ≤ w.heap.size) :
    ∃ A2 c2 w', (Builtin.append_ #[48, 48] ty #[.slice A n c, .slice (some ⟨g, 0, none⟩) 1 1]).run Try.prog w = .ok (.slice A2 (n + 1) c2) w' ∧ Na w' base A2 (n + 1) c2 (l ++ [a]) ∧ w.grownBy w' (ownA A) ∧ (ownA A2 = ownA A ∨ ownA A2 = some w.heap.size) := by
  obtain ⟨i, hi, hz, hsi, hby⟩ := info_parts infoNum
  obtain ⟨r, h1, h2, h3, h4⟩ := h
  obtain ⟨v', w', hr, ho, hg, _, hat⟩ := run_append_own_at (P := Try.prog) w base 48 ty 24 i _ 4 32 Try.underlying48 hi hz hsi hby rfl (by decide) _ n (nrow r) h1 ⟨g, 0, none⟩ 1 1 (nrow [(K, s, M, E)]) rfl (by
    intro j u hj
    have hc := X.cell
    rcases j with _ | _ | _ | _ | j
    · cases hj
      exact hc 0
    · cases hj
      exact hc 1
    · cases hj
      exact hc 2
    · cases hj
      exact hc 3
    · cases hj) (by
    intro u hu
    simp only [nrow, List.mem_cons, List.not_mem_nil, or_false] at hu
    rcases hu with rfl | rfl | rfl | rfl <;> rfl) (by unfold maxLen; omega) (by omega) hb
  rw [own_eq] at hg hat
  rw [← nrow_append] at ho
  obtain ⟨A2, c2, rfl⟩ : ∃ A2 c2, v' = .slice A2 (n + 1) c2 := by
    rcases ho.2 with ⟨_, h0⟩ | ⟨g', cap', cur', hv, _⟩
    · omega
    · exact ⟨_, _, hv⟩
  rw [own_eq] at hat
  refine ⟨A2, c2, w', hr, ⟨_, ho, by rw [List.length_append, h2]; rfl, by rw [List.length_append, h3]; rfl, fun k hk => ?_⟩, hg, hat⟩
  by_cases hkn : k < n
  · obtain ⟨K1, s1, M1, E1, hq, qq⟩ := h4 k hkn
    refine ⟨K1, s1, M1, E1, by rw [List.getElem?_append_left (by omega)]; exact hq, ?_⟩
    rw [List.getD_eq_getElem?_getD, List.getElem?_append_left (by omega), ← List.getD_eq_getElem?_getD]
    exact qq
  · obtain rfl : k = n := by omega
    refine ⟨K, s, M, E, by rw [List.getElem?_append_right (by omega), h2]; simp, ?_⟩
    rw [List.getD_eq_getElem?_getD, List.getElem?_append_right (by omega), h3]
    simpa using q
/-- append(d, x), in a walk. -/
theorem wpList_na {ops : Array Oper} {rest : List Oper} {o : Oper} {a : Act} {Q : Exit → Act → World → Prop} (hgd : o.guard = none) (s x : Operand)
    (ho : o.op = .call { callee := .builtin .append, args := #[s, x], argTypes := #[48, 48] }) {g : Nat} {K M E p : Int} {b : Bool}
    (hs : a.eval s = .slice A n c) (hx : a.eval x = .slice (some ⟨g, 0, none⟩) 1 1) (h : Na w base A n c l) (q : Fq K b M E p) (X : Bo w g #[.int .i64 K, .bool b, .int .u64 M, .int .i64 E] 24) (hn : n + 1 ≤ 1099511627776) (hb : base ≤ w.heap.size)
    (hK : ∀ A2 c2 w', Na w' base A2 (n + 1) c2 (l ++ [p]) → w.grownBy w' (ownA A) → (ownA A2 = ownA A ∨ ownA A2 = some w.heap.size) → wpList Try.prog ops Q rest (a.put o.dst (.slice A2 (n + 1) c2)) w') : wpList Try.prog ops Q (o :: rest) a w := by
  refine wpList_plain hgd fun K hK2 => ?_
  obtain ⟨A2, c2, w', hr, h1, h2, h3⟩ := run_na (ty := o.type) h q X hn hb
  unfold Oper.wp execOp
  simp only [ho, resolve, invoke, builtin, Sem.run_bind, Sem.run_pure, Result.andThen_ok, List.map_toArray, List.map_cons, List.map_nil, hs, hx, hr]
  exact hK2 _ _ (hK A2 c2 w' h1 h2 h3)
end
end Go.Proofs.Ythhlccdmflgbbaa

/-
  The walk of IvHas: for all arguments the call answers true, and nothing that was there has turned.
-/
import Derived.Test.YthhlccdmflgbbaaYAar
namespace Go.Proofs.Ythhlccdmflgbbaa
open Go.RowKit
set_option linter.unusedVariables false
set_option linter.unusedSimpArgs false
set_option maxRecDepth 100000

theorem meet2 {x y : Sp} (hx : SpOk x) : meetL [x, y] = meetI x y := by
  show meetI (meetI allI x) y = _
  rw [meet_all hx]
set_option maxHeartbeats 8000000 in
theorem ivHas_tt (e0 : Bool) (D0 : Int) (s0 : Bool) (M0 E0 G0 : Int) (g0 : Bool) (P0 Q0 : Int) (e1 : Bool) (D1 : Int) (s1 : Bool) (M1 E1 G1 : Int) (g1 : Bool) (P1 Q1 : Int) (D2 : Int) (s2 : Bool) (M2 E2 : Int) (w : World) (x y m h : Sp) (n : Int) (u0 : M0 < 18446744073709551616) (v0 : P0 < 18446744073709551616) (u1 : M1 < 18446744073709551616) (v1 : P1 < 18446744073709551616) (u2 : M2 < 18446744073709551616) (hx : rkI e0 D0 s0 M0 E0 G0 g0 P0 Q0 = x) (hy : rkI e1 D1 s1 M1 E1 G1 g1 P1 Q1 = y) (hn : rk D2 s2 M2 E2 = n)
    (h1 : hasI x n = true) (h2 : hasI y n = true) (hm : meetL [x, y] = m) (h3 : hasI m n = true) (hh : hullL [x, y] = h) (h4 : hasI h n = true) :
    Calls Try.prog 5 #[.agg #[.bool e0, .int .i64 D0, .bool s0, .int .u64 M0, .int .i64 E0, .int .i64 G0, .bool g0, .int .u64 P0, .int .i64 Q0], .agg #[.bool e1, .int .i64 D1, .bool s1, .int .u64 M1, .int .i64 E1, .int .i64 G1, .bool g1, .int .u64 P1, .int .i64 Q1], .agg #[.int .i64 D2, .bool s2, .int .u64 M2, .int .i64 E2]] w (PB w true) := by
  have HX0 := Lib.hid hx
  have HX1 := Lib.hid hy
  have HN := Lib.hid hn
  have HP := Lib.hid h1
  have HQ := Lib.hid h2
  have HME := Lib.hid hm
  have HR3 := Lib.hid h3
  have HHU := Lib.hid hh
  have HR4 := Lib.hid h4
  clear hx hy hn h1 h2 hm h3 hh h4
  go_enter Try.func5, Try.ntmps5
  go_upto_region 1 with (fail)
  have X0 := (Bo.newAt w (g := w.heap.size) (by simp) #[.bool e0, .int .i64 D0, .bool s0, .int .u64 M0, .int .i64 E0, .int .i64 G0, .bool g0, .int .u64 P0, .int .i64 Q0] 26).below (bel2 _ (.cells #[.bool e1, .int .i64 D1, .bool s1, .int .u64 M1, .int .i64 E1, .int .i64 G1, .bool g1, .int .u64 P1, .int .i64 Q1] 26) (.cells #[.int .i64 D2, .bool s2, .int .u64 M2, .int .i64 E2] 24))
  have X1 := (Bo.newAt (w.alloc (.cells #[.bool e0, .int .i64 D0, .bool s0, .int .u64 M0, .int .i64 E0, .int .i64 G0, .bool g0, .int .u64 P0, .int .i64 Q0] 26)) (g := w.heap.size + 1) (by simp) #[.bool e1, .int .i64 D1, .bool s1, .int .u64 M1, .int .i64 E1, .int .i64 G1, .bool g1, .int .u64 P1, .int .i64 Q1] 26).below (bel1 _ (.cells #[.int .i64 D2, .bool s2, .int .u64 M2, .int .i64 E2] 24))
  have X2 := (Bo.newAt ((w.alloc (.cells #[.bool e0, .int .i64 D0, .bool s0, .int .u64 M0, .int .i64 E0, .int .i64 G0, .bool g0, .int .u64 P0, .int .i64 Q0] 26)).alloc (.cells #[.bool e1, .int .i64 D1, .bool s1, .int .u64 M1, .int .i64 E1, .int .i64 G1, .bool g1, .int .u64 P1, .int .i64 Q1] 26)) (g := w.heap.size + 1 + 1) (by simp) #[.int .i64 D2, .bool s2, .int .u64 M2, .int .i64 E2] 24)
  have HB := Lib.hid (bel3 w (.cells #[.bool e0, .int .i64 D0, .bool s0, .int .u64 M0, .int .i64 E0, .int .i64 G0, .bool g0, .int .u64 P0, .int .i64 Q0] 26) (.cells #[.bool e1, .int .i64 D1, .bool s1, .int .u64 M1, .int .i64 E1, .int .i64 G1, .bool g1, .int .u64 P1, .int .i64 Q1] 26) (.cells #[.int .i64 D2, .bool s2, .int .u64 M2, .int .i64 E2] 24))
  generalize hW1 : (((w.alloc (.cells #[.bool e0, .int .i64 D0, .bool s0, .int .u64 M0, .int .i64 E0, .int .i64 G0, .bool g0, .int .u64 P0, .int .i64 Q0] 26)).alloc (.cells #[.bool e1, .int .i64 D1, .bool s1, .int .u64 M1, .int .i64 E1, .int .i64 G1, .bool g1, .int .u64 P1, .int .i64 Q1] 26)).alloc (.cells #[.int .i64 D2, .bool s2, .int .u64 M2, .int .i64 E2] 24)) = w1 at *
  clear hW1
  go_wp2_with fail
  refine (awake8).mono ?_
  rintro ee w2 ⟨rfl, B⟩
  replace X0 := X0.below B
  replace X1 := X1.below B
  replace X2 := X2.below B
  replace HB := Lib.hid (bt HB.out B)
  clear B
  obtain ⟨xX00, xX01, xX02, xX03, xX04, xX05, xX06, xX07, xX08⟩ := X0.ce9 rfl rfl rfl rfl rfl rfl rfl rfl rfl
  obtain ⟨xX20, xX21, xX22, xX23⟩ := X2.ce4 rfl rfl rfl rfl
  go_wp2_with fail
  refine (kvHas u0 v0 u2 HX0.out HN.out HP.out).mono ?_
  rintro ee w3 ⟨rfl, B⟩
  clear xX00 xX01 xX02 xX03 xX04 xX05 xX06 xX07 xX08 xX20 xX21 xX22 xX23
  replace X0 := X0.below B
  replace X1 := X1.below B
  replace X2 := X2.below B
  replace HB := Lib.hid (bt HB.out B)
  clear B
  obtain ⟨xX10, xX11, xX12, xX13, xX14, xX15, xX16, xX17, xX18⟩ := X1.ce9 rfl rfl rfl rfl rfl rfl rfl rfl rfl
  obtain ⟨xX20, xX21, xX22, xX23⟩ := X2.ce4 rfl rfl rfl rfl
  go_wp2_with fail
  refine (kvHas u1 v1 u2 HX1.out HN.out HQ.out).mono ?_
  rintro ee w4 ⟨rfl, B⟩
  clear xX10 xX11 xX12 xX13 xX14 xX15 xX16 xX17 xX18 xX20 xX21 xX22 xX23
  replace X0 := X0.below B
  replace X1 := X1.below B
  replace X2 := X2.below B
  replace HB := Lib.hid (bt HB.out B)
  clear B
  go_upto_region 4 with (fail)
  refine Jo.region_joint (T := [0, 1, 2, 3, 4, 5, 6, 7, 8, 9, 10, 11, 12, 13, 14, 15, 16, 17, 18, 19, 20, 21, 22, 23, 24, 25, 26, 27, 28, 29, 30]) (ds := [some 17, some 18, some 19, some 20, some 21, some 22, some 23, some 24, some 25, some 26, some 27, some 28, some 29, some 30, some 31, some 32, some 33, some 34, some 35, some 36, some 37, some 38, some 39, some 40, some 41, some 42, some 43, some 44, some 45, some 46, some 6]) (ls := [[], [0], [1], [1], [1, 2, 3], [1, 4], [1], [1, 5, 6], [1], [1, 8], [9], [1, 9, 10], [1, 7, 11], [1, 12], [13], [14], [14, 15], [14, 16], [17], [17, 18], [14, 17, 19], [14, 20], [21], [21], [21, 22, 23], [21, 24], [21], [21, 25, 26], [14, 21, 27], [14, 28], [29]]) (k := 31) (L := [(some 17, 0), (some 18, 1), (some 19, 2), (some 20, 3), (some 21, 4), (some 22, 5), (some 23, 6), (some 24, 7), (some 25, 8), (some 26, 9), (some 27, 10), (some 28, 11), (some 29, 12), (some 30, 13), (some 31, 14), (some 32, 15), (some 33, 16), (some 34, 17), (some 35, 18), (some 36, 19), (some 37, 20), (some 38, 21), (some 39, 22), (some 40, 23), (some 41, 24), (some 42, 25), (some 43, 26), (some 44, 27), (some 45, 28), (some 46, 29), (some 6, 30)]) (fuel := 0) (J := fun wj => Below (World.heap w4).size w4 wj)
    (F := [Jo.Fact.eq (.bool true), Jo.Fact.eq (.bool true), Jo.Fact.eq (.agg #[.bool e0, .int .i64 D0, .bool s0, .int .u64 M0, .int .i64 E0, .int .i64 G0, .bool g0, .int .u64 P0, .int .i64 Q0]), Jo.Fact.eq (.agg #[.bool e1, .int .i64 D1, .bool s1, .int .u64 M1, .int .i64 E1, .int .i64 G1, .bool g1, .int .u64 P1, .int .i64 Q1]), Jo.Fact.il8 2 [x, y], Jo.Fact.iv m, Jo.Fact.eq (.agg #[.int .i64 D2, .bool s2, .int .u64 M2, .int .i64 E2]), Jo.Fact.eq (.bool true), Jo.Fact.eq (.bool true), Jo.Fact.eq (.bool true), Jo.Fact.eq (.bool true), Jo.Fact.eq (.bool true), Jo.Fact.eq (.bool true), Jo.Fact.eq (.bool true), Jo.Fact.eq (.bool true), Jo.Fact.eq (.bool true), Jo.Fact.eq (.bool false), Jo.Fact.eq (.bool false), Jo.Fact.eq undef, Jo.Fact.eq undef, Jo.Fact.eq (.bool false), Jo.Fact.eq (.bool false), Jo.Fact.eq (.agg #[.bool e0, .int .i64 D0, .bool s0, .int .u64 M0, .int .i64 E0, .int .i64 G0, .bool g0, .int .u64 P0, .int .i64 Q0]), Jo.Fact.eq (.agg #[.bool e1, .int .i64 D1, .bool s1, .int .u64 M1, .int .i64 E1, .int .i64 G1, .bool g1, .int .u64 P1, .int .i64 Q1]), Jo.Fact.il8 2 [x, y], Jo.Fact.iv h, Jo.Fact.eq (.agg #[.int .i64 D2, .bool s2, .int .u64 M2, .int .i64 E2]), Jo.Fact.eq (.bool true), Jo.Fact.eq (.bool true), Jo.Fact.eq (.bool true), Jo.Fact.eq (.bool true)])
    (by kernel_rfl) (by kernel_rfl) (by decide) rfl rfl (fun _ _ h b => bt h b) ((Below.refl _ _).drew) ?_ (fun vs w8 hJ hd => ?_)
  · refine Jo.jd 0 (some 17) [] (Jo.Fact.eq (.bool true)) rfl rfl rfl rfl (fun vs wj hJ hd K hK => ?_) ?_
    · simp only [Jo.putl, Jo.ze, Act.put, Jo.za, Jo.zb, Jo.zc] at hK ⊢
      clear hd
      go_simp
      exact hK.out _ _ rfl (Below.refl _ _)
    refine Jo.jd 1 (some 18) [(some 17, 0)] (Jo.Fact.eq (.bool true)) rfl rfl rfl rfl (fun vs wj hJ hd K hK => ?_) ?_
    · simp only [Jo.putl, Jo.zd, Jo.ze, Act.put, Jo.za, Jo.zb, Jo.zc] at hK ⊢
      rw [show vs 0 = _ from hd 0 (by decide)] at hK ⊢
      clear hd
      go_simp
      exact hK.out _ _ rfl (Below.refl _ _)
    refine Jo.jd 2 (some 19) [(some 18, 1)] (Jo.Fact.eq (.agg #[.bool e0, .int .i64 D0, .bool s0, .int .u64 M0, .int .i64 E0, .int .i64 G0, .bool g0, .int .u64 P0, .int .i64 Q0])) rfl rfl rfl rfl (fun vs wj hJ hd K hK => ?_) ?_
    · simp only [Jo.putl, Jo.zd, Jo.ze, Act.put, Jo.za, Jo.zb, Jo.zc] at hK ⊢
      rw [show vs 1 = _ from hd 1 (by decide)] at hK ⊢
      clear hd
      have xX00 := (X0.below hJ).a 0 (.bool e0) rfl
      have xX01 := (X0.below hJ).a 1 (.int .i64 D0) rfl
      have xX02 := (X0.below hJ).a 2 (.bool s0) rfl
      have xX03 := (X0.below hJ).a 3 (.int .u64 M0) rfl
      have xX04 := (X0.below hJ).a 4 (.int .i64 E0) rfl
      have xX05 := (X0.below hJ).a 5 (.int .i64 G0) rfl
      have xX06 := (X0.below hJ).a 6 (.bool g0) rfl
      have xX07 := (X0.below hJ).a 7 (.int .u64 P0) rfl
      have xX08 := (X0.below hJ).a 8 (.int .i64 Q0) rfl
      go_simp
      exact hK.out _ _ rfl (Below.refl _ _)
    refine Jo.jd 3 (some 20) [(some 18, 1)] (Jo.Fact.eq (.agg #[.bool e1, .int .i64 D1, .bool s1, .int .u64 M1, .int .i64 E1, .int .i64 G1, .bool g1, .int .u64 P1, .int .i64 Q1])) rfl rfl rfl rfl (fun vs wj hJ hd K hK => ?_) ?_
    · simp only [Jo.putl, Jo.zd, Jo.ze, Act.put, Jo.za, Jo.zb, Jo.zc] at hK ⊢
      rw [show vs 1 = _ from hd 1 (by decide)] at hK ⊢
      clear hd
      have xX10 := (X1.below hJ).a 0 (.bool e1) rfl
      have xX11 := (X1.below hJ).a 1 (.int .i64 D1) rfl
      have xX12 := (X1.below hJ).a 2 (.bool s1) rfl
      have xX13 := (X1.below hJ).a 3 (.int .u64 M1) rfl
      have xX14 := (X1.below hJ).a 4 (.int .i64 E1) rfl
      have xX15 := (X1.below hJ).a 5 (.int .i64 G1) rfl
      have xX16 := (X1.below hJ).a 6 (.bool g1) rfl
      have xX17 := (X1.below hJ).a 7 (.int .u64 P1) rfl
      have xX18 := (X1.below hJ).a 8 (.int .i64 Q1) rfl
      go_simp
      exact hK.out _ _ rfl (Below.refl _ _)
    refine Jo.jd 4 (some 21) [(some 18, 1), (some 19, 2), (some 20, 3)] (Jo.Fact.il8 2 [x, y]) rfl rfl rfl rfl (fun vs wj hJ hd K hK => ?_) ?_
    · have d1 : (Jo.Fact.eq (.bool true)).P (vs 1) wj := hd 1 (by decide)
      simp only [Jo.putl, Jo.zd, Jo.ze, Act.put, Jo.za, Jo.zb, Jo.zc] at hK ⊢
      rw [show vs 2 = _ from hd 2 (by decide), show vs 3 = _ from hd 3 (by decide)] at hK ⊢
      clear hd
      generalize vs 1 = u1 at hK d1 ⊢
      replace d1 : u1 = _ := d1
      subst d1
      go_simp
      exact hK.out _ _ ⟨_, 2, rfl, Il8.lit2 rfl ⟨u0, v0, HX0.out⟩ ⟨u1, v1, HX1.out⟩⟩ (bel1 _ _)
    refine Jo.jd 5 (some 22) [(some 18, 1), (some 21, 4)] (Jo.Fact.iv m) rfl rfl rfl rfl (fun vs wj hJ hd K hK => ?_) ?_
    · have d4 : (Jo.Fact.il8 2 [x, y]).P (vs 4) wj := hd 4 (by decide)
      simp only [Jo.putl, Jo.zd, Jo.ze, Act.put, Jo.za, Jo.zb, Jo.zc] at hK ⊢
      rw [show vs 1 = _ from hd 1 (by decide)] at hK ⊢
      clear hd
      generalize vs 4 = u4 at hK d4 ⊢
      obtain ⟨A20, c20, rfl, h20⟩ := d4
      go_simp
      refine (kvMeet h20 HME.out).mono ?_
      rintro ee wk ⟨e21, K21, s21, M21, E21, K21b, s21b, M21b, E21b, rfl, v21, B⟩
      exact hK.out _ _ ⟨e21, K21, s21, M21, E21, K21b, s21b, M21b, E21b, rfl, v21⟩ B
    refine Jo.jd 6 (some 23) [(some 18, 1)] (Jo.Fact.eq (.agg #[.int .i64 D2, .bool s2, .int .u64 M2, .int .i64 E2])) rfl rfl rfl rfl (fun vs wj hJ hd K hK => ?_) ?_
    · simp only [Jo.putl, Jo.zd, Jo.ze, Act.put, Jo.za, Jo.zb, Jo.zc] at hK ⊢
      rw [show vs 1 = _ from hd 1 (by decide)] at hK ⊢
      clear hd
      have xX20 := (X2.below hJ).a 0 (.int .i64 D2) rfl
      have xX21 := (X2.below hJ).a 1 (.bool s2) rfl
      have xX22 := (X2.below hJ).a 2 (.int .u64 M2) rfl
      have xX23 := (X2.below hJ).a 3 (.int .i64 E2) rfl
      go_simp
      exact hK.out _ _ rfl (Below.refl _ _)
    refine Jo.jd 7 (some 24) [(some 18, 1), (some 22, 5), (some 23, 6)] (Jo.Fact.eq (.bool true)) rfl rfl rfl rfl (fun vs wj hJ hd K hK => ?_) ?_
    · have d5 : (Jo.Fact.iv m).P (vs 5) wj := hd 5 (by decide)
      simp only [Jo.putl, Jo.zd, Jo.ze, Act.put, Jo.za, Jo.zb, Jo.zc] at hK ⊢
      rw [show vs 1 = _ from hd 1 (by decide), show vs 6 = _ from hd 6 (by decide)] at hK ⊢
      clear hd
      generalize vs 5 = u5 at hK d5 ⊢
      obtain ⟨e21, K21, s21, M21, E21, K21b, s21b, M21b, E21b, rfl, v21⟩ := d5
      go_simp
      refine (kvHas v21.top.1 v21.top.2 u2 v21.rk HN.out HR3.out).mono ?_
      rintro ee wk ⟨rfl, B⟩
      exact hK.out _ _ rfl B
    refine Jo.jd 8 (some 25) [(some 18, 1)] (Jo.Fact.eq (.bool true)) rfl rfl rfl rfl (fun vs wj hJ hd K hK => ?_) ?_
    · simp only [Jo.putl, Jo.zd, Jo.ze, Act.put, Jo.za, Jo.zb, Jo.zc] at hK ⊢
      rw [show vs 1 = _ from hd 1 (by decide)] at hK ⊢
      clear hd
      go_simp
      exact hK.out _ _ rfl (Below.refl _ _)
    refine Jo.jd 9 (some 26) [(some 18, 1), (some 25, 8)] (Jo.Fact.eq (.bool true)) rfl rfl rfl rfl (fun vs wj hJ hd K hK => ?_) ?_
    · simp only [Jo.putl, Jo.zd, Jo.ze, Act.put, Jo.za, Jo.zb, Jo.zc] at hK ⊢
      rw [show vs 1 = _ from hd 1 (by decide), show vs 8 = _ from hd 8 (by decide)] at hK ⊢
      clear hd
      go_simp
      exact hK.out _ _ rfl (Below.refl _ _)
    refine Jo.jd 10 (some 27) [(some 26, 9)] (Jo.Fact.eq (.bool true)) rfl rfl rfl rfl (fun vs wj hJ hd K hK => ?_) ?_
    · simp only [Jo.putl, Jo.zd, Jo.ze, Act.put, Jo.za, Jo.zb, Jo.zc] at hK ⊢
      rw [show vs 9 = _ from hd 9 (by decide)] at hK ⊢
      clear hd
      go_simp
      exact hK.out _ _ rfl (Below.refl _ _)
    refine Jo.jd 11 (some 28) [(some 18, 1), (some 26, 9), (some 27, 10)] (Jo.Fact.eq (.bool true)) rfl rfl rfl rfl (fun vs wj hJ hd K hK => ?_) ?_
    · simp only [Jo.putl, Jo.zd, Jo.ze, Act.put, Jo.za, Jo.zb, Jo.zc] at hK ⊢
      rw [show vs 1 = _ from hd 1 (by decide), show vs 9 = _ from hd 9 (by decide), show vs 10 = _ from hd 10 (by decide)] at hK ⊢
      clear hd
      go_simp
      exact hK.out _ _ rfl (Below.refl _ _)
    refine Jo.jd 12 (some 29) [(some 18, 1), (some 24, 7), (some 28, 11)] (Jo.Fact.eq (.bool true)) rfl rfl rfl rfl (fun vs wj hJ hd K hK => ?_) ?_
    · simp only [Jo.putl, Jo.zd, Jo.ze, Act.put, Jo.za, Jo.zb, Jo.zc] at hK ⊢
      rw [show vs 1 = _ from hd 1 (by decide), show vs 7 = _ from hd 7 (by decide), show vs 11 = _ from hd 11 (by decide)] at hK ⊢
      clear hd
      go_simp
      exact hK.out _ _ (by first | rfl | simp) (Below.refl _ _)
    refine Jo.jd 13 (some 30) [(some 18, 1), (some 29, 12)] (Jo.Fact.eq (.bool true)) rfl rfl rfl rfl (fun vs wj hJ hd K hK => ?_) ?_
    · simp only [Jo.putl, Jo.zd, Jo.ze, Act.put, Jo.za, Jo.zb, Jo.zc] at hK ⊢
      rw [show vs 1 = _ from hd 1 (by decide), show vs 12 = _ from hd 12 (by decide)] at hK ⊢
      clear hd
      go_simp
      exact hK.out _ _ rfl (Below.refl _ _)
    refine Jo.jd 14 (some 31) [(some 30, 13)] (Jo.Fact.eq (.bool true)) rfl rfl rfl rfl (fun vs wj hJ hd K hK => ?_) ?_
    · simp only [Jo.putl, Jo.zd, Jo.ze, Act.put, Jo.za, Jo.zb, Jo.zc] at hK ⊢
      rw [show vs 13 = _ from hd 13 (by decide)] at hK ⊢
      clear hd
      go_simp
      exact hK.out _ _ rfl (Below.refl _ _)
    refine Jo.jd 15 (some 32) [(some 31, 14)] (Jo.Fact.eq (.bool true)) rfl rfl rfl rfl (fun vs wj hJ hd K hK => ?_) ?_
    · simp only [Jo.putl, Jo.zd, Jo.ze, Act.put, Jo.za, Jo.zb, Jo.zc] at hK ⊢
      rw [show vs 14 = _ from hd 14 (by decide)] at hK ⊢
      clear hd
      go_simp
      exact hK.out _ _ rfl (Below.refl _ _)
    refine Jo.jd 16 (some 33) [(some 31, 14), (some 32, 15)] (Jo.Fact.eq (.bool false)) rfl rfl rfl rfl (fun vs wj hJ hd K hK => ?_) ?_
    · simp only [Jo.putl, Jo.zd, Jo.ze, Act.put, Jo.za, Jo.zb, Jo.zc] at hK ⊢
      rw [show vs 14 = _ from hd 14 (by decide), show vs 15 = _ from hd 15 (by decide)] at hK ⊢
      clear hd
      go_simp
      exact hK.out _ _ rfl (Below.refl _ _)
    refine Jo.jd 17 (some 34) [(some 31, 14), (some 33, 16)] (Jo.Fact.eq (.bool false)) rfl rfl rfl rfl (fun vs wj hJ hd K hK => ?_) ?_
    · simp only [Jo.putl, Jo.zd, Jo.ze, Act.put, Jo.za, Jo.zb, Jo.zc] at hK ⊢
      rw [show vs 14 = _ from hd 14 (by decide), show vs 16 = _ from hd 16 (by decide)] at hK ⊢
      clear hd
      go_simp
      exact hK.out _ _ rfl (Below.refl _ _)
    refine Jo.jd 18 (some 35) [(some 34, 17)] (Jo.Fact.eq undef) rfl rfl rfl rfl (fun vs wj hJ hd K hK => ?_) ?_
    · simp only [Jo.putl, Jo.zd, Jo.ze, Act.put, Jo.za, Jo.zb, Jo.zc] at hK ⊢
      rw [show vs 17 = _ from hd 17 (by decide)] at hK ⊢
      clear hd
      go_simp
      exact hK.out _ _ rfl (Below.refl _ _)
    refine Jo.jd 19 (some 36) [(some 34, 17), (some 35, 18)] (Jo.Fact.eq undef) rfl rfl rfl rfl (fun vs wj hJ hd K hK => ?_) ?_
    · have d18 : (Jo.Fact.eq undef).P (vs 18) wj := hd 18 (by decide)
      simp only [Jo.putl, Jo.zd, Jo.ze, Act.put, Jo.za, Jo.zb, Jo.zc] at hK ⊢
      rw [show vs 17 = _ from hd 17 (by decide)] at hK ⊢
      clear hd
      generalize vs 18 = u18 at hK d18 ⊢
      replace d18 : u18 = _ := d18
      subst d18
      go_simp
      exact hK.out _ _ rfl (Below.refl _ _)
    refine Jo.jd 20 (some 37) [(some 31, 14), (some 34, 17), (some 36, 19)] (Jo.Fact.eq (.bool false)) rfl rfl rfl rfl (fun vs wj hJ hd K hK => ?_) ?_
    · have d19 : (Jo.Fact.eq undef).P (vs 19) wj := hd 19 (by decide)
      simp only [Jo.putl, Jo.zd, Jo.ze, Act.put, Jo.za, Jo.zb, Jo.zc] at hK ⊢
      rw [show vs 14 = _ from hd 14 (by decide), show vs 17 = _ from hd 17 (by decide)] at hK ⊢
      clear hd
      generalize vs 19 = u19 at hK d19 ⊢
      replace d19 : u19 = _ := d19
      subst d19
      go_simp
      exact hK.out _ _ rfl (Below.refl _ _)
    refine Jo.jd 21 (some 38) [(some 31, 14), (some 37, 20)] (Jo.Fact.eq (.bool false)) rfl rfl rfl rfl (fun vs wj hJ hd K hK => ?_) ?_
    · simp only [Jo.putl, Jo.zd, Jo.ze, Act.put, Jo.za, Jo.zb, Jo.zc] at hK ⊢
      rw [show vs 14 = _ from hd 14 (by decide), show vs 20 = _ from hd 20 (by decide)] at hK ⊢
      clear hd
      go_simp
      exact hK.out _ _ rfl (Below.refl _ _)
    refine Jo.jd 22 (some 39) [(some 38, 21)] (Jo.Fact.eq (.agg #[.bool e0, .int .i64 D0, .bool s0, .int .u64 M0, .int .i64 E0, .int .i64 G0, .bool g0, .int .u64 P0, .int .i64 Q0])) rfl rfl rfl rfl (fun vs wj hJ hd K hK => ?_) ?_
    · simp only [Jo.putl, Jo.zd, Jo.ze, Act.put, Jo.za, Jo.zb, Jo.zc] at hK ⊢
      rw [show vs 21 = _ from hd 21 (by decide)] at hK ⊢
      clear hd
      have xX00 := (X0.below hJ).a 0 (.bool e0) rfl
      have xX01 := (X0.below hJ).a 1 (.int .i64 D0) rfl
      have xX02 := (X0.below hJ).a 2 (.bool s0) rfl
      have xX03 := (X0.below hJ).a 3 (.int .u64 M0) rfl
      have xX04 := (X0.below hJ).a 4 (.int .i64 E0) rfl
      have xX05 := (X0.below hJ).a 5 (.int .i64 G0) rfl
      have xX06 := (X0.below hJ).a 6 (.bool g0) rfl
      have xX07 := (X0.below hJ).a 7 (.int .u64 P0) rfl
      have xX08 := (X0.below hJ).a 8 (.int .i64 Q0) rfl
      go_simp
      exact hK.out _ _ rfl (Below.refl _ _)
    refine Jo.jd 23 (some 40) [(some 38, 21)] (Jo.Fact.eq (.agg #[.bool e1, .int .i64 D1, .bool s1, .int .u64 M1, .int .i64 E1, .int .i64 G1, .bool g1, .int .u64 P1, .int .i64 Q1])) rfl rfl rfl rfl (fun vs wj hJ hd K hK => ?_) ?_
    · simp only [Jo.putl, Jo.zd, Jo.ze, Act.put, Jo.za, Jo.zb, Jo.zc] at hK ⊢
      rw [show vs 21 = _ from hd 21 (by decide)] at hK ⊢
      clear hd
      have xX10 := (X1.below hJ).a 0 (.bool e1) rfl
      have xX11 := (X1.below hJ).a 1 (.int .i64 D1) rfl
      have xX12 := (X1.below hJ).a 2 (.bool s1) rfl
      have xX13 := (X1.below hJ).a 3 (.int .u64 M1) rfl
      have xX14 := (X1.below hJ).a 4 (.int .i64 E1) rfl
      have xX15 := (X1.below hJ).a 5 (.int .i64 G1) rfl
      have xX16 := (X1.below hJ).a 6 (.bool g1) rfl
      have xX17 := (X1.below hJ).a 7 (.int .u64 P1) rfl
      have xX18 := (X1.below hJ).a 8 (.int .i64 Q1) rfl
      go_simp
      exact hK.out _ _ rfl (Below.refl _ _)
    refine Jo.jd 24 (some 41) [(some 38, 21), (some 39, 22), (some 40, 23)] (Jo.Fact.il8 2 [x, y]) rfl rfl rfl rfl (fun vs wj hJ hd K hK => ?_) ?_
    · simp only [Jo.putl, Jo.zd, Jo.ze, Act.put, Jo.za, Jo.zb, Jo.zc] at hK ⊢
      rw [show vs 21 = _ from hd 21 (by decide), show vs 22 = _ from hd 22 (by decide), show vs 23 = _ from hd 23 (by decide)] at hK ⊢
      clear hd
      go_simp
      exact hK.out _ _ ⟨_, 2, rfl, Il8.lit2 rfl ⟨u0, v0, HX0.out⟩ ⟨u1, v1, HX1.out⟩⟩ (bel1 _ _)
    refine Jo.jd 25 (some 42) [(some 38, 21), (some 41, 24)] (Jo.Fact.iv h) rfl rfl rfl rfl (fun vs wj hJ hd K hK => ?_) ?_
    · have d24 : (Jo.Fact.il8 2 [x, y]).P (vs 24) wj := hd 24 (by decide)
      simp only [Jo.putl, Jo.zd, Jo.ze, Act.put, Jo.za, Jo.zb, Jo.zc] at hK ⊢
      rw [show vs 21 = _ from hd 21 (by decide)] at hK ⊢
      clear hd
      generalize vs 24 = u24 at hK d24 ⊢
      obtain ⟨A22, c22, rfl, h22⟩ := d24
      go_simp
      refine (kvHull h22 HHU.out).mono ?_
      rintro ee wk ⟨e23, K23, s23, M23, E23, K23b, s23b, M23b, E23b, rfl, v23, B⟩
      exact hK.out _ _ ⟨e23, K23, s23, M23, E23, K23b, s23b, M23b, E23b, rfl, v23⟩ B
    refine Jo.jd 26 (some 43) [(some 38, 21)] (Jo.Fact.eq (.agg #[.int .i64 D2, .bool s2, .int .u64 M2, .int .i64 E2])) rfl rfl rfl rfl (fun vs wj hJ hd K hK => ?_) ?_
    · simp only [Jo.putl, Jo.zd, Jo.ze, Act.put, Jo.za, Jo.zb, Jo.zc] at hK ⊢
      rw [show vs 21 = _ from hd 21 (by decide)] at hK ⊢
      clear hd
      have xX20 := (X2.below hJ).a 0 (.int .i64 D2) rfl
      have xX21 := (X2.below hJ).a 1 (.bool s2) rfl
      have xX22 := (X2.below hJ).a 2 (.int .u64 M2) rfl
      have xX23 := (X2.below hJ).a 3 (.int .i64 E2) rfl
      go_simp
      exact hK.out _ _ rfl (Below.refl _ _)
    refine Jo.jd 27 (some 44) [(some 38, 21), (some 42, 25), (some 43, 26)] (Jo.Fact.eq (.bool true)) rfl rfl rfl rfl (fun vs wj hJ hd K hK => ?_) ?_
    · have d25 : (Jo.Fact.iv h).P (vs 25) wj := hd 25 (by decide)
      simp only [Jo.putl, Jo.zd, Jo.ze, Act.put, Jo.za, Jo.zb, Jo.zc] at hK ⊢
      rw [show vs 21 = _ from hd 21 (by decide), show vs 26 = _ from hd 26 (by decide)] at hK ⊢
      clear hd
      generalize vs 25 = u25 at hK d25 ⊢
      obtain ⟨e23, K23, s23, M23, E23, K23b, s23b, M23b, E23b, rfl, v23⟩ := d25
      go_simp
      refine (kvHas v23.top.1 v23.top.2 u2 v23.rk HN.out HR4.out).mono ?_
      rintro ee wk ⟨rfl, B⟩
      exact hK.out _ _ rfl B
    refine Jo.jd 28 (some 45) [(some 31, 14), (some 38, 21), (some 44, 27)] (Jo.Fact.eq (.bool true)) rfl rfl rfl rfl (fun vs wj hJ hd K hK => ?_) ?_
    · simp only [Jo.putl, Jo.zd, Jo.ze, Act.put, Jo.za, Jo.zb, Jo.zc] at hK ⊢
      rw [show vs 14 = _ from hd 14 (by decide), show vs 21 = _ from hd 21 (by decide), show vs 27 = _ from hd 27 (by decide)] at hK ⊢
      clear hd
      go_simp
      exact hK.out _ _ rfl (Below.refl _ _)
    refine Jo.jd 29 (some 46) [(some 31, 14), (some 45, 28)] (Jo.Fact.eq (.bool true)) rfl rfl rfl rfl (fun vs wj hJ hd K hK => ?_) ?_
    · simp only [Jo.putl, Jo.zd, Jo.ze, Act.put, Jo.za, Jo.zb, Jo.zc] at hK ⊢
      rw [show vs 14 = _ from hd 14 (by decide), show vs 28 = _ from hd 28 (by decide)] at hK ⊢
      clear hd
      go_simp
      exact hK.out _ _ rfl (Below.refl _ _)
    refine Jo.jd 30 (some 6) [(some 46, 29)] (Jo.Fact.eq (.bool true)) rfl rfl rfl rfl (fun vs wj hJ hd K hK => ?_) ?_
    · simp only [Jo.putl, Jo.zd, Jo.ze, Act.put, Jo.za, Jo.zb, Jo.zc] at hK ⊢
      rw [show vs 29 = _ from hd 29 (by decide)] at hK ⊢
      clear hd
      go_simp
      exact hK.out _ _ rfl (Below.refl _ _)
    exact Jo.Steps.nil
  have d4 : (Jo.Fact.il8 2 [x, y]).P (vs 4) w8 := hd 4 (by decide)
  have d5 : (Jo.Fact.iv m).P (vs 5) w8 := hd 5 (by decide)
  have d18 : (Jo.Fact.eq undef).P (vs 18) w8 := hd 18 (by decide)
  have d19 : (Jo.Fact.eq undef).P (vs 19) w8 := hd 19 (by decide)
  have d24 : (Jo.Fact.il8 2 [x, y]).P (vs 24) w8 := hd 24 (by decide)
  have d25 : (Jo.Fact.iv h).P (vs 25) w8 := hd 25 (by decide)
  simp only [Jo.putl, Jo.zd, Jo.ze, Act.put, Jo.za, Jo.zb, Jo.zc]
  rw [show vs 0 = _ from hd 0 (by decide), show vs 1 = _ from hd 1 (by decide), show vs 2 = _ from hd 2 (by decide), show vs 3 = _ from hd 3 (by decide), show vs 6 = _ from hd 6 (by decide), show vs 7 = _ from hd 7 (by decide), show vs 8 = _ from hd 8 (by decide), show vs 9 = _ from hd 9 (by decide), show vs 10 = _ from hd 10 (by decide), show vs 11 = _ from hd 11 (by decide), show vs 12 = _ from hd 12 (by decide), show vs 13 = _ from hd 13 (by decide), show vs 14 = _ from hd 14 (by decide), show vs 15 = _ from hd 15 (by decide), show vs 16 = _ from hd 16 (by decide), show vs 17 = _ from hd 17 (by decide), show vs 20 = _ from hd 20 (by decide), show vs 21 = _ from hd 21 (by decide), show vs 22 = _ from hd 22 (by decide), show vs 23 = _ from hd 23 (by decide), show vs 26 = _ from hd 26 (by decide), show vs 27 = _ from hd 27 (by decide), show vs 28 = _ from hd 28 (by decide), show vs 29 = _ from hd 29 (by decide), show vs 30 = _ from hd 30 (by decide)]
  clear hd
  generalize vs 4 = u4 at d4 ⊢
  generalize vs 5 = u5 at d5 ⊢
  generalize vs 18 = u18 at d18 ⊢
  generalize vs 19 = u19 at d19 ⊢
  generalize vs 24 = u24 at d24 ⊢
  generalize vs 25 = u25 at d25 ⊢
  obtain ⟨_, _, rfl, _⟩ := d4
  obtain ⟨e21, K21, s21, M21, E21, K21b, s21b, M21b, E21b, rfl, v21⟩ := d5
  replace d18 : u18 = _ := d18
  subst d18
  replace d19 : u19 = _ := d19
  subst d19
  obtain ⟨_, _, rfl, _⟩ := d24
  obtain ⟨e23, K23, s23, M23, E23, K23b, s23b, M23b, E23b, rfl, v23⟩ := d25
  replace X0 := X0.below hJ
  replace X1 := X1.below hJ
  replace X2 := X2.below hJ
  replace HB := Lib.hid (bt HB.out hJ)
  refine Jo.jdone (by kernel_rfl) ?_
  go_wp2
  go_ret
  exact ⟨rfl, HB.out⟩
set_option maxHeartbeats 8000000 in
theorem ivHas_tf (e0 : Bool) (D0 : Int) (s0 : Bool) (M0 E0 G0 : Int) (g0 : Bool) (P0 Q0 : Int) (e1 : Bool) (D1 : Int) (s1 : Bool) (M1 E1 G1 : Int) (g1 : Bool) (P1 Q1 : Int) (D2 : Int) (s2 : Bool) (M2 E2 : Int) (w : World) (x y m h : Sp) (n : Int) (u0 : M0 < 18446744073709551616) (v0 : P0 < 18446744073709551616) (u1 : M1 < 18446744073709551616) (v1 : P1 < 18446744073709551616) (u2 : M2 < 18446744073709551616) (hx : rkI e0 D0 s0 M0 E0 G0 g0 P0 Q0 = x) (hy : rkI e1 D1 s1 M1 E1 G1 g1 P1 Q1 = y) (hn : rk D2 s2 M2 E2 = n)
    (h1 : hasI x n = true) (h2 : hasI y n = false) (hm : meetL [x, y] = m) (h3 : hasI m n = false) (hh : hullL [x, y] = h) (h4 : hasI h n = true) :
    Calls Try.prog 5 #[.agg #[.bool e0, .int .i64 D0, .bool s0, .int .u64 M0, .int .i64 E0, .int .i64 G0, .bool g0, .int .u64 P0, .int .i64 Q0], .agg #[.bool e1, .int .i64 D1, .bool s1, .int .u64 M1, .int .i64 E1, .int .i64 G1, .bool g1, .int .u64 P1, .int .i64 Q1], .agg #[.int .i64 D2, .bool s2, .int .u64 M2, .int .i64 E2]] w (PB w true) := by
  have HX0 := Lib.hid hx
  have HX1 := Lib.hid hy
  have HN := Lib.hid hn
  have HP := Lib.hid h1
  have HQ := Lib.hid h2
  have HME := Lib.hid hm
  have HR3 := Lib.hid h3
  have HHU := Lib.hid hh
  have HR4 := Lib.hid h4
  clear hx hy hn h1 h2 hm h3 hh h4
  go_enter Try.func5, Try.ntmps5
  go_upto_region 1 with (fail)
  have X0 := (Bo.newAt w (g := w.heap.size) (by simp) #[.bool e0, .int .i64 D0, .bool s0, .int .u64 M0, .int .i64 E0, .int .i64 G0, .bool g0, .int .u64 P0, .int .i64 Q0] 26).below (bel2 _ (.cells #[.bool e1, .int .i64 D1, .bool s1, .int .u64 M1, .int .i64 E1, .int .i64 G1, .bool g1, .int .u64 P1, .int .i64 Q1] 26) (.cells #[.int .i64 D2, .bool s2, .int .u64 M2, .int .i64 E2] 24))
  have X1 := (Bo.newAt (w.alloc (.cells #[.bool e0, .int .i64 D0, .bool s0, .int .u64 M0, .int .i64 E0, .int .i64 G0, .bool g0, .int .u64 P0, .int .i64 Q0] 26)) (g := w.heap.size + 1) (by simp) #[.bool e1, .int .i64 D1, .bool s1, .int .u64 M1, .int .i64 E1, .int .i64 G1, .bool g1, .int .u64 P1, .int .i64 Q1] 26).below (bel1 _ (.cells #[.int .i64 D2, .bool s2, .int .u64 M2, .int .i64 E2] 24))
  have X2 := (Bo.newAt ((w.alloc (.cells #[.bool e0, .int .i64 D0, .bool s0, .int .u64 M0, .int .i64 E0, .int .i64 G0, .bool g0, .int .u64 P0, .int .i64 Q0] 26)).alloc (.cells #[.bool e1, .int .i64 D1, .bool s1, .int .u64 M1, .int .i64 E1, .int .i64 G1, .bool g1, .int .u64 P1, .int .i64 Q1] 26)) (g := w.heap.size + 1 + 1) (by simp) #[.int .i64 D2, .bool s2, .int .u64 M2, .int .i64 E2] 24)
  have HB := Lib.hid (bel3 w (.cells #[.bool e0, .int .i64 D0, .bool s0, .int .u64 M0, .int .i64 E0, .int .i64 G0, .bool g0, .int .u64 P0, .int .i64 Q0] 26) (.cells #[.bool e1, .int .i64 D1, .bool s1, .int .u64 M1, .int .i64 E1, .int .i64 G1, .bool g1, .int .u64 P1, .int .i64 Q1] 26) (.cells #[.int .i64 D2, .bool s2, .int .u64 M2, .int .i64 E2] 24))
  generalize hW1 : (((w.alloc (.cells #[.bool e0, .int .i64 D0, .bool s0, .int .u64 M0, .int .i64 E0, .int .i64 G0, .bool g0, .int .u64 P0, .int .i64 Q0] 26)).alloc (.cells #[.bool e1, .int .i64 D1, .bool s1, .int .u64 M1, .int .i64 E1, .int .i64 G1, .bool g1, .int .u64 P1, .int .i64 Q1] 26)).alloc (.cells #[.int .i64 D2, .bool s2, .int .u64 M2, .int .i64 E2] 24)) = w1 at *
  clear hW1
  go_wp2_with fail
  refine (awake8).mono ?_
  rintro ee w2 ⟨rfl, B⟩
  replace X0 := X0.below B
  replace X1 := X1.below B
  replace X2 := X2.below B
  replace HB := Lib.hid (bt HB.out B)
  clear B
  obtain ⟨xX00, xX01, xX02, xX03, xX04, xX05, xX06, xX07, xX08⟩ := X0.ce9 rfl rfl rfl rfl rfl rfl rfl rfl rfl
  obtain ⟨xX20, xX21, xX22, xX23⟩ := X2.ce4 rfl rfl rfl rfl
  go_wp2_with fail
  refine (kvHas u0 v0 u2 HX0.out HN.out HP.out).mono ?_
  rintro ee w3 ⟨rfl, B⟩
  clear xX00 xX01 xX02 xX03 xX04 xX05 xX06 xX07 xX08 xX20 xX21 xX22 xX23
  replace X0 := X0.below B
  replace X1 := X1.below B
  replace X2 := X2.below B
  replace HB := Lib.hid (bt HB.out B)
  clear B
  obtain ⟨xX10, xX11, xX12, xX13, xX14, xX15, xX16, xX17, xX18⟩ := X1.ce9 rfl rfl rfl rfl rfl rfl rfl rfl rfl
  obtain ⟨xX20, xX21, xX22, xX23⟩ := X2.ce4 rfl rfl rfl rfl
  go_wp2_with fail
  refine (kvHas u1 v1 u2 HX1.out HN.out HQ.out).mono ?_
  rintro ee w4 ⟨rfl, B⟩
  clear xX10 xX11 xX12 xX13 xX14 xX15 xX16 xX17 xX18 xX20 xX21 xX22 xX23
  replace X0 := X0.below B
  replace X1 := X1.below B
  replace X2 := X2.below B
  replace HB := Lib.hid (bt HB.out B)
  clear B
  go_upto_region 4 with (fail)
  refine Jo.region_joint (T := [0, 1, 2, 3, 4, 5, 6, 7, 8, 9, 10, 11, 12, 13, 14, 15, 16, 17, 18, 19, 20, 21, 22, 23, 24, 25, 26, 27, 28, 29, 30]) (ds := [some 17, some 18, some 19, some 20, some 21, some 22, some 23, some 24, some 25, some 26, some 27, some 28, some 29, some 30, some 31, some 32, some 33, some 34, some 35, some 36, some 37, some 38, some 39, some 40, some 41, some 42, some 43, some 44, some 45, some 46, some 6]) (ls := [[], [0], [1], [1], [1, 2, 3], [1, 4], [1], [1, 5, 6], [1], [1, 8], [9], [1, 9, 10], [1, 7, 11], [1, 12], [13], [14], [14, 15], [14, 16], [17], [17, 18], [14, 17, 19], [14, 20], [21], [21], [21, 22, 23], [21, 24], [21], [21, 25, 26], [14, 21, 27], [14, 28], [29]]) (k := 31) (L := [(some 17, 0), (some 18, 1), (some 19, 2), (some 20, 3), (some 21, 4), (some 22, 5), (some 23, 6), (some 24, 7), (some 25, 8), (some 26, 9), (some 27, 10), (some 28, 11), (some 29, 12), (some 30, 13), (some 31, 14), (some 32, 15), (some 33, 16), (some 34, 17), (some 35, 18), (some 36, 19), (some 37, 20), (some 38, 21), (some 39, 22), (some 40, 23), (some 41, 24), (some 42, 25), (some 43, 26), (some 44, 27), (some 45, 28), (some 46, 29), (some 6, 30)]) (fuel := 0) (J := fun wj => Below (World.heap w4).size w4 wj)
    (F := [Jo.Fact.eq (.bool true), Jo.Fact.eq (.bool true), Jo.Fact.eq (.agg #[.bool e0, .int .i64 D0, .bool s0, .int .u64 M0, .int .i64 E0, .int .i64 G0, .bool g0, .int .u64 P0, .int .i64 Q0]), Jo.Fact.eq (.agg #[.bool e1, .int .i64 D1, .bool s1, .int .u64 M1, .int .i64 E1, .int .i64 G1, .bool g1, .int .u64 P1, .int .i64 Q1]), Jo.Fact.il8 2 [x, y], Jo.Fact.iv m, Jo.Fact.eq (.agg #[.int .i64 D2, .bool s2, .int .u64 M2, .int .i64 E2]), Jo.Fact.eq (.bool false), Jo.Fact.eq (.bool true), Jo.Fact.eq (.bool true), Jo.Fact.eq (.bool false), Jo.Fact.eq (.bool false), Jo.Fact.eq (.bool true), Jo.Fact.eq (.bool true), Jo.Fact.eq (.bool true), Jo.Fact.eq (.bool true), Jo.Fact.eq (.bool false), Jo.Fact.eq (.bool false), Jo.Fact.eq undef, Jo.Fact.eq undef, Jo.Fact.eq (.bool false), Jo.Fact.eq (.bool false), Jo.Fact.eq (.agg #[.bool e0, .int .i64 D0, .bool s0, .int .u64 M0, .int .i64 E0, .int .i64 G0, .bool g0, .int .u64 P0, .int .i64 Q0]), Jo.Fact.eq (.agg #[.bool e1, .int .i64 D1, .bool s1, .int .u64 M1, .int .i64 E1, .int .i64 G1, .bool g1, .int .u64 P1, .int .i64 Q1]), Jo.Fact.il8 2 [x, y], Jo.Fact.iv h, Jo.Fact.eq (.agg #[.int .i64 D2, .bool s2, .int .u64 M2, .int .i64 E2]), Jo.Fact.eq (.bool true), Jo.Fact.eq (.bool true), Jo.Fact.eq (.bool true), Jo.Fact.eq (.bool true)])
    (by kernel_rfl) (by kernel_rfl) (by decide) rfl rfl (fun _ _ h b => bt h b) ((Below.refl _ _).drew) ?_ (fun vs w8 hJ hd => ?_)
  · refine Jo.jd 0 (some 17) [] (Jo.Fact.eq (.bool true)) rfl rfl rfl rfl (fun vs wj hJ hd K hK => ?_) ?_
    · simp only [Jo.putl, Jo.ze, Act.put, Jo.za, Jo.zb, Jo.zc] at hK ⊢
      clear hd
      go_simp
      exact hK.out _ _ rfl (Below.refl _ _)
    refine Jo.jd 1 (some 18) [(some 17, 0)] (Jo.Fact.eq (.bool true)) rfl rfl rfl rfl (fun vs wj hJ hd K hK => ?_) ?_
    · simp only [Jo.putl, Jo.zd, Jo.ze, Act.put, Jo.za, Jo.zb, Jo.zc] at hK ⊢
      rw [show vs 0 = _ from hd 0 (by decide)] at hK ⊢
      clear hd
      go_simp
      exact hK.out _ _ rfl (Below.refl _ _)
    refine Jo.jd 2 (some 19) [(some 18, 1)] (Jo.Fact.eq (.agg #[.bool e0, .int .i64 D0, .bool s0, .int .u64 M0, .int .i64 E0, .int .i64 G0, .bool g0, .int .u64 P0, .int .i64 Q0])) rfl rfl rfl rfl (fun vs wj hJ hd K hK => ?_) ?_
    · simp only [Jo.putl, Jo.zd, Jo.ze, Act.put, Jo.za, Jo.zb, Jo.zc] at hK ⊢
      rw [show vs 1 = _ from hd 1 (by decide)] at hK ⊢
      clear hd
      have xX00 := (X0.below hJ).a 0 (.bool e0) rfl
      have xX01 := (X0.below hJ).a 1 (.int .i64 D0) rfl
      have xX02 := (X0.below hJ).a 2 (.bool s0) rfl
      have xX03 := (X0.below hJ).a 3 (.int .u64 M0) rfl
      have xX04 := (X0.below hJ).a 4 (.int .i64 E0) rfl
      have xX05 := (X0.below hJ).a 5 (.int .i64 G0) rfl
      have xX06 := (X0.below hJ).a 6 (.bool g0) rfl
      have xX07 := (X0.below hJ).a 7 (.int .u64 P0) rfl
      have xX08 := (X0.below hJ).a 8 (.int .i64 Q0) rfl
      go_simp
      exact hK.out _ _ rfl (Below.refl _ _)
    refine Jo.jd 3 (some 20) [(some 18, 1)] (Jo.Fact.eq (.agg #[.bool e1, .int .i64 D1, .bool s1, .int .u64 M1, .int .i64 E1, .int .i64 G1, .bool g1, .int .u64 P1, .int .i64 Q1])) rfl rfl rfl rfl (fun vs wj hJ hd K hK => ?_) ?_
    · simp only [Jo.putl, Jo.zd, Jo.ze, Act.put, Jo.za, Jo.zb, Jo.zc] at hK ⊢
      rw [show vs 1 = _ from hd 1 (by decide)] at hK ⊢
      clear hd
      have xX10 := (X1.below hJ).a 0 (.bool e1) rfl
      have xX11 := (X1.below hJ).a 1 (.int .i64 D1) rfl
      have xX12 := (X1.below hJ).a 2 (.bool s1) rfl
      have xX13 := (X1.below hJ).a 3 (.int .u64 M1) rfl
      have xX14 := (X1.below hJ).a 4 (.int .i64 E1) rfl
      have xX15 := (X1.below hJ).a 5 (.int .i64 G1) rfl
      have xX16 := (X1.below hJ).a 6 (.bool g1) rfl
      have xX17 := (X1.below hJ).a 7 (.int .u64 P1) rfl
      have xX18 := (X1.below hJ).a 8 (.int .i64 Q1) rfl
      go_simp
      exact hK.out _ _ rfl (Below.refl _ _)
    refine Jo.jd 4 (some 21) [(some 18, 1), (some 19, 2), (some 20, 3)] (Jo.Fact.il8 2 [x, y]) rfl rfl rfl rfl (fun vs wj hJ hd K hK => ?_) ?_
    · have d1 : (Jo.Fact.eq (.bool true)).P (vs 1) wj := hd 1 (by decide)
      simp only [Jo.putl, Jo.zd, Jo.ze, Act.put, Jo.za, Jo.zb, Jo.zc] at hK ⊢
      rw [show vs 2 = _ from hd 2 (by decide), show vs 3 = _ from hd 3 (by decide)] at hK ⊢
      clear hd
      generalize vs 1 = u1 at hK d1 ⊢
      replace d1 : u1 = _ := d1
      subst d1
      go_simp
      exact hK.out _ _ ⟨_, 2, rfl, Il8.lit2 rfl ⟨u0, v0, HX0.out⟩ ⟨u1, v1, HX1.out⟩⟩ (bel1 _ _)
    refine Jo.jd 5 (some 22) [(some 18, 1), (some 21, 4)] (Jo.Fact.iv m) rfl rfl rfl rfl (fun vs wj hJ hd K hK => ?_) ?_
    · have d4 : (Jo.Fact.il8 2 [x, y]).P (vs 4) wj := hd 4 (by decide)
      simp only [Jo.putl, Jo.zd, Jo.ze, Act.put, Jo.za, Jo.zb, Jo.zc] at hK ⊢
      rw [show vs 1 = _ from hd 1 (by decide)] at hK ⊢
      clear hd
      generalize vs 4 = u4 at hK d4 ⊢
      obtain ⟨A20, c20, rfl, h20⟩ := d4
      go_simp
      refine (kvMeet h20 HME.out).mono ?_
      rintro ee wk ⟨e21, K21, s21, M21, E21, K21b, s21b, M21b, E21b, rfl, v21, B⟩
      exact hK.out _ _ ⟨e21, K21, s21, M21, E21, K21b, s21b, M21b, E21b, rfl, v21⟩ B
    refine Jo.jd 6 (some 23) [(some 18, 1)] (Jo.Fact.eq (.agg #[.int .i64 D2, .bool s2, .int .u64 M2, .int .i64 E2])) rfl rfl rfl rfl (fun vs wj hJ hd K hK => ?_) ?_
    · simp only [Jo.putl, Jo.zd, Jo.ze, Act.put, Jo.za, Jo.zb, Jo.zc] at hK ⊢
      rw [show vs 1 = _ from hd 1 (by decide)] at hK ⊢
      clear hd
      have xX20 := (X2.below hJ).a 0 (.int .i64 D2) rfl
      have xX21 := (X2.below hJ).a 1 (.bool s2) rfl
      have xX22 := (X2.below hJ).a 2 (.int .u64 M2) rfl
      have xX23 := (X2.below hJ).a 3 (.int .i64 E2) rfl
      go_simp
      exact hK.out _ _ rfl (Below.refl _ _)
    refine Jo.jd 7 (some 24) [(some 18, 1), (some 22, 5), (some 23, 6)] (Jo.Fact.eq (.bool false)) rfl rfl rfl rfl (fun vs wj hJ hd K hK => ?_) ?_
    · have d5 : (Jo.Fact.iv m).P (vs 5) wj := hd 5 (by decide)
      simp only [Jo.putl, Jo.zd, Jo.ze, Act.put, Jo.za, Jo.zb, Jo.zc] at hK ⊢
      rw [show vs 1 = _ from hd 1 (by decide), show vs 6 = _ from hd 6 (by decide)] at hK ⊢
      clear hd
      generalize vs 5 = u5 at hK d5 ⊢
      obtain ⟨e21, K21, s21, M21, E21, K21b, s21b, M21b, E21b, rfl, v21⟩ := d5
      go_simp
      refine (kvHas v21.top.1 v21.top.2 u2 v21.rk HN.out HR3.out).mono ?_
      rintro ee wk ⟨rfl, B⟩
      exact hK.out _ _ rfl B
    refine Jo.jd 8 (some 25) [(some 18, 1)] (Jo.Fact.eq (.bool true)) rfl rfl rfl rfl (fun vs wj hJ hd K hK => ?_) ?_
    · simp only [Jo.putl, Jo.zd, Jo.ze, Act.put, Jo.za, Jo.zb, Jo.zc] at hK ⊢
      rw [show vs 1 = _ from hd 1 (by decide)] at hK ⊢
      clear hd
      go_simp
      exact hK.out _ _ rfl (Below.refl _ _)
    refine Jo.jd 9 (some 26) [(some 18, 1), (some 25, 8)] (Jo.Fact.eq (.bool true)) rfl rfl rfl rfl (fun vs wj hJ hd K hK => ?_) ?_
    · simp only [Jo.putl, Jo.zd, Jo.ze, Act.put, Jo.za, Jo.zb, Jo.zc] at hK ⊢
      rw [show vs 1 = _ from hd 1 (by decide), show vs 8 = _ from hd 8 (by decide)] at hK ⊢
      clear hd
      go_simp
      exact hK.out _ _ rfl (Below.refl _ _)
    refine Jo.jd 10 (some 27) [(some 26, 9)] (Jo.Fact.eq (.bool false)) rfl rfl rfl rfl (fun vs wj hJ hd K hK => ?_) ?_
    · simp only [Jo.putl, Jo.zd, Jo.ze, Act.put, Jo.za, Jo.zb, Jo.zc] at hK ⊢
      rw [show vs 9 = _ from hd 9 (by decide)] at hK ⊢
      clear hd
      go_simp
      exact hK.out _ _ rfl (Below.refl _ _)
    refine Jo.jd 11 (some 28) [(some 18, 1), (some 26, 9), (some 27, 10)] (Jo.Fact.eq (.bool false)) rfl rfl rfl rfl (fun vs wj hJ hd K hK => ?_) ?_
    · simp only [Jo.putl, Jo.zd, Jo.ze, Act.put, Jo.za, Jo.zb, Jo.zc] at hK ⊢
      rw [show vs 1 = _ from hd 1 (by decide), show vs 9 = _ from hd 9 (by decide), show vs 10 = _ from hd 10 (by decide)] at hK ⊢
      clear hd
      go_simp
      exact hK.out _ _ rfl (Below.refl _ _)
    refine Jo.jd 12 (some 29) [(some 18, 1), (some 24, 7), (some 28, 11)] (Jo.Fact.eq (.bool true)) rfl rfl rfl rfl (fun vs wj hJ hd K hK => ?_) ?_
    · simp only [Jo.putl, Jo.zd, Jo.ze, Act.put, Jo.za, Jo.zb, Jo.zc] at hK ⊢
      rw [show vs 1 = _ from hd 1 (by decide), show vs 7 = _ from hd 7 (by decide), show vs 11 = _ from hd 11 (by decide)] at hK ⊢
      clear hd
      go_simp
      exact hK.out _ _ (by first | rfl | simp) (Below.refl _ _)
    refine Jo.jd 13 (some 30) [(some 18, 1), (some 29, 12)] (Jo.Fact.eq (.bool true)) rfl rfl rfl rfl (fun vs wj hJ hd K hK => ?_) ?_
    · simp only [Jo.putl, Jo.zd, Jo.ze, Act.put, Jo.za, Jo.zb, Jo.zc] at hK ⊢
      rw [show vs 1 = _ from hd 1 (by decide), show vs 12 = _ from hd 12 (by decide)] at hK ⊢
      clear hd
      go_simp
      exact hK.out _ _ rfl (Below.refl _ _)
    refine Jo.jd 14 (some 31) [(some 30, 13)] (Jo.Fact.eq (.bool true)) rfl rfl rfl rfl (fun vs wj hJ hd K hK => ?_) ?_
    · simp only [Jo.putl, Jo.zd, Jo.ze, Act.put, Jo.za, Jo.zb, Jo.zc] at hK ⊢
      rw [show vs 13 = _ from hd 13 (by decide)] at hK ⊢
      clear hd
      go_simp
      exact hK.out _ _ rfl (Below.refl _ _)
    refine Jo.jd 15 (some 32) [(some 31, 14)] (Jo.Fact.eq (.bool true)) rfl rfl rfl rfl (fun vs wj hJ hd K hK => ?_) ?_
    · simp only [Jo.putl, Jo.zd, Jo.ze, Act.put, Jo.za, Jo.zb, Jo.zc] at hK ⊢
      rw [show vs 14 = _ from hd 14 (by decide)] at hK ⊢
      clear hd
      go_simp
      exact hK.out _ _ rfl (Below.refl _ _)
    refine Jo.jd 16 (some 33) [(some 31, 14), (some 32, 15)] (Jo.Fact.eq (.bool false)) rfl rfl rfl rfl (fun vs wj hJ hd K hK => ?_) ?_
    · simp only [Jo.putl, Jo.zd, Jo.ze, Act.put, Jo.za, Jo.zb, Jo.zc] at hK ⊢
      rw [show vs 14 = _ from hd 14 (by decide), show vs 15 = _ from hd 15 (by decide)] at hK ⊢
      clear hd
      go_simp
      exact hK.out _ _ rfl (Below.refl _ _)
    refine Jo.jd 17 (some 34) [(some 31, 14), (some 33, 16)] (Jo.Fact.eq (.bool false)) rfl rfl rfl rfl (fun vs wj hJ hd K hK => ?_) ?_
    · simp only [Jo.putl, Jo.zd, Jo.ze, Act.put, Jo.za, Jo.zb, Jo.zc] at hK ⊢
      rw [show vs 14 = _ from hd 14 (by decide), show vs 16 = _ from hd 16 (by decide)] at hK ⊢
      clear hd
      go_simp
      exact hK.out _ _ rfl (Below.refl _ _)
    refine Jo.jd 18 (some 35) [(some 34, 17)] (Jo.Fact.eq undef) rfl rfl rfl rfl (fun vs wj hJ hd K hK => ?_) ?_
    · simp only [Jo.putl, Jo.zd, Jo.ze, Act.put, Jo.za, Jo.zb, Jo.zc] at hK ⊢
      rw [show vs 17 = _ from hd 17 (by decide)] at hK ⊢
      clear hd
      go_simp
      exact hK.out _ _ rfl (Below.refl _ _)
    refine Jo.jd 19 (some 36) [(some 34, 17), (some 35, 18)] (Jo.Fact.eq undef) rfl rfl rfl rfl (fun vs wj hJ hd K hK => ?_) ?_
    · have d18 : (Jo.Fact.eq undef).P (vs 18) wj := hd 18 (by decide)
      simp only [Jo.putl, Jo.zd, Jo.ze, Act.put, Jo.za, Jo.zb, Jo.zc] at hK ⊢
      rw [show vs 17 = _ from hd 17 (by decide)] at hK ⊢
      clear hd
      generalize vs 18 = u18 at hK d18 ⊢
      replace d18 : u18 = _ := d18
      subst d18
      go_simp
      exact hK.out _ _ rfl (Below.refl _ _)
    refine Jo.jd 20 (some 37) [(some 31, 14), (some 34, 17), (some 36, 19)] (Jo.Fact.eq (.bool false)) rfl rfl rfl rfl (fun vs wj hJ hd K hK => ?_) ?_
    · have d19 : (Jo.Fact.eq undef).P (vs 19) wj := hd 19 (by decide)
      simp only [Jo.putl, Jo.zd, Jo.ze, Act.put, Jo.za, Jo.zb, Jo.zc] at hK ⊢
      rw [show vs 14 = _ from hd 14 (by decide), show vs 17 = _ from hd 17 (by decide)] at hK ⊢
      clear hd
      generalize vs 19 = u19 at hK d19 ⊢
      replace d19 : u19 = _ := d19
      subst d19
      go_simp
      exact hK.out _ _ rfl (Below.refl _ _)
    refine Jo.jd 21 (some 38) [(some 31, 14), (some 37, 20)] (Jo.Fact.eq (.bool false)) rfl rfl rfl rfl (fun vs wj hJ hd K hK => ?_) ?_
    · simp only [Jo.putl, Jo.zd, Jo.ze, Act.put, Jo.za, Jo.zb, Jo.zc] at hK ⊢
      rw [show vs 14 = _ from hd 14 (by decide), show vs 20 = _ from hd 20 (by decide)] at hK ⊢
      clear hd
      go_simp
      exact hK.out _ _ rfl (Below.refl _ _)
    refine Jo.jd 22 (some 39) [(some 38, 21)] (Jo.Fact.eq (.agg #[.bool e0, .int .i64 D0, .bool s0, .int .u64 M0, .int .i64 E0, .int .i64 G0, .bool g0, .int .u64 P0, .int .i64 Q0])) rfl rfl rfl rfl (fun vs wj hJ hd K hK => ?_) ?_
    · simp only [Jo.putl, Jo.zd, Jo.ze, Act.put, Jo.za, Jo.zb, Jo.zc] at hK ⊢
      rw [show vs 21 = _ from hd 21 (by decide)] at hK ⊢
      clear hd
      have xX00 := (X0.below hJ).a 0 (.bool e0) rfl
      have xX01 := (X0.below hJ).a 1 (.int .i64 D0) rfl
      have xX02 := (X0.below hJ).a 2 (.bool s0) rfl
      have xX03 := (X0.below hJ).a 3 (.int .u64 M0) rfl
      have xX04 := (X0.below hJ).a 4 (.int .i64 E0) rfl
      have xX05 := (X0.below hJ).a 5 (.int .i64 G0) rfl
      have xX06 := (X0.below hJ).a 6 (.bool g0) rfl
      have xX07 := (X0.below hJ).a 7 (.int .u64 P0) rfl
      have xX08 := (X0.below hJ).a 8 (.int .i64 Q0) rfl
      go_simp
      exact hK.out _ _ rfl (Below.refl _ _)
    refine Jo.jd 23 (some 40) [(some 38, 21)] (Jo.Fact.eq (.agg #[.bool e1, .int .i64 D1, .bool s1, .int .u64 M1, .int .i64 E1, .int .i64 G1, .bool g1, .int .u64 P1, .int .i64 Q1])) rfl rfl rfl rfl (fun vs wj hJ hd K hK => ?_) ?_
    · simp only [Jo.putl, Jo.zd, Jo.ze, Act.put, Jo.za, Jo.zb, Jo.zc] at hK ⊢
      rw [show vs 21 = _ from hd 21 (by decide)] at hK ⊢
      clear hd
      have xX10 := (X1.below hJ).a 0 (.bool e1) rfl
      have xX11 := (X1.below hJ).a 1 (.int .i64 D1) rfl
      have xX12 := (X1.below hJ).a 2 (.bool s1) rfl
      have xX13 := (X1.below hJ).a 3 (.int .u64 M1) rfl
      have xX14 := (X1.below hJ).a 4 (.int .i64 E1) rfl
      have xX15 := (X1.below hJ).a 5 (.int .i64 G1) rfl
      have xX16 := (X1.below hJ).a 6 (.bool g1) rfl
      have xX17 := (X1.below hJ).a 7 (.int .u64 P1) rfl
      have xX18 := (X1.below hJ).a 8 (.int .i64 Q1) rfl
      go_simp
      exact hK.out _ _ rfl (Below.refl _ _)
    refine Jo.jd 24 (some 41) [(some 38, 21), (some 39, 22), (some 40, 23)] (Jo.Fact.il8 2 [x, y]) rfl rfl rfl rfl (fun vs wj hJ hd K hK => ?_) ?_
    · simp only [Jo.putl, Jo.zd, Jo.ze, Act.put, Jo.za, Jo.zb, Jo.zc] at hK ⊢
      rw [show vs 21 = _ from hd 21 (by decide), show vs 22 = _ from hd 22 (by decide), show vs 23 = _ from hd 23 (by decide)] at hK ⊢
      clear hd
      go_simp
      exact hK.out _ _ ⟨_, 2, rfl, Il8.lit2 rfl ⟨u0, v0, HX0.out⟩ ⟨u1, v1, HX1.out⟩⟩ (bel1 _ _)
    refine Jo.jd 25 (some 42) [(some 38, 21), (some 41, 24)] (Jo.Fact.iv h) rfl rfl rfl rfl (fun vs wj hJ hd K hK => ?_) ?_
    · have d24 : (Jo.Fact.il8 2 [x, y]).P (vs 24) wj := hd 24 (by decide)
      simp only [Jo.putl, Jo.zd, Jo.ze, Act.put, Jo.za, Jo.zb, Jo.zc] at hK ⊢
      rw [show vs 21 = _ from hd 21 (by decide)] at hK ⊢
      clear hd
      generalize vs 24 = u24 at hK d24 ⊢
      obtain ⟨A22, c22, rfl, h22⟩ := d24
      go_simp
      refine (kvHull h22 HHU.out).mono ?_
      rintro ee wk ⟨e23, K23, s23, M23, E23, K23b, s23b, M23b, E23b, rfl, v23, B⟩
      exact hK.out _ _ ⟨e23, K23, s23, M23, E23, K23b, s23b, M23b, E23b, rfl, v23⟩ B
    refine Jo.jd 26 (some 43) [(some 38, 21)] (Jo.Fact.eq (.agg #[.int .i64 D2, .bool s2, .int .u64 M2, .int .i64 E2])) rfl rfl rfl rfl (fun vs wj hJ hd K hK => ?_) ?_
    · simp only [Jo.putl, Jo.zd, Jo.ze, Act.put, Jo.za, Jo.zb, Jo.zc] at hK ⊢
      rw [show vs 21 = _ from hd 21 (by decide)] at hK ⊢
      clear hd
      have xX20 := (X2.below hJ).a 0 (.int .i64 D2) rfl
      have xX21 := (X2.below hJ).a 1 (.bool s2) rfl
      have xX22 := (X2.below hJ).a 2 (.int .u64 M2) rfl
      have xX23 := (X2.below hJ).a 3 (.int .i64 E2) rfl
      go_simp
      exact hK.out _ _ rfl (Below.refl _ _)
    refine Jo.jd 27 (some 44) [(some 38, 21), (some 42, 25), (some 43, 26)] (Jo.Fact.eq (.bool true)) rfl rfl rfl rfl (fun vs wj hJ hd K hK => ?_) ?_
    · have d25 : (Jo.Fact.iv h).P (vs 25) wj := hd 25 (by decide)
      simp only [Jo.putl, Jo.zd, Jo.ze, Act.put, Jo.za, Jo.zb, Jo.zc] at hK ⊢
      rw [show vs 21 = _ from hd 21 (by decide), show vs 26 = _ from hd 26 (by decide)] at hK ⊢
      clear hd
      generalize vs 25 = u25 at hK d25 ⊢
      obtain ⟨e23, K23, s23, M23, E23, K23b, s23b, M23b, E23b, rfl, v23⟩ := d25
      go_simp
      refine (kvHas v23.top.1 v23.top.2 u2 v23.rk HN.out HR4.out).mono ?_
      rintro ee wk ⟨rfl, B⟩
      exact hK.out _ _ rfl B
    refine Jo.jd 28 (some 45) [(some 31, 14), (some 38, 21), (some 44, 27)] (Jo.Fact.eq (.bool true)) rfl rfl rfl rfl (fun vs wj hJ hd K hK => ?_) ?_
    · simp only [Jo.putl, Jo.zd, Jo.ze, Act.put, Jo.za, Jo.zb, Jo.zc] at hK ⊢
      rw [show vs 14 = _ from hd 14 (by decide), show vs 21 = _ from hd 21 (by decide), show vs 27 = _ from hd 27 (by decide)] at hK ⊢
      clear hd
      go_simp
      exact hK.out _ _ rfl (Below.refl _ _)
    refine Jo.jd 29 (some 46) [(some 31, 14), (some 45, 28)] (Jo.Fact.eq (.bool true)) rfl rfl rfl rfl (fun vs wj hJ hd K hK => ?_) ?_
    · simp only [Jo.putl, Jo.zd, Jo.ze, Act.put, Jo.za, Jo.zb, Jo.zc] at hK ⊢
      rw [show vs 14 = _ from hd 14 (by decide), show vs 28 = _ from hd 28 (by decide)] at hK ⊢
      clear hd
      go_simp
      exact hK.out _ _ rfl (Below.refl _ _)
    refine Jo.jd 30 (some 6) [(some 46, 29)] (Jo.Fact.eq (.bool true)) rfl rfl rfl rfl (fun vs wj hJ hd K hK => ?_) ?_
    · simp only [Jo.putl, Jo.zd, Jo.ze, Act.put, Jo.za, Jo.zb, Jo.zc] at hK ⊢
      rw [show vs 29 = _ from hd 29 (by decide)] at hK ⊢
      clear hd
      go_simp
      exact hK.out _ _ rfl (Below.refl _ _)
    exact Jo.Steps.nil
  have d4 : (Jo.Fact.il8 2 [x, y]).P (vs 4) w8 := hd 4 (by decide)
  have d5 : (Jo.Fact.iv m).P (vs 5) w8 := hd 5 (by decide)
  have d18 : (Jo.Fact.eq undef).P (vs 18) w8 := hd 18 (by decide)
  have d19 : (Jo.Fact.eq undef).P (vs 19) w8 := hd 19 (by decide)
  have d24 : (Jo.Fact.il8 2 [x, y]).P (vs 24) w8 := hd 24 (by decide)
  have d25 : (Jo.Fact.iv h).P (vs 25) w8 := hd 25 (by decide)
  simp only [Jo.putl, Jo.zd, Jo.ze, Act.put, Jo.za, Jo.zb, Jo.zc]
  rw [show vs 0 = _ from hd 0 (by decide), show vs 1 = _ from hd 1 (by decide), show vs 2 = _ from hd 2 (by decide), show vs 3 = _ from hd 3 (by decide), show vs 6 = _ from hd 6 (by decide), show vs 7 = _ from hd 7 (by decide), show vs 8 = _ from hd 8 (by decide), show vs 9 = _ from hd 9 (by decide), show vs 10 = _ from hd 10 (by decide), show vs 11 = _ from hd 11 (by decide), show vs 12 = _ from hd 12 (by decide), show vs 13 = _ from hd 13 (by decide), show vs 14 = _ from hd 14 (by decide), show vs 15 = _ from hd 15 (by decide), show vs 16 = _ from hd 16 (by decide), show vs 17 = _ from hd 17 (by decide), show vs 20 = _ from hd 20 (by decide), show vs 21 = _ from hd 21 (by decide), show vs 22 = _ from hd 22 (by decide), show vs 23 = _ from hd 23 (by decide), show vs 26 = _ from hd 26 (by decide), show vs 27 = _ from hd 27 (by decide), show vs 28 = _ from hd 28 (by decide), show vs 29 = _ from hd 29 (by decide), show vs 30 = _ from hd 30 (by decide)]
  clear hd
  generalize vs 4 = u4 at d4 ⊢
  generalize vs 5 = u5 at d5 ⊢
  generalize vs 18 = u18 at d18 ⊢
  generalize vs 19 = u19 at d19 ⊢
  generalize vs 24 = u24 at d24 ⊢
  generalize vs 25 = u25 at d25 ⊢
  obtain ⟨_, _, rfl, _⟩ := d4
  obtain ⟨e21, K21, s21, M21, E21, K21b, s21b, M21b, E21b, rfl, v21⟩ := d5
  replace d18 : u18 = _ := d18
  subst d18
  replace d19 : u19 = _ := d19
  subst d19
  obtain ⟨_, _, rfl, _⟩ := d24
  obtain ⟨e23, K23, s23, M23, E23, K23b, s23b, M23b, E23b, rfl, v23⟩ := d25
  replace X0 := X0.below hJ
  replace X1 := X1.below hJ
  replace X2 := X2.below hJ
  replace HB := Lib.hid (bt HB.out hJ)
  refine Jo.jdone (by kernel_rfl) ?_
  go_wp2
  go_ret
  exact ⟨rfl, HB.out⟩
set_option maxHeartbeats 8000000 in
theorem ivHas_ft (e0 : Bool) (D0 : Int) (s0 : Bool) (M0 E0 G0 : Int) (g0 : Bool) (P0 Q0 : Int) (e1 : Bool) (D1 : Int) (s1 : Bool) (M1 E1 G1 : Int) (g1 : Bool) (P1 Q1 : Int) (D2 : Int) (s2 : Bool) (M2 E2 : Int) (w : World) (x y m h : Sp) (n : Int) (u0 : M0 < 18446744073709551616) (v0 : P0 < 18446744073709551616) (u1 : M1 < 18446744073709551616) (v1 : P1 < 18446744073709551616) (u2 : M2 < 18446744073709551616) (hx : rkI e0 D0 s0 M0 E0 G0 g0 P0 Q0 = x) (hy : rkI e1 D1 s1 M1 E1 G1 g1 P1 Q1 = y) (hn : rk D2 s2 M2 E2 = n)
    (h1 : hasI x n = false) (h2 : hasI y n = true) (hm : meetL [x, y] = m) (h3 : hasI m n = false) (hh : hullL [x, y] = h) (h4 : hasI h n = true) :
    Calls Try.prog 5 #[.agg #[.bool e0, .int .i64 D0, .bool s0, .int .u64 M0, .int .i64 E0, .int .i64 G0, .bool g0, .int .u64 P0, .int .i64 Q0], .agg #[.bool e1, .int .i64 D1, .bool s1, .int .u64 M1, .int .i64 E1, .int .i64 G1, .bool g1, .int .u64 P1, .int .i64 Q1], .agg #[.int .i64 D2, .bool s2, .int .u64 M2, .int .i64 E2]] w (PB w true) := by
  have HX0 := Lib.hid hx
  have HX1 := Lib.hid hy
  have HN := Lib.hid hn
  have HP := Lib.hid h1
  have HQ := Lib.hid h2
  have HME := Lib.hid hm
  have HR3 := Lib.hid h3
  have HHU := Lib.hid hh
  have HR4 := Lib.hid h4
  clear hx hy hn h1 h2 hm h3 hh h4
  go_enter Try.func5, Try.ntmps5
  go_upto_region 1 with (fail)
  have X0 := (Bo.newAt w (g := w.heap.size) (by simp) #[.bool e0, .int .i64 D0, .bool s0, .int .u64 M0, .int .i64 E0, .int .i64 G0, .bool g0, .int .u64 P0, .int .i64 Q0] 26).below (bel2 _ (.cells #[.bool e1, .int .i64 D1, .bool s1, .int .u64 M1, .int .i64 E1, .int .i64 G1, .bool g1, .int .u64 P1, .int .i64 Q1] 26) (.cells #[.int .i64 D2, .bool s2, .int .u64 M2, .int .i64 E2] 24))
  have X1 := (Bo.newAt (w.alloc (.cells #[.bool e0, .int .i64 D0, .bool s0, .int .u64 M0, .int .i64 E0, .int .i64 G0, .bool g0, .int .u64 P0, .int .i64 Q0] 26)) (g := w.heap.size + 1) (by simp) #[.bool e1, .int .i64 D1, .bool s1, .int .u64 M1, .int .i64 E1, .int .i64 G1, .bool g1, .int .u64 P1, .int .i64 Q1] 26).below (bel1 _ (.cells #[.int .i64 D2, .bool s2, .int .u64 M2, .int .i64 E2] 24))
  have X2 := (Bo.newAt ((w.alloc (.cells #[.bool e0, .int .i64 D0, .bool s0, .int .u64 M0, .int .i64 E0, .int .i64 G0, .bool g0, .int .u64 P0, .int .i64 Q0] 26)).alloc (.cells #[.bool e1, .int .i64 D1, .bool s1, .int .u64 M1, .int .i64 E1, .int .i64 G1, .bool g1, .int .u64 P1, .int .i64 Q1] 26)) (g := w.heap.size + 1 + 1) (by simp) #[.int .i64 D2, .bool s2, .int .u64 M2, .int .i64 E2] 24)
  have HB := Lib.hid (bel3 w (.cells #[.bool e0, .int .i64 D0, .bool s0, .int .u64 M0, .int .i64 E0, .int .i64 G0, .bool g0, .int .u64 P0, .int .i64 Q0] 26) (.cells #[.bool e1, .int .i64 D1, .bool s1, .int .u64 M1, .int .i64 E1, .int .i64 G1, .bool g1, .int .u64 P1, .int .i64 Q1] 26) (.cells #[.int .i64 D2, .bool s2, .int .u64 M2, .int .i64 E2] 24))
  generalize hW1 : (((w.alloc (.cells #[.bool e0, .int .i64 D0, .bool s0, .int .u64 M0, .int .i64 E0, .int .i64 G0, .bool g0, .int .u64 P0, .int .i64 Q0] 26)).alloc (.cells #[.bool e1, .int .i64 D1, .bool s1, .int .u64 M1, .int .i64 E1, .int .i64 G1, .bool g1, .int .u64 P1, .int .i64 Q1] 26)).alloc (.cells #[.int .i64 D2, .bool s2, .int .u64 M2, .int .i64 E2] 24)) = w1 at *
  clear hW1
  go_wp2_with fail
  refine (awake8).mono ?_
  rintro ee w2 ⟨rfl, B⟩
  replace X0 := X0.below B
  replace X1 := X1.below B
  replace X2 := X2.below B
  replace HB := Lib.hid (bt HB.out B)
  clear B
  obtain ⟨xX00, xX01, xX02, xX03, xX04, xX05, xX06, xX07, xX08⟩ := X0.ce9 rfl rfl rfl rfl rfl rfl rfl rfl rfl
  obtain ⟨xX20, xX21, xX22, xX23⟩ := X2.ce4 rfl rfl rfl rfl
  go_wp2_with fail
  refine (kvHas u0 v0 u2 HX0.out HN.out HP.out).mono ?_
  rintro ee w3 ⟨rfl, B⟩
  clear xX00 xX01 xX02 xX03 xX04 xX05 xX06 xX07 xX08 xX20 xX21 xX22 xX23
  replace X0 := X0.below B
  replace X1 := X1.below B
  replace X2 := X2.below B
  replace HB := Lib.hid (bt HB.out B)
  clear B
  obtain ⟨xX10, xX11, xX12, xX13, xX14, xX15, xX16, xX17, xX18⟩ := X1.ce9 rfl rfl rfl rfl rfl rfl rfl rfl rfl
  obtain ⟨xX20, xX21, xX22, xX23⟩ := X2.ce4 rfl rfl rfl rfl
  go_wp2_with fail
  refine (kvHas u1 v1 u2 HX1.out HN.out HQ.out).mono ?_
  rintro ee w4 ⟨rfl, B⟩
  clear xX10 xX11 xX12 xX13 xX14 xX15 xX16 xX17 xX18 xX20 xX21 xX22 xX23
  replace X0 := X0.below B
  replace X1 := X1.below B
  replace X2 := X2.below B
  replace HB := Lib.hid (bt HB.out B)
  clear B
  go_upto_region 4 with (fail)
  refine Jo.region_joint (T := [0, 1, 2, 3, 4, 5, 6, 7, 8, 9, 10, 11, 12, 13, 14, 15, 16, 17, 18, 19, 20, 21, 22, 23, 24, 25, 26, 27, 28, 29, 30]) (ds := [some 17, some 18, some 19, some 20, some 21, some 22, some 23, some 24, some 25, some 26, some 27, some 28, some 29, some 30, some 31, some 32, some 33, some 34, some 35, some 36, some 37, some 38, some 39, some 40, some 41, some 42, some 43, some 44, some 45, some 46, some 6]) (ls := [[], [0], [1], [1], [1, 2, 3], [1, 4], [1], [1, 5, 6], [1], [1, 8], [9], [1, 9, 10], [1, 7, 11], [1, 12], [13], [14], [14, 15], [14, 16], [17], [17, 18], [14, 17, 19], [14, 20], [21], [21], [21, 22, 23], [21, 24], [21], [21, 25, 26], [14, 21, 27], [14, 28], [29]]) (k := 31) (L := [(some 17, 0), (some 18, 1), (some 19, 2), (some 20, 3), (some 21, 4), (some 22, 5), (some 23, 6), (some 24, 7), (some 25, 8), (some 26, 9), (some 27, 10), (some 28, 11), (some 29, 12), (some 30, 13), (some 31, 14), (some 32, 15), (some 33, 16), (some 34, 17), (some 35, 18), (some 36, 19), (some 37, 20), (some 38, 21), (some 39, 22), (some 40, 23), (some 41, 24), (some 42, 25), (some 43, 26), (some 44, 27), (some 45, 28), (some 46, 29), (some 6, 30)]) (fuel := 0) (J := fun wj => Below (World.heap w4).size w4 wj)
    (F := [Jo.Fact.eq (.bool true), Jo.Fact.eq (.bool true), Jo.Fact.eq (.agg #[.bool e0, .int .i64 D0, .bool s0, .int .u64 M0, .int .i64 E0, .int .i64 G0, .bool g0, .int .u64 P0, .int .i64 Q0]), Jo.Fact.eq (.agg #[.bool e1, .int .i64 D1, .bool s1, .int .u64 M1, .int .i64 E1, .int .i64 G1, .bool g1, .int .u64 P1, .int .i64 Q1]), Jo.Fact.il8 2 [x, y], Jo.Fact.iv m, Jo.Fact.eq (.agg #[.int .i64 D2, .bool s2, .int .u64 M2, .int .i64 E2]), Jo.Fact.eq (.bool false), Jo.Fact.eq (.bool false), Jo.Fact.eq (.bool false), Jo.Fact.eq undef, Jo.Fact.eq (.bool false), Jo.Fact.eq (.bool true), Jo.Fact.eq (.bool true), Jo.Fact.eq (.bool true), Jo.Fact.eq (.bool false), Jo.Fact.eq (.bool true), Jo.Fact.eq (.bool true), Jo.Fact.eq (.bool true), Jo.Fact.eq (.bool false), Jo.Fact.eq (.bool false), Jo.Fact.eq (.bool false), Jo.Fact.eq (.agg #[.bool e0, .int .i64 D0, .bool s0, .int .u64 M0, .int .i64 E0, .int .i64 G0, .bool g0, .int .u64 P0, .int .i64 Q0]), Jo.Fact.eq (.agg #[.bool e1, .int .i64 D1, .bool s1, .int .u64 M1, .int .i64 E1, .int .i64 G1, .bool g1, .int .u64 P1, .int .i64 Q1]), Jo.Fact.il8 2 [x, y], Jo.Fact.iv h, Jo.Fact.eq (.agg #[.int .i64 D2, .bool s2, .int .u64 M2, .int .i64 E2]), Jo.Fact.eq (.bool true), Jo.Fact.eq (.bool true), Jo.Fact.eq (.bool true), Jo.Fact.eq (.bool true)])
    (by kernel_rfl) (by kernel_rfl) (by decide) rfl rfl (fun _ _ h b => bt h b) ((Below.refl _ _).drew) ?_ (fun vs w8 hJ hd => ?_)
  · refine Jo.jd 0 (some 17) [] (Jo.Fact.eq (.bool true)) rfl rfl rfl rfl (fun vs wj hJ hd K hK => ?_) ?_
    · simp only [Jo.putl, Jo.ze, Act.put, Jo.za, Jo.zb, Jo.zc] at hK ⊢
      clear hd
      go_simp
      exact hK.out _ _ rfl (Below.refl _ _)
    refine Jo.jd 1 (some 18) [(some 17, 0)] (Jo.Fact.eq (.bool true)) rfl rfl rfl rfl (fun vs wj hJ hd K hK => ?_) ?_
    · simp only [Jo.putl, Jo.zd, Jo.ze, Act.put, Jo.za, Jo.zb, Jo.zc] at hK ⊢
      rw [show vs 0 = _ from hd 0 (by decide)] at hK ⊢
      clear hd
      go_simp
      exact hK.out _ _ rfl (Below.refl _ _)
    refine Jo.jd 2 (some 19) [(some 18, 1)] (Jo.Fact.eq (.agg #[.bool e0, .int .i64 D0, .bool s0, .int .u64 M0, .int .i64 E0, .int .i64 G0, .bool g0, .int .u64 P0, .int .i64 Q0])) rfl rfl rfl rfl (fun vs wj hJ hd K hK => ?_) ?_
    · simp only [Jo.putl, Jo.zd, Jo.ze, Act.put, Jo.za, Jo.zb, Jo.zc] at hK ⊢
      rw [show vs 1 = _ from hd 1 (by decide)] at hK ⊢
      clear hd
      have xX00 := (X0.below hJ).a 0 (.bool e0) rfl
      have xX01 := (X0.below hJ).a 1 (.int .i64 D0) rfl
      have xX02 := (X0.below hJ).a 2 (.bool s0) rfl
      have xX03 := (X0.below hJ).a 3 (.int .u64 M0) rfl
      have xX04 := (X0.below hJ).a 4 (.int .i64 E0) rfl
      have xX05 := (X0.below hJ).a 5 (.int .i64 G0) rfl
      have xX06 := (X0.below hJ).a 6 (.bool g0) rfl
      have xX07 := (X0.below hJ).a 7 (.int .u64 P0) rfl
      have xX08 := (X0.below hJ).a 8 (.int .i64 Q0) rfl
      go_simp
      exact hK.out _ _ rfl (Below.refl _ _)
    refine Jo.jd 3 (some 20) [(some 18, 1)] (Jo.Fact.eq (.agg #[.bool e1, .int .i64 D1, .bool s1, .int .u64 M1, .int .i64 E1, .int .i64 G1, .bool g1, .int .u64 P1, .int .i64 Q1])) rfl rfl rfl rfl (fun vs wj hJ hd K hK => ?_) ?_
    · simp only [Jo.putl, Jo.zd, Jo.ze, Act.put, Jo.za, Jo.zb, Jo.zc] at hK ⊢
      rw [show vs 1 = _ from hd 1 (by decide)] at hK ⊢
      clear hd
      have xX10 := (X1.below hJ).a 0 (.bool e1) rfl
      have xX11 := (X1.below hJ).a 1 (.int .i64 D1) rfl
      have xX12 := (X1.below hJ).a 2 (.bool s1) rfl
      have xX13 := (X1.below hJ).a 3 (.int .u64 M1) rfl
      have xX14 := (X1.below hJ).a 4 (.int .i64 E1) rfl
      have xX15 := (X1.below hJ).a 5 (.int .i64 G1) rfl
      have xX16 := (X1.below hJ).a 6 (.bool g1) rfl
      have xX17 := (X1.below hJ).a 7 (.int .u64 P1) rfl
      have xX18 := (X1.below hJ).a 8 (.int .i64 Q1) rfl
      go_simp
      exact hK.out _ _ rfl (Below.refl _ _)
    refine Jo.jd 4 (some 21) [(some 18, 1), (some 19, 2), (some 20, 3)] (Jo.Fact.il8 2 [x, y]) rfl rfl rfl rfl (fun vs wj hJ hd K hK => ?_) ?_
    · have d1 : (Jo.Fact.eq (.bool true)).P (vs 1) wj := hd 1 (by decide)
      simp only [Jo.putl, Jo.zd, Jo.ze, Act.put, Jo.za, Jo.zb, Jo.zc] at hK ⊢
      rw [show vs 2 = _ from hd 2 (by decide), show vs 3 = _ from hd 3 (by decide)] at hK ⊢
      clear hd
      generalize vs 1 = u1 at hK d1 ⊢
      replace d1 : u1 = _ := d1
      subst d1
      go_simp
      exact hK.out _ _ ⟨_, 2, rfl, Il8.lit2 rfl ⟨u0, v0, HX0.out⟩ ⟨u1, v1, HX1.out⟩⟩ (bel1 _ _)
    refine Jo.jd 5 (some 22) [(some 18, 1), (some 21, 4)] (Jo.Fact.iv m) rfl rfl rfl rfl (fun vs wj hJ hd K hK => ?_) ?_
    · have d4 : (Jo.Fact.il8 2 [x, y]).P (vs 4) wj := hd 4 (by decide)
      simp only [Jo.putl, Jo.zd, Jo.ze, Act.put, Jo.za, Jo.zb, Jo.zc] at hK ⊢
      rw [show vs 1 = _ from hd 1 (by decide)] at hK ⊢
      clear hd
      generalize vs 4 = u4 at hK d4 ⊢
      obtain ⟨A20, c20, rfl, h20⟩ := d4
      go_simp
      refine (kvMeet h20 HME.out).mono ?_
      rintro ee wk ⟨e21, K21, s21, M21, E21, K21b, s21b, M21b, E21b, rfl, v21, B⟩
      exact hK.out _ _ ⟨e21, K21, s21, M21, E21, K21b, s21b, M21b, E21b, rfl, v21⟩ B
    refine Jo.jd 6 (some 23) [(some 18, 1)] (Jo.Fact.eq (.agg #[.int .i64 D2, .bool s2, .int .u64 M2, .int .i64 E2])) rfl rfl rfl rfl (fun vs wj hJ hd K hK => ?_) ?_
    · simp only [Jo.putl, Jo.zd, Jo.ze, Act.put, Jo.za, Jo.zb, Jo.zc] at hK ⊢
      rw [show vs 1 = _ from hd 1 (by decide)] at hK ⊢
      clear hd
      have xX20 := (X2.below hJ).a 0 (.int .i64 D2) rfl
      have xX21 := (X2.below hJ).a 1 (.bool s2) rfl
      have xX22 := (X2.below hJ).a 2 (.int .u64 M2) rfl
      have xX23 := (X2.below hJ).a 3 (.int .i64 E2) rfl
      go_simp
      exact hK.out _ _ rfl (Below.refl _ _)
    refine Jo.jd 7 (some 24) [(some 18, 1), (some 22, 5), (some 23, 6)] (Jo.Fact.eq (.bool false)) rfl rfl rfl rfl (fun vs wj hJ hd K hK => ?_) ?_
    · have d5 : (Jo.Fact.iv m).P (vs 5) wj := hd 5 (by decide)
      simp only [Jo.putl, Jo.zd, Jo.ze, Act.put, Jo.za, Jo.zb, Jo.zc] at hK ⊢
      rw [show vs 1 = _ from hd 1 (by decide), show vs 6 = _ from hd 6 (by decide)] at hK ⊢
      clear hd
      generalize vs 5 = u5 at hK d5 ⊢
      obtain ⟨e21, K21, s21, M21, E21, K21b, s21b, M21b, E21b, rfl, v21⟩ := d5
      go_simp
      refine (kvHas v21.top.1 v21.top.2 u2 v21.rk HN.out HR3.out).mono ?_
      rintro ee wk ⟨rfl, B⟩
      exact hK.out _ _ rfl B
    refine Jo.jd 8 (some 25) [(some 18, 1)] (Jo.Fact.eq (.bool false)) rfl rfl rfl rfl (fun vs wj hJ hd K hK => ?_) ?_
    · simp only [Jo.putl, Jo.zd, Jo.ze, Act.put, Jo.za, Jo.zb, Jo.zc] at hK ⊢
      rw [show vs 1 = _ from hd 1 (by decide)] at hK ⊢
      clear hd
      go_simp
      exact hK.out _ _ rfl (Below.refl _ _)
    refine Jo.jd 9 (some 26) [(some 18, 1), (some 25, 8)] (Jo.Fact.eq (.bool false)) rfl rfl rfl rfl (fun vs wj hJ hd K hK => ?_) ?_
    · simp only [Jo.putl, Jo.zd, Jo.ze, Act.put, Jo.za, Jo.zb, Jo.zc] at hK ⊢
      rw [show vs 1 = _ from hd 1 (by decide), show vs 8 = _ from hd 8 (by decide)] at hK ⊢
      clear hd
      go_simp
      exact hK.out _ _ rfl (Below.refl _ _)
    refine Jo.jd 10 (some 27) [(some 26, 9)] (Jo.Fact.eq undef) rfl rfl rfl rfl (fun vs wj hJ hd K hK => ?_) ?_
    · simp only [Jo.putl, Jo.zd, Jo.ze, Act.put, Jo.za, Jo.zb, Jo.zc] at hK ⊢
      rw [show vs 9 = _ from hd 9 (by decide)] at hK ⊢
      clear hd
      go_simp
      exact hK.out _ _ rfl (Below.refl _ _)
    refine Jo.jd 11 (some 28) [(some 18, 1), (some 26, 9), (some 27, 10)] (Jo.Fact.eq (.bool false)) rfl rfl rfl rfl (fun vs wj hJ hd K hK => ?_) ?_
    · have d10 : (Jo.Fact.eq undef).P (vs 10) wj := hd 10 (by decide)
      simp only [Jo.putl, Jo.zd, Jo.ze, Act.put, Jo.za, Jo.zb, Jo.zc] at hK ⊢
      rw [show vs 1 = _ from hd 1 (by decide), show vs 9 = _ from hd 9 (by decide)] at hK ⊢
      clear hd
      generalize vs 10 = u10 at hK d10 ⊢
      replace d10 : u10 = _ := d10
      subst d10
      go_simp
      exact hK.out _ _ rfl (Below.refl _ _)
    refine Jo.jd 12 (some 29) [(some 18, 1), (some 24, 7), (some 28, 11)] (Jo.Fact.eq (.bool true)) rfl rfl rfl rfl (fun vs wj hJ hd K hK => ?_) ?_
    · simp only [Jo.putl, Jo.zd, Jo.ze, Act.put, Jo.za, Jo.zb, Jo.zc] at hK ⊢
      rw [show vs 1 = _ from hd 1 (by decide), show vs 7 = _ from hd 7 (by decide), show vs 11 = _ from hd 11 (by decide)] at hK ⊢
      clear hd
      go_simp
      exact hK.out _ _ (by first | rfl | simp) (Below.refl _ _)
    refine Jo.jd 13 (some 30) [(some 18, 1), (some 29, 12)] (Jo.Fact.eq (.bool true)) rfl rfl rfl rfl (fun vs wj hJ hd K hK => ?_) ?_
    · simp only [Jo.putl, Jo.zd, Jo.ze, Act.put, Jo.za, Jo.zb, Jo.zc] at hK ⊢
      rw [show vs 1 = _ from hd 1 (by decide), show vs 12 = _ from hd 12 (by decide)] at hK ⊢
      clear hd
      go_simp
      exact hK.out _ _ rfl (Below.refl _ _)
    refine Jo.jd 14 (some 31) [(some 30, 13)] (Jo.Fact.eq (.bool true)) rfl rfl rfl rfl (fun vs wj hJ hd K hK => ?_) ?_
    · simp only [Jo.putl, Jo.zd, Jo.ze, Act.put, Jo.za, Jo.zb, Jo.zc] at hK ⊢
      rw [show vs 13 = _ from hd 13 (by decide)] at hK ⊢
      clear hd
      go_simp
      exact hK.out _ _ rfl (Below.refl _ _)
    refine Jo.jd 15 (some 32) [(some 31, 14)] (Jo.Fact.eq (.bool false)) rfl rfl rfl rfl (fun vs wj hJ hd K hK => ?_) ?_
    · simp only [Jo.putl, Jo.zd, Jo.ze, Act.put, Jo.za, Jo.zb, Jo.zc] at hK ⊢
      rw [show vs 14 = _ from hd 14 (by decide)] at hK ⊢
      clear hd
      go_simp
      exact hK.out _ _ rfl (Below.refl _ _)
    refine Jo.jd 16 (some 33) [(some 31, 14), (some 32, 15)] (Jo.Fact.eq (.bool true)) rfl rfl rfl rfl (fun vs wj hJ hd K hK => ?_) ?_
    · simp only [Jo.putl, Jo.zd, Jo.ze, Act.put, Jo.za, Jo.zb, Jo.zc] at hK ⊢
      rw [show vs 14 = _ from hd 14 (by decide), show vs 15 = _ from hd 15 (by decide)] at hK ⊢
      clear hd
      go_simp
      exact hK.out _ _ rfl (Below.refl _ _)
    refine Jo.jd 17 (some 34) [(some 31, 14), (some 33, 16)] (Jo.Fact.eq (.bool true)) rfl rfl rfl rfl (fun vs wj hJ hd K hK => ?_) ?_
    · simp only [Jo.putl, Jo.zd, Jo.ze, Act.put, Jo.za, Jo.zb, Jo.zc] at hK ⊢
      rw [show vs 14 = _ from hd 14 (by decide), show vs 16 = _ from hd 16 (by decide)] at hK ⊢
      clear hd
      go_simp
      exact hK.out _ _ rfl (Below.refl _ _)
    refine Jo.jd 18 (some 35) [(some 34, 17)] (Jo.Fact.eq (.bool true)) rfl rfl rfl rfl (fun vs wj hJ hd K hK => ?_) ?_
    · simp only [Jo.putl, Jo.zd, Jo.ze, Act.put, Jo.za, Jo.zb, Jo.zc] at hK ⊢
      rw [show vs 17 = _ from hd 17 (by decide)] at hK ⊢
      clear hd
      go_simp
      exact hK.out _ _ rfl (Below.refl _ _)
    refine Jo.jd 19 (some 36) [(some 34, 17), (some 35, 18)] (Jo.Fact.eq (.bool false)) rfl rfl rfl rfl (fun vs wj hJ hd K hK => ?_) ?_
    · simp only [Jo.putl, Jo.zd, Jo.ze, Act.put, Jo.za, Jo.zb, Jo.zc] at hK ⊢
      rw [show vs 17 = _ from hd 17 (by decide), show vs 18 = _ from hd 18 (by decide)] at hK ⊢
      clear hd
      go_simp
      exact hK.out _ _ rfl (Below.refl _ _)
    refine Jo.jd 20 (some 37) [(some 31, 14), (some 34, 17), (some 36, 19)] (Jo.Fact.eq (.bool false)) rfl rfl rfl rfl (fun vs wj hJ hd K hK => ?_) ?_
    · simp only [Jo.putl, Jo.zd, Jo.ze, Act.put, Jo.za, Jo.zb, Jo.zc] at hK ⊢
      rw [show vs 14 = _ from hd 14 (by decide), show vs 17 = _ from hd 17 (by decide), show vs 19 = _ from hd 19 (by decide)] at hK ⊢
      clear hd
      go_simp
      exact hK.out _ _ rfl (Below.refl _ _)
    refine Jo.jd 21 (some 38) [(some 31, 14), (some 37, 20)] (Jo.Fact.eq (.bool false)) rfl rfl rfl rfl (fun vs wj hJ hd K hK => ?_) ?_
    · simp only [Jo.putl, Jo.zd, Jo.ze, Act.put, Jo.za, Jo.zb, Jo.zc] at hK ⊢
      rw [show vs 14 = _ from hd 14 (by decide), show vs 20 = _ from hd 20 (by decide)] at hK ⊢
      clear hd
      go_simp
      exact hK.out _ _ rfl (Below.refl _ _)
    refine Jo.jd 22 (some 39) [(some 38, 21)] (Jo.Fact.eq (.agg #[.bool e0, .int .i64 D0, .bool s0, .int .u64 M0, .int .i64 E0, .int .i64 G0, .bool g0, .int .u64 P0, .int .i64 Q0])) rfl rfl rfl rfl (fun vs wj hJ hd K hK => ?_) ?_
    · simp only [Jo.putl, Jo.zd, Jo.ze, Act.put, Jo.za, Jo.zb, Jo.zc] at hK ⊢
      rw [show vs 21 = _ from hd 21 (by decide)] at hK ⊢
      clear hd
      have xX00 := (X0.below hJ).a 0 (.bool e0) rfl
      have xX01 := (X0.below hJ).a 1 (.int .i64 D0) rfl
      have xX02 := (X0.below hJ).a 2 (.bool s0) rfl
      have xX03 := (X0.below hJ).a 3 (.int .u64 M0) rfl
      have xX04 := (X0.below hJ).a 4 (.int .i64 E0) rfl
      have xX05 := (X0.below hJ).a 5 (.int .i64 G0) rfl
      have xX06 := (X0.below hJ).a 6 (.bool g0) rfl
      have xX07 := (X0.below hJ).a 7 (.int .u64 P0) rfl
      have xX08 := (X0.below hJ).a 8 (.int .i64 Q0) rfl
      go_simp
      exact hK.out _ _ rfl (Below.refl _ _)
    refine Jo.jd 23 (some 40) [(some 38, 21)] (Jo.Fact.eq (.agg #[.bool e1, .int .i64 D1, .bool s1, .int .u64 M1, .int .i64 E1, .int .i64 G1, .bool g1, .int .u64 P1, .int .i64 Q1])) rfl rfl rfl rfl (fun vs wj hJ hd K hK => ?_) ?_
    · simp only [Jo.putl, Jo.zd, Jo.ze, Act.put, Jo.za, Jo.zb, Jo.zc] at hK ⊢
      rw [show vs 21 = _ from hd 21 (by decide)] at hK ⊢
      clear hd
      have xX10 := (X1.below hJ).a 0 (.bool e1) rfl
      have xX11 := (X1.below hJ).a 1 (.int .i64 D1) rfl
      have xX12 := (X1.below hJ).a 2 (.bool s1) rfl
      have xX13 := (X1.below hJ).a 3 (.int .u64 M1) rfl
      have xX14 := (X1.below hJ).a 4 (.int .i64 E1) rfl
      have xX15 := (X1.below hJ).a 5 (.int .i64 G1) rfl
      have xX16 := (X1.below hJ).a 6 (.bool g1) rfl
      have xX17 := (X1.below hJ).a 7 (.int .u64 P1) rfl
      have xX18 := (X1.below hJ).a 8 (.int .i64 Q1) rfl
      go_simp
      exact hK.out _ _ rfl (Below.refl _ _)
    refine Jo.jd 24 (some 41) [(some 38, 21), (some 39, 22), (some 40, 23)] (Jo.Fact.il8 2 [x, y]) rfl rfl rfl rfl (fun vs wj hJ hd K hK => ?_) ?_
    · simp only [Jo.putl, Jo.zd, Jo.ze, Act.put, Jo.za, Jo.zb, Jo.zc] at hK ⊢
      rw [show vs 21 = _ from hd 21 (by decide), show vs 22 = _ from hd 22 (by decide), show vs 23 = _ from hd 23 (by decide)] at hK ⊢
      clear hd
      go_simp
      exact hK.out _ _ ⟨_, 2, rfl, Il8.lit2 rfl ⟨u0, v0, HX0.out⟩ ⟨u1, v1, HX1.out⟩⟩ (bel1 _ _)
    refine Jo.jd 25 (some 42) [(some 38, 21), (some 41, 24)] (Jo.Fact.iv h) rfl rfl rfl rfl (fun vs wj hJ hd K hK => ?_) ?_
    · have d24 : (Jo.Fact.il8 2 [x, y]).P (vs 24) wj := hd 24 (by decide)
      simp only [Jo.putl, Jo.zd, Jo.ze, Act.put, Jo.za, Jo.zb, Jo.zc] at hK ⊢
      rw [show vs 21 = _ from hd 21 (by decide)] at hK ⊢
      clear hd
      generalize vs 24 = u24 at hK d24 ⊢
      obtain ⟨A22, c22, rfl, h22⟩ := d24
      go_simp
      refine (kvHull h22 HHU.out).mono ?_
      rintro ee wk ⟨e23, K23, s23, M23, E23, K23b, s23b, M23b, E23b, rfl, v23, B⟩
      exact hK.out _ _ ⟨e23, K23, s23, M23, E23, K23b, s23b, M23b, E23b, rfl, v23⟩ B
    refine Jo.jd 26 (some 43) [(some 38, 21)] (Jo.Fact.eq (.agg #[.int .i64 D2, .bool s2, .int .u64 M2, .int .i64 E2])) rfl rfl rfl rfl (fun vs wj hJ hd K hK => ?_) ?_
    · simp only [Jo.putl, Jo.zd, Jo.ze, Act.put, Jo.za, Jo.zb, Jo.zc] at hK ⊢
      rw [show vs 21 = _ from hd 21 (by decide)] at hK ⊢
      clear hd
      have xX20 := (X2.below hJ).a 0 (.int .i64 D2) rfl
      have xX21 := (X2.below hJ).a 1 (.bool s2) rfl
      have xX22 := (X2.below hJ).a 2 (.int .u64 M2) rfl
      have xX23 := (X2.below hJ).a 3 (.int .i64 E2) rfl
      go_simp
      exact hK.out _ _ rfl (Below.refl _ _)
    refine Jo.jd 27 (some 44) [(some 38, 21), (some 42, 25), (some 43, 26)] (Jo.Fact.eq (.bool true)) rfl rfl rfl rfl (fun vs wj hJ hd K hK => ?_) ?_
    · have d25 : (Jo.Fact.iv h).P (vs 25) wj := hd 25 (by decide)
      simp only [Jo.putl, Jo.zd, Jo.ze, Act.put, Jo.za, Jo.zb, Jo.zc] at hK ⊢
      rw [show vs 21 = _ from hd 21 (by decide), show vs 26 = _ from hd 26 (by decide)] at hK ⊢
      clear hd
      generalize vs 25 = u25 at hK d25 ⊢
      obtain ⟨e23, K23, s23, M23, E23, K23b, s23b, M23b, E23b, rfl, v23⟩ := d25
      go_simp
      refine (kvHas v23.top.1 v23.top.2 u2 v23.rk HN.out HR4.out).mono ?_
      rintro ee wk ⟨rfl, B⟩
      exact hK.out _ _ rfl B
    refine Jo.jd 28 (some 45) [(some 31, 14), (some 38, 21), (some 44, 27)] (Jo.Fact.eq (.bool true)) rfl rfl rfl rfl (fun vs wj hJ hd K hK => ?_) ?_
    · simp only [Jo.putl, Jo.zd, Jo.ze, Act.put, Jo.za, Jo.zb, Jo.zc] at hK ⊢
      rw [show vs 14 = _ from hd 14 (by decide), show vs 21 = _ from hd 21 (by decide), show vs 27 = _ from hd 27 (by decide)] at hK ⊢
      clear hd
      go_simp
      exact hK.out _ _ rfl (Below.refl _ _)
    refine Jo.jd 29 (some 46) [(some 31, 14), (some 45, 28)] (Jo.Fact.eq (.bool true)) rfl rfl rfl rfl (fun vs wj hJ hd K hK => ?_) ?_
    · simp only [Jo.putl, Jo.zd, Jo.ze, Act.put, Jo.za, Jo.zb, Jo.zc] at hK ⊢
      rw [show vs 14 = _ from hd 14 (by decide), show vs 28 = _ from hd 28 (by decide)] at hK ⊢
      clear hd
      go_simp
      exact hK.out _ _ rfl (Below.refl _ _)
    refine Jo.jd 30 (some 6) [(some 46, 29)] (Jo.Fact.eq (.bool true)) rfl rfl rfl rfl (fun vs wj hJ hd K hK => ?_) ?_
    · simp only [Jo.putl, Jo.zd, Jo.ze, Act.put, Jo.za, Jo.zb, Jo.zc] at hK ⊢
      rw [show vs 29 = _ from hd 29 (by decide)] at hK ⊢
      clear hd
      go_simp
      exact hK.out _ _ rfl (Below.refl _ _)
    exact Jo.Steps.nil
  have d4 : (Jo.Fact.il8 2 [x, y]).P (vs 4) w8 := hd 4 (by decide)
  have d5 : (Jo.Fact.iv m).P (vs 5) w8 := hd 5 (by decide)
  have d10 : (Jo.Fact.eq undef).P (vs 10) w8 := hd 10 (by decide)
  have d24 : (Jo.Fact.il8 2 [x, y]).P (vs 24) w8 := hd 24 (by decide)
  have d25 : (Jo.Fact.iv h).P (vs 25) w8 := hd 25 (by decide)
  simp only [Jo.putl, Jo.zd, Jo.ze, Act.put, Jo.za, Jo.zb, Jo.zc]
  rw [show vs 0 = _ from hd 0 (by decide), show vs 1 = _ from hd 1 (by decide), show vs 2 = _ from hd 2 (by decide), show vs 3 = _ from hd 3 (by decide), show vs 6 = _ from hd 6 (by decide), show vs 7 = _ from hd 7 (by decide), show vs 8 = _ from hd 8 (by decide), show vs 9 = _ from hd 9 (by decide), show vs 11 = _ from hd 11 (by decide), show vs 12 = _ from hd 12 (by decide), show vs 13 = _ from hd 13 (by decide), show vs 14 = _ from hd 14 (by decide), show vs 15 = _ from hd 15 (by decide), show vs 16 = _ from hd 16 (by decide), show vs 17 = _ from hd 17 (by decide), show vs 18 = _ from hd 18 (by decide), show vs 19 = _ from hd 19 (by decide), show vs 20 = _ from hd 20 (by decide), show vs 21 = _ from hd 21 (by decide), show vs 22 = _ from hd 22 (by decide), show vs 23 = _ from hd 23 (by decide), show vs 26 = _ from hd 26 (by decide), show vs 27 = _ from hd 27 (by decide), show vs 28 = _ from hd 28 (by decide), show vs 29 = _ from hd 29 (by decide), show vs 30 = _ from hd 30 (by decide)]
  clear hd
  generalize vs 4 = u4 at d4 ⊢
  generalize vs 5 = u5 at d5 ⊢
  generalize vs 10 = u10 at d10 ⊢
  generalize vs 24 = u24 at d24 ⊢
  generalize vs 25 = u25 at d25 ⊢
  obtain ⟨_, _, rfl, _⟩ := d4
  obtain ⟨e21, K21, s21, M21, E21, K21b, s21b, M21b, E21b, rfl, v21⟩ := d5
  replace d10 : u10 = _ := d10
  subst d10
  obtain ⟨_, _, rfl, _⟩ := d24
  obtain ⟨e23, K23, s23, M23, E23, K23b, s23b, M23b, E23b, rfl, v23⟩ := d25
  replace X0 := X0.below hJ
  replace X1 := X1.below hJ
  replace X2 := X2.below hJ
  replace HB := Lib.hid (bt HB.out hJ)
  refine Jo.jdone (by kernel_rfl) ?_
  go_wp2
  go_ret
  exact ⟨rfl, HB.out⟩
set_option maxHeartbeats 8000000 in
theorem ivHas_ff (e0 : Bool) (D0 : Int) (s0 : Bool) (M0 E0 G0 : Int) (g0 : Bool) (P0 Q0 : Int) (e1 : Bool) (D1 : Int) (s1 : Bool) (M1 E1 G1 : Int) (g1 : Bool) (P1 Q1 : Int) (D2 : Int) (s2 : Bool) (M2 E2 : Int) (w : World) (x y m h : Sp) (n : Int) (u0 : M0 < 18446744073709551616) (v0 : P0 < 18446744073709551616) (u1 : M1 < 18446744073709551616) (v1 : P1 < 18446744073709551616) (u2 : M2 < 18446744073709551616) (hx : rkI e0 D0 s0 M0 E0 G0 g0 P0 Q0 = x) (hy : rkI e1 D1 s1 M1 E1 G1 g1 P1 Q1 = y) (hn : rk D2 s2 M2 E2 = n)
    (h1 : hasI x n = false) (h2 : hasI y n = false) (hm : meetL [x, y] = m) (h3 : hasI m n = false) (hh : hullL [x, y] = h)  :
    Calls Try.prog 5 #[.agg #[.bool e0, .int .i64 D0, .bool s0, .int .u64 M0, .int .i64 E0, .int .i64 G0, .bool g0, .int .u64 P0, .int .i64 Q0], .agg #[.bool e1, .int .i64 D1, .bool s1, .int .u64 M1, .int .i64 E1, .int .i64 G1, .bool g1, .int .u64 P1, .int .i64 Q1], .agg #[.int .i64 D2, .bool s2, .int .u64 M2, .int .i64 E2]] w (PB w true) := by
  have HX0 := Lib.hid hx
  have HX1 := Lib.hid hy
  have HN := Lib.hid hn
  have HP := Lib.hid h1
  have HQ := Lib.hid h2
  have HME := Lib.hid hm
  have HR3 := Lib.hid h3
  have HHU := Lib.hid hh
  clear hx hy hn h1 h2 hm h3 hh
  go_enter Try.func5, Try.ntmps5
  go_upto_region 1 with (fail)
  have X0 := (Bo.newAt w (g := w.heap.size) (by simp) #[.bool e0, .int .i64 D0, .bool s0, .int .u64 M0, .int .i64 E0, .int .i64 G0, .bool g0, .int .u64 P0, .int .i64 Q0] 26).below (bel2 _ (.cells #[.bool e1, .int .i64 D1, .bool s1, .int .u64 M1, .int .i64 E1, .int .i64 G1, .bool g1, .int .u64 P1, .int .i64 Q1] 26) (.cells #[.int .i64 D2, .bool s2, .int .u64 M2, .int .i64 E2] 24))
  have X1 := (Bo.newAt (w.alloc (.cells #[.bool e0, .int .i64 D0, .bool s0, .int .u64 M0, .int .i64 E0, .int .i64 G0, .bool g0, .int .u64 P0, .int .i64 Q0] 26)) (g := w.heap.size + 1) (by simp) #[.bool e1, .int .i64 D1, .bool s1, .int .u64 M1, .int .i64 E1, .int .i64 G1, .bool g1, .int .u64 P1, .int .i64 Q1] 26).below (bel1 _ (.cells #[.int .i64 D2, .bool s2, .int .u64 M2, .int .i64 E2] 24))
  have X2 := (Bo.newAt ((w.alloc (.cells #[.bool e0, .int .i64 D0, .bool s0, .int .u64 M0, .int .i64 E0, .int .i64 G0, .bool g0, .int .u64 P0, .int .i64 Q0] 26)).alloc (.cells #[.bool e1, .int .i64 D1, .bool s1, .int .u64 M1, .int .i64 E1, .int .i64 G1, .bool g1, .int .u64 P1, .int .i64 Q1] 26)) (g := w.heap.size + 1 + 1) (by simp) #[.int .i64 D2, .bool s2, .int .u64 M2, .int .i64 E2] 24)
  have HB := Lib.hid (bel3 w (.cells #[.bool e0, .int .i64 D0, .bool s0, .int .u64 M0, .int .i64 E0, .int .i64 G0, .bool g0, .int .u64 P0, .int .i64 Q0] 26) (.cells #[.bool e1, .int .i64 D1, .bool s1, .int .u64 M1, .int .i64 E1, .int .i64 G1, .bool g1, .int .u64 P1, .int .i64 Q1] 26) (.cells #[.int .i64 D2, .bool s2, .int .u64 M2, .int .i64 E2] 24))
  generalize hW1 : (((w.alloc (.cells #[.bool e0, .int .i64 D0, .bool s0, .int .u64 M0, .int .i64 E0, .int .i64 G0, .bool g0, .int .u64 P0, .int .i64 Q0] 26)).alloc (.cells #[.bool e1, .int .i64 D1, .bool s1, .int .u64 M1, .int .i64 E1, .int .i64 G1, .bool g1, .int .u64 P1, .int .i64 Q1] 26)).alloc (.cells #[.int .i64 D2, .bool s2, .int .u64 M2, .int .i64 E2] 24)) = w1 at *
  clear hW1
  go_wp2_with fail
  refine (awake8).mono ?_
  rintro ee w2 ⟨rfl, B⟩
  replace X0 := X0.below B
  replace X1 := X1.below B
  replace X2 := X2.below B
  replace HB := Lib.hid (bt HB.out B)
  clear B
  obtain ⟨xX00, xX01, xX02, xX03, xX04, xX05, xX06, xX07, xX08⟩ := X0.ce9 rfl rfl rfl rfl rfl rfl rfl rfl rfl
  obtain ⟨xX20, xX21, xX22, xX23⟩ := X2.ce4 rfl rfl rfl rfl
  go_wp2_with fail
  refine (kvHas u0 v0 u2 HX0.out HN.out HP.out).mono ?_
  rintro ee w3 ⟨rfl, B⟩
  clear xX00 xX01 xX02 xX03 xX04 xX05 xX06 xX07 xX08 xX20 xX21 xX22 xX23
  replace X0 := X0.below B
  replace X1 := X1.below B
  replace X2 := X2.below B
  replace HB := Lib.hid (bt HB.out B)
  clear B
  obtain ⟨xX10, xX11, xX12, xX13, xX14, xX15, xX16, xX17, xX18⟩ := X1.ce9 rfl rfl rfl rfl rfl rfl rfl rfl rfl
  obtain ⟨xX20, xX21, xX22, xX23⟩ := X2.ce4 rfl rfl rfl rfl
  go_wp2_with fail
  refine (kvHas u1 v1 u2 HX1.out HN.out HQ.out).mono ?_
  rintro ee w4 ⟨rfl, B⟩
  clear xX10 xX11 xX12 xX13 xX14 xX15 xX16 xX17 xX18 xX20 xX21 xX22 xX23
  replace X0 := X0.below B
  replace X1 := X1.below B
  replace X2 := X2.below B
  replace HB := Lib.hid (bt HB.out B)
  clear B
  go_upto_region 4 with (fail)
  refine Jo.region_joint (T := [0, 1, 2, 3, 4, 5, 6, 7, 8, 9, 10, 11, 12, 13, 14, 15, 16, 17, 18, 19, 20, 21, 22, 23, 24, 25, 26, 27, 28, 29, 30]) (ds := [some 17, some 18, some 19, some 20, some 21, some 22, some 23, some 24, some 25, some 26, some 27, some 28, some 29, some 30, some 31, some 32, some 33, some 34, some 35, some 36, some 37, some 38, some 39, some 40, some 41, some 42, some 43, some 44, some 45, some 46, some 6]) (ls := [[], [0], [1], [1], [1, 2, 3], [1, 4], [1], [1, 5, 6], [1], [1, 8], [9], [1, 9, 10], [1, 7, 11], [1, 12], [13], [14], [14, 15], [14, 16], [17], [17, 18], [14, 17, 19], [14, 20], [21], [21], [21, 22, 23], [21, 24], [21], [21, 25, 26], [14, 21, 27], [14, 28], [29]]) (k := 31) (L := [(some 17, 0), (some 18, 1), (some 19, 2), (some 20, 3), (some 21, 4), (some 22, 5), (some 23, 6), (some 24, 7), (some 25, 8), (some 26, 9), (some 27, 10), (some 28, 11), (some 29, 12), (some 30, 13), (some 31, 14), (some 32, 15), (some 33, 16), (some 34, 17), (some 35, 18), (some 36, 19), (some 37, 20), (some 38, 21), (some 39, 22), (some 40, 23), (some 41, 24), (some 42, 25), (some 43, 26), (some 44, 27), (some 45, 28), (some 46, 29), (some 6, 30)]) (fuel := 0) (J := fun wj => Below (World.heap w4).size w4 wj)
    (F := [Jo.Fact.eq (.bool true), Jo.Fact.eq (.bool true), Jo.Fact.eq (.agg #[.bool e0, .int .i64 D0, .bool s0, .int .u64 M0, .int .i64 E0, .int .i64 G0, .bool g0, .int .u64 P0, .int .i64 Q0]), Jo.Fact.eq (.agg #[.bool e1, .int .i64 D1, .bool s1, .int .u64 M1, .int .i64 E1, .int .i64 G1, .bool g1, .int .u64 P1, .int .i64 Q1]), Jo.Fact.il8 2 [x, y], Jo.Fact.iv m, Jo.Fact.eq (.agg #[.int .i64 D2, .bool s2, .int .u64 M2, .int .i64 E2]), Jo.Fact.eq (.bool false), Jo.Fact.eq (.bool false), Jo.Fact.eq (.bool false), Jo.Fact.eq undef, Jo.Fact.eq (.bool false), Jo.Fact.eq (.bool true), Jo.Fact.eq (.bool true), Jo.Fact.eq (.bool true), Jo.Fact.eq (.bool false), Jo.Fact.eq (.bool true), Jo.Fact.eq (.bool true), Jo.Fact.eq (.bool false), Jo.Fact.eq (.bool true), Jo.Fact.eq (.bool true), Jo.Fact.eq (.bool true), Jo.Fact.eq undef, Jo.Fact.eq undef, Jo.Fact.eq undef, Jo.Fact.eq undef, Jo.Fact.eq undef, Jo.Fact.eq undef, Jo.Fact.eq (.bool true), Jo.Fact.eq (.bool true), Jo.Fact.eq (.bool true)])
    (by kernel_rfl) (by kernel_rfl) (by decide) rfl rfl (fun _ _ h b => bt h b) ((Below.refl _ _).drew) ?_ (fun vs w8 hJ hd => ?_)
  · refine Jo.jd 0 (some 17) [] (Jo.Fact.eq (.bool true)) rfl rfl rfl rfl (fun vs wj hJ hd K hK => ?_) ?_
    · simp only [Jo.putl, Jo.ze, Act.put, Jo.za, Jo.zb, Jo.zc] at hK ⊢
      clear hd
      go_simp
      exact hK.out _ _ rfl (Below.refl _ _)
    refine Jo.jd 1 (some 18) [(some 17, 0)] (Jo.Fact.eq (.bool true)) rfl rfl rfl rfl (fun vs wj hJ hd K hK => ?_) ?_
    · simp only [Jo.putl, Jo.zd, Jo.ze, Act.put, Jo.za, Jo.zb, Jo.zc] at hK ⊢
      rw [show vs 0 = _ from hd 0 (by decide)] at hK ⊢
      clear hd
      go_simp
      exact hK.out _ _ rfl (Below.refl _ _)
    refine Jo.jd 2 (some 19) [(some 18, 1)] (Jo.Fact.eq (.agg #[.bool e0, .int .i64 D0, .bool s0, .int .u64 M0, .int .i64 E0, .int .i64 G0, .bool g0, .int .u64 P0, .int .i64 Q0])) rfl rfl rfl rfl (fun vs wj hJ hd K hK => ?_) ?_
    · simp only [Jo.putl, Jo.zd, Jo.ze, Act.put, Jo.za, Jo.zb, Jo.zc] at hK ⊢
      rw [show vs 1 = _ from hd 1 (by decide)] at hK ⊢
      clear hd
      have xX00 := (X0.below hJ).a 0 (.bool e0) rfl
      have xX01 := (X0.below hJ).a 1 (.int .i64 D0) rfl
      have xX02 := (X0.below hJ).a 2 (.bool s0) rfl
      have xX03 := (X0.below hJ).a 3 (.int .u64 M0) rfl
      have xX04 := (X0.below hJ).a 4 (.int .i64 E0) rfl
      have xX05 := (X0.below hJ).a 5 (.int .i64 G0) rfl
      have xX06 := (X0.below hJ).a 6 (.bool g0) rfl
      have xX07 := (X0.below hJ).a 7 (.int .u64 P0) rfl
      have xX08 := (X0.below hJ).a 8 (.int .i64 Q0) rfl
      go_simp
      exact hK.out _ _ rfl (Below.refl _ _)
    refine Jo.jd 3 (some 20) [(some 18, 1)] (Jo.Fact.eq (.agg #[.bool e1, .int .i64 D1, .bool s1, .int .u64 M1, .int .i64 E1, .int .i64 G1, .bool g1, .int .u64 P1, .int .i64 Q1])) rfl rfl rfl rfl (fun vs wj hJ hd K hK => ?_) ?_
    · simp only [Jo.putl, Jo.zd, Jo.ze, Act.put, Jo.za, Jo.zb, Jo.zc] at hK ⊢
      rw [show vs 1 = _ from hd 1 (by decide)] at hK ⊢
      clear hd
      have xX10 := (X1.below hJ).a 0 (.bool e1) rfl
      have xX11 := (X1.below hJ).a 1 (.int .i64 D1) rfl
      have xX12 := (X1.below hJ).a 2 (.bool s1) rfl
      have xX13 := (X1.below hJ).a 3 (.int .u64 M1) rfl
      have xX14 := (X1.below hJ).a 4 (.int .i64 E1) rfl
      have xX15 := (X1.below hJ).a 5 (.int .i64 G1) rfl
      have xX16 := (X1.below hJ).a 6 (.bool g1) rfl
      have xX17 := (X1.below hJ).a 7 (.int .u64 P1) rfl
      have xX18 := (X1.below hJ).a 8 (.int .i64 Q1) rfl
      go_simp
      exact hK.out _ _ rfl (Below.refl _ _)
    refine Jo.jd 4 (some 21) [(some 18, 1), (some 19, 2), (some 20, 3)] (Jo.Fact.il8 2 [x, y]) rfl rfl rfl rfl (fun vs wj hJ hd K hK => ?_) ?_
    · have d1 : (Jo.Fact.eq (.bool true)).P (vs 1) wj := hd 1 (by decide)
      simp only [Jo.putl, Jo.zd, Jo.ze, Act.put, Jo.za, Jo.zb, Jo.zc] at hK ⊢
      rw [show vs 2 = _ from hd 2 (by decide), show vs 3 = _ from hd 3 (by decide)] at hK ⊢
      clear hd
      generalize vs 1 = u1 at hK d1 ⊢
      replace d1 : u1 = _ := d1
      subst d1
      go_simp
      exact hK.out _ _ ⟨_, 2, rfl, Il8.lit2 rfl ⟨u0, v0, HX0.out⟩ ⟨u1, v1, HX1.out⟩⟩ (bel1 _ _)
    refine Jo.jd 5 (some 22) [(some 18, 1), (some 21, 4)] (Jo.Fact.iv m) rfl rfl rfl rfl (fun vs wj hJ hd K hK => ?_) ?_
    · have d4 : (Jo.Fact.il8 2 [x, y]).P (vs 4) wj := hd 4 (by decide)
      simp only [Jo.putl, Jo.zd, Jo.ze, Act.put, Jo.za, Jo.zb, Jo.zc] at hK ⊢
      rw [show vs 1 = _ from hd 1 (by decide)] at hK ⊢
      clear hd
      generalize vs 4 = u4 at hK d4 ⊢
      obtain ⟨A20, c20, rfl, h20⟩ := d4
      go_simp
      refine (kvMeet h20 HME.out).mono ?_
      rintro ee wk ⟨e21, K21, s21, M21, E21, K21b, s21b, M21b, E21b, rfl, v21, B⟩
      exact hK.out _ _ ⟨e21, K21, s21, M21, E21, K21b, s21b, M21b, E21b, rfl, v21⟩ B
    refine Jo.jd 6 (some 23) [(some 18, 1)] (Jo.Fact.eq (.agg #[.int .i64 D2, .bool s2, .int .u64 M2, .int .i64 E2])) rfl rfl rfl rfl (fun vs wj hJ hd K hK => ?_) ?_
    · simp only [Jo.putl, Jo.zd, Jo.ze, Act.put, Jo.za, Jo.zb, Jo.zc] at hK ⊢
      rw [show vs 1 = _ from hd 1 (by decide)] at hK ⊢
      clear hd
      have xX20 := (X2.below hJ).a 0 (.int .i64 D2) rfl
      have xX21 := (X2.below hJ).a 1 (.bool s2) rfl
      have xX22 := (X2.below hJ).a 2 (.int .u64 M2) rfl
      have xX23 := (X2.below hJ).a 3 (.int .i64 E2) rfl
      go_simp
      exact hK.out _ _ rfl (Below.refl _ _)
    refine Jo.jd 7 (some 24) [(some 18, 1), (some 22, 5), (some 23, 6)] (Jo.Fact.eq (.bool false)) rfl rfl rfl rfl (fun vs wj hJ hd K hK => ?_) ?_
    · have d5 : (Jo.Fact.iv m).P (vs 5) wj := hd 5 (by decide)
      simp only [Jo.putl, Jo.zd, Jo.ze, Act.put, Jo.za, Jo.zb, Jo.zc] at hK ⊢
      rw [show vs 1 = _ from hd 1 (by decide), show vs 6 = _ from hd 6 (by decide)] at hK ⊢
      clear hd
      generalize vs 5 = u5 at hK d5 ⊢
      obtain ⟨e21, K21, s21, M21, E21, K21b, s21b, M21b, E21b, rfl, v21⟩ := d5
      go_simp
      refine (kvHas v21.top.1 v21.top.2 u2 v21.rk HN.out HR3.out).mono ?_
      rintro ee wk ⟨rfl, B⟩
      exact hK.out _ _ rfl B
    refine Jo.jd 8 (some 25) [(some 18, 1)] (Jo.Fact.eq (.bool false)) rfl rfl rfl rfl (fun vs wj hJ hd K hK => ?_) ?_
    · simp only [Jo.putl, Jo.zd, Jo.ze, Act.put, Jo.za, Jo.zb, Jo.zc] at hK ⊢
      rw [show vs 1 = _ from hd 1 (by decide)] at hK ⊢
      clear hd
      go_simp
      exact hK.out _ _ rfl (Below.refl _ _)
    refine Jo.jd 9 (some 26) [(some 18, 1), (some 25, 8)] (Jo.Fact.eq (.bool false)) rfl rfl rfl rfl (fun vs wj hJ hd K hK => ?_) ?_
    · simp only [Jo.putl, Jo.zd, Jo.ze, Act.put, Jo.za, Jo.zb, Jo.zc] at hK ⊢
      rw [show vs 1 = _ from hd 1 (by decide), show vs 8 = _ from hd 8 (by decide)] at hK ⊢
      clear hd
      go_simp
      exact hK.out _ _ rfl (Below.refl _ _)
    refine Jo.jd 10 (some 27) [(some 26, 9)] (Jo.Fact.eq undef) rfl rfl rfl rfl (fun vs wj hJ hd K hK => ?_) ?_
    · simp only [Jo.putl, Jo.zd, Jo.ze, Act.put, Jo.za, Jo.zb, Jo.zc] at hK ⊢
      rw [show vs 9 = _ from hd 9 (by decide)] at hK ⊢
      clear hd
      go_simp
      exact hK.out _ _ rfl (Below.refl _ _)
    refine Jo.jd 11 (some 28) [(some 18, 1), (some 26, 9), (some 27, 10)] (Jo.Fact.eq (.bool false)) rfl rfl rfl rfl (fun vs wj hJ hd K hK => ?_) ?_
    · have d10 : (Jo.Fact.eq undef).P (vs 10) wj := hd 10 (by decide)
      simp only [Jo.putl, Jo.zd, Jo.ze, Act.put, Jo.za, Jo.zb, Jo.zc] at hK ⊢
      rw [show vs 1 = _ from hd 1 (by decide), show vs 9 = _ from hd 9 (by decide)] at hK ⊢
      clear hd
      generalize vs 10 = u10 at hK d10 ⊢
      replace d10 : u10 = _ := d10
      subst d10
      go_simp
      exact hK.out _ _ rfl (Below.refl _ _)
    refine Jo.jd 12 (some 29) [(some 18, 1), (some 24, 7), (some 28, 11)] (Jo.Fact.eq (.bool true)) rfl rfl rfl rfl (fun vs wj hJ hd K hK => ?_) ?_
    · simp only [Jo.putl, Jo.zd, Jo.ze, Act.put, Jo.za, Jo.zb, Jo.zc] at hK ⊢
      rw [show vs 1 = _ from hd 1 (by decide), show vs 7 = _ from hd 7 (by decide), show vs 11 = _ from hd 11 (by decide)] at hK ⊢
      clear hd
      go_simp
      exact hK.out _ _ (by first | rfl | simp) (Below.refl _ _)
    refine Jo.jd 13 (some 30) [(some 18, 1), (some 29, 12)] (Jo.Fact.eq (.bool true)) rfl rfl rfl rfl (fun vs wj hJ hd K hK => ?_) ?_
    · simp only [Jo.putl, Jo.zd, Jo.ze, Act.put, Jo.za, Jo.zb, Jo.zc] at hK ⊢
      rw [show vs 1 = _ from hd 1 (by decide), show vs 12 = _ from hd 12 (by decide)] at hK ⊢
      clear hd
      go_simp
      exact hK.out _ _ rfl (Below.refl _ _)
    refine Jo.jd 14 (some 31) [(some 30, 13)] (Jo.Fact.eq (.bool true)) rfl rfl rfl rfl (fun vs wj hJ hd K hK => ?_) ?_
    · simp only [Jo.putl, Jo.zd, Jo.ze, Act.put, Jo.za, Jo.zb, Jo.zc] at hK ⊢
      rw [show vs 13 = _ from hd 13 (by decide)] at hK ⊢
      clear hd
      go_simp
      exact hK.out _ _ rfl (Below.refl _ _)
    refine Jo.jd 15 (some 32) [(some 31, 14)] (Jo.Fact.eq (.bool false)) rfl rfl rfl rfl (fun vs wj hJ hd K hK => ?_) ?_
    · simp only [Jo.putl, Jo.zd, Jo.ze, Act.put, Jo.za, Jo.zb, Jo.zc] at hK ⊢
      rw [show vs 14 = _ from hd 14 (by decide)] at hK ⊢
      clear hd
      go_simp
      exact hK.out _ _ rfl (Below.refl _ _)
    refine Jo.jd 16 (some 33) [(some 31, 14), (some 32, 15)] (Jo.Fact.eq (.bool true)) rfl rfl rfl rfl (fun vs wj hJ hd K hK => ?_) ?_
    · simp only [Jo.putl, Jo.zd, Jo.ze, Act.put, Jo.za, Jo.zb, Jo.zc] at hK ⊢
      rw [show vs 14 = _ from hd 14 (by decide), show vs 15 = _ from hd 15 (by decide)] at hK ⊢
      clear hd
      go_simp
      exact hK.out _ _ rfl (Below.refl _ _)
    refine Jo.jd 17 (some 34) [(some 31, 14), (some 33, 16)] (Jo.Fact.eq (.bool true)) rfl rfl rfl rfl (fun vs wj hJ hd K hK => ?_) ?_
    · simp only [Jo.putl, Jo.zd, Jo.ze, Act.put, Jo.za, Jo.zb, Jo.zc] at hK ⊢
      rw [show vs 14 = _ from hd 14 (by decide), show vs 16 = _ from hd 16 (by decide)] at hK ⊢
      clear hd
      go_simp
      exact hK.out _ _ rfl (Below.refl _ _)
    refine Jo.jd 18 (some 35) [(some 34, 17)] (Jo.Fact.eq (.bool false)) rfl rfl rfl rfl (fun vs wj hJ hd K hK => ?_) ?_
    · simp only [Jo.putl, Jo.zd, Jo.ze, Act.put, Jo.za, Jo.zb, Jo.zc] at hK ⊢
      rw [show vs 17 = _ from hd 17 (by decide)] at hK ⊢
      clear hd
      go_simp
      exact hK.out _ _ rfl (Below.refl _ _)
    refine Jo.jd 19 (some 36) [(some 34, 17), (some 35, 18)] (Jo.Fact.eq (.bool true)) rfl rfl rfl rfl (fun vs wj hJ hd K hK => ?_) ?_
    · simp only [Jo.putl, Jo.zd, Jo.ze, Act.put, Jo.za, Jo.zb, Jo.zc] at hK ⊢
      rw [show vs 17 = _ from hd 17 (by decide), show vs 18 = _ from hd 18 (by decide)] at hK ⊢
      clear hd
      go_simp
      exact hK.out _ _ rfl (Below.refl _ _)
    refine Jo.jd 20 (some 37) [(some 31, 14), (some 34, 17), (some 36, 19)] (Jo.Fact.eq (.bool true)) rfl rfl rfl rfl (fun vs wj hJ hd K hK => ?_) ?_
    · simp only [Jo.putl, Jo.zd, Jo.ze, Act.put, Jo.za, Jo.zb, Jo.zc] at hK ⊢
      rw [show vs 14 = _ from hd 14 (by decide), show vs 17 = _ from hd 17 (by decide), show vs 19 = _ from hd 19 (by decide)] at hK ⊢
      clear hd
      go_simp
      exact hK.out _ _ rfl (Below.refl _ _)
    refine Jo.jd 21 (some 38) [(some 31, 14), (some 37, 20)] (Jo.Fact.eq (.bool true)) rfl rfl rfl rfl (fun vs wj hJ hd K hK => ?_) ?_
    · simp only [Jo.putl, Jo.zd, Jo.ze, Act.put, Jo.za, Jo.zb, Jo.zc] at hK ⊢
      rw [show vs 14 = _ from hd 14 (by decide), show vs 20 = _ from hd 20 (by decide)] at hK ⊢
      clear hd
      go_simp
      exact hK.out _ _ rfl (Below.refl _ _)
    refine Jo.jd 22 (some 39) [(some 38, 21)] (Jo.Fact.eq undef) rfl rfl rfl rfl (fun vs wj hJ hd K hK => ?_) ?_
    · simp only [Jo.putl, Jo.zd, Jo.ze, Act.put, Jo.za, Jo.zb, Jo.zc] at hK ⊢
      rw [show vs 21 = _ from hd 21 (by decide)] at hK ⊢
      clear hd
      go_simp
      exact hK.out _ _ rfl (Below.refl _ _)
    refine Jo.jd 23 (some 40) [(some 38, 21)] (Jo.Fact.eq undef) rfl rfl rfl rfl (fun vs wj hJ hd K hK => ?_) ?_
    · simp only [Jo.putl, Jo.zd, Jo.ze, Act.put, Jo.za, Jo.zb, Jo.zc] at hK ⊢
      rw [show vs 21 = _ from hd 21 (by decide)] at hK ⊢
      clear hd
      go_simp
      exact hK.out _ _ rfl (Below.refl _ _)
    refine Jo.jd 24 (some 41) [(some 38, 21), (some 39, 22), (some 40, 23)] (Jo.Fact.eq undef) rfl rfl rfl rfl (fun vs wj hJ hd K hK => ?_) ?_
    · have d22 : (Jo.Fact.eq undef).P (vs 22) wj := hd 22 (by decide)
      have d23 : (Jo.Fact.eq undef).P (vs 23) wj := hd 23 (by decide)
      simp only [Jo.putl, Jo.zd, Jo.ze, Act.put, Jo.za, Jo.zb, Jo.zc] at hK ⊢
      rw [show vs 21 = _ from hd 21 (by decide)] at hK ⊢
      clear hd
      generalize vs 22 = u22 at hK d22 ⊢
      generalize vs 23 = u23 at hK d23 ⊢
      replace d22 : u22 = _ := d22
      subst d22
      replace d23 : u23 = _ := d23
      subst d23
      go_simp
      exact hK.out _ _ rfl (Below.refl _ _)
    refine Jo.jd 25 (some 42) [(some 38, 21), (some 41, 24)] (Jo.Fact.eq undef) rfl rfl rfl rfl (fun vs wj hJ hd K hK => ?_) ?_
    · have d24 : (Jo.Fact.eq undef).P (vs 24) wj := hd 24 (by decide)
      simp only [Jo.putl, Jo.zd, Jo.ze, Act.put, Jo.za, Jo.zb, Jo.zc] at hK ⊢
      rw [show vs 21 = _ from hd 21 (by decide)] at hK ⊢
      clear hd
      generalize vs 24 = u24 at hK d24 ⊢
      replace d24 : u24 = _ := d24
      subst d24
      go_simp
      exact hK.out _ _ rfl (Below.refl _ _)
    refine Jo.jd 26 (some 43) [(some 38, 21)] (Jo.Fact.eq undef) rfl rfl rfl rfl (fun vs wj hJ hd K hK => ?_) ?_
    · simp only [Jo.putl, Jo.zd, Jo.ze, Act.put, Jo.za, Jo.zb, Jo.zc] at hK ⊢
      rw [show vs 21 = _ from hd 21 (by decide)] at hK ⊢
      clear hd
      go_simp
      exact hK.out _ _ rfl (Below.refl _ _)
    refine Jo.jd 27 (some 44) [(some 38, 21), (some 42, 25), (some 43, 26)] (Jo.Fact.eq undef) rfl rfl rfl rfl (fun vs wj hJ hd K hK => ?_) ?_
    · have d25 : (Jo.Fact.eq undef).P (vs 25) wj := hd 25 (by decide)
      have d26 : (Jo.Fact.eq undef).P (vs 26) wj := hd 26 (by decide)
      simp only [Jo.putl, Jo.zd, Jo.ze, Act.put, Jo.za, Jo.zb, Jo.zc] at hK ⊢
      rw [show vs 21 = _ from hd 21 (by decide)] at hK ⊢
      clear hd
      generalize vs 25 = u25 at hK d25 ⊢
      generalize vs 26 = u26 at hK d26 ⊢
      replace d25 : u25 = _ := d25
      subst d25
      replace d26 : u26 = _ := d26
      subst d26
      go_simp
      exact hK.out _ _ rfl (Below.refl _ _)
    refine Jo.jd 28 (some 45) [(some 31, 14), (some 38, 21), (some 44, 27)] (Jo.Fact.eq (.bool true)) rfl rfl rfl rfl (fun vs wj hJ hd K hK => ?_) ?_
    · have d27 : (Jo.Fact.eq undef).P (vs 27) wj := hd 27 (by decide)
      simp only [Jo.putl, Jo.zd, Jo.ze, Act.put, Jo.za, Jo.zb, Jo.zc] at hK ⊢
      rw [show vs 14 = _ from hd 14 (by decide), show vs 21 = _ from hd 21 (by decide)] at hK ⊢
      clear hd
      generalize vs 27 = u27 at hK d27 ⊢
      replace d27 : u27 = _ := d27
      subst d27
      go_simp
      exact hK.out _ _ rfl (Below.refl _ _)
    refine Jo.jd 29 (some 46) [(some 31, 14), (some 45, 28)] (Jo.Fact.eq (.bool true)) rfl rfl rfl rfl (fun vs wj hJ hd K hK => ?_) ?_
    · simp only [Jo.putl, Jo.zd, Jo.ze, Act.put, Jo.za, Jo.zb, Jo.zc] at hK ⊢
      rw [show vs 14 = _ from hd 14 (by decide), show vs 28 = _ from hd 28 (by decide)] at hK ⊢
      clear hd
      go_simp
      exact hK.out _ _ rfl (Below.refl _ _)
    refine Jo.jd 30 (some 6) [(some 46, 29)] (Jo.Fact.eq (.bool true)) rfl rfl rfl rfl (fun vs wj hJ hd K hK => ?_) ?_
    · simp only [Jo.putl, Jo.zd, Jo.ze, Act.put, Jo.za, Jo.zb, Jo.zc] at hK ⊢
      rw [show vs 29 = _ from hd 29 (by decide)] at hK ⊢
      clear hd
      go_simp
      exact hK.out _ _ rfl (Below.refl _ _)
    exact Jo.Steps.nil
  have d4 : (Jo.Fact.il8 2 [x, y]).P (vs 4) w8 := hd 4 (by decide)
  have d5 : (Jo.Fact.iv m).P (vs 5) w8 := hd 5 (by decide)
  have d10 : (Jo.Fact.eq undef).P (vs 10) w8 := hd 10 (by decide)
  have d22 : (Jo.Fact.eq undef).P (vs 22) w8 := hd 22 (by decide)
  have d23 : (Jo.Fact.eq undef).P (vs 23) w8 := hd 23 (by decide)
  have d24 : (Jo.Fact.eq undef).P (vs 24) w8 := hd 24 (by decide)
  have d25 : (Jo.Fact.eq undef).P (vs 25) w8 := hd 25 (by decide)
  have d26 : (Jo.Fact.eq undef).P (vs 26) w8 := hd 26 (by decide)
  have d27 : (Jo.Fact.eq undef).P (vs 27) w8 := hd 27 (by decide)
  simp only [Jo.putl, Jo.zd, Jo.ze, Act.put, Jo.za, Jo.zb, Jo.zc]
  rw [show vs 0 = _ from hd 0 (by decide), show vs 1 = _ from hd 1 (by decide), show vs 2 = _ from hd 2 (by decide), show vs 3 = _ from hd 3 (by decide), show vs 6 = _ from hd 6 (by decide), show vs 7 = _ from hd 7 (by decide), show vs 8 = _ from hd 8 (by decide), show vs 9 = _ from hd 9 (by decide), show vs 11 = _ from hd 11 (by decide), show vs 12 = _ from hd 12 (by decide), show vs 13 = _ from hd 13 (by decide), show vs 14 = _ from hd 14 (by decide), show vs 15 = _ from hd 15 (by decide), show vs 16 = _ from hd 16 (by decide), show vs 17 = _ from hd 17 (by decide), show vs 18 = _ from hd 18 (by decide), show vs 19 = _ from hd 19 (by decide), show vs 20 = _ from hd 20 (by decide), show vs 21 = _ from hd 21 (by decide), show vs 28 = _ from hd 28 (by decide), show vs 29 = _ from hd 29 (by decide), show vs 30 = _ from hd 30 (by decide)]
  clear hd
  generalize vs 4 = u4 at d4 ⊢
  generalize vs 5 = u5 at d5 ⊢
  generalize vs 10 = u10 at d10 ⊢
  generalize vs 22 = u22 at d22 ⊢
  generalize vs 23 = u23 at d23 ⊢
  generalize vs 24 = u24 at d24 ⊢
  generalize vs 25 = u25 at d25 ⊢
  generalize vs 26 = u26 at d26 ⊢
  generalize vs 27 = u27 at d27 ⊢
  obtain ⟨_, _, rfl, _⟩ := d4
  obtain ⟨e21, K21, s21, M21, E21, K21b, s21b, M21b, E21b, rfl, v21⟩ := d5
  replace d10 : u10 = _ := d10
  subst d10
  replace d22 : u22 = _ := d22
  subst d22
  replace d23 : u23 = _ := d23
  subst d23
  replace d24 : u24 = _ := d24
  subst d24
  replace d25 : u25 = _ := d25
  subst d25
  replace d26 : u26 = _ := d26
  subst d26
  replace d27 : u27 = _ := d27
  subst d27
  replace X0 := X0.below hJ
  replace X1 := X1.below hJ
  replace X2 := X2.below hJ
  replace HB := Lib.hid (bt HB.out hJ)
  refine Jo.jdone (by kernel_rfl) ?_
  go_wp2
  go_ret
  exact ⟨rfl, HB.out⟩

theorem ivHas_walk (e0 : Bool) (D0 : Int) (s0 : Bool) (M0 E0 G0 : Int) (g0 : Bool) (P0 Q0 : Int) (e1 : Bool) (D1 : Int) (s1 : Bool) (M1 E1 G1 : Int) (g1 : Bool) (P1 Q1 : Int) (D2 : Int) (s2 : Bool) (M2 E2 : Int) (w : World) (u0 : M0 < 18446744073709551616) (v0 : P0 < 18446744073709551616) (u1 : M1 < 18446744073709551616) (v1 : P1 < 18446744073709551616) (w2 : 0 ≤ M2) (u2 : M2 < 18446744073709551616) :
    Calls Try.prog 5 #[.agg #[.bool e0, .int .i64 D0, .bool s0, .int .u64 M0, .int .i64 E0, .int .i64 G0, .bool g0, .int .u64 P0, .int .i64 Q0], .agg #[.bool e1, .int .i64 D1, .bool s1, .int .u64 M1, .int .i64 E1, .int .i64 G1, .bool g1, .int .u64 P1, .int .i64 Q1], .agg #[.int .i64 D2, .bool s2, .int .u64 M2, .int .i64 E2]] w fun e w' => e = .returned (.bool true) ∧ Below w.heap.size w w' := by
  have ox := rkI_ok (e := e0) (K := D0) (s := s0) (E := E0) (K' := G0) (s' := g0) (E' := Q0) u0 v0
  have oy := rkI_ok (e := e1) (K := D1) (s := s1) (E := E1) (K' := G1) (s' := g1) (E' := Q1) u1 v1
  obtain ⟨x, hx⟩ : ∃ x, rkI e0 D0 s0 M0 E0 G0 g0 P0 Q0 = x := ⟨_, rfl⟩
  obtain ⟨y, hy⟩ : ∃ y, rkI e1 D1 s1 M1 E1 G1 g1 P1 Q1 = y := ⟨_, rfl⟩
  obtain ⟨n, hn⟩ : ∃ n, rk D2 s2 M2 E2 = n := ⟨_, rfl⟩
  rw [hx] at ox
  rw [hy] at oy
  have bn : -19342822337206103650074625 ≤ n ∧ n ≤ 19342822337206103650074625 := hn ▸ rk_bd u2
  have h3 : hasI (meetL [x, y]) n = (hasI x n && hasI y n) := by rw [meet2 ox]; exact has_meet ox oy bn.1 bn.2
  have h4 : hasI x n = true ∨ hasI y n = true → hasI (hullL [x, y]) n = true := fun h => has_hull ox oy h
  cases h1 : hasI x n <;> cases h2 : hasI y n <;> rw [h1, h2] at h3
  · exact ivHas_ff e0 D0 s0 M0 E0 G0 g0 P0 Q0 e1 D1 s1 M1 E1 G1 g1 P1 Q1 D2 s2 M2 E2 w x y _ _ n u0 v0 u1 v1 u2 hx hy hn h1 h2 rfl h3 rfl
  · exact ivHas_ft e0 D0 s0 M0 E0 G0 g0 P0 Q0 e1 D1 s1 M1 E1 G1 g1 P1 Q1 D2 s2 M2 E2 w x y _ _ n u0 v0 u1 v1 u2 hx hy hn h1 h2 rfl h3 rfl (h4 (.inr h2))
  · exact ivHas_tf e0 D0 s0 M0 E0 G0 g0 P0 Q0 e1 D1 s1 M1 E1 G1 g1 P1 Q1 D2 s2 M2 E2 w x y _ _ n u0 v0 u1 v1 u2 hx hy hn h1 h2 rfl h3 rfl (h4 (.inl h1))
  · exact ivHas_tt e0 D0 s0 M0 E0 G0 g0 P0 Q0 e1 D1 s1 M1 E1 G1 g1 P1 Q1 D2 s2 M2 E2 w x y _ _ n u0 v0 u1 v1 u2 hx hy hn h1 h2 rfl h3 rfl (h4 (.inl h1))
end Go.Proofs.Ythhlccdmflgbbaa

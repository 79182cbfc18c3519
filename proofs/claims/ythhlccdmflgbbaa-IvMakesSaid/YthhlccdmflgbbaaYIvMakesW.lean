/-
  The walk of IvMakes: for all arguments the call answers true, and nothing that was there has turned.
-/
import Derived.Test.YthhlccdmflgbbaaYAar
namespace Go.Proofs.Ythhlccdmflgbbaa
open Go.RowKit
set_option linter.unusedVariables false
set_option linter.unusedSimpArgs false
set_option maxRecDepth 100000

set_option maxHeartbeats 8000000 in
theorem ivMakes_main (D0 : Int) (s0 : Bool) (M0 E0 : Int) (D1 : Int) (s1 : Bool) (M1 E1 : Int) (e2 : Bool) (D2 : Int) (s2 : Bool) (M2 E2 G2 : Int) (g2 : Bool) (P2 Q2 : Int) (e3 : Bool) (D3 : Int) (s3 : Bool) (M3 E3 G3 : Int) (g3 : Bool) (P3 Q3 : Int) (w : World) (a b : Int) (m p x y : Sp) (z2 r1 r2 : Bool) (u0 : M0 < 18446744073709551616) (u1 : M1 < 18446744073709551616) (u2 : M2 < 18446744073709551616) (v2 : P2 < 18446744073709551616) (u3 : M3 < 18446744073709551616) (v3 : P3 < 18446744073709551616)
    (ha : rk D0 s0 M0 E0 = a) (hb : rk D1 s1 M1 E1 = b) (hm : mkI a b = m) (hp : mkI a a = p) (hx : rkI e2 D2 s2 M2 E2 G2 g2 P2 Q2 = x) (hy : rkI e3 D3 s3 M3 E3 G3 g3 P3 Q3 = y) (hz : mayI e2 D2 s2 M2 E2 G2 g2 P2 Q2 = z2) (h1 : hasI x a = r1) (h2 : witI x y = r2) :
    Calls Try.prog 3 #[.agg #[.int .i64 D0, .bool s0, .int .u64 M0, .int .i64 E0], .agg #[.int .i64 D1, .bool s1, .int .u64 M1, .int .i64 E1], .agg #[.bool e2, .int .i64 D2, .bool s2, .int .u64 M2, .int .i64 E2, .int .i64 G2, .bool g2, .int .u64 P2, .int .i64 Q2], .agg #[.bool e3, .int .i64 D3, .bool s3, .int .u64 M3, .int .i64 E3, .int .i64 G3, .bool g3, .int .u64 P3, .int .i64 Q3]] w (PB w true) := by
  have HA := Lib.hid ha
  have HBB := Lib.hid hb
  have HMK := Lib.hid hm
  have HPT := Lib.hid hp
  have HX := Lib.hid hx
  have HY := Lib.hid hy
  have HMZ := Lib.hid hz
  have HHS := Lib.hid h1
  have HWT := Lib.hid h2
  clear ha hb hm hp hx hy hz h1 h2
  go_enter Try.func3, Try.ntmps3
  go_upto_region 1 with (fail)
  have X0 := (Bo.newAt w (g := w.heap.size) (by simp) #[.int .i64 D0, .bool s0, .int .u64 M0, .int .i64 E0] 24).below (bel3 _ (.cells #[.int .i64 D1, .bool s1, .int .u64 M1, .int .i64 E1] 24) (.cells #[.bool e2, .int .i64 D2, .bool s2, .int .u64 M2, .int .i64 E2, .int .i64 G2, .bool g2, .int .u64 P2, .int .i64 Q2] 26) (.cells #[.bool e3, .int .i64 D3, .bool s3, .int .u64 M3, .int .i64 E3, .int .i64 G3, .bool g3, .int .u64 P3, .int .i64 Q3] 26))
  have X1 := (Bo.newAt (w.alloc (.cells #[.int .i64 D0, .bool s0, .int .u64 M0, .int .i64 E0] 24)) (g := w.heap.size + 1) (by simp) #[.int .i64 D1, .bool s1, .int .u64 M1, .int .i64 E1] 24).below (bel2 _ (.cells #[.bool e2, .int .i64 D2, .bool s2, .int .u64 M2, .int .i64 E2, .int .i64 G2, .bool g2, .int .u64 P2, .int .i64 Q2] 26) (.cells #[.bool e3, .int .i64 D3, .bool s3, .int .u64 M3, .int .i64 E3, .int .i64 G3, .bool g3, .int .u64 P3, .int .i64 Q3] 26))
  have X2 := (Bo.newAt ((w.alloc (.cells #[.int .i64 D0, .bool s0, .int .u64 M0, .int .i64 E0] 24)).alloc (.cells #[.int .i64 D1, .bool s1, .int .u64 M1, .int .i64 E1] 24)) (g := w.heap.size + 1 + 1) (by simp) #[.bool e2, .int .i64 D2, .bool s2, .int .u64 M2, .int .i64 E2, .int .i64 G2, .bool g2, .int .u64 P2, .int .i64 Q2] 26).below (bel1 _ (.cells #[.bool e3, .int .i64 D3, .bool s3, .int .u64 M3, .int .i64 E3, .int .i64 G3, .bool g3, .int .u64 P3, .int .i64 Q3] 26))
  have X3 := (Bo.newAt (((w.alloc (.cells #[.int .i64 D0, .bool s0, .int .u64 M0, .int .i64 E0] 24)).alloc (.cells #[.int .i64 D1, .bool s1, .int .u64 M1, .int .i64 E1] 24)).alloc (.cells #[.bool e2, .int .i64 D2, .bool s2, .int .u64 M2, .int .i64 E2, .int .i64 G2, .bool g2, .int .u64 P2, .int .i64 Q2] 26)) (g := w.heap.size + 1 + 1 + 1) (by simp) #[.bool e3, .int .i64 D3, .bool s3, .int .u64 M3, .int .i64 E3, .int .i64 G3, .bool g3, .int .u64 P3, .int .i64 Q3] 26)
  have HB := Lib.hid (bel4 w (.cells #[.int .i64 D0, .bool s0, .int .u64 M0, .int .i64 E0] 24) (.cells #[.int .i64 D1, .bool s1, .int .u64 M1, .int .i64 E1] 24) (.cells #[.bool e2, .int .i64 D2, .bool s2, .int .u64 M2, .int .i64 E2, .int .i64 G2, .bool g2, .int .u64 P2, .int .i64 Q2] 26) (.cells #[.bool e3, .int .i64 D3, .bool s3, .int .u64 M3, .int .i64 E3, .int .i64 G3, .bool g3, .int .u64 P3, .int .i64 Q3] 26))
  generalize hW1 : ((((w.alloc (.cells #[.int .i64 D0, .bool s0, .int .u64 M0, .int .i64 E0] 24)).alloc (.cells #[.int .i64 D1, .bool s1, .int .u64 M1, .int .i64 E1] 24)).alloc (.cells #[.bool e2, .int .i64 D2, .bool s2, .int .u64 M2, .int .i64 E2, .int .i64 G2, .bool g2, .int .u64 P2, .int .i64 Q2] 26)).alloc (.cells #[.bool e3, .int .i64 D3, .bool s3, .int .u64 M3, .int .i64 E3, .int .i64 G3, .bool g3, .int .u64 P3, .int .i64 Q3] 26)) = w1 at *
  clear hW1
  go_wp2_with fail
  refine (awake8).mono ?_
  rintro ee w2 ⟨rfl, B⟩
  replace X0 := X0.below B
  replace X1 := X1.below B
  replace X2 := X2.below B
  replace X3 := X3.below B
  replace HB := Lib.hid (bt HB.out B)
  clear B
  obtain ⟨xX00, xX01, xX02, xX03⟩ := X0.ce4 rfl rfl rfl rfl
  obtain ⟨xX10, xX11, xX12, xX13⟩ := X1.ce4 rfl rfl rfl rfl
  go_wp2_with fail
  refine (kvMake u0 u1 HA.out HBB.out HMK.out).mono ?_
  rintro ee w3 ⟨e20, K20, s20, M20, E20, K20b, s20b, M20b, E20b, rfl, v20, B⟩
  clear xX00 xX01 xX02 xX03 xX10 xX11 xX12 xX13
  replace X0 := X0.below B
  replace X1 := X1.below B
  replace X2 := X2.below B
  replace X3 := X3.below B
  replace HB := Lib.hid (bt HB.out B)
  clear B
  go_upto_region 3 with (fail)
  have lX10 := Nat.le_refl (World.heap w3).size
  have nX10X0 := X0.lt
  have nX10X1 := X1.lt
  have nX10X2 := X2.lt
  have nX10X3 := X3.lt
  replace X0 := X0.below (bel1 _ (.cells #[.bool e20, .int .i64 K20, .bool s20, .int .u64 M20, .int .i64 E20, .int .i64 K20b, .bool s20b, .int .u64 M20b, .int .i64 E20b] 26))
  replace X1 := X1.below (bel1 _ (.cells #[.bool e20, .int .i64 K20, .bool s20, .int .u64 M20, .int .i64 E20, .int .i64 K20b, .bool s20b, .int .u64 M20b, .int .i64 E20b] 26))
  replace X2 := X2.below (bel1 _ (.cells #[.bool e20, .int .i64 K20, .bool s20, .int .u64 M20, .int .i64 E20, .int .i64 K20b, .bool s20b, .int .u64 M20b, .int .i64 E20b] 26))
  replace X3 := X3.below (bel1 _ (.cells #[.bool e20, .int .i64 K20, .bool s20, .int .u64 M20, .int .i64 E20, .int .i64 K20b, .bool s20b, .int .u64 M20b, .int .i64 E20b] 26))
  replace HB := Lib.hid (bt HB.out (bel1 _ (.cells #[.bool e20, .int .i64 K20, .bool s20, .int .u64 M20, .int .i64 E20, .int .i64 K20b, .bool s20b, .int .u64 M20b, .int .i64 E20b] 26)))
  have X10 := Bo.new w3 #[.bool e20, .int .i64 K20, .bool s20, .int .u64 M20, .int .i64 E20, .int .i64 K20b, .bool s20b, .int .u64 M20b, .int .i64 E20b] 26
  generalize hWn : World.alloc w3 (.cells #[.bool e20, .int .i64 K20, .bool s20, .int .u64 M20, .int .i64 E20, .int .i64 K20b, .bool s20b, .int .u64 M20b, .int .i64 E20b] 26) = w4 at *
  clear hWn
  clear lX10
  refine Jo.region_joint (T := [0, 1, 2, 3, 4, 5, 6, 7, 8, 9, 10, 11, 12, 13, 14, 15, 16, 17, 18, 19, 20, 21, 22, 23, 24, 25, 26, 27, 28, 29, 30, 31, 32, 33, 34, 35, 36, 37, 38, 39, 40, 41, 42, 43, 44, 45, 46, 47, 48, 49, 50, 51, 52, 53, 54]) (ds := [some 15, some 16, some 17, some 18, some 19, some 20, some 21, some 22, some 23, some 24, some 25, some 26, some 27, some 28, some 29, some 30, some 31, some 32, some 33, some 34, some 35, some 36, some 37, some 38, some 39, some 40, some 41, some 42, some 43, some 44, some 45, some 46, some 47, some 48, some 49, some 50, some 51, some 52, some 53, some 54, some 55, some 56, some 57, some 58, some 59, some 60, some 61, some 62, some 63, some 64, some 65, some 66, some 67, some 68, some 8]) (ls := [[], [0], [1], [1], [1], [1, 3, 4], [1, 2, 5], [1, 6], [7], [8], [8, 9], [8, 10], [11], [12], [12, 13], [12], [12, 15], [12, 14, 16], [12, 17], [18], [19], [19], [19, 20, 21], [19], [19], [19, 23, 24], [19, 22, 25], [19, 26], [27], [28], [28], [28, 29, 30], [28], [28], [28, 32, 33], [28, 31, 34], [28, 35], [36], [37], [37, 38], [37], [37, 40], [37, 39, 41], [37, 42], [43], [44], [44], [44, 45, 46], [44, 47], [48], [49], [49], [49, 50, 51], [49, 52], [53]]) (k := 55) (L := [(some 15, 0), (some 16, 1), (some 17, 2), (some 18, 3), (some 19, 4), (some 20, 5), (some 21, 6), (some 22, 7), (some 23, 8), (some 24, 9), (some 25, 10), (some 26, 11), (some 27, 12), (some 28, 13), (some 29, 14), (some 30, 15), (some 31, 16), (some 32, 17), (some 33, 18), (some 34, 19), (some 35, 20), (some 36, 21), (some 37, 22), (some 38, 23), (some 39, 24), (some 40, 25), (some 41, 26), (some 42, 27), (some 43, 28), (some 44, 29), (some 45, 30), (some 46, 31), (some 47, 32), (some 48, 33), (some 49, 34), (some 50, 35), (some 51, 36), (some 52, 37), (some 53, 38), (some 54, 39), (some 55, 40), (some 56, 41), (some 57, 42), (some 58, 43), (some 59, 44), (some 60, 45), (some 61, 46), (some 62, 47), (some 63, 48), (some 64, 49), (some 65, 50), (some 66, 51), (some 67, 52), (some 68, 53), (some 8, 54)]) (fuel := 0) (J := fun wj => Below (World.heap w4).size w4 wj)
    (F := [Jo.Fact.eq (.bool true), Jo.Fact.eq (.bool true), Jo.Fact.eq (.agg #[.bool e20, .int .i64 K20, .bool s20, .int .u64 M20, .int .i64 E20, .int .i64 K20b, .bool s20b, .int .u64 M20b, .int .i64 E20b]), Jo.Fact.eq (.agg #[.int .i64 D0, .bool s0, .int .u64 M0, .int .i64 E0]), Jo.Fact.eq (.agg #[.int .i64 D1, .bool s1, .int .u64 M1, .int .i64 E1]), Jo.Fact.iv m, Jo.Fact.eq (.bool true), Jo.Fact.eq (.bool true), Jo.Fact.eq (.bool true), Jo.Fact.eq (.agg #[.bool e20, .int .i64 K20, .bool s20, .int .u64 M20, .int .i64 E20, .int .i64 K20b, .bool s20b, .int .u64 M20b, .int .i64 E20b]), Jo.Fact.eq (.bool true), Jo.Fact.eq (.bool true), Jo.Fact.eq (.bool true), Jo.Fact.eq (.agg #[.bool e2, .int .i64 D2, .bool s2, .int .u64 M2, .int .i64 E2, .int .i64 G2, .bool g2, .int .u64 P2, .int .i64 Q2]), Jo.Fact.eq (.bool z2), Jo.Fact.eq (.agg #[.bool e2, .int .i64 D2, .bool s2, .int .u64 M2, .int .i64 E2, .int .i64 G2, .bool g2, .int .u64 P2, .int .i64 Q2]), Jo.Fact.eq (.bool z2), Jo.Fact.eq (.bool true), Jo.Fact.eq (.bool true), Jo.Fact.eq (.bool true), Jo.Fact.eq (.agg #[.bool e2, .int .i64 D2, .bool s2, .int .u64 M2, .int .i64 E2, .int .i64 G2, .bool g2, .int .u64 P2, .int .i64 Q2]), Jo.Fact.eq (.agg #[.int .i64 D0, .bool s0, .int .u64 M0, .int .i64 E0]), Jo.Fact.eq (.bool r1), Jo.Fact.eq (.agg #[.bool e2, .int .i64 D2, .bool s2, .int .u64 M2, .int .i64 E2, .int .i64 G2, .bool g2, .int .u64 P2, .int .i64 Q2]), Jo.Fact.eq (.agg #[.int .i64 D0, .bool s0, .int .u64 M0, .int .i64 E0]), Jo.Fact.eq (.bool r1), Jo.Fact.eq (.bool true), Jo.Fact.eq (.bool true), Jo.Fact.eq (.bool true), Jo.Fact.eq (.agg #[.bool e2, .int .i64 D2, .bool s2, .int .u64 M2, .int .i64 E2, .int .i64 G2, .bool g2, .int .u64 P2, .int .i64 Q2]), Jo.Fact.eq (.agg #[.bool e3, .int .i64 D3, .bool s3, .int .u64 M3, .int .i64 E3, .int .i64 G3, .bool g3, .int .u64 P3, .int .i64 Q3]), Jo.Fact.eq (.bool r2), Jo.Fact.eq (.agg #[.bool e2, .int .i64 D2, .bool s2, .int .u64 M2, .int .i64 E2, .int .i64 G2, .bool g2, .int .u64 P2, .int .i64 Q2]), Jo.Fact.eq (.agg #[.bool e3, .int .i64 D3, .bool s3, .int .u64 M3, .int .i64 E3, .int .i64 G3, .bool g3, .int .u64 P3, .int .i64 Q3]), Jo.Fact.eq (.bool r2), Jo.Fact.eq (.bool true), Jo.Fact.eq (.bool true), Jo.Fact.eq (.bool true), Jo.Fact.eq (.agg #[.int .i64 D0, .bool s0, .int .u64 M0, .int .i64 E0]), Jo.Fact.iv p, Jo.Fact.eq (.agg #[.int .i64 D0, .bool s0, .int .u64 M0, .int .i64 E0]), Jo.Fact.iv p, Jo.Fact.eq (.bool true), Jo.Fact.eq (.bool true), Jo.Fact.eq (.bool true), Jo.Fact.iv none, Jo.Fact.iv none, Jo.Fact.eq (.bool true), Jo.Fact.eq (.bool true), Jo.Fact.eq (.bool true), Jo.Fact.iv allI, Jo.Fact.iv allI, Jo.Fact.eq (.bool true), Jo.Fact.eq (.bool true), Jo.Fact.eq (.bool true)])
    (by kernel_rfl) (by kernel_rfl) (by decide) rfl rfl (fun _ _ h b => bt h b) ((Below.refl _ _).drew) ?_ (fun vs w8 hJ hd => ?_)
  · refine Jo.jd 0 (some 15) [] (Jo.Fact.eq (.bool true)) rfl rfl rfl rfl (fun vs wj hJ hd K hK => ?_) ?_
    · simp only [Jo.putl, Jo.ze, Act.put, Jo.za, Jo.zb, Jo.zc] at hK ⊢
      clear hd
      go_simp
      exact hK.out _ _ rfl (Below.refl _ _)
    refine Jo.jd 1 (some 16) [(some 15, 0)] (Jo.Fact.eq (.bool true)) rfl rfl rfl rfl (fun vs wj hJ hd K hK => ?_) ?_
    · simp only [Jo.putl, Jo.zd, Jo.ze, Act.put, Jo.za, Jo.zb, Jo.zc] at hK ⊢
      rw [show vs 0 = _ from hd 0 (by decide)] at hK ⊢
      clear hd
      go_simp
      exact hK.out _ _ rfl (Below.refl _ _)
    refine Jo.jd 2 (some 17) [(some 16, 1)] (Jo.Fact.eq (.agg #[.bool e20, .int .i64 K20, .bool s20, .int .u64 M20, .int .i64 E20, .int .i64 K20b, .bool s20b, .int .u64 M20b, .int .i64 E20b])) rfl rfl rfl rfl (fun vs wj hJ hd K hK => ?_) ?_
    · simp only [Jo.putl, Jo.zd, Jo.ze, Act.put, Jo.za, Jo.zb, Jo.zc] at hK ⊢
      rw [show vs 1 = _ from hd 1 (by decide)] at hK ⊢
      clear hd
      have xX100 := (X10.below hJ).a 0 (.bool e20) rfl
      have xX101 := (X10.below hJ).a 1 (.int .i64 K20) rfl
      have xX102 := (X10.below hJ).a 2 (.bool s20) rfl
      have xX103 := (X10.below hJ).a 3 (.int .u64 M20) rfl
      have xX104 := (X10.below hJ).a 4 (.int .i64 E20) rfl
      have xX105 := (X10.below hJ).a 5 (.int .i64 K20b) rfl
      have xX106 := (X10.below hJ).a 6 (.bool s20b) rfl
      have xX107 := (X10.below hJ).a 7 (.int .u64 M20b) rfl
      have xX108 := (X10.below hJ).a 8 (.int .i64 E20b) rfl
      go_simp
      exact hK.out _ _ rfl (Below.refl _ _)
    refine Jo.jd 3 (some 18) [(some 16, 1)] (Jo.Fact.eq (.agg #[.int .i64 D0, .bool s0, .int .u64 M0, .int .i64 E0])) rfl rfl rfl rfl (fun vs wj hJ hd K hK => ?_) ?_
    · simp only [Jo.putl, Jo.zd, Jo.ze, Act.put, Jo.za, Jo.zb, Jo.zc] at hK ⊢
      rw [show vs 1 = _ from hd 1 (by decide)] at hK ⊢
      clear hd
      have xX00 := (X0.below hJ).a 0 (.int .i64 D0) rfl
      have xX01 := (X0.below hJ).a 1 (.bool s0) rfl
      have xX02 := (X0.below hJ).a 2 (.int .u64 M0) rfl
      have xX03 := (X0.below hJ).a 3 (.int .i64 E0) rfl
      go_simp
      exact hK.out _ _ rfl (Below.refl _ _)
    refine Jo.jd 4 (some 19) [(some 16, 1)] (Jo.Fact.eq (.agg #[.int .i64 D1, .bool s1, .int .u64 M1, .int .i64 E1])) rfl rfl rfl rfl (fun vs wj hJ hd K hK => ?_) ?_
    · simp only [Jo.putl, Jo.zd, Jo.ze, Act.put, Jo.za, Jo.zb, Jo.zc] at hK ⊢
      rw [show vs 1 = _ from hd 1 (by decide)] at hK ⊢
      clear hd
      have xX10 := (X1.below hJ).a 0 (.int .i64 D1) rfl
      have xX11 := (X1.below hJ).a 1 (.bool s1) rfl
      have xX12 := (X1.below hJ).a 2 (.int .u64 M1) rfl
      have xX13 := (X1.below hJ).a 3 (.int .i64 E1) rfl
      go_simp
      exact hK.out _ _ rfl (Below.refl _ _)
    refine Jo.jd 5 (some 20) [(some 16, 1), (some 18, 3), (some 19, 4)] (Jo.Fact.iv m) rfl rfl rfl rfl (fun vs wj hJ hd K hK => ?_) ?_
    · have d1 : (Jo.Fact.eq (.bool true)).P (vs 1) wj := hd 1 (by decide)
      simp only [Jo.putl, Jo.zd, Jo.ze, Act.put, Jo.za, Jo.zb, Jo.zc] at hK ⊢
      rw [show vs 3 = _ from hd 3 (by decide), show vs 4 = _ from hd 4 (by decide)] at hK ⊢
      clear hd
      generalize vs 1 = u1 at hK d1 ⊢
      replace d1 : u1 = _ := d1
      subst d1
      go_simp
      refine (jvMake u0 u1 HA.out HBB.out HMK.out).mono ?_
      rintro ee wk ⟨e21, K21, s21, M21, E21, K21b, s21b, M21b, E21b, rfl, v21, B⟩
      exact hK.out _ _ ⟨e21, K21, s21, M21, E21, K21b, s21b, M21b, E21b, rfl, v21⟩ B
    refine Jo.jd 6 (some 21) [(some 16, 1), (some 17, 2), (some 20, 5)] (Jo.Fact.eq (.bool true)) rfl rfl rfl rfl (fun vs wj hJ hd K hK => ?_) ?_
    · have d5 : (Jo.Fact.iv m).P (vs 5) wj := hd 5 (by decide)
      simp only [Jo.putl, Jo.zd, Jo.ze, Act.put, Jo.za, Jo.zb, Jo.zc] at hK ⊢
      rw [show vs 1 = _ from hd 1 (by decide), show vs 2 = _ from hd 2 (by decide)] at hK ⊢
      clear hd
      generalize vs 5 = u5 at hK d5 ⊢
      obtain ⟨e21, K21, s21, M21, E21, K21b, s21b, M21b, E21b, rfl, v21⟩ := d5
      obtain ⟨rfl, rfl, rfl, rfl, rfl, rfl, rfl, rfl, rfl⟩ := v20.uniq v21
      go_simp
      exact hK.out _ _ (by first | rfl | (show Value.bool _ = Value.bool _; simp)) (Below.refl _ _)
    refine Jo.jd 7 (some 22) [(some 16, 1), (some 21, 6)] (Jo.Fact.eq (.bool true)) rfl rfl rfl rfl (fun vs wj hJ hd K hK => ?_) ?_
    · simp only [Jo.putl, Jo.zd, Jo.ze, Act.put, Jo.za, Jo.zb, Jo.zc] at hK ⊢
      rw [show vs 1 = _ from hd 1 (by decide), show vs 6 = _ from hd 6 (by decide)] at hK ⊢
      clear hd
      go_simp
      exact hK.out _ _ rfl (Below.refl _ _)
    refine Jo.jd 8 (some 23) [(some 22, 7)] (Jo.Fact.eq (.bool true)) rfl rfl rfl rfl (fun vs wj hJ hd K hK => ?_) ?_
    · simp only [Jo.putl, Jo.zd, Jo.ze, Act.put, Jo.za, Jo.zb, Jo.zc] at hK ⊢
      rw [show vs 7 = _ from hd 7 (by decide)] at hK ⊢
      clear hd
      go_simp
      exact hK.out _ _ rfl (Below.refl _ _)
    refine Jo.jd 9 (some 24) [(some 23, 8)] (Jo.Fact.eq (.agg #[.bool e20, .int .i64 K20, .bool s20, .int .u64 M20, .int .i64 E20, .int .i64 K20b, .bool s20b, .int .u64 M20b, .int .i64 E20b])) rfl rfl rfl rfl (fun vs wj hJ hd K hK => ?_) ?_
    · simp only [Jo.putl, Jo.zd, Jo.ze, Act.put, Jo.za, Jo.zb, Jo.zc] at hK ⊢
      rw [show vs 8 = _ from hd 8 (by decide)] at hK ⊢
      clear hd
      have xX100 := (X10.below hJ).a 0 (.bool e20) rfl
      have xX101 := (X10.below hJ).a 1 (.int .i64 K20) rfl
      have xX102 := (X10.below hJ).a 2 (.bool s20) rfl
      have xX103 := (X10.below hJ).a 3 (.int .u64 M20) rfl
      have xX104 := (X10.below hJ).a 4 (.int .i64 E20) rfl
      have xX105 := (X10.below hJ).a 5 (.int .i64 K20b) rfl
      have xX106 := (X10.below hJ).a 6 (.bool s20b) rfl
      have xX107 := (X10.below hJ).a 7 (.int .u64 M20b) rfl
      have xX108 := (X10.below hJ).a 8 (.int .i64 E20b) rfl
      go_simp
      exact hK.out _ _ rfl (Below.refl _ _)
    refine Jo.jd 10 (some 25) [(some 23, 8), (some 24, 9)] (Jo.Fact.eq (.bool true)) rfl rfl rfl rfl (fun vs wj hJ hd K hK => ?_) ?_
    · simp only [Jo.putl, Jo.zd, Jo.ze, Act.put, Jo.za, Jo.zb, Jo.zc] at hK ⊢
      rw [show vs 8 = _ from hd 8 (by decide), show vs 9 = _ from hd 9 (by decide)] at hK ⊢
      clear hd
      go_simp
      refine (kvMay v20.top.1 v20.top.2 v20.may).mono ?_
      rintro ee wk ⟨rfl, B⟩
      exact hK.out _ _ rfl B
    refine Jo.jd 11 (some 26) [(some 23, 8), (some 25, 10)] (Jo.Fact.eq (.bool true)) rfl rfl rfl rfl (fun vs wj hJ hd K hK => ?_) ?_
    · simp only [Jo.putl, Jo.zd, Jo.ze, Act.put, Jo.za, Jo.zb, Jo.zc] at hK ⊢
      rw [show vs 8 = _ from hd 8 (by decide), show vs 10 = _ from hd 10 (by decide)] at hK ⊢
      clear hd
      go_simp
      exact hK.out _ _ rfl (Below.refl _ _)
    refine Jo.jd 12 (some 27) [(some 26, 11)] (Jo.Fact.eq (.bool true)) rfl rfl rfl rfl (fun vs wj hJ hd K hK => ?_) ?_
    · simp only [Jo.putl, Jo.zd, Jo.ze, Act.put, Jo.za, Jo.zb, Jo.zc] at hK ⊢
      rw [show vs 11 = _ from hd 11 (by decide)] at hK ⊢
      clear hd
      go_simp
      exact hK.out _ _ rfl (Below.refl _ _)
    refine Jo.jd 13 (some 28) [(some 27, 12)] (Jo.Fact.eq (.agg #[.bool e2, .int .i64 D2, .bool s2, .int .u64 M2, .int .i64 E2, .int .i64 G2, .bool g2, .int .u64 P2, .int .i64 Q2])) rfl rfl rfl rfl (fun vs wj hJ hd K hK => ?_) ?_
    · simp only [Jo.putl, Jo.zd, Jo.ze, Act.put, Jo.za, Jo.zb, Jo.zc] at hK ⊢
      rw [show vs 12 = _ from hd 12 (by decide)] at hK ⊢
      clear hd
      have xX20 := (X2.below hJ).a 0 (.bool e2) rfl
      have xX21 := (X2.below hJ).a 1 (.int .i64 D2) rfl
      have xX22 := (X2.below hJ).a 2 (.bool s2) rfl
      have xX23 := (X2.below hJ).a 3 (.int .u64 M2) rfl
      have xX24 := (X2.below hJ).a 4 (.int .i64 E2) rfl
      have xX25 := (X2.below hJ).a 5 (.int .i64 G2) rfl
      have xX26 := (X2.below hJ).a 6 (.bool g2) rfl
      have xX27 := (X2.below hJ).a 7 (.int .u64 P2) rfl
      have xX28 := (X2.below hJ).a 8 (.int .i64 Q2) rfl
      go_simp
      exact hK.out _ _ rfl (Below.refl _ _)
    refine Jo.jd 14 (some 29) [(some 27, 12), (some 28, 13)] (Jo.Fact.eq (.bool z2)) rfl rfl rfl rfl (fun vs wj hJ hd K hK => ?_) ?_
    · simp only [Jo.putl, Jo.zd, Jo.ze, Act.put, Jo.za, Jo.zb, Jo.zc] at hK ⊢
      rw [show vs 12 = _ from hd 12 (by decide), show vs 13 = _ from hd 13 (by decide)] at hK ⊢
      clear hd
      go_simp
      refine (kvMay u2 v2 HMZ.out).mono ?_
      rintro ee wk ⟨rfl, B⟩
      exact hK.out _ _ rfl B
    refine Jo.jd 15 (some 30) [(some 27, 12)] (Jo.Fact.eq (.agg #[.bool e2, .int .i64 D2, .bool s2, .int .u64 M2, .int .i64 E2, .int .i64 G2, .bool g2, .int .u64 P2, .int .i64 Q2])) rfl rfl rfl rfl (fun vs wj hJ hd K hK => ?_) ?_
    · simp only [Jo.putl, Jo.zd, Jo.ze, Act.put, Jo.za, Jo.zb, Jo.zc] at hK ⊢
      rw [show vs 12 = _ from hd 12 (by decide)] at hK ⊢
      clear hd
      have xX20 := (X2.below hJ).a 0 (.bool e2) rfl
      have xX21 := (X2.below hJ).a 1 (.int .i64 D2) rfl
      have xX22 := (X2.below hJ).a 2 (.bool s2) rfl
      have xX23 := (X2.below hJ).a 3 (.int .u64 M2) rfl
      have xX24 := (X2.below hJ).a 4 (.int .i64 E2) rfl
      have xX25 := (X2.below hJ).a 5 (.int .i64 G2) rfl
      have xX26 := (X2.below hJ).a 6 (.bool g2) rfl
      have xX27 := (X2.below hJ).a 7 (.int .u64 P2) rfl
      have xX28 := (X2.below hJ).a 8 (.int .i64 Q2) rfl
      go_simp
      exact hK.out _ _ rfl (Below.refl _ _)
    refine Jo.jd 16 (some 31) [(some 27, 12), (some 30, 15)] (Jo.Fact.eq (.bool z2)) rfl rfl rfl rfl (fun vs wj hJ hd K hK => ?_) ?_
    · simp only [Jo.putl, Jo.zd, Jo.ze, Act.put, Jo.za, Jo.zb, Jo.zc] at hK ⊢
      rw [show vs 12 = _ from hd 12 (by decide), show vs 15 = _ from hd 15 (by decide)] at hK ⊢
      clear hd
      go_simp
      refine (jvMay u2 v2 HMZ.out).mono ?_
      rintro ee wk ⟨rfl, B⟩
      exact hK.out _ _ rfl B
    refine Jo.jd 17 (some 32) [(some 27, 12), (some 29, 14), (some 31, 16)] (Jo.Fact.eq (.bool true)) rfl rfl rfl rfl (fun vs wj hJ hd K hK => ?_) ?_
    · simp only [Jo.putl, Jo.zd, Jo.ze, Act.put, Jo.za, Jo.zb, Jo.zc] at hK ⊢
      rw [show vs 12 = _ from hd 12 (by decide), show vs 14 = _ from hd 14 (by decide), show vs 16 = _ from hd 16 (by decide)] at hK ⊢
      clear hd
      go_simp
      exact hK.out _ _ (by first | rfl | simp) (Below.refl _ _)
    refine Jo.jd 18 (some 33) [(some 27, 12), (some 32, 17)] (Jo.Fact.eq (.bool true)) rfl rfl rfl rfl (fun vs wj hJ hd K hK => ?_) ?_
    · simp only [Jo.putl, Jo.zd, Jo.ze, Act.put, Jo.za, Jo.zb, Jo.zc] at hK ⊢
      rw [show vs 12 = _ from hd 12 (by decide), show vs 17 = _ from hd 17 (by decide)] at hK ⊢
      clear hd
      go_simp
      exact hK.out _ _ rfl (Below.refl _ _)
    refine Jo.jd 19 (some 34) [(some 33, 18)] (Jo.Fact.eq (.bool true)) rfl rfl rfl rfl (fun vs wj hJ hd K hK => ?_) ?_
    · simp only [Jo.putl, Jo.zd, Jo.ze, Act.put, Jo.za, Jo.zb, Jo.zc] at hK ⊢
      rw [show vs 18 = _ from hd 18 (by decide)] at hK ⊢
      clear hd
      go_simp
      exact hK.out _ _ rfl (Below.refl _ _)
    refine Jo.jd 20 (some 35) [(some 34, 19)] (Jo.Fact.eq (.agg #[.bool e2, .int .i64 D2, .bool s2, .int .u64 M2, .int .i64 E2, .int .i64 G2, .bool g2, .int .u64 P2, .int .i64 Q2])) rfl rfl rfl rfl (fun vs wj hJ hd K hK => ?_) ?_
    · simp only [Jo.putl, Jo.zd, Jo.ze, Act.put, Jo.za, Jo.zb, Jo.zc] at hK ⊢
      rw [show vs 19 = _ from hd 19 (by decide)] at hK ⊢
      clear hd
      have xX20 := (X2.below hJ).a 0 (.bool e2) rfl
      have xX21 := (X2.below hJ).a 1 (.int .i64 D2) rfl
      have xX22 := (X2.below hJ).a 2 (.bool s2) rfl
      have xX23 := (X2.below hJ).a 3 (.int .u64 M2) rfl
      have xX24 := (X2.below hJ).a 4 (.int .i64 E2) rfl
      have xX25 := (X2.below hJ).a 5 (.int .i64 G2) rfl
      have xX26 := (X2.below hJ).a 6 (.bool g2) rfl
      have xX27 := (X2.below hJ).a 7 (.int .u64 P2) rfl
      have xX28 := (X2.below hJ).a 8 (.int .i64 Q2) rfl
      go_simp
      exact hK.out _ _ rfl (Below.refl _ _)
    refine Jo.jd 21 (some 36) [(some 34, 19)] (Jo.Fact.eq (.agg #[.int .i64 D0, .bool s0, .int .u64 M0, .int .i64 E0])) rfl rfl rfl rfl (fun vs wj hJ hd K hK => ?_) ?_
    · simp only [Jo.putl, Jo.zd, Jo.ze, Act.put, Jo.za, Jo.zb, Jo.zc] at hK ⊢
      rw [show vs 19 = _ from hd 19 (by decide)] at hK ⊢
      clear hd
      have xX00 := (X0.below hJ).a 0 (.int .i64 D0) rfl
      have xX01 := (X0.below hJ).a 1 (.bool s0) rfl
      have xX02 := (X0.below hJ).a 2 (.int .u64 M0) rfl
      have xX03 := (X0.below hJ).a 3 (.int .i64 E0) rfl
      go_simp
      exact hK.out _ _ rfl (Below.refl _ _)
    refine Jo.jd 22 (some 37) [(some 34, 19), (some 35, 20), (some 36, 21)] (Jo.Fact.eq (.bool r1)) rfl rfl rfl rfl (fun vs wj hJ hd K hK => ?_) ?_
    · simp only [Jo.putl, Jo.zd, Jo.ze, Act.put, Jo.za, Jo.zb, Jo.zc] at hK ⊢
      rw [show vs 19 = _ from hd 19 (by decide), show vs 20 = _ from hd 20 (by decide), show vs 21 = _ from hd 21 (by decide)] at hK ⊢
      clear hd
      go_simp
      refine (kvHas u2 v2 u0 HX.out HA.out HHS.out).mono ?_
      rintro ee wk ⟨rfl, B⟩
      exact hK.out _ _ rfl B
    refine Jo.jd 23 (some 38) [(some 34, 19)] (Jo.Fact.eq (.agg #[.bool e2, .int .i64 D2, .bool s2, .int .u64 M2, .int .i64 E2, .int .i64 G2, .bool g2, .int .u64 P2, .int .i64 Q2])) rfl rfl rfl rfl (fun vs wj hJ hd K hK => ?_) ?_
    · simp only [Jo.putl, Jo.zd, Jo.ze, Act.put, Jo.za, Jo.zb, Jo.zc] at hK ⊢
      rw [show vs 19 = _ from hd 19 (by decide)] at hK ⊢
      clear hd
      have xX20 := (X2.below hJ).a 0 (.bool e2) rfl
      have xX21 := (X2.below hJ).a 1 (.int .i64 D2) rfl
      have xX22 := (X2.below hJ).a 2 (.bool s2) rfl
      have xX23 := (X2.below hJ).a 3 (.int .u64 M2) rfl
      have xX24 := (X2.below hJ).a 4 (.int .i64 E2) rfl
      have xX25 := (X2.below hJ).a 5 (.int .i64 G2) rfl
      have xX26 := (X2.below hJ).a 6 (.bool g2) rfl
      have xX27 := (X2.below hJ).a 7 (.int .u64 P2) rfl
      have xX28 := (X2.below hJ).a 8 (.int .i64 Q2) rfl
      go_simp
      exact hK.out _ _ rfl (Below.refl _ _)
    refine Jo.jd 24 (some 39) [(some 34, 19)] (Jo.Fact.eq (.agg #[.int .i64 D0, .bool s0, .int .u64 M0, .int .i64 E0])) rfl rfl rfl rfl (fun vs wj hJ hd K hK => ?_) ?_
    · simp only [Jo.putl, Jo.zd, Jo.ze, Act.put, Jo.za, Jo.zb, Jo.zc] at hK ⊢
      rw [show vs 19 = _ from hd 19 (by decide)] at hK ⊢
      clear hd
      have xX00 := (X0.below hJ).a 0 (.int .i64 D0) rfl
      have xX01 := (X0.below hJ).a 1 (.bool s0) rfl
      have xX02 := (X0.below hJ).a 2 (.int .u64 M0) rfl
      have xX03 := (X0.below hJ).a 3 (.int .i64 E0) rfl
      go_simp
      exact hK.out _ _ rfl (Below.refl _ _)
    refine Jo.jd 25 (some 40) [(some 34, 19), (some 38, 23), (some 39, 24)] (Jo.Fact.eq (.bool r1)) rfl rfl rfl rfl (fun vs wj hJ hd K hK => ?_) ?_
    · simp only [Jo.putl, Jo.zd, Jo.ze, Act.put, Jo.za, Jo.zb, Jo.zc] at hK ⊢
      rw [show vs 19 = _ from hd 19 (by decide), show vs 23 = _ from hd 23 (by decide), show vs 24 = _ from hd 24 (by decide)] at hK ⊢
      clear hd
      go_simp
      refine (jvHas u2 v2 u0 HX.out HA.out HHS.out).mono ?_
      rintro ee wk ⟨rfl, B⟩
      exact hK.out _ _ rfl B
    refine Jo.jd 26 (some 41) [(some 34, 19), (some 37, 22), (some 40, 25)] (Jo.Fact.eq (.bool true)) rfl rfl rfl rfl (fun vs wj hJ hd K hK => ?_) ?_
    · simp only [Jo.putl, Jo.zd, Jo.ze, Act.put, Jo.za, Jo.zb, Jo.zc] at hK ⊢
      rw [show vs 19 = _ from hd 19 (by decide), show vs 22 = _ from hd 22 (by decide), show vs 25 = _ from hd 25 (by decide)] at hK ⊢
      clear hd
      go_simp
      exact hK.out _ _ (by first | rfl | simp) (Below.refl _ _)
    refine Jo.jd 27 (some 42) [(some 34, 19), (some 41, 26)] (Jo.Fact.eq (.bool true)) rfl rfl rfl rfl (fun vs wj hJ hd K hK => ?_) ?_
    · simp only [Jo.putl, Jo.zd, Jo.ze, Act.put, Jo.za, Jo.zb, Jo.zc] at hK ⊢
      rw [show vs 19 = _ from hd 19 (by decide), show vs 26 = _ from hd 26 (by decide)] at hK ⊢
      clear hd
      go_simp
      exact hK.out _ _ rfl (Below.refl _ _)
    refine Jo.jd 28 (some 43) [(some 42, 27)] (Jo.Fact.eq (.bool true)) rfl rfl rfl rfl (fun vs wj hJ hd K hK => ?_) ?_
    · simp only [Jo.putl, Jo.zd, Jo.ze, Act.put, Jo.za, Jo.zb, Jo.zc] at hK ⊢
      rw [show vs 27 = _ from hd 27 (by decide)] at hK ⊢
      clear hd
      go_simp
      exact hK.out _ _ rfl (Below.refl _ _)
    refine Jo.jd 29 (some 44) [(some 43, 28)] (Jo.Fact.eq (.agg #[.bool e2, .int .i64 D2, .bool s2, .int .u64 M2, .int .i64 E2, .int .i64 G2, .bool g2, .int .u64 P2, .int .i64 Q2])) rfl rfl rfl rfl (fun vs wj hJ hd K hK => ?_) ?_
    · simp only [Jo.putl, Jo.zd, Jo.ze, Act.put, Jo.za, Jo.zb, Jo.zc] at hK ⊢
      rw [show vs 28 = _ from hd 28 (by decide)] at hK ⊢
      clear hd
      have xX20 := (X2.below hJ).a 0 (.bool e2) rfl
      have xX21 := (X2.below hJ).a 1 (.int .i64 D2) rfl
      have xX22 := (X2.below hJ).a 2 (.bool s2) rfl
      have xX23 := (X2.below hJ).a 3 (.int .u64 M2) rfl
      have xX24 := (X2.below hJ).a 4 (.int .i64 E2) rfl
      have xX25 := (X2.below hJ).a 5 (.int .i64 G2) rfl
      have xX26 := (X2.below hJ).a 6 (.bool g2) rfl
      have xX27 := (X2.below hJ).a 7 (.int .u64 P2) rfl
      have xX28 := (X2.below hJ).a 8 (.int .i64 Q2) rfl
      go_simp
      exact hK.out _ _ rfl (Below.refl _ _)
    refine Jo.jd 30 (some 45) [(some 43, 28)] (Jo.Fact.eq (.agg #[.bool e3, .int .i64 D3, .bool s3, .int .u64 M3, .int .i64 E3, .int .i64 G3, .bool g3, .int .u64 P3, .int .i64 Q3])) rfl rfl rfl rfl (fun vs wj hJ hd K hK => ?_) ?_
    · simp only [Jo.putl, Jo.zd, Jo.ze, Act.put, Jo.za, Jo.zb, Jo.zc] at hK ⊢
      rw [show vs 28 = _ from hd 28 (by decide)] at hK ⊢
      clear hd
      have xX30 := (X3.below hJ).a 0 (.bool e3) rfl
      have xX31 := (X3.below hJ).a 1 (.int .i64 D3) rfl
      have xX32 := (X3.below hJ).a 2 (.bool s3) rfl
      have xX33 := (X3.below hJ).a 3 (.int .u64 M3) rfl
      have xX34 := (X3.below hJ).a 4 (.int .i64 E3) rfl
      have xX35 := (X3.below hJ).a 5 (.int .i64 G3) rfl
      have xX36 := (X3.below hJ).a 6 (.bool g3) rfl
      have xX37 := (X3.below hJ).a 7 (.int .u64 P3) rfl
      have xX38 := (X3.below hJ).a 8 (.int .i64 Q3) rfl
      go_simp
      exact hK.out _ _ rfl (Below.refl _ _)
    refine Jo.jd 31 (some 46) [(some 43, 28), (some 44, 29), (some 45, 30)] (Jo.Fact.eq (.bool r2)) rfl rfl rfl rfl (fun vs wj hJ hd K hK => ?_) ?_
    · simp only [Jo.putl, Jo.zd, Jo.ze, Act.put, Jo.za, Jo.zb, Jo.zc] at hK ⊢
      rw [show vs 28 = _ from hd 28 (by decide), show vs 29 = _ from hd 29 (by decide), show vs 30 = _ from hd 30 (by decide)] at hK ⊢
      clear hd
      go_simp
      refine (kvWithin u2 v2 u3 v3 HX.out HY.out HWT.out).mono ?_
      rintro ee wk ⟨rfl, B⟩
      exact hK.out _ _ rfl B
    refine Jo.jd 32 (some 47) [(some 43, 28)] (Jo.Fact.eq (.agg #[.bool e2, .int .i64 D2, .bool s2, .int .u64 M2, .int .i64 E2, .int .i64 G2, .bool g2, .int .u64 P2, .int .i64 Q2])) rfl rfl rfl rfl (fun vs wj hJ hd K hK => ?_) ?_
    · simp only [Jo.putl, Jo.zd, Jo.ze, Act.put, Jo.za, Jo.zb, Jo.zc] at hK ⊢
      rw [show vs 28 = _ from hd 28 (by decide)] at hK ⊢
      clear hd
      have xX20 := (X2.below hJ).a 0 (.bool e2) rfl
      have xX21 := (X2.below hJ).a 1 (.int .i64 D2) rfl
      have xX22 := (X2.below hJ).a 2 (.bool s2) rfl
      have xX23 := (X2.below hJ).a 3 (.int .u64 M2) rfl
      have xX24 := (X2.below hJ).a 4 (.int .i64 E2) rfl
      have xX25 := (X2.below hJ).a 5 (.int .i64 G2) rfl
      have xX26 := (X2.below hJ).a 6 (.bool g2) rfl
      have xX27 := (X2.below hJ).a 7 (.int .u64 P2) rfl
      have xX28 := (X2.below hJ).a 8 (.int .i64 Q2) rfl
      go_simp
      exact hK.out _ _ rfl (Below.refl _ _)
    refine Jo.jd 33 (some 48) [(some 43, 28)] (Jo.Fact.eq (.agg #[.bool e3, .int .i64 D3, .bool s3, .int .u64 M3, .int .i64 E3, .int .i64 G3, .bool g3, .int .u64 P3, .int .i64 Q3])) rfl rfl rfl rfl (fun vs wj hJ hd K hK => ?_) ?_
    · simp only [Jo.putl, Jo.zd, Jo.ze, Act.put, Jo.za, Jo.zb, Jo.zc] at hK ⊢
      rw [show vs 28 = _ from hd 28 (by decide)] at hK ⊢
      clear hd
      have xX30 := (X3.below hJ).a 0 (.bool e3) rfl
      have xX31 := (X3.below hJ).a 1 (.int .i64 D3) rfl
      have xX32 := (X3.below hJ).a 2 (.bool s3) rfl
      have xX33 := (X3.below hJ).a 3 (.int .u64 M3) rfl
      have xX34 := (X3.below hJ).a 4 (.int .i64 E3) rfl
      have xX35 := (X3.below hJ).a 5 (.int .i64 G3) rfl
      have xX36 := (X3.below hJ).a 6 (.bool g3) rfl
      have xX37 := (X3.below hJ).a 7 (.int .u64 P3) rfl
      have xX38 := (X3.below hJ).a 8 (.int .i64 Q3) rfl
      go_simp
      exact hK.out _ _ rfl (Below.refl _ _)
    refine Jo.jd 34 (some 49) [(some 43, 28), (some 47, 32), (some 48, 33)] (Jo.Fact.eq (.bool r2)) rfl rfl rfl rfl (fun vs wj hJ hd K hK => ?_) ?_
    · simp only [Jo.putl, Jo.zd, Jo.ze, Act.put, Jo.za, Jo.zb, Jo.zc] at hK ⊢
      rw [show vs 28 = _ from hd 28 (by decide), show vs 32 = _ from hd 32 (by decide), show vs 33 = _ from hd 33 (by decide)] at hK ⊢
      clear hd
      go_simp
      refine (jvWithin u2 v2 u3 v3 HX.out HY.out HWT.out).mono ?_
      rintro ee wk ⟨rfl, B⟩
      exact hK.out _ _ rfl B
    refine Jo.jd 35 (some 50) [(some 43, 28), (some 46, 31), (some 49, 34)] (Jo.Fact.eq (.bool true)) rfl rfl rfl rfl (fun vs wj hJ hd K hK => ?_) ?_
    · simp only [Jo.putl, Jo.zd, Jo.ze, Act.put, Jo.za, Jo.zb, Jo.zc] at hK ⊢
      rw [show vs 28 = _ from hd 28 (by decide), show vs 31 = _ from hd 31 (by decide), show vs 34 = _ from hd 34 (by decide)] at hK ⊢
      clear hd
      go_simp
      exact hK.out _ _ (by first | rfl | simp) (Below.refl _ _)
    refine Jo.jd 36 (some 51) [(some 43, 28), (some 50, 35)] (Jo.Fact.eq (.bool true)) rfl rfl rfl rfl (fun vs wj hJ hd K hK => ?_) ?_
    · simp only [Jo.putl, Jo.zd, Jo.ze, Act.put, Jo.za, Jo.zb, Jo.zc] at hK ⊢
      rw [show vs 28 = _ from hd 28 (by decide), show vs 35 = _ from hd 35 (by decide)] at hK ⊢
      clear hd
      go_simp
      exact hK.out _ _ rfl (Below.refl _ _)
    refine Jo.jd 37 (some 52) [(some 51, 36)] (Jo.Fact.eq (.bool true)) rfl rfl rfl rfl (fun vs wj hJ hd K hK => ?_) ?_
    · simp only [Jo.putl, Jo.zd, Jo.ze, Act.put, Jo.za, Jo.zb, Jo.zc] at hK ⊢
      rw [show vs 36 = _ from hd 36 (by decide)] at hK ⊢
      clear hd
      go_simp
      exact hK.out _ _ rfl (Below.refl _ _)
    refine Jo.jd 38 (some 53) [(some 52, 37)] (Jo.Fact.eq (.agg #[.int .i64 D0, .bool s0, .int .u64 M0, .int .i64 E0])) rfl rfl rfl rfl (fun vs wj hJ hd K hK => ?_) ?_
    · simp only [Jo.putl, Jo.zd, Jo.ze, Act.put, Jo.za, Jo.zb, Jo.zc] at hK ⊢
      rw [show vs 37 = _ from hd 37 (by decide)] at hK ⊢
      clear hd
      have xX00 := (X0.below hJ).a 0 (.int .i64 D0) rfl
      have xX01 := (X0.below hJ).a 1 (.bool s0) rfl
      have xX02 := (X0.below hJ).a 2 (.int .u64 M0) rfl
      have xX03 := (X0.below hJ).a 3 (.int .i64 E0) rfl
      go_simp
      exact hK.out _ _ rfl (Below.refl _ _)
    refine Jo.jd 39 (some 54) [(some 52, 37), (some 53, 38)] (Jo.Fact.iv p) rfl rfl rfl rfl (fun vs wj hJ hd K hK => ?_) ?_
    · simp only [Jo.putl, Jo.zd, Jo.ze, Act.put, Jo.za, Jo.zb, Jo.zc] at hK ⊢
      rw [show vs 37 = _ from hd 37 (by decide), show vs 38 = _ from hd 38 (by decide)] at hK ⊢
      clear hd
      go_simp
      refine (kvPoint u0 HA.out HPT.out).mono ?_
      rintro ee wk ⟨e22, K22, s22, M22, E22, K22b, s22b, M22b, E22b, rfl, v22, B⟩
      exact hK.out _ _ ⟨e22, K22, s22, M22, E22, K22b, s22b, M22b, E22b, rfl, v22⟩ B
    refine Jo.jd 40 (some 55) [(some 52, 37)] (Jo.Fact.eq (.agg #[.int .i64 D0, .bool s0, .int .u64 M0, .int .i64 E0])) rfl rfl rfl rfl (fun vs wj hJ hd K hK => ?_) ?_
    · simp only [Jo.putl, Jo.zd, Jo.ze, Act.put, Jo.za, Jo.zb, Jo.zc] at hK ⊢
      rw [show vs 37 = _ from hd 37 (by decide)] at hK ⊢
      clear hd
      have xX00 := (X0.below hJ).a 0 (.int .i64 D0) rfl
      have xX01 := (X0.below hJ).a 1 (.bool s0) rfl
      have xX02 := (X0.below hJ).a 2 (.int .u64 M0) rfl
      have xX03 := (X0.below hJ).a 3 (.int .i64 E0) rfl
      go_simp
      exact hK.out _ _ rfl (Below.refl _ _)
    refine Jo.jd 41 (some 56) [(some 52, 37), (some 55, 40)] (Jo.Fact.iv p) rfl rfl rfl rfl (fun vs wj hJ hd K hK => ?_) ?_
    · simp only [Jo.putl, Jo.zd, Jo.ze, Act.put, Jo.za, Jo.zb, Jo.zc] at hK ⊢
      rw [show vs 37 = _ from hd 37 (by decide), show vs 40 = _ from hd 40 (by decide)] at hK ⊢
      clear hd
      go_simp
      refine (jvPoint u0 HA.out HPT.out).mono ?_
      rintro ee wk ⟨e23, K23, s23, M23, E23, K23b, s23b, M23b, E23b, rfl, v23, B⟩
      exact hK.out _ _ ⟨e23, K23, s23, M23, E23, K23b, s23b, M23b, E23b, rfl, v23⟩ B
    refine Jo.jd 42 (some 57) [(some 52, 37), (some 54, 39), (some 56, 41)] (Jo.Fact.eq (.bool true)) rfl rfl rfl rfl (fun vs wj hJ hd K hK => ?_) ?_
    · have d39 : (Jo.Fact.iv p).P (vs 39) wj := hd 39 (by decide)
      have d41 : (Jo.Fact.iv p).P (vs 41) wj := hd 41 (by decide)
      simp only [Jo.putl, Jo.zd, Jo.ze, Act.put, Jo.za, Jo.zb, Jo.zc] at hK ⊢
      rw [show vs 37 = _ from hd 37 (by decide)] at hK ⊢
      clear hd
      generalize vs 39 = u39 at hK d39 ⊢
      generalize vs 41 = u41 at hK d41 ⊢
      obtain ⟨e22, K22, s22, M22, E22, K22b, s22b, M22b, E22b, rfl, v22⟩ := d39
      obtain ⟨e23, K23, s23, M23, E23, K23b, s23b, M23b, E23b, rfl, v23⟩ := d41
      obtain ⟨rfl, rfl, rfl, rfl, rfl, rfl, rfl, rfl, rfl⟩ := v22.uniq v23
      go_simp
      exact hK.out _ _ (by first | rfl | (show Value.bool _ = Value.bool _; simp)) (Below.refl _ _)
    refine Jo.jd 43 (some 58) [(some 52, 37), (some 57, 42)] (Jo.Fact.eq (.bool true)) rfl rfl rfl rfl (fun vs wj hJ hd K hK => ?_) ?_
    · simp only [Jo.putl, Jo.zd, Jo.ze, Act.put, Jo.za, Jo.zb, Jo.zc] at hK ⊢
      rw [show vs 37 = _ from hd 37 (by decide), show vs 42 = _ from hd 42 (by decide)] at hK ⊢
      clear hd
      go_simp
      exact hK.out _ _ rfl (Below.refl _ _)
    refine Jo.jd 44 (some 59) [(some 58, 43)] (Jo.Fact.eq (.bool true)) rfl rfl rfl rfl (fun vs wj hJ hd K hK => ?_) ?_
    · simp only [Jo.putl, Jo.zd, Jo.ze, Act.put, Jo.za, Jo.zb, Jo.zc] at hK ⊢
      rw [show vs 43 = _ from hd 43 (by decide)] at hK ⊢
      clear hd
      go_simp
      exact hK.out _ _ rfl (Below.refl _ _)
    refine Jo.jd 45 (some 60) [(some 59, 44)] (Jo.Fact.iv none) rfl rfl rfl rfl (fun vs wj hJ hd K hK => ?_) ?_
    · simp only [Jo.putl, Jo.zd, Jo.ze, Act.put, Jo.za, Jo.zb, Jo.zc] at hK ⊢
      rw [show vs 44 = _ from hd 44 (by decide)] at hK ⊢
      clear hd
      go_simp
      refine (kvNone).mono ?_
      rintro ee wk ⟨e24, K24, s24, M24, E24, K24b, s24b, M24b, E24b, rfl, v24, B⟩
      exact hK.out _ _ ⟨e24, K24, s24, M24, E24, K24b, s24b, M24b, E24b, rfl, v24⟩ B
    refine Jo.jd 46 (some 61) [(some 59, 44)] (Jo.Fact.iv none) rfl rfl rfl rfl (fun vs wj hJ hd K hK => ?_) ?_
    · simp only [Jo.putl, Jo.zd, Jo.ze, Act.put, Jo.za, Jo.zb, Jo.zc] at hK ⊢
      rw [show vs 44 = _ from hd 44 (by decide)] at hK ⊢
      clear hd
      go_simp
      refine (jvNone).mono ?_
      rintro ee wk ⟨e25, K25, s25, M25, E25, K25b, s25b, M25b, E25b, rfl, v25, B⟩
      exact hK.out _ _ ⟨e25, K25, s25, M25, E25, K25b, s25b, M25b, E25b, rfl, v25⟩ B
    refine Jo.jd 47 (some 62) [(some 59, 44), (some 60, 45), (some 61, 46)] (Jo.Fact.eq (.bool true)) rfl rfl rfl rfl (fun vs wj hJ hd K hK => ?_) ?_
    · have d45 : (Jo.Fact.iv none).P (vs 45) wj := hd 45 (by decide)
      have d46 : (Jo.Fact.iv none).P (vs 46) wj := hd 46 (by decide)
      simp only [Jo.putl, Jo.zd, Jo.ze, Act.put, Jo.za, Jo.zb, Jo.zc] at hK ⊢
      rw [show vs 44 = _ from hd 44 (by decide)] at hK ⊢
      clear hd
      generalize vs 45 = u45 at hK d45 ⊢
      generalize vs 46 = u46 at hK d46 ⊢
      obtain ⟨e24, K24, s24, M24, E24, K24b, s24b, M24b, E24b, rfl, v24⟩ := d45
      obtain ⟨e25, K25, s25, M25, E25, K25b, s25b, M25b, E25b, rfl, v25⟩ := d46
      obtain ⟨rfl, rfl, rfl, rfl, rfl, rfl, rfl, rfl, rfl⟩ := v24.uniq v25
      go_simp
      exact hK.out _ _ (by first | rfl | (show Value.bool _ = Value.bool _; simp)) (Below.refl _ _)
    refine Jo.jd 48 (some 63) [(some 59, 44), (some 62, 47)] (Jo.Fact.eq (.bool true)) rfl rfl rfl rfl (fun vs wj hJ hd K hK => ?_) ?_
    · simp only [Jo.putl, Jo.zd, Jo.ze, Act.put, Jo.za, Jo.zb, Jo.zc] at hK ⊢
      rw [show vs 44 = _ from hd 44 (by decide), show vs 47 = _ from hd 47 (by decide)] at hK ⊢
      clear hd
      go_simp
      exact hK.out _ _ rfl (Below.refl _ _)
    refine Jo.jd 49 (some 64) [(some 63, 48)] (Jo.Fact.eq (.bool true)) rfl rfl rfl rfl (fun vs wj hJ hd K hK => ?_) ?_
    · simp only [Jo.putl, Jo.zd, Jo.ze, Act.put, Jo.za, Jo.zb, Jo.zc] at hK ⊢
      rw [show vs 48 = _ from hd 48 (by decide)] at hK ⊢
      clear hd
      go_simp
      exact hK.out _ _ rfl (Below.refl _ _)
    refine Jo.jd 50 (some 65) [(some 64, 49)] (Jo.Fact.iv allI) rfl rfl rfl rfl (fun vs wj hJ hd K hK => ?_) ?_
    · simp only [Jo.putl, Jo.zd, Jo.ze, Act.put, Jo.za, Jo.zb, Jo.zc] at hK ⊢
      rw [show vs 49 = _ from hd 49 (by decide)] at hK ⊢
      clear hd
      go_simp
      refine (kvAll).mono ?_
      rintro ee wk ⟨e26, K26, s26, M26, E26, K26b, s26b, M26b, E26b, rfl, v26, B⟩
      exact hK.out _ _ ⟨e26, K26, s26, M26, E26, K26b, s26b, M26b, E26b, rfl, v26⟩ B
    refine Jo.jd 51 (some 66) [(some 64, 49)] (Jo.Fact.iv allI) rfl rfl rfl rfl (fun vs wj hJ hd K hK => ?_) ?_
    · simp only [Jo.putl, Jo.zd, Jo.ze, Act.put, Jo.za, Jo.zb, Jo.zc] at hK ⊢
      rw [show vs 49 = _ from hd 49 (by decide)] at hK ⊢
      clear hd
      go_simp
      refine (jvAll).mono ?_
      rintro ee wk ⟨e27, K27, s27, M27, E27, K27b, s27b, M27b, E27b, rfl, v27, B⟩
      exact hK.out _ _ ⟨e27, K27, s27, M27, E27, K27b, s27b, M27b, E27b, rfl, v27⟩ B
    refine Jo.jd 52 (some 67) [(some 64, 49), (some 65, 50), (some 66, 51)] (Jo.Fact.eq (.bool true)) rfl rfl rfl rfl (fun vs wj hJ hd K hK => ?_) ?_
    · have d50 : (Jo.Fact.iv allI).P (vs 50) wj := hd 50 (by decide)
      have d51 : (Jo.Fact.iv allI).P (vs 51) wj := hd 51 (by decide)
      simp only [Jo.putl, Jo.zd, Jo.ze, Act.put, Jo.za, Jo.zb, Jo.zc] at hK ⊢
      rw [show vs 49 = _ from hd 49 (by decide)] at hK ⊢
      clear hd
      generalize vs 50 = u50 at hK d50 ⊢
      generalize vs 51 = u51 at hK d51 ⊢
      obtain ⟨e26, K26, s26, M26, E26, K26b, s26b, M26b, E26b, rfl, v26⟩ := d50
      obtain ⟨e27, K27, s27, M27, E27, K27b, s27b, M27b, E27b, rfl, v27⟩ := d51
      obtain ⟨rfl, rfl, rfl, rfl, rfl, rfl, rfl, rfl, rfl⟩ := v26.uniq v27
      go_simp
      exact hK.out _ _ (by first | rfl | (show Value.bool _ = Value.bool _; simp)) (Below.refl _ _)
    refine Jo.jd 53 (some 68) [(some 64, 49), (some 67, 52)] (Jo.Fact.eq (.bool true)) rfl rfl rfl rfl (fun vs wj hJ hd K hK => ?_) ?_
    · simp only [Jo.putl, Jo.zd, Jo.ze, Act.put, Jo.za, Jo.zb, Jo.zc] at hK ⊢
      rw [show vs 49 = _ from hd 49 (by decide), show vs 52 = _ from hd 52 (by decide)] at hK ⊢
      clear hd
      go_simp
      exact hK.out _ _ rfl (Below.refl _ _)
    refine Jo.jd 54 (some 8) [(some 68, 53)] (Jo.Fact.eq (.bool true)) rfl rfl rfl rfl (fun vs wj hJ hd K hK => ?_) ?_
    · simp only [Jo.putl, Jo.zd, Jo.ze, Act.put, Jo.za, Jo.zb, Jo.zc] at hK ⊢
      rw [show vs 53 = _ from hd 53 (by decide)] at hK ⊢
      clear hd
      go_simp
      exact hK.out _ _ rfl (Below.refl _ _)
    exact Jo.Steps.nil
  have d5 : (Jo.Fact.iv m).P (vs 5) w8 := hd 5 (by decide)
  have d39 : (Jo.Fact.iv p).P (vs 39) w8 := hd 39 (by decide)
  have d41 : (Jo.Fact.iv p).P (vs 41) w8 := hd 41 (by decide)
  have d45 : (Jo.Fact.iv none).P (vs 45) w8 := hd 45 (by decide)
  have d46 : (Jo.Fact.iv none).P (vs 46) w8 := hd 46 (by decide)
  have d50 : (Jo.Fact.iv allI).P (vs 50) w8 := hd 50 (by decide)
  have d51 : (Jo.Fact.iv allI).P (vs 51) w8 := hd 51 (by decide)
  simp only [Jo.putl, Jo.zd, Jo.ze, Act.put, Jo.za, Jo.zb, Jo.zc]
  rw [show vs 0 = _ from hd 0 (by decide), show vs 1 = _ from hd 1 (by decide), show vs 2 = _ from hd 2 (by decide), show vs 3 = _ from hd 3 (by decide), show vs 4 = _ from hd 4 (by decide), show vs 6 = _ from hd 6 (by decide), show vs 7 = _ from hd 7 (by decide), show vs 8 = _ from hd 8 (by decide), show vs 9 = _ from hd 9 (by decide), show vs 10 = _ from hd 10 (by decide), show vs 11 = _ from hd 11 (by decide), show vs 12 = _ from hd 12 (by decide), show vs 13 = _ from hd 13 (by decide), show vs 14 = _ from hd 14 (by decide), show vs 15 = _ from hd 15 (by decide), show vs 16 = _ from hd 16 (by decide), show vs 17 = _ from hd 17 (by decide), show vs 18 = _ from hd 18 (by decide), show vs 19 = _ from hd 19 (by decide), show vs 20 = _ from hd 20 (by decide), show vs 21 = _ from hd 21 (by decide), show vs 22 = _ from hd 22 (by decide), show vs 23 = _ from hd 23 (by decide), show vs 24 = _ from hd 24 (by decide), show vs 25 = _ from hd 25 (by decide), show vs 26 = _ from hd 26 (by decide), show vs 27 = _ from hd 27 (by decide), show vs 28 = _ from hd 28 (by decide), show vs 29 = _ from hd 29 (by decide), show vs 30 = _ from hd 30 (by decide), show vs 31 = _ from hd 31 (by decide), show vs 32 = _ from hd 32 (by decide), show vs 33 = _ from hd 33 (by decide), show vs 34 = _ from hd 34 (by decide), show vs 35 = _ from hd 35 (by decide), show vs 36 = _ from hd 36 (by decide), show vs 37 = _ from hd 37 (by decide), show vs 38 = _ from hd 38 (by decide), show vs 40 = _ from hd 40 (by decide), show vs 42 = _ from hd 42 (by decide), show vs 43 = _ from hd 43 (by decide), show vs 44 = _ from hd 44 (by decide), show vs 47 = _ from hd 47 (by decide), show vs 48 = _ from hd 48 (by decide), show vs 49 = _ from hd 49 (by decide), show vs 52 = _ from hd 52 (by decide), show vs 53 = _ from hd 53 (by decide), show vs 54 = _ from hd 54 (by decide)]
  clear hd
  generalize vs 5 = u5 at d5 ⊢
  generalize vs 39 = u39 at d39 ⊢
  generalize vs 41 = u41 at d41 ⊢
  generalize vs 45 = u45 at d45 ⊢
  generalize vs 46 = u46 at d46 ⊢
  generalize vs 50 = u50 at d50 ⊢
  generalize vs 51 = u51 at d51 ⊢
  obtain ⟨e21, K21, s21, M21, E21, K21b, s21b, M21b, E21b, rfl, v21⟩ := d5
  obtain ⟨e22, K22, s22, M22, E22, K22b, s22b, M22b, E22b, rfl, v22⟩ := d39
  obtain ⟨e23, K23, s23, M23, E23, K23b, s23b, M23b, E23b, rfl, v23⟩ := d41
  obtain ⟨e24, K24, s24, M24, E24, K24b, s24b, M24b, E24b, rfl, v24⟩ := d45
  obtain ⟨e25, K25, s25, M25, E25, K25b, s25b, M25b, E25b, rfl, v25⟩ := d46
  obtain ⟨e26, K26, s26, M26, E26, K26b, s26b, M26b, E26b, rfl, v26⟩ := d50
  obtain ⟨e27, K27, s27, M27, E27, K27b, s27b, M27b, E27b, rfl, v27⟩ := d51
  replace X0 := X0.below hJ
  replace X1 := X1.below hJ
  replace X2 := X2.below hJ
  replace X3 := X3.below hJ
  replace X10 := X10.below hJ
  replace HB := Lib.hid (bt HB.out hJ)
  refine Jo.jdone (by kernel_rfl) ?_
  go_wp2
  go_ret
  exact ⟨rfl, HB.out⟩

theorem ivMakes_walk (D0 : Int) (s0 : Bool) (M0 E0 : Int) (D1 : Int) (s1 : Bool) (M1 E1 : Int) (e2 : Bool) (D2 : Int) (s2 : Bool) (M2 E2 G2 : Int) (g2 : Bool) (P2 Q2 : Int) (e3 : Bool) (D3 : Int) (s3 : Bool) (M3 E3 G3 : Int) (g3 : Bool) (P3 Q3 : Int) (w : World) (w0 : 0 ≤ M0) (u0 : M0 < 18446744073709551616) (w1 : 0 ≤ M1) (u1 : M1 < 18446744073709551616) (u2 : M2 < 18446744073709551616) (v2 : P2 < 18446744073709551616) (u3 : M3 < 18446744073709551616) (v3 : P3 < 18446744073709551616) :
    Calls Try.prog 3 #[.agg #[.int .i64 D0, .bool s0, .int .u64 M0, .int .i64 E0], .agg #[.int .i64 D1, .bool s1, .int .u64 M1, .int .i64 E1], .agg #[.bool e2, .int .i64 D2, .bool s2, .int .u64 M2, .int .i64 E2, .int .i64 G2, .bool g2, .int .u64 P2, .int .i64 Q2], .agg #[.bool e3, .int .i64 D3, .bool s3, .int .u64 M3, .int .i64 E3, .int .i64 G3, .bool g3, .int .u64 P3, .int .i64 Q3]] w fun e w' => e = .returned (.bool true) ∧ Below w.heap.size w w' := by
  exact ivMakes_main D0 s0 M0 E0 D1 s1 M1 E1 e2 D2 s2 M2 E2 G2 g2 P2 Q2 e3 D3 s3 M3 E3 G3 g3 P3 Q3 w _ _ _ _ _ _ _ _ _ u0 u1 u2 v2 u3 v3 rfl rfl rfl rfl rfl rfl rfl rfl rfl
end Go.Proofs.Ythhlccdmflgbbaa

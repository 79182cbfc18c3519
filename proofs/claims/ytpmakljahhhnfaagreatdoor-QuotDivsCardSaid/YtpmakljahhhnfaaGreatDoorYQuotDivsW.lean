/-
  The walk of QuotDivs: for all arguments, where the table lies as it was laid, the call answers true, and nothing that was there has turned.
-/
import Derived.Test.YtpmakljahhhnfaaGreatDoorYAaz
import Derived.Test.YtpmakljahhhnfaaGreatDoorYAbd
import Derived.Test.YtpmakljahhhnfaaGreatDoorYAbo
namespace Go.Proofs.YtpmakljahhhnfaaGreatDoor
open Go.RowKit
set_option linter.unusedVariables false
set_option linter.unusedSimpArgs false
set_option maxRecDepth 100000

set_option maxHeartbeats 8000000 in
theorem quotDivs_main (D0 : Int) (s0 : Bool) (M0 E0 : Int) (D1 : Int) (s1 : Bool) (M1 E1 : Int) (b2 : Bool) (w : World) (hT : Tab w) (u0 : M0 < 18446744073709551616) (u1 : M1 < 18446744073709551616) :
    Calls Tryz.prog 3 #[.agg #[.int .i64 D0, .bool s0, .int .u64 M0, .int .i64 E0], .agg #[.int .i64 D1, .bool s1, .int .u64 M1, .int .i64 E1], .bool b2] w (PB w true) := by
  obtain ⟨x, hx⟩ : ∃ x, rk D0 s0 M0 E0 = x := ⟨_, rfl⟩
  obtain ⟨y, hy⟩ : ∃ x, rk D1 s1 M1 E1 = x := ⟨_, rfl⟩
  obtain ⟨r, hr⟩ := qt_ex b2 x y
  have HX := Lib.hid hx
  have HY := Lib.hid hy
  have HR := Lib.hid hr
  clear hx hy hr
  go_enter Tryz.func3, Tryz.ntmps3
  go_upto_region 1 with (fail)
  have X0 := (Bo.newAt w (g := w.heap.size) (by simp) #[.int .i64 D0, .bool s0, .int .u64 M0, .int .i64 E0] 24).below (bel1 _ (.cells #[.int .i64 D1, .bool s1, .int .u64 M1, .int .i64 E1] 24))
  have X1 := (Bo.newAt (w.alloc (.cells #[.int .i64 D0, .bool s0, .int .u64 M0, .int .i64 E0] 24)) (g := w.heap.size + 1) (by simp) #[.int .i64 D1, .bool s1, .int .u64 M1, .int .i64 E1] 24)
  have HB := Lib.hid (bel2 w (.cells #[.int .i64 D0, .bool s0, .int .u64 M0, .int .i64 E0] 24) (.cells #[.int .i64 D1, .bool s1, .int .u64 M1, .int .i64 E1] 24))
  replace hT := hT.below HB.out
  generalize hW1 : ((w.alloc (.cells #[.int .i64 D0, .bool s0, .int .u64 M0, .int .i64 E0] 24)).alloc (.cells #[.int .i64 D1, .bool s1, .int .u64 M1, .int .i64 E1] 24)) = w1 at *
  clear hW1
  go_wp2_with fail
  refine (awake7 hT).mono ?_
  rintro ee w2 ⟨rfl, B⟩
  replace X0 := X0.below B
  replace X1 := X1.below B
  replace hT := hT.below B
  replace HB := Lib.hid (bt HB.out B)
  clear B
  have xX00 := X0.a 0 (.int .i64 D0) rfl
  have xX01 := X0.a 1 (.bool s0) rfl
  have xX02 := X0.a 2 (.int .u64 M0) rfl
  have xX03 := X0.a 3 (.int .i64 E0) rfl
  have xX10 := X1.a 0 (.int .i64 D1) rfl
  have xX11 := X1.a 1 (.bool s1) rfl
  have xX12 := X1.a 2 (.int .u64 M1) rfl
  have xX13 := X1.a 3 (.int .i64 E1) rfl
  go_wp2_with fail
  refine (kDiv hT u0 u1 HX.out HY.out HR.out).mono ?_
  rintro ee w3 ⟨K3, s3, M3, E3, rfl, q3, B⟩
  clear xX00 xX01 xX02 xX03 xX10 xX11 xX12 xX13
  replace X0 := X0.below B
  replace X1 := X1.below B
  replace hT := hT.below B
  replace HB := Lib.hid (bt HB.out B)
  clear B
  clear hT
  go_upto_region 3 with (fail)
  have lX8 := Nat.le_refl (World.heap w3).size
  have nX8X0 := X0.lt
  have nX8X1 := X1.lt
  replace X0 := X0.below (bel1 _ (.cells #[.int .i64 K3, .bool s3, .int .u64 M3, .int .i64 E3] 24))
  replace X1 := X1.below (bel1 _ (.cells #[.int .i64 K3, .bool s3, .int .u64 M3, .int .i64 E3] 24))
  replace HB := Lib.hid (bt HB.out (bel1 _ (.cells #[.int .i64 K3, .bool s3, .int .u64 M3, .int .i64 E3] 24)))
  have X8 := Bo.new w3 #[.int .i64 K3, .bool s3, .int .u64 M3, .int .i64 E3] 24
  generalize hWn : World.alloc w3 (.cells #[.int .i64 K3, .bool s3, .int .u64 M3, .int .i64 E3] 24) = w4 at *
  clear hWn
  clear lX8
  refine Jo.region_joint (T := [0, 1, 2, 3, 4, 5, 6, 7, 8, 9, 10, 11, 12, 13]) (ds := [some 14, some 15, some 16, some 17, some 18, some 19, some 20, some 21, some 22, some 23, some 24, some 25, some 26, some 6]) (ls := [[], [0], [1], [1], [1], [1], [1, 3, 4, 5], [1, 2, 6], [1, 7], [8], [9], [9, 10], [9, 11], [12]]) (k := 14) (L := [(some 14, 0), (some 15, 1), (some 16, 2), (some 17, 3), (some 18, 4), (some 19, 5), (some 20, 6), (some 21, 7), (some 22, 8), (some 23, 9), (some 24, 10), (some 25, 11), (some 26, 12), (some 6, 13)]) (fuel := 0) (J := fun wj => Below (World.heap w4).size w4 wj)
    (F := [Jo.Fact.eq (.bool true), Jo.Fact.eq (.bool true), Jo.Fact.eq (.agg #[.int .i64 K3, .bool s3, .int .u64 M3, .int .i64 E3]), Jo.Fact.eq (.agg #[.int .i64 D0, .bool s0, .int .u64 M0, .int .i64 E0]), Jo.Fact.eq (.agg #[.int .i64 D1, .bool s1, .int .u64 M1, .int .i64 E1]), Jo.Fact.eq (.bool b2), Jo.Fact.num r, Jo.Fact.eq (.bool true), Jo.Fact.eq (.bool true), Jo.Fact.eq (.bool true), Jo.Fact.eq (.agg #[.int .i64 K3, .bool s3, .int .u64 M3, .int .i64 E3]), Jo.Fact.eq (.bool true), Jo.Fact.eq (.bool true), Jo.Fact.eq (.bool true)])
    (by kernel_rfl) (by kernel_rfl) (by decide) rfl rfl (fun _ _ h b => bt h b) ((Below.refl _ _).drew) ?_ (fun vs w5 hJ hd => ?_)
  · refine Jo.jd 0 (some 14) [] (Jo.Fact.eq (.bool true)) rfl rfl rfl rfl (fun vs wj hJ hd K hK => ?_) ?_
    · simp only [Jo.putl, Jo.ze, Act.put, Jo.za, Jo.zb, Jo.zc] at hK ⊢
      clear hd
      go_simp
      exact hK.out _ _ rfl (Below.refl _ _)
    refine Jo.jd 1 (some 15) [(some 14, 0)] (Jo.Fact.eq (.bool true)) rfl rfl rfl rfl (fun vs wj hJ hd K hK => ?_) ?_
    · simp only [Jo.putl, Jo.zd, Jo.ze, Act.put, Jo.za, Jo.zb, Jo.zc] at hK ⊢
      rw [show vs 0 = _ from hd 0 (by decide)] at hK ⊢
      clear hd
      go_simp
      exact hK.out _ _ rfl (Below.refl _ _)
    refine Jo.jd 2 (some 16) [(some 15, 1)] (Jo.Fact.eq (.agg #[.int .i64 K3, .bool s3, .int .u64 M3, .int .i64 E3])) rfl rfl rfl rfl (fun vs wj hJ hd K hK => ?_) ?_
    · simp only [Jo.putl, Jo.zd, Jo.ze, Act.put, Jo.za, Jo.zb, Jo.zc] at hK ⊢
      rw [show vs 1 = _ from hd 1 (by decide)] at hK ⊢
      clear hd
      have xX80 := (X8.below hJ).a 0 (.int .i64 K3) rfl
      have xX81 := (X8.below hJ).a 1 (.bool s3) rfl
      have xX82 := (X8.below hJ).a 2 (.int .u64 M3) rfl
      have xX83 := (X8.below hJ).a 3 (.int .i64 E3) rfl
      go_simp
      exact hK.out _ _ rfl (Below.refl _ _)
    refine Jo.jd 3 (some 17) [(some 15, 1)] (Jo.Fact.eq (.agg #[.int .i64 D0, .bool s0, .int .u64 M0, .int .i64 E0])) rfl rfl rfl rfl (fun vs wj hJ hd K hK => ?_) ?_
    · simp only [Jo.putl, Jo.zd, Jo.ze, Act.put, Jo.za, Jo.zb, Jo.zc] at hK ⊢
      rw [show vs 1 = _ from hd 1 (by decide)] at hK ⊢
      clear hd
      have xX00 := (X0.below hJ).a 0 (.int .i64 D0) rfl
      have xX01 := (X0.below hJ).a 1 (.bool s0) rfl
      have xX02 := (X0.below hJ).a 2 (.int .u64 M0) rfl
      have xX03 := (X0.below hJ).a 3 (.int .i64 E0) rfl
      go_simp
      exact hK.out _ _ rfl (Below.refl _ _)
    refine Jo.jd 4 (some 18) [(some 15, 1)] (Jo.Fact.eq (.agg #[.int .i64 D1, .bool s1, .int .u64 M1, .int .i64 E1])) rfl rfl rfl rfl (fun vs wj hJ hd K hK => ?_) ?_
    · simp only [Jo.putl, Jo.zd, Jo.ze, Act.put, Jo.za, Jo.zb, Jo.zc] at hK ⊢
      rw [show vs 1 = _ from hd 1 (by decide)] at hK ⊢
      clear hd
      have xX10 := (X1.below hJ).a 0 (.int .i64 D1) rfl
      have xX11 := (X1.below hJ).a 1 (.bool s1) rfl
      have xX12 := (X1.below hJ).a 2 (.int .u64 M1) rfl
      have xX13 := (X1.below hJ).a 3 (.int .i64 E1) rfl
      go_simp
      exact hK.out _ _ rfl (Below.refl _ _)
    refine Jo.jd 5 (some 19) [(some 15, 1)] (Jo.Fact.eq (.bool b2)) rfl rfl rfl rfl (fun vs wj hJ hd K hK => ?_) ?_
    · simp only [Jo.putl, Jo.zd, Jo.ze, Act.put, Jo.za, Jo.zb, Jo.zc] at hK ⊢
      rw [show vs 1 = _ from hd 1 (by decide)] at hK ⊢
      clear hd
      go_simp
      exact hK.out _ _ rfl (Below.refl _ _)
    refine Jo.jd 6 (some 20) [(some 15, 1), (some 17, 3), (some 18, 4), (some 19, 5)] (Jo.Fact.num r) rfl rfl rfl rfl (fun vs wj hJ hd K hK => ?_) ?_
    · have d1 : (Jo.Fact.eq (.bool true)).P (vs 1) wj := hd 1 (by decide)
      simp only [Jo.putl, Jo.zd, Jo.ze, Act.put, Jo.za, Jo.zb, Jo.zc] at hK ⊢
      rw [show vs 3 = _ from hd 3 (by decide), show vs 4 = _ from hd 4 (by decide), show vs 5 = _ from hd 5 (by decide)] at hK ⊢
      clear hd
      generalize vs 1 = u1 at hK d1 ⊢
      replace d1 : u1 = _ := d1
      subst d1
      go_simp
      refine (jDiv u0 u1 HX.out HY.out HR.out).mono ?_
      rintro ee wk ⟨K4, s4, M4, E4, rfl, q4, B⟩
      exact hK.out _ _ ⟨K4, s4, M4, E4, rfl, q4⟩ B
    refine Jo.jd 7 (some 21) [(some 15, 1), (some 16, 2), (some 20, 6)] (Jo.Fact.eq (.bool true)) rfl rfl rfl rfl (fun vs wj hJ hd K hK => ?_) ?_
    · have d6 : (Jo.Fact.num r).P (vs 6) wj := hd 6 (by decide)
      simp only [Jo.putl, Jo.zd, Jo.ze, Act.put, Jo.za, Jo.zb, Jo.zc] at hK ⊢
      rw [show vs 1 = _ from hd 1 (by decide), show vs 2 = _ from hd 2 (by decide)] at hK ⊢
      clear hd
      generalize vs 6 = u6 at hK d6 ⊢
      obtain ⟨K4, s4, M4, E4, rfl, q4⟩ := d6
      obtain ⟨rfl, rfl, rfl, rfl⟩ := q3.uniq q4
      go_simp
      exact hK.out _ _ (by first | rfl | (show Value.bool _ = Value.bool _; simp)) (Below.refl _ _)
    refine Jo.jd 8 (some 22) [(some 15, 1), (some 21, 7)] (Jo.Fact.eq (.bool true)) rfl rfl rfl rfl (fun vs wj hJ hd K hK => ?_) ?_
    · simp only [Jo.putl, Jo.zd, Jo.ze, Act.put, Jo.za, Jo.zb, Jo.zc] at hK ⊢
      rw [show vs 1 = _ from hd 1 (by decide), show vs 7 = _ from hd 7 (by decide)] at hK ⊢
      clear hd
      go_simp
      exact hK.out _ _ rfl (Below.refl _ _)
    refine Jo.jd 9 (some 23) [(some 22, 8)] (Jo.Fact.eq (.bool true)) rfl rfl rfl rfl (fun vs wj hJ hd K hK => ?_) ?_
    · simp only [Jo.putl, Jo.zd, Jo.ze, Act.put, Jo.za, Jo.zb, Jo.zc] at hK ⊢
      rw [show vs 8 = _ from hd 8 (by decide)] at hK ⊢
      clear hd
      go_simp
      exact hK.out _ _ rfl (Below.refl _ _)
    refine Jo.jd 10 (some 24) [(some 23, 9)] (Jo.Fact.eq (.agg #[.int .i64 K3, .bool s3, .int .u64 M3, .int .i64 E3])) rfl rfl rfl rfl (fun vs wj hJ hd K hK => ?_) ?_
    · simp only [Jo.putl, Jo.zd, Jo.ze, Act.put, Jo.za, Jo.zb, Jo.zc] at hK ⊢
      rw [show vs 9 = _ from hd 9 (by decide)] at hK ⊢
      clear hd
      have xX80 := (X8.below hJ).a 0 (.int .i64 K3) rfl
      have xX81 := (X8.below hJ).a 1 (.bool s3) rfl
      have xX82 := (X8.below hJ).a 2 (.int .u64 M3) rfl
      have xX83 := (X8.below hJ).a 3 (.int .i64 E3) rfl
      go_simp
      exact hK.out _ _ rfl (Below.refl _ _)
    refine Jo.jd 11 (some 25) [(some 23, 9), (some 24, 10)] (Jo.Fact.eq (.bool true)) rfl rfl rfl rfl (fun vs wj hJ hd K hK => ?_) ?_
    · simp only [Jo.putl, Jo.zd, Jo.ze, Act.put, Jo.za, Jo.zb, Jo.zc] at hK ⊢
      rw [show vs 9 = _ from hd 9 (by decide), show vs 10 = _ from hd 10 (by decide)] at hK ⊢
      clear hd
      go_simp
      refine (nMay (r := true) (decide_eq_true q3.1)).mono ?_
      rintro ee wk ⟨rfl, B⟩
      exact hK.out _ _ rfl B
    refine Jo.jd 12 (some 26) [(some 23, 9), (some 25, 11)] (Jo.Fact.eq (.bool true)) rfl rfl rfl rfl (fun vs wj hJ hd K hK => ?_) ?_
    · simp only [Jo.putl, Jo.zd, Jo.ze, Act.put, Jo.za, Jo.zb, Jo.zc] at hK ⊢
      rw [show vs 9 = _ from hd 9 (by decide), show vs 11 = _ from hd 11 (by decide)] at hK ⊢
      clear hd
      go_simp
      exact hK.out _ _ rfl (Below.refl _ _)
    refine Jo.jd 13 (some 6) [(some 26, 12)] (Jo.Fact.eq (.bool true)) rfl rfl rfl rfl (fun vs wj hJ hd K hK => ?_) ?_
    · simp only [Jo.putl, Jo.zd, Jo.ze, Act.put, Jo.za, Jo.zb, Jo.zc] at hK ⊢
      rw [show vs 12 = _ from hd 12 (by decide)] at hK ⊢
      clear hd
      go_simp
      exact hK.out _ _ rfl (Below.refl _ _)
    exact Jo.Steps.nil
  have d6 : (Jo.Fact.num r).P (vs 6) w5 := hd 6 (by decide)
  simp only [Jo.putl, Jo.zd, Jo.ze, Act.put, Jo.za, Jo.zb, Jo.zc]
  rw [show vs 0 = _ from hd 0 (by decide), show vs 1 = _ from hd 1 (by decide), show vs 2 = _ from hd 2 (by decide), show vs 3 = _ from hd 3 (by decide), show vs 4 = _ from hd 4 (by decide), show vs 5 = _ from hd 5 (by decide), show vs 7 = _ from hd 7 (by decide), show vs 8 = _ from hd 8 (by decide), show vs 9 = _ from hd 9 (by decide), show vs 10 = _ from hd 10 (by decide), show vs 11 = _ from hd 11 (by decide), show vs 12 = _ from hd 12 (by decide), show vs 13 = _ from hd 13 (by decide)]
  clear hd
  generalize vs 6 = u6 at d6 ⊢
  obtain ⟨K4, s4, M4, E4, rfl, _⟩ := d6
  replace X0 := X0.below hJ
  replace X1 := X1.below hJ
  replace X8 := X8.below hJ
  replace HB := Lib.hid (bt HB.out hJ)
  refine Jo.jdone (by kernel_rfl) ?_
  go_wp2
  go_ret
  exact ⟨rfl, HB.out⟩

theorem quotDivs_walk (D0 : Int) (s0 : Bool) (M0 E0 : Int) (D1 : Int) (s1 : Bool) (M1 E1 : Int) (b2 : Bool) (w : World) (hT : Tab w) (w0 : 0 ≤ M0) (u0 : M0 < 18446744073709551616) (w1 : 0 ≤ M1) (u1 : M1 < 18446744073709551616)  :
    Calls Tryz.prog 3 #[.agg #[.int .i64 D0, .bool s0, .int .u64 M0, .int .i64 E0], .agg #[.int .i64 D1, .bool s1, .int .u64 M1, .int .i64 E1], .bool b2] w fun e w' => e = .returned (.bool true) ∧ Below w.heap.size w w' := by
  exact quotDivs_main D0 s0 M0 E0 D1 s1 M1 E1 b2 w hT u0 u1
end Go.Proofs.YtpmakljahhhnfaaGreatDoor

/-
  The walk of IvSets: for all arguments the call answers true, and nothing that was there has turned.
-/
import Derived.Test.YthhlccdmflgbbaaYAar
import Derived.Test.YthhlccdmflgbbaaYAau
namespace Go.Proofs.Ythhlccdmflgbbaa
open Go.RowKit
set_option linter.unusedVariables false
set_option linter.unusedSimpArgs false
set_option maxRecDepth 100000

set_option maxHeartbeats 8000000 in
theorem ivSets_far (a0 : Option Addr) (len0 cap0 : Nat) (w : World) (h : 50 < len0) :
    Calls Try.prog 4 #[.slice a0 len0 cap0] w (PB w true) := by
  have ht : decide ((50 : Int) < (len0 : Int)) = true := decide_eq_true (by omega)
  go_enter Try.func4, Try.ntmps4
  have HB := Lib.hid (Below.refl w.heap.size w)
  go_wp2_with fail
  refine (awake8).mono ?_
  rintro ee w2 ⟨rfl, B⟩
  replace HB := Lib.hid (bt HB.out B)
  clear B
  go_wp2
  go_ret
  exact ⟨rfl, HB.out⟩
set_option maxHeartbeats 8000000 in
theorem ivSets_main (a0 : Option Addr) (len0 cap0 : Nat) (w : World) (l : List Sp) (m u : Sp) (h : ¬ 50 < len0) (h0 : Il8 w a0 len0 cap0 l) (hm : meetL l = m) (hu : hullL l = u) :
    Calls Try.prog 4 #[.slice a0 len0 cap0] w (PB w true) := by
  have ht : decide ((50 : Int) < (len0 : Int)) = false := decide_eq_false (by omega)
  have HME := Lib.hid hm
  have HHU := Lib.hid hu
  clear hm hu h
  go_enter Try.func4, Try.ntmps4
  have HB := Lib.hid (Below.refl w.heap.size w)
  go_wp2_with fail
  refine (awake8).mono ?_
  rintro ee w2 ⟨rfl, B⟩
  replace h0 := h0.below B
  replace HB := Lib.hid (bt HB.out B)
  clear B
  go_wp2_with fail
  refine (kvMeet h0 HME.out).mono ?_
  rintro ee w3 ⟨e20, K20, s20, M20, E20, K20b, s20b, M20b, E20b, rfl, v20, B⟩
  replace h0 := h0.below B
  replace HB := Lib.hid (bt HB.out B)
  clear B
  go_upto_region 5 with (fail)
  have lX4 := Nat.le_refl (World.heap w3).size
  replace h0 := h0.below (bel1 _ (.cells #[.bool e20, .int .i64 K20, .bool s20, .int .u64 M20, .int .i64 E20, .int .i64 K20b, .bool s20b, .int .u64 M20b, .int .i64 E20b] 26))
  replace HB := Lib.hid (bt HB.out (bel1 _ (.cells #[.bool e20, .int .i64 K20, .bool s20, .int .u64 M20, .int .i64 E20, .int .i64 K20b, .bool s20b, .int .u64 M20b, .int .i64 E20b] 26)))
  have X4 := Bo.new w3 #[.bool e20, .int .i64 K20, .bool s20, .int .u64 M20, .int .i64 E20, .int .i64 K20b, .bool s20b, .int .u64 M20b, .int .i64 E20b] 26
  generalize hWn : World.alloc w3 (.cells #[.bool e20, .int .i64 K20, .bool s20, .int .u64 M20, .int .i64 E20, .int .i64 K20b, .bool s20b, .int .u64 M20b, .int .i64 E20b] 26) = w4 at *
  clear hWn
  clear lX4
  go_wp2_with fail
  refine (kvHull h0 HHU.out).mono ?_
  rintro ee w5 ⟨e21, K21, s21, M21, E21, K21b, s21b, M21b, E21b, rfl, v21, B⟩
  replace X4 := X4.below B
  replace h0 := h0.below B
  replace HB := Lib.hid (bt HB.out B)
  clear B
  go_upto_region 6 with (fail)
  have lX5 := Nat.le_refl (World.heap w5).size
  have nX5X4 := X4.lt
  replace X4 := X4.below (bel1 _ (.cells #[.bool e21, .int .i64 K21, .bool s21, .int .u64 M21, .int .i64 E21, .int .i64 K21b, .bool s21b, .int .u64 M21b, .int .i64 E21b] 26))
  replace h0 := h0.below (bel1 _ (.cells #[.bool e21, .int .i64 K21, .bool s21, .int .u64 M21, .int .i64 E21, .int .i64 K21b, .bool s21b, .int .u64 M21b, .int .i64 E21b] 26))
  replace HB := Lib.hid (bt HB.out (bel1 _ (.cells #[.bool e21, .int .i64 K21, .bool s21, .int .u64 M21, .int .i64 E21, .int .i64 K21b, .bool s21b, .int .u64 M21b, .int .i64 E21b] 26)))
  have X5 := Bo.new w5 #[.bool e21, .int .i64 K21, .bool s21, .int .u64 M21, .int .i64 E21, .int .i64 K21b, .bool s21b, .int .u64 M21b, .int .i64 E21b] 26
  generalize hWn : World.alloc w5 (.cells #[.bool e21, .int .i64 K21, .bool s21, .int .u64 M21, .int .i64 E21, .int .i64 K21b, .bool s21b, .int .u64 M21b, .int .i64 E21b] 26) = w6 at *
  clear hWn
  clear lX5
  refine Jo.region_joint (T := [0, 1, 2, 3, 4, 5, 6, 7, 8, 9, 10, 11, 12, 13, 14, 15, 16, 17, 18, 19, 20, 21]) (ds := [some 15, some 16, some 17, some 18, some 19, some 20, some 21, some 22, some 23, some 24, some 25, some 26, some 27, some 28, some 29, some 30, some 31, some 32, some 33, some 34, some 35, some 2]) (ls := [[], [0], [1], [1], [1, 3], [1, 2, 4], [1, 5], [6], [7], [7], [7, 9], [7, 8, 10], [7, 11], [12], [13], [13, 14], [13, 15], [16], [17], [17, 18], [17, 19], [20]]) (k := 22) (L := [(some 15, 0), (some 16, 1), (some 17, 2), (some 18, 3), (some 19, 4), (some 20, 5), (some 21, 6), (some 22, 7), (some 23, 8), (some 24, 9), (some 25, 10), (some 26, 11), (some 27, 12), (some 28, 13), (some 29, 14), (some 30, 15), (some 31, 16), (some 32, 17), (some 33, 18), (some 34, 19), (some 35, 20), (some 2, 21)]) (fuel := 0) (J := fun wj => Below (World.heap w6).size w6 wj)
    (F := [Jo.Fact.eq (.bool true), Jo.Fact.eq (.bool true), Jo.Fact.eq (.agg #[.bool e20, .int .i64 K20, .bool s20, .int .u64 M20, .int .i64 E20, .int .i64 K20b, .bool s20b, .int .u64 M20b, .int .i64 E20b]), Jo.Fact.eq (.slice a0 len0 cap0), Jo.Fact.iv m, Jo.Fact.eq (.bool true), Jo.Fact.eq (.bool true), Jo.Fact.eq (.bool true), Jo.Fact.eq (.agg #[.bool e21, .int .i64 K21, .bool s21, .int .u64 M21, .int .i64 E21, .int .i64 K21b, .bool s21b, .int .u64 M21b, .int .i64 E21b]), Jo.Fact.eq (.slice a0 len0 cap0), Jo.Fact.iv u, Jo.Fact.eq (.bool true), Jo.Fact.eq (.bool true), Jo.Fact.eq (.bool true), Jo.Fact.eq (.agg #[.bool e20, .int .i64 K20, .bool s20, .int .u64 M20, .int .i64 E20, .int .i64 K20b, .bool s20b, .int .u64 M20b, .int .i64 E20b]), Jo.Fact.eq (.bool true), Jo.Fact.eq (.bool true), Jo.Fact.eq (.bool true), Jo.Fact.eq (.agg #[.bool e21, .int .i64 K21, .bool s21, .int .u64 M21, .int .i64 E21, .int .i64 K21b, .bool s21b, .int .u64 M21b, .int .i64 E21b]), Jo.Fact.eq (.bool true), Jo.Fact.eq (.bool true), Jo.Fact.eq (.bool true)])
    (by kernel_rfl) (by kernel_rfl) (by decide) rfl rfl (fun _ _ h b => bt h b) ((Below.refl _ _).drew) ?_ (fun vs w8 hJ hd => ?_)
  · refine Jo.jd 0 (some 15) [] (Jo.Fact.eq (.bool true)) rfl rfl rfl rfl (fun vs wj hJ hd K hK => ?_) ?_
    · simp only [Jo.putl, Jo.ze, Act.put, Jo.za, Jo.zb, Jo.zc] at hK ⊢
      clear hd
      go_simp
      exact hK.out _ _ rfl (Below.refl _ _)
    refine Jo.jd 1 (some 16) [(some 15, 0)] (Jo.Fact.eq (.bool true)) rfl rfl rfl rfl (fun vs wj hJ hd K hK => ?_) ?_
    · simp only [Jo.putl, Jo.zd, Jo.ze, Act.put, Jo.za, Jo.zb, Jo.zc] at hK ⊢
      rw [show vs 0 = _ from hd 0 (by decide)] at hK ⊢
      clear hd
      go_simp
      exact hK.out _ _ rfl (Below.refl _ _)
    refine Jo.jd 2 (some 17) [(some 16, 1)] (Jo.Fact.eq (.agg #[.bool e20, .int .i64 K20, .bool s20, .int .u64 M20, .int .i64 E20, .int .i64 K20b, .bool s20b, .int .u64 M20b, .int .i64 E20b])) rfl rfl rfl rfl (fun vs wj hJ hd K hK => ?_) ?_
    · simp only [Jo.putl, Jo.zd, Jo.ze, Act.put, Jo.za, Jo.zb, Jo.zc] at hK ⊢
      rw [show vs 1 = _ from hd 1 (by decide)] at hK ⊢
      clear hd
      have xX40 := (X4.below hJ).a 0 (.bool e20) rfl
      have xX41 := (X4.below hJ).a 1 (.int .i64 K20) rfl
      have xX42 := (X4.below hJ).a 2 (.bool s20) rfl
      have xX43 := (X4.below hJ).a 3 (.int .u64 M20) rfl
      have xX44 := (X4.below hJ).a 4 (.int .i64 E20) rfl
      have xX45 := (X4.below hJ).a 5 (.int .i64 K20b) rfl
      have xX46 := (X4.below hJ).a 6 (.bool s20b) rfl
      have xX47 := (X4.below hJ).a 7 (.int .u64 M20b) rfl
      have xX48 := (X4.below hJ).a 8 (.int .i64 E20b) rfl
      go_simp
      exact hK.out _ _ rfl (Below.refl _ _)
    refine Jo.jd 3 (some 18) [(some 16, 1)] (Jo.Fact.eq (.slice a0 len0 cap0)) rfl rfl rfl rfl (fun vs wj hJ hd K hK => ?_) ?_
    · simp only [Jo.putl, Jo.zd, Jo.ze, Act.put, Jo.za, Jo.zb, Jo.zc] at hK ⊢
      rw [show vs 1 = _ from hd 1 (by decide)] at hK ⊢
      clear hd
      go_simp
      exact hK.out _ _ rfl (Below.refl _ _)
    refine Jo.jd 4 (some 19) [(some 16, 1), (some 18, 3)] (Jo.Fact.iv m) rfl rfl rfl rfl (fun vs wj hJ hd K hK => ?_) ?_
    · simp only [Jo.putl, Jo.zd, Jo.ze, Act.put, Jo.za, Jo.zb, Jo.zc] at hK ⊢
      rw [show vs 1 = _ from hd 1 (by decide), show vs 3 = _ from hd 3 (by decide)] at hK ⊢
      clear hd
      go_simp
      refine (jvMeet (h0.below hJ) HME.out).mono ?_
      rintro ee wk ⟨e22, K22, s22, M22, E22, K22b, s22b, M22b, E22b, rfl, v22, B⟩
      exact hK.out _ _ ⟨e22, K22, s22, M22, E22, K22b, s22b, M22b, E22b, rfl, v22⟩ B
    refine Jo.jd 5 (some 20) [(some 16, 1), (some 17, 2), (some 19, 4)] (Jo.Fact.eq (.bool true)) rfl rfl rfl rfl (fun vs wj hJ hd K hK => ?_) ?_
    · have d4 : (Jo.Fact.iv m).P (vs 4) wj := hd 4 (by decide)
      simp only [Jo.putl, Jo.zd, Jo.ze, Act.put, Jo.za, Jo.zb, Jo.zc] at hK ⊢
      rw [show vs 1 = _ from hd 1 (by decide), show vs 2 = _ from hd 2 (by decide)] at hK ⊢
      clear hd
      generalize vs 4 = u4 at hK d4 ⊢
      obtain ⟨e22, K22, s22, M22, E22, K22b, s22b, M22b, E22b, rfl, v22⟩ := d4
      obtain ⟨rfl, rfl, rfl, rfl, rfl, rfl, rfl, rfl, rfl⟩ := v20.uniq v22
      go_simp
      exact hK.out _ _ (by first | rfl | (show Value.bool _ = Value.bool _; simp)) (Below.refl _ _)
    refine Jo.jd 6 (some 21) [(some 16, 1), (some 20, 5)] (Jo.Fact.eq (.bool true)) rfl rfl rfl rfl (fun vs wj hJ hd K hK => ?_) ?_
    · simp only [Jo.putl, Jo.zd, Jo.ze, Act.put, Jo.za, Jo.zb, Jo.zc] at hK ⊢
      rw [show vs 1 = _ from hd 1 (by decide), show vs 5 = _ from hd 5 (by decide)] at hK ⊢
      clear hd
      go_simp
      exact hK.out _ _ rfl (Below.refl _ _)
    refine Jo.jd 7 (some 22) [(some 21, 6)] (Jo.Fact.eq (.bool true)) rfl rfl rfl rfl (fun vs wj hJ hd K hK => ?_) ?_
    · simp only [Jo.putl, Jo.zd, Jo.ze, Act.put, Jo.za, Jo.zb, Jo.zc] at hK ⊢
      rw [show vs 6 = _ from hd 6 (by decide)] at hK ⊢
      clear hd
      go_simp
      exact hK.out _ _ rfl (Below.refl _ _)
    refine Jo.jd 8 (some 23) [(some 22, 7)] (Jo.Fact.eq (.agg #[.bool e21, .int .i64 K21, .bool s21, .int .u64 M21, .int .i64 E21, .int .i64 K21b, .bool s21b, .int .u64 M21b, .int .i64 E21b])) rfl rfl rfl rfl (fun vs wj hJ hd K hK => ?_) ?_
    · simp only [Jo.putl, Jo.zd, Jo.ze, Act.put, Jo.za, Jo.zb, Jo.zc] at hK ⊢
      rw [show vs 7 = _ from hd 7 (by decide)] at hK ⊢
      clear hd
      have xX50 := (X5.below hJ).a 0 (.bool e21) rfl
      have xX51 := (X5.below hJ).a 1 (.int .i64 K21) rfl
      have xX52 := (X5.below hJ).a 2 (.bool s21) rfl
      have xX53 := (X5.below hJ).a 3 (.int .u64 M21) rfl
      have xX54 := (X5.below hJ).a 4 (.int .i64 E21) rfl
      have xX55 := (X5.below hJ).a 5 (.int .i64 K21b) rfl
      have xX56 := (X5.below hJ).a 6 (.bool s21b) rfl
      have xX57 := (X5.below hJ).a 7 (.int .u64 M21b) rfl
      have xX58 := (X5.below hJ).a 8 (.int .i64 E21b) rfl
      go_simp
      exact hK.out _ _ rfl (Below.refl _ _)
    refine Jo.jd 9 (some 24) [(some 22, 7)] (Jo.Fact.eq (.slice a0 len0 cap0)) rfl rfl rfl rfl (fun vs wj hJ hd K hK => ?_) ?_
    · simp only [Jo.putl, Jo.zd, Jo.ze, Act.put, Jo.za, Jo.zb, Jo.zc] at hK ⊢
      rw [show vs 7 = _ from hd 7 (by decide)] at hK ⊢
      clear hd
      go_simp
      exact hK.out _ _ rfl (Below.refl _ _)
    refine Jo.jd 10 (some 25) [(some 22, 7), (some 24, 9)] (Jo.Fact.iv u) rfl rfl rfl rfl (fun vs wj hJ hd K hK => ?_) ?_
    · simp only [Jo.putl, Jo.zd, Jo.ze, Act.put, Jo.za, Jo.zb, Jo.zc] at hK ⊢
      rw [show vs 7 = _ from hd 7 (by decide), show vs 9 = _ from hd 9 (by decide)] at hK ⊢
      clear hd
      go_simp
      refine (jvHull (h0.below hJ) HHU.out).mono ?_
      rintro ee wk ⟨e23, K23, s23, M23, E23, K23b, s23b, M23b, E23b, rfl, v23, B⟩
      exact hK.out _ _ ⟨e23, K23, s23, M23, E23, K23b, s23b, M23b, E23b, rfl, v23⟩ B
    refine Jo.jd 11 (some 26) [(some 22, 7), (some 23, 8), (some 25, 10)] (Jo.Fact.eq (.bool true)) rfl rfl rfl rfl (fun vs wj hJ hd K hK => ?_) ?_
    · have d10 : (Jo.Fact.iv u).P (vs 10) wj := hd 10 (by decide)
      simp only [Jo.putl, Jo.zd, Jo.ze, Act.put, Jo.za, Jo.zb, Jo.zc] at hK ⊢
      rw [show vs 7 = _ from hd 7 (by decide), show vs 8 = _ from hd 8 (by decide)] at hK ⊢
      clear hd
      generalize vs 10 = u10 at hK d10 ⊢
      obtain ⟨e23, K23, s23, M23, E23, K23b, s23b, M23b, E23b, rfl, v23⟩ := d10
      obtain ⟨rfl, rfl, rfl, rfl, rfl, rfl, rfl, rfl, rfl⟩ := v21.uniq v23
      go_simp
      exact hK.out _ _ (by first | rfl | (show Value.bool _ = Value.bool _; simp)) (Below.refl _ _)
    refine Jo.jd 12 (some 27) [(some 22, 7), (some 26, 11)] (Jo.Fact.eq (.bool true)) rfl rfl rfl rfl (fun vs wj hJ hd K hK => ?_) ?_
    · simp only [Jo.putl, Jo.zd, Jo.ze, Act.put, Jo.za, Jo.zb, Jo.zc] at hK ⊢
      rw [show vs 7 = _ from hd 7 (by decide), show vs 11 = _ from hd 11 (by decide)] at hK ⊢
      clear hd
      go_simp
      exact hK.out _ _ rfl (Below.refl _ _)
    refine Jo.jd 13 (some 28) [(some 27, 12)] (Jo.Fact.eq (.bool true)) rfl rfl rfl rfl (fun vs wj hJ hd K hK => ?_) ?_
    · simp only [Jo.putl, Jo.zd, Jo.ze, Act.put, Jo.za, Jo.zb, Jo.zc] at hK ⊢
      rw [show vs 12 = _ from hd 12 (by decide)] at hK ⊢
      clear hd
      go_simp
      exact hK.out _ _ rfl (Below.refl _ _)
    refine Jo.jd 14 (some 29) [(some 28, 13)] (Jo.Fact.eq (.agg #[.bool e20, .int .i64 K20, .bool s20, .int .u64 M20, .int .i64 E20, .int .i64 K20b, .bool s20b, .int .u64 M20b, .int .i64 E20b])) rfl rfl rfl rfl (fun vs wj hJ hd K hK => ?_) ?_
    · simp only [Jo.putl, Jo.zd, Jo.ze, Act.put, Jo.za, Jo.zb, Jo.zc] at hK ⊢
      rw [show vs 13 = _ from hd 13 (by decide)] at hK ⊢
      clear hd
      have xX40 := (X4.below hJ).a 0 (.bool e20) rfl
      have xX41 := (X4.below hJ).a 1 (.int .i64 K20) rfl
      have xX42 := (X4.below hJ).a 2 (.bool s20) rfl
      have xX43 := (X4.below hJ).a 3 (.int .u64 M20) rfl
      have xX44 := (X4.below hJ).a 4 (.int .i64 E20) rfl
      have xX45 := (X4.below hJ).a 5 (.int .i64 K20b) rfl
      have xX46 := (X4.below hJ).a 6 (.bool s20b) rfl
      have xX47 := (X4.below hJ).a 7 (.int .u64 M20b) rfl
      have xX48 := (X4.below hJ).a 8 (.int .i64 E20b) rfl
      go_simp
      exact hK.out _ _ rfl (Below.refl _ _)
    refine Jo.jd 15 (some 30) [(some 28, 13), (some 29, 14)] (Jo.Fact.eq (.bool true)) rfl rfl rfl rfl (fun vs wj hJ hd K hK => ?_) ?_
    · simp only [Jo.putl, Jo.zd, Jo.ze, Act.put, Jo.za, Jo.zb, Jo.zc] at hK ⊢
      rw [show vs 13 = _ from hd 13 (by decide), show vs 14 = _ from hd 14 (by decide)] at hK ⊢
      clear hd
      go_simp
      refine (kvMay v20.top.1 v20.top.2 v20.may).mono ?_
      rintro ee wk ⟨rfl, B⟩
      exact hK.out _ _ rfl B
    refine Jo.jd 16 (some 31) [(some 28, 13), (some 30, 15)] (Jo.Fact.eq (.bool true)) rfl rfl rfl rfl (fun vs wj hJ hd K hK => ?_) ?_
    · simp only [Jo.putl, Jo.zd, Jo.ze, Act.put, Jo.za, Jo.zb, Jo.zc] at hK ⊢
      rw [show vs 13 = _ from hd 13 (by decide), show vs 15 = _ from hd 15 (by decide)] at hK ⊢
      clear hd
      go_simp
      exact hK.out _ _ rfl (Below.refl _ _)
    refine Jo.jd 17 (some 32) [(some 31, 16)] (Jo.Fact.eq (.bool true)) rfl rfl rfl rfl (fun vs wj hJ hd K hK => ?_) ?_
    · simp only [Jo.putl, Jo.zd, Jo.ze, Act.put, Jo.za, Jo.zb, Jo.zc] at hK ⊢
      rw [show vs 16 = _ from hd 16 (by decide)] at hK ⊢
      clear hd
      go_simp
      exact hK.out _ _ rfl (Below.refl _ _)
    refine Jo.jd 18 (some 33) [(some 32, 17)] (Jo.Fact.eq (.agg #[.bool e21, .int .i64 K21, .bool s21, .int .u64 M21, .int .i64 E21, .int .i64 K21b, .bool s21b, .int .u64 M21b, .int .i64 E21b])) rfl rfl rfl rfl (fun vs wj hJ hd K hK => ?_) ?_
    · simp only [Jo.putl, Jo.zd, Jo.ze, Act.put, Jo.za, Jo.zb, Jo.zc] at hK ⊢
      rw [show vs 17 = _ from hd 17 (by decide)] at hK ⊢
      clear hd
      have xX50 := (X5.below hJ).a 0 (.bool e21) rfl
      have xX51 := (X5.below hJ).a 1 (.int .i64 K21) rfl
      have xX52 := (X5.below hJ).a 2 (.bool s21) rfl
      have xX53 := (X5.below hJ).a 3 (.int .u64 M21) rfl
      have xX54 := (X5.below hJ).a 4 (.int .i64 E21) rfl
      have xX55 := (X5.below hJ).a 5 (.int .i64 K21b) rfl
      have xX56 := (X5.below hJ).a 6 (.bool s21b) rfl
      have xX57 := (X5.below hJ).a 7 (.int .u64 M21b) rfl
      have xX58 := (X5.below hJ).a 8 (.int .i64 E21b) rfl
      go_simp
      exact hK.out _ _ rfl (Below.refl _ _)
    refine Jo.jd 19 (some 34) [(some 32, 17), (some 33, 18)] (Jo.Fact.eq (.bool true)) rfl rfl rfl rfl (fun vs wj hJ hd K hK => ?_) ?_
    · simp only [Jo.putl, Jo.zd, Jo.ze, Act.put, Jo.za, Jo.zb, Jo.zc] at hK ⊢
      rw [show vs 17 = _ from hd 17 (by decide), show vs 18 = _ from hd 18 (by decide)] at hK ⊢
      clear hd
      go_simp
      refine (kvMay v21.top.1 v21.top.2 v21.may).mono ?_
      rintro ee wk ⟨rfl, B⟩
      exact hK.out _ _ rfl B
    refine Jo.jd 20 (some 35) [(some 32, 17), (some 34, 19)] (Jo.Fact.eq (.bool true)) rfl rfl rfl rfl (fun vs wj hJ hd K hK => ?_) ?_
    · simp only [Jo.putl, Jo.zd, Jo.ze, Act.put, Jo.za, Jo.zb, Jo.zc] at hK ⊢
      rw [show vs 17 = _ from hd 17 (by decide), show vs 19 = _ from hd 19 (by decide)] at hK ⊢
      clear hd
      go_simp
      exact hK.out _ _ rfl (Below.refl _ _)
    refine Jo.jd 21 (some 2) [(some 35, 20)] (Jo.Fact.eq (.bool true)) rfl rfl rfl rfl (fun vs wj hJ hd K hK => ?_) ?_
    · simp only [Jo.putl, Jo.zd, Jo.ze, Act.put, Jo.za, Jo.zb, Jo.zc] at hK ⊢
      rw [show vs 20 = _ from hd 20 (by decide)] at hK ⊢
      clear hd
      go_simp
      exact hK.out _ _ rfl (Below.refl _ _)
    exact Jo.Steps.nil
  have d4 : (Jo.Fact.iv m).P (vs 4) w8 := hd 4 (by decide)
  have d10 : (Jo.Fact.iv u).P (vs 10) w8 := hd 10 (by decide)
  simp only [Jo.putl, Jo.zd, Jo.ze, Act.put, Jo.za, Jo.zb, Jo.zc]
  rw [show vs 0 = _ from hd 0 (by decide), show vs 1 = _ from hd 1 (by decide), show vs 2 = _ from hd 2 (by decide), show vs 3 = _ from hd 3 (by decide), show vs 5 = _ from hd 5 (by decide), show vs 6 = _ from hd 6 (by decide), show vs 7 = _ from hd 7 (by decide), show vs 8 = _ from hd 8 (by decide), show vs 9 = _ from hd 9 (by decide), show vs 11 = _ from hd 11 (by decide), show vs 12 = _ from hd 12 (by decide), show vs 13 = _ from hd 13 (by decide), show vs 14 = _ from hd 14 (by decide), show vs 15 = _ from hd 15 (by decide), show vs 16 = _ from hd 16 (by decide), show vs 17 = _ from hd 17 (by decide), show vs 18 = _ from hd 18 (by decide), show vs 19 = _ from hd 19 (by decide), show vs 20 = _ from hd 20 (by decide), show vs 21 = _ from hd 21 (by decide)]
  clear hd
  generalize vs 4 = u4 at d4 ⊢
  generalize vs 10 = u10 at d10 ⊢
  obtain ⟨e22, K22, s22, M22, E22, K22b, s22b, M22b, E22b, rfl, v22⟩ := d4
  obtain ⟨e23, K23, s23, M23, E23, K23b, s23b, M23b, E23b, rfl, v23⟩ := d10
  replace X4 := X4.below hJ
  replace X5 := X5.below hJ
  replace h0 := h0.below hJ
  replace HB := Lib.hid (bt HB.out hJ)
  refine Jo.jdone (by kernel_rfl) ?_
  go_wp2
  go_ret
  exact ⟨rfl, HB.out⟩

theorem ivSets_walk (a0 : Option Addr) (len0 cap0 : Nat) (w : World) (w0 : RowsI w a0 len0 cap0) :
    Calls Try.prog 4 #[.slice a0 len0 cap0] w fun e w' => e = .returned (.bool true) ∧ Below w.heap.size w w' := by
  by_cases h : 50 < len0
  · exact ivSets_far a0 len0 cap0 w h
  · obtain ⟨l, h0⟩ := w0.il (by omega)
    exact ivSets_main a0 len0 cap0 w l _ _ h h0 rfl rfl
end Go.Proofs.Ythhlccdmflgbbaa

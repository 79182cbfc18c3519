/-
  Contracts and words that the statement's proof rests on, several texts in one: Cd.
-/
import Derived.Test.YthhlccdmflgbbaaYAal
import Derived.Test.YthhlccdmflgbbaaYAam
import Derived.Test.YthhlccdmflgbbaaYAan
/-
  What the document's None, All, May, Fair, Make and Point of intervals do.
-/
namespace Go.Proofs.Ythhlccdmflgbbaa
open Go.RowKit
set_option linter.unusedVariables false
set_option linter.unusedSimpArgs false
set_option maxRecDepth 100000

theorem fq_inf2 (s : Bool) : Fq 2 s 0 0 (sgi s TP) := ⟨.inr (.inr ⟨rfl, rfl, rfl⟩), by decide, by
  cases s <;> rfl⟩
theorem ci_all : Ci false 2 true 0 0 2 false 0 0 allI := ⟨rfl, fq_inf2 true, fq_inf2 false, by decide, by decide, by decide⟩
theorem yInfE {w : World} (s : Bool) : Calls Try.prog 36 #[.bool s] w (fun e w' => e = .returned (.agg #[.int .i64 2, .bool s, .int .u64 0, .int .i64 0]) ∧ Below w.heap.size w w') := by
  refine (yInf (s := s) rfl).mono ?_
  rintro ee w2 ⟨K, s1, M, E, rfl, q, B⟩
  obtain ⟨rfl, rfl, rfl, rfl⟩ := q.uniq (fq_inf2 s)
  exact ⟨rfl, B⟩
set_option maxHeartbeats 2000000 in
theorem jvNone {w : World}  : Calls Try.prog 20 #[] w (PV w none) := by
  go_enter Try.func20, Try.ntmps20
  go_upto_region 1 with (fail)
  have XR := (Bo.newAt w (g := w.heap.size) (by simp) #[.bool false, .int .i64 0, .bool false, .int .u64 0, .int .i64 0, .int .i64 0, .bool false, .int .u64 0, .int .i64 0] 26)
  have HB := Lib.hid (bel1 w (.cells #[.bool false, .int .i64 0, .bool false, .int .u64 0, .int .i64 0, .int .i64 0, .bool false, .int .u64 0, .int .i64 0] 26))
  generalize hW1 : (w.alloc (.cells #[.bool false, .int .i64 0, .bool false, .int .u64 0, .int .i64 0, .int .i64 0, .bool false, .int .u64 0, .int .i64 0] 26)) = w1 at *
  clear hW1
  obtain ⟨xXR0, xXR1, xXR2, xXR3, xXR4, xXR5, xXR6, xXR7, xXR8⟩ := XR.ce9 rfl rfl rfl rfl rfl rfl rfl rfl rfl
  have zXR0 := XR.frozen
  go_wp2
  clear xXR0 zXR0 xXR1 xXR2 xXR3 xXR4 xXR5 xXR6 xXR7 xXR8
  have SX := StN.mk9 XR (.bool true) (.int .i64 0) (.bool false) (.int .u64 0) (.int .i64 0) (.int .i64 0) (.bool false) (.int .u64 0) (.int .i64 0)
  exact bodyPost_ret (v := .agg #[.bool true, .int .i64 0, .bool false, .int .u64 0, .int .i64 0, .int .i64 0, .bool false, .int .u64 0, .int .i64 0]) (by simp [results, Try.results20, go_sem, SX.box.cell]) rfl ⟨_, _, _, _, _, _, _, _, _, rfl, Ci.none, (SX.below HB.out (by omega))⟩
set_option maxHeartbeats 2000000 in
theorem jvAll {w : World}  : Calls Try.prog 22 #[] w (PV w allI) := by
  go_enter Try.func22, Try.ntmps22
  go_upto_region 1 with (fail)
  have XR := (Bo.newAt w (g := w.heap.size) (by simp) #[.bool false, .int .i64 0, .bool false, .int .u64 0, .int .i64 0, .int .i64 0, .bool false, .int .u64 0, .int .i64 0] 26)
  have HB := Lib.hid (bel1 w (.cells #[.bool false, .int .i64 0, .bool false, .int .u64 0, .int .i64 0, .int .i64 0, .bool false, .int .u64 0, .int .i64 0] 26))
  generalize hW1 : (w.alloc (.cells #[.bool false, .int .i64 0, .bool false, .int .u64 0, .int .i64 0, .int .i64 0, .bool false, .int .u64 0, .int .i64 0] 26)) = w1 at *
  clear hW1
  go_wp2_with fail
  refine (yInfE true).mono ?_
  rintro ee w2 ⟨rfl, B⟩
  replace XR := XR.below B
  replace HB := Lib.hid (bt HB.out B)
  clear B
  go_wp2_with fail
  refine (yInfE false).mono ?_
  rintro ee w3 ⟨rfl, B⟩
  replace XR := XR.below B
  replace HB := Lib.hid (bt HB.out B)
  clear B
  obtain ⟨xXR0, xXR1, xXR2, xXR3, xXR4, xXR5, xXR6, xXR7, xXR8⟩ := XR.ce9 rfl rfl rfl rfl rfl rfl rfl rfl rfl
  have zXR0 := XR.frozen
  go_wp2
  clear xXR0 zXR0 xXR1 xXR2 xXR3 xXR4 xXR5 xXR6 xXR7 xXR8
  have SX := StN.mk9 XR (.bool false) (.int .i64 2) (.bool true) (.int .u64 0) (.int .i64 0) (.int .i64 2) (.bool false) (.int .u64 0) (.int .i64 0)
  exact bodyPost_ret (v := .agg #[.bool false, .int .i64 2, .bool true, .int .u64 0, .int .i64 0, .int .i64 2, .bool false, .int .u64 0, .int .i64 0]) (by simp [results, Try.results22, go_sem, SX.box.cell]) rfl ⟨_, _, _, _, _, _, _, _, _, rfl, ci_all, (SX.below HB.out (by omega))⟩
theorem jvNoneE {w : World} : Calls Try.prog 20 #[] w (fun e w' => e = .returned (.agg #[.bool true, .int .i64 0, .bool false, .int .u64 0, .int .i64 0, .int .i64 0, .bool false, .int .u64 0, .int .i64 0]) ∧ Below w.heap.size w w') := by
  refine jvNone.mono ?_
  rintro ee w2 ⟨e1, K1, s1, M1, E1, K1b, s1b, M1b, E1b, rfl, v1, B⟩
  obtain ⟨rfl, rfl, rfl, rfl, rfl, rfl, rfl, rfl, rfl⟩ := v1.uniq Ci.none
  exact ⟨rfl, B⟩
set_option maxHeartbeats 1000000 in
theorem jvmay_t {w : World} {D M E D' M' E' : Int} {s s' : Bool} {r : Bool} (hr : mayI true D s M E D' s' M' E' = r) : Calls Try.prog 12 #[.agg #[.bool true, .int .i64 D, .bool s, .int .u64 M, .int .i64 E, .int .i64 D', .bool s', .int .u64 M', .int .i64 E']] w (PB w r) := by
  have HR := Lib.hid hr
  clear hr
  go_enter Try.func12, Try.ntmps12
  go_upto_region 1 with (fail)
  have X1 := (Bo.newAt w (g := w.heap.size) (by simp) #[.bool true, .int .i64 D, .bool s, .int .u64 M, .int .i64 E, .int .i64 D', .bool s', .int .u64 M', .int .i64 E'] 26)
  have HB := Lib.hid (bel1 w (.cells #[.bool true, .int .i64 D, .bool s, .int .u64 M, .int .i64 E, .int .i64 D', .bool s', .int .u64 M', .int .i64 E'] 26))
  generalize hW1 : (w.alloc (.cells #[.bool true, .int .i64 D, .bool s, .int .u64 M, .int .i64 E, .int .i64 D', .bool s', .int .u64 M', .int .i64 E'] 26)) = w1 at *
  clear hW1
  obtain ⟨xX10, xX11, xX12, xX13, xX14, xX15, xX16, xX17, xX18⟩ := X1.ce9 rfl rfl rfl rfl rfl rfl rfl rfl rfl
  go_upto_region 2 with (fail)
  clear xX10 xX11 xX12 xX13 xX14 xX15 xX16 xX17 xX18
  refine Jo.region_joint (T := [0, 1, 2, 3]) (ds := [some 7, some 8, some 9, some 2]) (ls := [[], [], [0, 1], [2]]) (k := 4) (L := [(some 7, 0), (some 8, 1), (some 9, 2), (some 2, 3)]) (fuel := 0) (J := fun wj => Below (World.heap w1).size w1 wj)
    (F := [Jo.Fact.eq (.agg #[.bool true, .int .i64 D, .bool s, .int .u64 M, .int .i64 E, .int .i64 D', .bool s', .int .u64 M', .int .i64 E']), Jo.Fact.eq (.agg #[.bool true, .int .i64 0, .bool false, .int .u64 0, .int .i64 0, .int .i64 0, .bool false, .int .u64 0, .int .i64 0]), Jo.Fact.eq (.bool r), Jo.Fact.eq (.bool r)])
    (by kernel_rfl) (by kernel_rfl) (by decide) rfl rfl (fun _ _ h b => bt h b) ((Below.refl _ _).drew) ?_ (fun vs w8 hJ hd => ?_)
  · refine Jo.jd 0 (some 7) [] (Jo.Fact.eq (.agg #[.bool true, .int .i64 D, .bool s, .int .u64 M, .int .i64 E, .int .i64 D', .bool s', .int .u64 M', .int .i64 E'])) rfl rfl rfl rfl (fun vs wj hJ hd K hK => ?_) ?_
    · simp only [Jo.putl, Jo.ze, Act.put, Jo.za, Jo.zb, Jo.zc] at hK ⊢
      clear hd
      have xX10 := (X1.below hJ).a 0 (.bool true) rfl
      have xX11 := (X1.below hJ).a 1 (.int .i64 D) rfl
      have xX12 := (X1.below hJ).a 2 (.bool s) rfl
      have xX13 := (X1.below hJ).a 3 (.int .u64 M) rfl
      have xX14 := (X1.below hJ).a 4 (.int .i64 E) rfl
      have xX15 := (X1.below hJ).a 5 (.int .i64 D') rfl
      have xX16 := (X1.below hJ).a 6 (.bool s') rfl
      have xX17 := (X1.below hJ).a 7 (.int .u64 M') rfl
      have xX18 := (X1.below hJ).a 8 (.int .i64 E') rfl
      go_simp
      exact hK.out _ _ rfl (Below.refl _ _)
    refine Jo.jd 1 (some 8) [] (Jo.Fact.eq (.agg #[.bool true, .int .i64 0, .bool false, .int .u64 0, .int .i64 0, .int .i64 0, .bool false, .int .u64 0, .int .i64 0])) rfl rfl rfl rfl (fun vs wj hJ hd K hK => ?_) ?_
    · simp only [Jo.putl, Jo.ze, Act.put, Jo.za, Jo.zb, Jo.zc] at hK ⊢
      clear hd
      go_simp
      refine (jvNoneE).mono ?_
      rintro ee wk ⟨rfl, B⟩
      exact hK.out _ _ rfl B
    refine Jo.jd 2 (some 9) [(some 7, 0), (some 8, 1)] (Jo.Fact.eq (.bool r)) rfl rfl rfl rfl (fun vs wj hJ hd K hK => ?_) ?_
    · simp only [Jo.putl, Jo.zd, Jo.ze, Act.put, Jo.za, Jo.zb, Jo.zc] at hK ⊢
      rw [show vs 0 = _ from hd 0 (by decide), show vs 1 = _ from hd 1 (by decide)] at hK ⊢
      clear hd
      go_simp
      repeat' split
      all_goals exact hK.out _ _ (congrArg Value.bool (by rw [← HR.out]; unfold mayI; simp [*])) (Below.refl _ _)
    refine Jo.jd 3 (some 2) [(some 9, 2)] (Jo.Fact.eq (.bool r)) rfl rfl rfl rfl (fun vs wj hJ hd K hK => ?_) ?_
    · simp only [Jo.putl, Jo.zd, Jo.ze, Act.put, Jo.za, Jo.zb, Jo.zc] at hK ⊢
      rw [show vs 2 = _ from hd 2 (by decide)] at hK ⊢
      clear hd
      go_simp
      exact hK.out _ _ rfl (Below.refl _ _)
    exact Jo.Steps.nil
  simp only [Jo.putl, Jo.zd, Jo.ze, Act.put, Jo.za, Jo.zb, Jo.zc]
  rw [show vs 0 = _ from hd 0 (by decide), show vs 1 = _ from hd 1 (by decide), show vs 2 = _ from hd 2 (by decide), show vs 3 = _ from hd 3 (by decide)]
  clear hd
  replace X1 := X1.below hJ
  replace HB := Lib.hid (bt HB.out hJ)
  refine Jo.jdone (by kernel_rfl) ?_
  go_wp2
  go_ret
  exact ⟨rfl, HB.out⟩
set_option maxHeartbeats 2000000 in
theorem jvmay_fp {w : World} {D M E D' M' E' : Int} {s s' : Bool} (hM : (M : Int) < 18446744073709551616) (hM' : (M' : Int) < 18446744073709551616) (hp : decide (MayQ D s M E) = false) {q : Bool} (hq : decide (MayQ D' s' M' E') = q) : Calls Try.prog 12 #[.agg #[.bool false, .int .i64 D, .bool s, .int .u64 M, .int .i64 E, .int .i64 D', .bool s', .int .u64 M', .int .i64 E']] w (PB w false) := by
  have HP := Lib.hid hp
  have HQ := Lib.hid hq
  clear hp hq
  go_enter Try.func12, Try.ntmps12
  go_upto_region 1 with (fail)
  have X1 := (Bo.newAt w (g := w.heap.size) (by simp) #[.bool false, .int .i64 D, .bool s, .int .u64 M, .int .i64 E, .int .i64 D', .bool s', .int .u64 M', .int .i64 E'] 26)
  have HB := Lib.hid (bel1 w (.cells #[.bool false, .int .i64 D, .bool s, .int .u64 M, .int .i64 E, .int .i64 D', .bool s', .int .u64 M', .int .i64 E'] 26))
  generalize hW1 : (w.alloc (.cells #[.bool false, .int .i64 D, .bool s, .int .u64 M, .int .i64 E, .int .i64 D', .bool s', .int .u64 M', .int .i64 E'] 26)) = w1 at *
  clear hW1
  obtain ⟨xX10, xX11, xX12, xX13, xX14, xX15, xX16, xX17, xX18⟩ := X1.ce9 rfl rfl rfl rfl rfl rfl rfl rfl rfl
  go_wp2_with fail
  refine (yMay HP.out).mono ?_
  rintro ee w2 ⟨rfl, B⟩
  clear xX10 xX11 xX12 xX13 xX14 xX15 xX16 xX17 xX18
  replace X1 := X1.below B
  replace HB := Lib.hid (bt HB.out B)
  clear B
  obtain ⟨xX10, xX11, xX12, xX13, xX14, xX15, xX16, xX17, xX18⟩ := X1.ce9 rfl rfl rfl rfl rfl rfl rfl rfl rfl
  go_wp2_with fail
  refine (yMay HQ.out).mono ?_
  rintro ee w3 ⟨rfl, B⟩
  clear xX10 xX11 xX12 xX13 xX14 xX15 xX16 xX17 xX18
  replace X1 := X1.below B
  replace HB := Lib.hid (bt HB.out B)
  clear B
  obtain ⟨xX10, xX11, xX12, xX13, xX14, xX15, xX16, xX17, xX18⟩ := X1.ce9 rfl rfl rfl rfl rfl rfl rfl rfl rfl
  go_upto_region 5 with (fail)
  clear xX10 xX11 xX12 xX13 xX14 xX15 xX16 xX17 xX18
  refine Jo.region_joint (T := [0, 1, 2, 3, 4, 5, 6, 7, 8, 9, 10, 11, 12, 13, 14, 15, 16, 17, 18, 19, 20, 21, 22, 23, 24]) (ds := [some 16, some 17, some 18, some 19, some 20, some 21, some 22, some 23, some 24, some 25, some 26, some 27, some 28, some 29, some 30, some 31, some 32, some 33, some 34, some 35, some 36, some 37, some 38, some 39, some 2]) (ls := [[], [0], [1], [1, 2], [3], [4], [4, 5], [4], [4, 7], [4, 6, 8], [4, 9], [4, 10], [11], [12], [12, 13], [12], [12, 14, 15], [12, 16], [17], [18], [18, 19], [18], [18, 20, 21], [18, 22], [23]]) (k := 25) (L := [(some 16, 0), (some 17, 1), (some 18, 2), (some 19, 3), (some 20, 4), (some 21, 5), (some 22, 6), (some 23, 7), (some 24, 8), (some 25, 9), (some 26, 10), (some 27, 11), (some 28, 12), (some 29, 13), (some 30, 14), (some 31, 15), (some 32, 16), (some 33, 17), (some 34, 18), (some 35, 19), (some 36, 20), (some 37, 21), (some 38, 22), (some 39, 23), (some 2, 24)]) (fuel := 0) (J := fun wj => Below (World.heap w3).size w3 wj)
    (F := [Jo.Fact.eq (.bool false), Jo.Fact.eq (.bool false), Jo.Fact.eq undef, Jo.Fact.eq (.bool false), Jo.Fact.eq (.bool false), Jo.Fact.eq undef, Jo.Fact.eq undef, Jo.Fact.eq undef, Jo.Fact.eq undef, Jo.Fact.eq undef, Jo.Fact.eq undef, Jo.Fact.eq (.bool false), Jo.Fact.eq (.bool false), Jo.Fact.eq undef, Jo.Fact.eq undef, Jo.Fact.eq undef, Jo.Fact.eq undef, Jo.Fact.eq (.bool false), Jo.Fact.eq (.bool false), Jo.Fact.eq undef, Jo.Fact.eq undef, Jo.Fact.eq undef, Jo.Fact.eq undef, Jo.Fact.eq (.bool false), Jo.Fact.eq (.bool false)])
    (by kernel_rfl) (by kernel_rfl) (by decide) rfl rfl (fun _ _ h b => bt h b) ((Below.refl _ _).drew) ?_ (fun vs w8 hJ hd => ?_)
  · refine Jo.jd 0 (some 16) [] (Jo.Fact.eq (.bool false)) rfl rfl rfl rfl (fun vs wj hJ hd K hK => ?_) ?_
    · simp only [Jo.putl, Jo.ze, Act.put, Jo.za, Jo.zb, Jo.zc] at hK ⊢
      clear hd
      go_simp
      exact hK.out _ _ rfl (Below.refl _ _)
    refine Jo.jd 1 (some 17) [(some 16, 0)] (Jo.Fact.eq (.bool false)) rfl rfl rfl rfl (fun vs wj hJ hd K hK => ?_) ?_
    · simp only [Jo.putl, Jo.zd, Jo.ze, Act.put, Jo.za, Jo.zb, Jo.zc] at hK ⊢
      rw [show vs 0 = _ from hd 0 (by decide)] at hK ⊢
      clear hd
      go_simp
      exact hK.out _ _ rfl (Below.refl _ _)
    refine Jo.jd 2 (some 18) [(some 17, 1)] (Jo.Fact.eq undef) rfl rfl rfl rfl (fun vs wj hJ hd K hK => ?_) ?_
    · simp only [Jo.putl, Jo.zd, Jo.ze, Act.put, Jo.za, Jo.zb, Jo.zc] at hK ⊢
      rw [show vs 1 = _ from hd 1 (by decide)] at hK ⊢
      clear hd
      go_simp
      exact hK.out _ _ rfl (Below.refl _ _)
    refine Jo.jd 3 (some 19) [(some 17, 1), (some 18, 2)] (Jo.Fact.eq (.bool false)) rfl rfl rfl rfl (fun vs wj hJ hd K hK => ?_) ?_
    · have d2 : (Jo.Fact.eq undef).P (vs 2) wj := hd 2 (by decide)
      simp only [Jo.putl, Jo.zd, Jo.ze, Act.put, Jo.za, Jo.zb, Jo.zc] at hK ⊢
      rw [show vs 1 = _ from hd 1 (by decide)] at hK ⊢
      clear hd
      generalize vs 2 = u2 at hK d2 ⊢
      replace d2 : u2 = _ := d2
      subst d2
      go_simp
      exact hK.out _ _ rfl (Below.refl _ _)
    refine Jo.jd 4 (some 20) [(some 19, 3)] (Jo.Fact.eq (.bool false)) rfl rfl rfl rfl (fun vs wj hJ hd K hK => ?_) ?_
    · simp only [Jo.putl, Jo.zd, Jo.ze, Act.put, Jo.za, Jo.zb, Jo.zc] at hK ⊢
      rw [show vs 3 = _ from hd 3 (by decide)] at hK ⊢
      clear hd
      go_simp
      exact hK.out _ _ rfl (Below.refl _ _)
    refine Jo.jd 5 (some 21) [(some 20, 4)] (Jo.Fact.eq undef) rfl rfl rfl rfl (fun vs wj hJ hd K hK => ?_) ?_
    · simp only [Jo.putl, Jo.zd, Jo.ze, Act.put, Jo.za, Jo.zb, Jo.zc] at hK ⊢
      rw [show vs 4 = _ from hd 4 (by decide)] at hK ⊢
      clear hd
      go_simp
      exact hK.out _ _ rfl (Below.refl _ _)
    refine Jo.jd 6 (some 22) [(some 20, 4), (some 21, 5)] (Jo.Fact.eq undef) rfl rfl rfl rfl (fun vs wj hJ hd K hK => ?_) ?_
    · have d5 : (Jo.Fact.eq undef).P (vs 5) wj := hd 5 (by decide)
      simp only [Jo.putl, Jo.zd, Jo.ze, Act.put, Jo.za, Jo.zb, Jo.zc] at hK ⊢
      rw [show vs 4 = _ from hd 4 (by decide)] at hK ⊢
      clear hd
      generalize vs 5 = u5 at hK d5 ⊢
      replace d5 : u5 = _ := d5
      subst d5
      go_simp
      exact hK.out _ _ rfl (Below.refl _ _)
    refine Jo.jd 7 (some 23) [(some 20, 4)] (Jo.Fact.eq undef) rfl rfl rfl rfl (fun vs wj hJ hd K hK => ?_) ?_
    · simp only [Jo.putl, Jo.zd, Jo.ze, Act.put, Jo.za, Jo.zb, Jo.zc] at hK ⊢
      rw [show vs 4 = _ from hd 4 (by decide)] at hK ⊢
      clear hd
      go_simp
      exact hK.out _ _ rfl (Below.refl _ _)
    refine Jo.jd 8 (some 24) [(some 20, 4), (some 23, 7)] (Jo.Fact.eq undef) rfl rfl rfl rfl (fun vs wj hJ hd K hK => ?_) ?_
    · have d7 : (Jo.Fact.eq undef).P (vs 7) wj := hd 7 (by decide)
      simp only [Jo.putl, Jo.zd, Jo.ze, Act.put, Jo.za, Jo.zb, Jo.zc] at hK ⊢
      rw [show vs 4 = _ from hd 4 (by decide)] at hK ⊢
      clear hd
      generalize vs 7 = u7 at hK d7 ⊢
      replace d7 : u7 = _ := d7
      subst d7
      go_simp
      exact hK.out _ _ rfl (Below.refl _ _)
    refine Jo.jd 9 (some 25) [(some 20, 4), (some 22, 6), (some 24, 8)] (Jo.Fact.eq undef) rfl rfl rfl rfl (fun vs wj hJ hd K hK => ?_) ?_
    · have d6 : (Jo.Fact.eq undef).P (vs 6) wj := hd 6 (by decide)
      have d8 : (Jo.Fact.eq undef).P (vs 8) wj := hd 8 (by decide)
      simp only [Jo.putl, Jo.zd, Jo.ze, Act.put, Jo.za, Jo.zb, Jo.zc] at hK ⊢
      rw [show vs 4 = _ from hd 4 (by decide)] at hK ⊢
      clear hd
      generalize vs 6 = u6 at hK d6 ⊢
      generalize vs 8 = u8 at hK d8 ⊢
      replace d6 : u6 = _ := d6
      subst d6
      replace d8 : u8 = _ := d8
      subst d8
      go_simp
      exact hK.out _ _ rfl (Below.refl _ _)
    refine Jo.jd 10 (some 26) [(some 20, 4), (some 25, 9)] (Jo.Fact.eq undef) rfl rfl rfl rfl (fun vs wj hJ hd K hK => ?_) ?_
    · have d9 : (Jo.Fact.eq undef).P (vs 9) wj := hd 9 (by decide)
      simp only [Jo.putl, Jo.zd, Jo.ze, Act.put, Jo.za, Jo.zb, Jo.zc] at hK ⊢
      rw [show vs 4 = _ from hd 4 (by decide)] at hK ⊢
      clear hd
      generalize vs 9 = u9 at hK d9 ⊢
      replace d9 : u9 = _ := d9
      subst d9
      go_simp
      exact hK.out _ _ rfl (Below.refl _ _)
    refine Jo.jd 11 (some 27) [(some 20, 4), (some 26, 10)] (Jo.Fact.eq (.bool false)) rfl rfl rfl rfl (fun vs wj hJ hd K hK => ?_) ?_
    · have d10 : (Jo.Fact.eq undef).P (vs 10) wj := hd 10 (by decide)
      simp only [Jo.putl, Jo.zd, Jo.ze, Act.put, Jo.za, Jo.zb, Jo.zc] at hK ⊢
      rw [show vs 4 = _ from hd 4 (by decide)] at hK ⊢
      clear hd
      generalize vs 10 = u10 at hK d10 ⊢
      replace d10 : u10 = _ := d10
      subst d10
      go_simp
      exact hK.out _ _ rfl (Below.refl _ _)
    refine Jo.jd 12 (some 28) [(some 27, 11)] (Jo.Fact.eq (.bool false)) rfl rfl rfl rfl (fun vs wj hJ hd K hK => ?_) ?_
    · simp only [Jo.putl, Jo.zd, Jo.ze, Act.put, Jo.za, Jo.zb, Jo.zc] at hK ⊢
      rw [show vs 11 = _ from hd 11 (by decide)] at hK ⊢
      clear hd
      go_simp
      exact hK.out _ _ rfl (Below.refl _ _)
    refine Jo.jd 13 (some 29) [(some 28, 12)] (Jo.Fact.eq undef) rfl rfl rfl rfl (fun vs wj hJ hd K hK => ?_) ?_
    · simp only [Jo.putl, Jo.zd, Jo.ze, Act.put, Jo.za, Jo.zb, Jo.zc] at hK ⊢
      rw [show vs 12 = _ from hd 12 (by decide)] at hK ⊢
      clear hd
      go_simp
      exact hK.out _ _ rfl (Below.refl _ _)
    refine Jo.jd 14 (some 30) [(some 28, 12), (some 29, 13)] (Jo.Fact.eq undef) rfl rfl rfl rfl (fun vs wj hJ hd K hK => ?_) ?_
    · have d13 : (Jo.Fact.eq undef).P (vs 13) wj := hd 13 (by decide)
      simp only [Jo.putl, Jo.zd, Jo.ze, Act.put, Jo.za, Jo.zb, Jo.zc] at hK ⊢
      rw [show vs 12 = _ from hd 12 (by decide)] at hK ⊢
      clear hd
      generalize vs 13 = u13 at hK d13 ⊢
      replace d13 : u13 = _ := d13
      subst d13
      go_simp
      exact hK.out _ _ rfl (Below.refl _ _)
    refine Jo.jd 15 (some 31) [(some 28, 12)] (Jo.Fact.eq undef) rfl rfl rfl rfl (fun vs wj hJ hd K hK => ?_) ?_
    · simp only [Jo.putl, Jo.zd, Jo.ze, Act.put, Jo.za, Jo.zb, Jo.zc] at hK ⊢
      rw [show vs 12 = _ from hd 12 (by decide)] at hK ⊢
      clear hd
      go_simp
      exact hK.out _ _ rfl (Below.refl _ _)
    refine Jo.jd 16 (some 32) [(some 28, 12), (some 30, 14), (some 31, 15)] (Jo.Fact.eq undef) rfl rfl rfl rfl (fun vs wj hJ hd K hK => ?_) ?_
    · have d14 : (Jo.Fact.eq undef).P (vs 14) wj := hd 14 (by decide)
      have d15 : (Jo.Fact.eq undef).P (vs 15) wj := hd 15 (by decide)
      simp only [Jo.putl, Jo.zd, Jo.ze, Act.put, Jo.za, Jo.zb, Jo.zc] at hK ⊢
      rw [show vs 12 = _ from hd 12 (by decide)] at hK ⊢
      clear hd
      generalize vs 14 = u14 at hK d14 ⊢
      generalize vs 15 = u15 at hK d15 ⊢
      replace d14 : u14 = _ := d14
      subst d14
      replace d15 : u15 = _ := d15
      subst d15
      go_simp
      exact hK.out _ _ rfl (Below.refl _ _)
    refine Jo.jd 17 (some 33) [(some 28, 12), (some 32, 16)] (Jo.Fact.eq (.bool false)) rfl rfl rfl rfl (fun vs wj hJ hd K hK => ?_) ?_
    · have d16 : (Jo.Fact.eq undef).P (vs 16) wj := hd 16 (by decide)
      simp only [Jo.putl, Jo.zd, Jo.ze, Act.put, Jo.za, Jo.zb, Jo.zc] at hK ⊢
      rw [show vs 12 = _ from hd 12 (by decide)] at hK ⊢
      clear hd
      generalize vs 16 = u16 at hK d16 ⊢
      replace d16 : u16 = _ := d16
      subst d16
      go_simp
      exact hK.out _ _ rfl (Below.refl _ _)
    refine Jo.jd 18 (some 34) [(some 33, 17)] (Jo.Fact.eq (.bool false)) rfl rfl rfl rfl (fun vs wj hJ hd K hK => ?_) ?_
    · simp only [Jo.putl, Jo.zd, Jo.ze, Act.put, Jo.za, Jo.zb, Jo.zc] at hK ⊢
      rw [show vs 17 = _ from hd 17 (by decide)] at hK ⊢
      clear hd
      go_simp
      exact hK.out _ _ rfl (Below.refl _ _)
    refine Jo.jd 19 (some 35) [(some 34, 18)] (Jo.Fact.eq undef) rfl rfl rfl rfl (fun vs wj hJ hd K hK => ?_) ?_
    · simp only [Jo.putl, Jo.zd, Jo.ze, Act.put, Jo.za, Jo.zb, Jo.zc] at hK ⊢
      rw [show vs 18 = _ from hd 18 (by decide)] at hK ⊢
      clear hd
      go_simp
      exact hK.out _ _ rfl (Below.refl _ _)
    refine Jo.jd 20 (some 36) [(some 34, 18), (some 35, 19)] (Jo.Fact.eq undef) rfl rfl rfl rfl (fun vs wj hJ hd K hK => ?_) ?_
    · have d19 : (Jo.Fact.eq undef).P (vs 19) wj := hd 19 (by decide)
      simp only [Jo.putl, Jo.zd, Jo.ze, Act.put, Jo.za, Jo.zb, Jo.zc] at hK ⊢
      rw [show vs 18 = _ from hd 18 (by decide)] at hK ⊢
      clear hd
      generalize vs 19 = u19 at hK d19 ⊢
      replace d19 : u19 = _ := d19
      subst d19
      go_simp
      exact hK.out _ _ rfl (Below.refl _ _)
    refine Jo.jd 21 (some 37) [(some 34, 18)] (Jo.Fact.eq undef) rfl rfl rfl rfl (fun vs wj hJ hd K hK => ?_) ?_
    · simp only [Jo.putl, Jo.zd, Jo.ze, Act.put, Jo.za, Jo.zb, Jo.zc] at hK ⊢
      rw [show vs 18 = _ from hd 18 (by decide)] at hK ⊢
      clear hd
      go_simp
      exact hK.out _ _ rfl (Below.refl _ _)
    refine Jo.jd 22 (some 38) [(some 34, 18), (some 36, 20), (some 37, 21)] (Jo.Fact.eq undef) rfl rfl rfl rfl (fun vs wj hJ hd K hK => ?_) ?_
    · have d20 : (Jo.Fact.eq undef).P (vs 20) wj := hd 20 (by decide)
      have d21 : (Jo.Fact.eq undef).P (vs 21) wj := hd 21 (by decide)
      simp only [Jo.putl, Jo.zd, Jo.ze, Act.put, Jo.za, Jo.zb, Jo.zc] at hK ⊢
      rw [show vs 18 = _ from hd 18 (by decide)] at hK ⊢
      clear hd
      generalize vs 20 = u20 at hK d20 ⊢
      generalize vs 21 = u21 at hK d21 ⊢
      replace d20 : u20 = _ := d20
      subst d20
      replace d21 : u21 = _ := d21
      subst d21
      go_simp
      exact hK.out _ _ rfl (Below.refl _ _)
    refine Jo.jd 23 (some 39) [(some 34, 18), (some 38, 22)] (Jo.Fact.eq (.bool false)) rfl rfl rfl rfl (fun vs wj hJ hd K hK => ?_) ?_
    · have d22 : (Jo.Fact.eq undef).P (vs 22) wj := hd 22 (by decide)
      simp only [Jo.putl, Jo.zd, Jo.ze, Act.put, Jo.za, Jo.zb, Jo.zc] at hK ⊢
      rw [show vs 18 = _ from hd 18 (by decide)] at hK ⊢
      clear hd
      generalize vs 22 = u22 at hK d22 ⊢
      replace d22 : u22 = _ := d22
      subst d22
      go_simp
      exact hK.out _ _ rfl (Below.refl _ _)
    refine Jo.jd 24 (some 2) [(some 39, 23)] (Jo.Fact.eq (.bool false)) rfl rfl rfl rfl (fun vs wj hJ hd K hK => ?_) ?_
    · simp only [Jo.putl, Jo.zd, Jo.ze, Act.put, Jo.za, Jo.zb, Jo.zc] at hK ⊢
      rw [show vs 23 = _ from hd 23 (by decide)] at hK ⊢
      clear hd
      go_simp
      exact hK.out _ _ rfl (Below.refl _ _)
    exact Jo.Steps.nil
  have d2 : (Jo.Fact.eq undef).P (vs 2) w8 := hd 2 (by decide)
  have d5 : (Jo.Fact.eq undef).P (vs 5) w8 := hd 5 (by decide)
  have d6 : (Jo.Fact.eq undef).P (vs 6) w8 := hd 6 (by decide)
  have d7 : (Jo.Fact.eq undef).P (vs 7) w8 := hd 7 (by decide)
  have d8 : (Jo.Fact.eq undef).P (vs 8) w8 := hd 8 (by decide)
  have d9 : (Jo.Fact.eq undef).P (vs 9) w8 := hd 9 (by decide)
  have d10 : (Jo.Fact.eq undef).P (vs 10) w8 := hd 10 (by decide)
  have d13 : (Jo.Fact.eq undef).P (vs 13) w8 := hd 13 (by decide)
  have d14 : (Jo.Fact.eq undef).P (vs 14) w8 := hd 14 (by decide)
  have d15 : (Jo.Fact.eq undef).P (vs 15) w8 := hd 15 (by decide)
  have d16 : (Jo.Fact.eq undef).P (vs 16) w8 := hd 16 (by decide)
  have d19 : (Jo.Fact.eq undef).P (vs 19) w8 := hd 19 (by decide)
  have d20 : (Jo.Fact.eq undef).P (vs 20) w8 := hd 20 (by decide)
  have d21 : (Jo.Fact.eq undef).P (vs 21) w8 := hd 21 (by decide)
  have d22 : (Jo.Fact.eq undef).P (vs 22) w8 := hd 22 (by decide)
  simp only [Jo.putl, Jo.zd, Jo.ze, Act.put, Jo.za, Jo.zb, Jo.zc]
  rw [show vs 0 = _ from hd 0 (by decide), show vs 1 = _ from hd 1 (by decide), show vs 3 = _ from hd 3 (by decide), show vs 4 = _ from hd 4 (by decide), show vs 11 = _ from hd 11 (by decide), show vs 12 = _ from hd 12 (by decide), show vs 17 = _ from hd 17 (by decide), show vs 18 = _ from hd 18 (by decide), show vs 23 = _ from hd 23 (by decide), show vs 24 = _ from hd 24 (by decide)]
  clear hd
  generalize vs 2 = u2 at d2 ⊢
  generalize vs 5 = u5 at d5 ⊢
  generalize vs 6 = u6 at d6 ⊢
  generalize vs 7 = u7 at d7 ⊢
  generalize vs 8 = u8 at d8 ⊢
  generalize vs 9 = u9 at d9 ⊢
  generalize vs 10 = u10 at d10 ⊢
  generalize vs 13 = u13 at d13 ⊢
  generalize vs 14 = u14 at d14 ⊢
  generalize vs 15 = u15 at d15 ⊢
  generalize vs 16 = u16 at d16 ⊢
  generalize vs 19 = u19 at d19 ⊢
  generalize vs 20 = u20 at d20 ⊢
  generalize vs 21 = u21 at d21 ⊢
  generalize vs 22 = u22 at d22 ⊢
  replace d2 : u2 = _ := d2
  subst d2
  replace d5 : u5 = _ := d5
  subst d5
  replace d6 : u6 = _ := d6
  subst d6
  replace d7 : u7 = _ := d7
  subst d7
  replace d8 : u8 = _ := d8
  subst d8
  replace d9 : u9 = _ := d9
  subst d9
  replace d10 : u10 = _ := d10
  subst d10
  replace d13 : u13 = _ := d13
  subst d13
  replace d14 : u14 = _ := d14
  subst d14
  replace d15 : u15 = _ := d15
  subst d15
  replace d16 : u16 = _ := d16
  subst d16
  replace d19 : u19 = _ := d19
  subst d19
  replace d20 : u20 = _ := d20
  subst d20
  replace d21 : u21 = _ := d21
  subst d21
  replace d22 : u22 = _ := d22
  subst d22
  replace X1 := X1.below hJ
  replace HB := Lib.hid (bt HB.out hJ)
  refine Jo.jdone (by kernel_rfl) ?_
  go_wp2
  go_ret
  exact ⟨rfl, HB.out⟩
set_option maxHeartbeats 2000000 in
theorem jvmay_fq {w : World} {D M E D' M' E' : Int} {s s' : Bool} (hM : (M : Int) < 18446744073709551616) (hM' : (M' : Int) < 18446744073709551616) (hp : decide (MayQ D s M E) = true) (hq : decide (MayQ D' s' M' E') = false) : Calls Try.prog 12 #[.agg #[.bool false, .int .i64 D, .bool s, .int .u64 M, .int .i64 E, .int .i64 D', .bool s', .int .u64 M', .int .i64 E']] w (PB w false) := by
  have HP := Lib.hid hp
  have HQ := Lib.hid hq
  clear hp hq
  go_enter Try.func12, Try.ntmps12
  go_upto_region 1 with (fail)
  have X1 := (Bo.newAt w (g := w.heap.size) (by simp) #[.bool false, .int .i64 D, .bool s, .int .u64 M, .int .i64 E, .int .i64 D', .bool s', .int .u64 M', .int .i64 E'] 26)
  have HB := Lib.hid (bel1 w (.cells #[.bool false, .int .i64 D, .bool s, .int .u64 M, .int .i64 E, .int .i64 D', .bool s', .int .u64 M', .int .i64 E'] 26))
  generalize hW1 : (w.alloc (.cells #[.bool false, .int .i64 D, .bool s, .int .u64 M, .int .i64 E, .int .i64 D', .bool s', .int .u64 M', .int .i64 E'] 26)) = w1 at *
  clear hW1
  obtain ⟨xX10, xX11, xX12, xX13, xX14, xX15, xX16, xX17, xX18⟩ := X1.ce9 rfl rfl rfl rfl rfl rfl rfl rfl rfl
  go_wp2_with fail
  refine (yMay HP.out).mono ?_
  rintro ee w2 ⟨rfl, B⟩
  clear xX10 xX11 xX12 xX13 xX14 xX15 xX16 xX17 xX18
  replace X1 := X1.below B
  replace HB := Lib.hid (bt HB.out B)
  clear B
  obtain ⟨xX10, xX11, xX12, xX13, xX14, xX15, xX16, xX17, xX18⟩ := X1.ce9 rfl rfl rfl rfl rfl rfl rfl rfl rfl
  go_wp2_with fail
  refine (yMay HQ.out).mono ?_
  rintro ee w3 ⟨rfl, B⟩
  clear xX10 xX11 xX12 xX13 xX14 xX15 xX16 xX17 xX18
  replace X1 := X1.below B
  replace HB := Lib.hid (bt HB.out B)
  clear B
  obtain ⟨xX10, xX11, xX12, xX13, xX14, xX15, xX16, xX17, xX18⟩ := X1.ce9 rfl rfl rfl rfl rfl rfl rfl rfl rfl
  go_upto_region 5 with (fail)
  clear xX10 xX11 xX12 xX13 xX14 xX15 xX16 xX17 xX18
  refine Jo.region_joint (T := [0, 1, 2, 3, 4, 5, 6, 7, 8, 9, 10, 11, 12, 13, 14, 15, 16, 17, 18, 19, 20, 21, 22, 23, 24]) (ds := [some 16, some 17, some 18, some 19, some 20, some 21, some 22, some 23, some 24, some 25, some 26, some 27, some 28, some 29, some 30, some 31, some 32, some 33, some 34, some 35, some 36, some 37, some 38, some 39, some 2]) (ls := [[], [0], [1], [1, 2], [3], [4], [4, 5], [4], [4, 7], [4, 6, 8], [4, 9], [4, 10], [11], [12], [12, 13], [12], [12, 14, 15], [12, 16], [17], [18], [18, 19], [18], [18, 20, 21], [18, 22], [23]]) (k := 25) (L := [(some 16, 0), (some 17, 1), (some 18, 2), (some 19, 3), (some 20, 4), (some 21, 5), (some 22, 6), (some 23, 7), (some 24, 8), (some 25, 9), (some 26, 10), (some 27, 11), (some 28, 12), (some 29, 13), (some 30, 14), (some 31, 15), (some 32, 16), (some 33, 17), (some 34, 18), (some 35, 19), (some 36, 20), (some 37, 21), (some 38, 22), (some 39, 23), (some 2, 24)]) (fuel := 0) (J := fun wj => Below (World.heap w3).size w3 wj)
    (F := [Jo.Fact.eq (.bool true), Jo.Fact.eq (.bool true), Jo.Fact.eq (.bool false), Jo.Fact.eq (.bool false), Jo.Fact.eq (.bool false), Jo.Fact.eq undef, Jo.Fact.eq undef, Jo.Fact.eq undef, Jo.Fact.eq undef, Jo.Fact.eq undef, Jo.Fact.eq undef, Jo.Fact.eq (.bool false), Jo.Fact.eq (.bool false), Jo.Fact.eq undef, Jo.Fact.eq undef, Jo.Fact.eq undef, Jo.Fact.eq undef, Jo.Fact.eq (.bool false), Jo.Fact.eq (.bool false), Jo.Fact.eq undef, Jo.Fact.eq undef, Jo.Fact.eq undef, Jo.Fact.eq undef, Jo.Fact.eq (.bool false), Jo.Fact.eq (.bool false)])
    (by kernel_rfl) (by kernel_rfl) (by decide) rfl rfl (fun _ _ h b => bt h b) ((Below.refl _ _).drew) ?_ (fun vs w8 hJ hd => ?_)
  · refine Jo.jd 0 (some 16) [] (Jo.Fact.eq (.bool true)) rfl rfl rfl rfl (fun vs wj hJ hd K hK => ?_) ?_
    · simp only [Jo.putl, Jo.ze, Act.put, Jo.za, Jo.zb, Jo.zc] at hK ⊢
      clear hd
      go_simp
      exact hK.out _ _ rfl (Below.refl _ _)
    refine Jo.jd 1 (some 17) [(some 16, 0)] (Jo.Fact.eq (.bool true)) rfl rfl rfl rfl (fun vs wj hJ hd K hK => ?_) ?_
    · simp only [Jo.putl, Jo.zd, Jo.ze, Act.put, Jo.za, Jo.zb, Jo.zc] at hK ⊢
      rw [show vs 0 = _ from hd 0 (by decide)] at hK ⊢
      clear hd
      go_simp
      exact hK.out _ _ rfl (Below.refl _ _)
    refine Jo.jd 2 (some 18) [(some 17, 1)] (Jo.Fact.eq (.bool false)) rfl rfl rfl rfl (fun vs wj hJ hd K hK => ?_) ?_
    · simp only [Jo.putl, Jo.zd, Jo.ze, Act.put, Jo.za, Jo.zb, Jo.zc] at hK ⊢
      rw [show vs 1 = _ from hd 1 (by decide)] at hK ⊢
      clear hd
      go_simp
      exact hK.out _ _ rfl (Below.refl _ _)
    refine Jo.jd 3 (some 19) [(some 17, 1), (some 18, 2)] (Jo.Fact.eq (.bool false)) rfl rfl rfl rfl (fun vs wj hJ hd K hK => ?_) ?_
    · simp only [Jo.putl, Jo.zd, Jo.ze, Act.put, Jo.za, Jo.zb, Jo.zc] at hK ⊢
      rw [show vs 1 = _ from hd 1 (by decide), show vs 2 = _ from hd 2 (by decide)] at hK ⊢
      clear hd
      go_simp
      exact hK.out _ _ rfl (Below.refl _ _)
    refine Jo.jd 4 (some 20) [(some 19, 3)] (Jo.Fact.eq (.bool false)) rfl rfl rfl rfl (fun vs wj hJ hd K hK => ?_) ?_
    · simp only [Jo.putl, Jo.zd, Jo.ze, Act.put, Jo.za, Jo.zb, Jo.zc] at hK ⊢
      rw [show vs 3 = _ from hd 3 (by decide)] at hK ⊢
      clear hd
      go_simp
      exact hK.out _ _ rfl (Below.refl _ _)
    refine Jo.jd 5 (some 21) [(some 20, 4)] (Jo.Fact.eq undef) rfl rfl rfl rfl (fun vs wj hJ hd K hK => ?_) ?_
    · simp only [Jo.putl, Jo.zd, Jo.ze, Act.put, Jo.za, Jo.zb, Jo.zc] at hK ⊢
      rw [show vs 4 = _ from hd 4 (by decide)] at hK ⊢
      clear hd
      go_simp
      exact hK.out _ _ rfl (Below.refl _ _)
    refine Jo.jd 6 (some 22) [(some 20, 4), (some 21, 5)] (Jo.Fact.eq undef) rfl rfl rfl rfl (fun vs wj hJ hd K hK => ?_) ?_
    · have d5 : (Jo.Fact.eq undef).P (vs 5) wj := hd 5 (by decide)
      simp only [Jo.putl, Jo.zd, Jo.ze, Act.put, Jo.za, Jo.zb, Jo.zc] at hK ⊢
      rw [show vs 4 = _ from hd 4 (by decide)] at hK ⊢
      clear hd
      generalize vs 5 = u5 at hK d5 ⊢
      replace d5 : u5 = _ := d5
      subst d5
      go_simp
      exact hK.out _ _ rfl (Below.refl _ _)
    refine Jo.jd 7 (some 23) [(some 20, 4)] (Jo.Fact.eq undef) rfl rfl rfl rfl (fun vs wj hJ hd K hK => ?_) ?_
    · simp only [Jo.putl, Jo.zd, Jo.ze, Act.put, Jo.za, Jo.zb, Jo.zc] at hK ⊢
      rw [show vs 4 = _ from hd 4 (by decide)] at hK ⊢
      clear hd
      go_simp
      exact hK.out _ _ rfl (Below.refl _ _)
    refine Jo.jd 8 (some 24) [(some 20, 4), (some 23, 7)] (Jo.Fact.eq undef) rfl rfl rfl rfl (fun vs wj hJ hd K hK => ?_) ?_
    · have d7 : (Jo.Fact.eq undef).P (vs 7) wj := hd 7 (by decide)
      simp only [Jo.putl, Jo.zd, Jo.ze, Act.put, Jo.za, Jo.zb, Jo.zc] at hK ⊢
      rw [show vs 4 = _ from hd 4 (by decide)] at hK ⊢
      clear hd
      generalize vs 7 = u7 at hK d7 ⊢
      replace d7 : u7 = _ := d7
      subst d7
      go_simp
      exact hK.out _ _ rfl (Below.refl _ _)
    refine Jo.jd 9 (some 25) [(some 20, 4), (some 22, 6), (some 24, 8)] (Jo.Fact.eq undef) rfl rfl rfl rfl (fun vs wj hJ hd K hK => ?_) ?_
    · have d6 : (Jo.Fact.eq undef).P (vs 6) wj := hd 6 (by decide)
      have d8 : (Jo.Fact.eq undef).P (vs 8) wj := hd 8 (by decide)
      simp only [Jo.putl, Jo.zd, Jo.ze, Act.put, Jo.za, Jo.zb, Jo.zc] at hK ⊢
      rw [show vs 4 = _ from hd 4 (by decide)] at hK ⊢
      clear hd
      generalize vs 6 = u6 at hK d6 ⊢
      generalize vs 8 = u8 at hK d8 ⊢
      replace d6 : u6 = _ := d6
      subst d6
      replace d8 : u8 = _ := d8
      subst d8
      go_simp
      exact hK.out _ _ rfl (Below.refl _ _)
    refine Jo.jd 10 (some 26) [(some 20, 4), (some 25, 9)] (Jo.Fact.eq undef) rfl rfl rfl rfl (fun vs wj hJ hd K hK => ?_) ?_
    · have d9 : (Jo.Fact.eq undef).P (vs 9) wj := hd 9 (by decide)
      simp only [Jo.putl, Jo.zd, Jo.ze, Act.put, Jo.za, Jo.zb, Jo.zc] at hK ⊢
      rw [show vs 4 = _ from hd 4 (by decide)] at hK ⊢
      clear hd
      generalize vs 9 = u9 at hK d9 ⊢
      replace d9 : u9 = _ := d9
      subst d9
      go_simp
      exact hK.out _ _ rfl (Below.refl _ _)
    refine Jo.jd 11 (some 27) [(some 20, 4), (some 26, 10)] (Jo.Fact.eq (.bool false)) rfl rfl rfl rfl (fun vs wj hJ hd K hK => ?_) ?_
    · have d10 : (Jo.Fact.eq undef).P (vs 10) wj := hd 10 (by decide)
      simp only [Jo.putl, Jo.zd, Jo.ze, Act.put, Jo.za, Jo.zb, Jo.zc] at hK ⊢
      rw [show vs 4 = _ from hd 4 (by decide)] at hK ⊢
      clear hd
      generalize vs 10 = u10 at hK d10 ⊢
      replace d10 : u10 = _ := d10
      subst d10
      go_simp
      exact hK.out _ _ rfl (Below.refl _ _)
    refine Jo.jd 12 (some 28) [(some 27, 11)] (Jo.Fact.eq (.bool false)) rfl rfl rfl rfl (fun vs wj hJ hd K hK => ?_) ?_
    · simp only [Jo.putl, Jo.zd, Jo.ze, Act.put, Jo.za, Jo.zb, Jo.zc] at hK ⊢
      rw [show vs 11 = _ from hd 11 (by decide)] at hK ⊢
      clear hd
      go_simp
      exact hK.out _ _ rfl (Below.refl _ _)
    refine Jo.jd 13 (some 29) [(some 28, 12)] (Jo.Fact.eq undef) rfl rfl rfl rfl (fun vs wj hJ hd K hK => ?_) ?_
    · simp only [Jo.putl, Jo.zd, Jo.ze, Act.put, Jo.za, Jo.zb, Jo.zc] at hK ⊢
      rw [show vs 12 = _ from hd 12 (by decide)] at hK ⊢
      clear hd
      go_simp
      exact hK.out _ _ rfl (Below.refl _ _)
    refine Jo.jd 14 (some 30) [(some 28, 12), (some 29, 13)] (Jo.Fact.eq undef) rfl rfl rfl rfl (fun vs wj hJ hd K hK => ?_) ?_
    · have d13 : (Jo.Fact.eq undef).P (vs 13) wj := hd 13 (by decide)
      simp only [Jo.putl, Jo.zd, Jo.ze, Act.put, Jo.za, Jo.zb, Jo.zc] at hK ⊢
      rw [show vs 12 = _ from hd 12 (by decide)] at hK ⊢
      clear hd
      generalize vs 13 = u13 at hK d13 ⊢
      replace d13 : u13 = _ := d13
      subst d13
      go_simp
      exact hK.out _ _ rfl (Below.refl _ _)
    refine Jo.jd 15 (some 31) [(some 28, 12)] (Jo.Fact.eq undef) rfl rfl rfl rfl (fun vs wj hJ hd K hK => ?_) ?_
    · simp only [Jo.putl, Jo.zd, Jo.ze, Act.put, Jo.za, Jo.zb, Jo.zc] at hK ⊢
      rw [show vs 12 = _ from hd 12 (by decide)] at hK ⊢
      clear hd
      go_simp
      exact hK.out _ _ rfl (Below.refl _ _)
    refine Jo.jd 16 (some 32) [(some 28, 12), (some 30, 14), (some 31, 15)] (Jo.Fact.eq undef) rfl rfl rfl rfl (fun vs wj hJ hd K hK => ?_) ?_
    · have d14 : (Jo.Fact.eq undef).P (vs 14) wj := hd 14 (by decide)
      have d15 : (Jo.Fact.eq undef).P (vs 15) wj := hd 15 (by decide)
      simp only [Jo.putl, Jo.zd, Jo.ze, Act.put, Jo.za, Jo.zb, Jo.zc] at hK ⊢
      rw [show vs 12 = _ from hd 12 (by decide)] at hK ⊢
      clear hd
      generalize vs 14 = u14 at hK d14 ⊢
      generalize vs 15 = u15 at hK d15 ⊢
      replace d14 : u14 = _ := d14
      subst d14
      replace d15 : u15 = _ := d15
      subst d15
      go_simp
      exact hK.out _ _ rfl (Below.refl _ _)
    refine Jo.jd 17 (some 33) [(some 28, 12), (some 32, 16)] (Jo.Fact.eq (.bool false)) rfl rfl rfl rfl (fun vs wj hJ hd K hK => ?_) ?_
    · have d16 : (Jo.Fact.eq undef).P (vs 16) wj := hd 16 (by decide)
      simp only [Jo.putl, Jo.zd, Jo.ze, Act.put, Jo.za, Jo.zb, Jo.zc] at hK ⊢
      rw [show vs 12 = _ from hd 12 (by decide)] at hK ⊢
      clear hd
      generalize vs 16 = u16 at hK d16 ⊢
      replace d16 : u16 = _ := d16
      subst d16
      go_simp
      exact hK.out _ _ rfl (Below.refl _ _)
    refine Jo.jd 18 (some 34) [(some 33, 17)] (Jo.Fact.eq (.bool false)) rfl rfl rfl rfl (fun vs wj hJ hd K hK => ?_) ?_
    · simp only [Jo.putl, Jo.zd, Jo.ze, Act.put, Jo.za, Jo.zb, Jo.zc] at hK ⊢
      rw [show vs 17 = _ from hd 17 (by decide)] at hK ⊢
      clear hd
      go_simp
      exact hK.out _ _ rfl (Below.refl _ _)
    refine Jo.jd 19 (some 35) [(some 34, 18)] (Jo.Fact.eq undef) rfl rfl rfl rfl (fun vs wj hJ hd K hK => ?_) ?_
    · simp only [Jo.putl, Jo.zd, Jo.ze, Act.put, Jo.za, Jo.zb, Jo.zc] at hK ⊢
      rw [show vs 18 = _ from hd 18 (by decide)] at hK ⊢
      clear hd
      go_simp
      exact hK.out _ _ rfl (Below.refl _ _)
    refine Jo.jd 20 (some 36) [(some 34, 18), (some 35, 19)] (Jo.Fact.eq undef) rfl rfl rfl rfl (fun vs wj hJ hd K hK => ?_) ?_
    · have d19 : (Jo.Fact.eq undef).P (vs 19) wj := hd 19 (by decide)
      simp only [Jo.putl, Jo.zd, Jo.ze, Act.put, Jo.za, Jo.zb, Jo.zc] at hK ⊢
      rw [show vs 18 = _ from hd 18 (by decide)] at hK ⊢
      clear hd
      generalize vs 19 = u19 at hK d19 ⊢
      replace d19 : u19 = _ := d19
      subst d19
      go_simp
      exact hK.out _ _ rfl (Below.refl _ _)
    refine Jo.jd 21 (some 37) [(some 34, 18)] (Jo.Fact.eq undef) rfl rfl rfl rfl (fun vs wj hJ hd K hK => ?_) ?_
    · simp only [Jo.putl, Jo.zd, Jo.ze, Act.put, Jo.za, Jo.zb, Jo.zc] at hK ⊢
      rw [show vs 18 = _ from hd 18 (by decide)] at hK ⊢
      clear hd
      go_simp
      exact hK.out _ _ rfl (Below.refl _ _)
    refine Jo.jd 22 (some 38) [(some 34, 18), (some 36, 20), (some 37, 21)] (Jo.Fact.eq undef) rfl rfl rfl rfl (fun vs wj hJ hd K hK => ?_) ?_
    · have d20 : (Jo.Fact.eq undef).P (vs 20) wj := hd 20 (by decide)
      have d21 : (Jo.Fact.eq undef).P (vs 21) wj := hd 21 (by decide)
      simp only [Jo.putl, Jo.zd, Jo.ze, Act.put, Jo.za, Jo.zb, Jo.zc] at hK ⊢
      rw [show vs 18 = _ from hd 18 (by decide)] at hK ⊢
      clear hd
      generalize vs 20 = u20 at hK d20 ⊢
      generalize vs 21 = u21 at hK d21 ⊢
      replace d20 : u20 = _ := d20
      subst d20
      replace d21 : u21 = _ := d21
      subst d21
      go_simp
      exact hK.out _ _ rfl (Below.refl _ _)
    refine Jo.jd 23 (some 39) [(some 34, 18), (some 38, 22)] (Jo.Fact.eq (.bool false)) rfl rfl rfl rfl (fun vs wj hJ hd K hK => ?_) ?_
    · have d22 : (Jo.Fact.eq undef).P (vs 22) wj := hd 22 (by decide)
      simp only [Jo.putl, Jo.zd, Jo.ze, Act.put, Jo.za, Jo.zb, Jo.zc] at hK ⊢
      rw [show vs 18 = _ from hd 18 (by decide)] at hK ⊢
      clear hd
      generalize vs 22 = u22 at hK d22 ⊢
      replace d22 : u22 = _ := d22
      subst d22
      go_simp
      exact hK.out _ _ rfl (Below.refl _ _)
    refine Jo.jd 24 (some 2) [(some 39, 23)] (Jo.Fact.eq (.bool false)) rfl rfl rfl rfl (fun vs wj hJ hd K hK => ?_) ?_
    · simp only [Jo.putl, Jo.zd, Jo.ze, Act.put, Jo.za, Jo.zb, Jo.zc] at hK ⊢
      rw [show vs 23 = _ from hd 23 (by decide)] at hK ⊢
      clear hd
      go_simp
      exact hK.out _ _ rfl (Below.refl _ _)
    exact Jo.Steps.nil
  have d5 : (Jo.Fact.eq undef).P (vs 5) w8 := hd 5 (by decide)
  have d6 : (Jo.Fact.eq undef).P (vs 6) w8 := hd 6 (by decide)
  have d7 : (Jo.Fact.eq undef).P (vs 7) w8 := hd 7 (by decide)
  have d8 : (Jo.Fact.eq undef).P (vs 8) w8 := hd 8 (by decide)
  have d9 : (Jo.Fact.eq undef).P (vs 9) w8 := hd 9 (by decide)
  have d10 : (Jo.Fact.eq undef).P (vs 10) w8 := hd 10 (by decide)
  have d13 : (Jo.Fact.eq undef).P (vs 13) w8 := hd 13 (by decide)
  have d14 : (Jo.Fact.eq undef).P (vs 14) w8 := hd 14 (by decide)
  have d15 : (Jo.Fact.eq undef).P (vs 15) w8 := hd 15 (by decide)
  have d16 : (Jo.Fact.eq undef).P (vs 16) w8 := hd 16 (by decide)
  have d19 : (Jo.Fact.eq undef).P (vs 19) w8 := hd 19 (by decide)
  have d20 : (Jo.Fact.eq undef).P (vs 20) w8 := hd 20 (by decide)
  have d21 : (Jo.Fact.eq undef).P (vs 21) w8 := hd 21 (by decide)
  have d22 : (Jo.Fact.eq undef).P (vs 22) w8 := hd 22 (by decide)
  simp only [Jo.putl, Jo.zd, Jo.ze, Act.put, Jo.za, Jo.zb, Jo.zc]
  rw [show vs 0 = _ from hd 0 (by decide), show vs 1 = _ from hd 1 (by decide), show vs 2 = _ from hd 2 (by decide), show vs 3 = _ from hd 3 (by decide), show vs 4 = _ from hd 4 (by decide), show vs 11 = _ from hd 11 (by decide), show vs 12 = _ from hd 12 (by decide), show vs 17 = _ from hd 17 (by decide), show vs 18 = _ from hd 18 (by decide), show vs 23 = _ from hd 23 (by decide), show vs 24 = _ from hd 24 (by decide)]
  clear hd
  generalize vs 5 = u5 at d5 ⊢
  generalize vs 6 = u6 at d6 ⊢
  generalize vs 7 = u7 at d7 ⊢
  generalize vs 8 = u8 at d8 ⊢
  generalize vs 9 = u9 at d9 ⊢
  generalize vs 10 = u10 at d10 ⊢
  generalize vs 13 = u13 at d13 ⊢
  generalize vs 14 = u14 at d14 ⊢
  generalize vs 15 = u15 at d15 ⊢
  generalize vs 16 = u16 at d16 ⊢
  generalize vs 19 = u19 at d19 ⊢
  generalize vs 20 = u20 at d20 ⊢
  generalize vs 21 = u21 at d21 ⊢
  generalize vs 22 = u22 at d22 ⊢
  replace d5 : u5 = _ := d5
  subst d5
  replace d6 : u6 = _ := d6
  subst d6
  replace d7 : u7 = _ := d7
  subst d7
  replace d8 : u8 = _ := d8
  subst d8
  replace d9 : u9 = _ := d9
  subst d9
  replace d10 : u10 = _ := d10
  subst d10
  replace d13 : u13 = _ := d13
  subst d13
  replace d14 : u14 = _ := d14
  subst d14
  replace d15 : u15 = _ := d15
  subst d15
  replace d16 : u16 = _ := d16
  subst d16
  replace d19 : u19 = _ := d19
  subst d19
  replace d20 : u20 = _ := d20
  subst d20
  replace d21 : u21 = _ := d21
  subst d21
  replace d22 : u22 = _ := d22
  subst d22
  replace X1 := X1.below hJ
  replace HB := Lib.hid (bt HB.out hJ)
  refine Jo.jdone (by kernel_rfl) ?_
  go_wp2
  go_ret
  exact ⟨rfl, HB.out⟩
set_option maxHeartbeats 2000000 in
theorem jvmay_fc {w : World} {D M E D' M' E' c : Int} {s s' : Bool} (hM : (M : Int) < 18446744073709551616) (hM' : (M' : Int) < 18446744073709551616) (hp : decide (MayQ D s M E) = true) (hq : decide (MayQ D' s' M' E') = true) (hc : cmpI (rk D s M E) (rk D' s' M' E') = c) (hc0 : decide (c ≤ 0) = false) : Calls Try.prog 12 #[.agg #[.bool false, .int .i64 D, .bool s, .int .u64 M, .int .i64 E, .int .i64 D', .bool s', .int .u64 M', .int .i64 E']] w (PB w false) := by
  have HP := Lib.hid hp
  have HQ := Lib.hid hq
  have HC := Lib.hid hc
  have HC0 := Lib.hid hc0
  clear hp hq hc hc0
  go_enter Try.func12, Try.ntmps12
  go_upto_region 1 with (fail)
  have X1 := (Bo.newAt w (g := w.heap.size) (by simp) #[.bool false, .int .i64 D, .bool s, .int .u64 M, .int .i64 E, .int .i64 D', .bool s', .int .u64 M', .int .i64 E'] 26)
  have HB := Lib.hid (bel1 w (.cells #[.bool false, .int .i64 D, .bool s, .int .u64 M, .int .i64 E, .int .i64 D', .bool s', .int .u64 M', .int .i64 E'] 26))
  generalize hW1 : (w.alloc (.cells #[.bool false, .int .i64 D, .bool s, .int .u64 M, .int .i64 E, .int .i64 D', .bool s', .int .u64 M', .int .i64 E'] 26)) = w1 at *
  clear hW1
  obtain ⟨xX10, xX11, xX12, xX13, xX14, xX15, xX16, xX17, xX18⟩ := X1.ce9 rfl rfl rfl rfl rfl rfl rfl rfl rfl
  go_wp2_with fail
  refine (yMay HP.out).mono ?_
  rintro ee w2 ⟨rfl, B⟩
  clear xX10 xX11 xX12 xX13 xX14 xX15 xX16 xX17 xX18
  replace X1 := X1.below B
  replace HB := Lib.hid (bt HB.out B)
  clear B
  obtain ⟨xX10, xX11, xX12, xX13, xX14, xX15, xX16, xX17, xX18⟩ := X1.ce9 rfl rfl rfl rfl rfl rfl rfl rfl rfl
  go_wp2_with fail
  refine (yMay HQ.out).mono ?_
  rintro ee w3 ⟨rfl, B⟩
  clear xX10 xX11 xX12 xX13 xX14 xX15 xX16 xX17 xX18
  replace X1 := X1.below B
  replace HB := Lib.hid (bt HB.out B)
  clear B
  obtain ⟨xX10, xX11, xX12, xX13, xX14, xX15, xX16, xX17, xX18⟩ := X1.ce9 rfl rfl rfl rfl rfl rfl rfl rfl rfl
  go_upto_region 5 with (fail)
  clear xX10 xX11 xX12 xX13 xX14 xX15 xX16 xX17 xX18
  refine Jo.region_joint (T := [0, 1, 2, 3, 4, 5, 6, 7, 8, 9, 10, 11, 12, 13, 14, 15, 16, 17, 18, 19, 20, 21, 22, 23, 24]) (ds := [some 16, some 17, some 18, some 19, some 20, some 21, some 22, some 23, some 24, some 25, some 26, some 27, some 28, some 29, some 30, some 31, some 32, some 33, some 34, some 35, some 36, some 37, some 38, some 39, some 2]) (ls := [[], [0], [1], [1, 2], [3], [4], [4, 5], [4], [4, 7], [4, 6, 8], [4, 9], [4, 10], [11], [12], [12, 13], [12], [12, 14, 15], [12, 16], [17], [18], [18, 19], [18], [18, 20, 21], [18, 22], [23]]) (k := 25) (L := [(some 16, 0), (some 17, 1), (some 18, 2), (some 19, 3), (some 20, 4), (some 21, 5), (some 22, 6), (some 23, 7), (some 24, 8), (some 25, 9), (some 26, 10), (some 27, 11), (some 28, 12), (some 29, 13), (some 30, 14), (some 31, 15), (some 32, 16), (some 33, 17), (some 34, 18), (some 35, 19), (some 36, 20), (some 37, 21), (some 38, 22), (some 39, 23), (some 2, 24)]) (fuel := 0) (J := fun wj => Below (World.heap w3).size w3 wj)
    (F := [Jo.Fact.eq (.bool true), Jo.Fact.eq (.bool true), Jo.Fact.eq (.bool true), Jo.Fact.eq (.bool true), Jo.Fact.eq (.bool true), Jo.Fact.eq (.pointer (some ⟨w.heap.size, 1, none⟩)), Jo.Fact.eq (.agg #[.int .i64 D, .bool s, .int .u64 M, .int .i64 E]), Jo.Fact.eq (.pointer (some ⟨w.heap.size, 5, none⟩)), Jo.Fact.eq (.agg #[.int .i64 D', .bool s', .int .u64 M', .int .i64 E']), Jo.Fact.eq (.int .i64 c), Jo.Fact.eq (.bool false), Jo.Fact.eq (.bool false), Jo.Fact.eq (.bool false), Jo.Fact.eq undef, Jo.Fact.eq undef, Jo.Fact.eq undef, Jo.Fact.eq undef, Jo.Fact.eq (.bool false), Jo.Fact.eq (.bool false), Jo.Fact.eq undef, Jo.Fact.eq undef, Jo.Fact.eq undef, Jo.Fact.eq undef, Jo.Fact.eq (.bool false), Jo.Fact.eq (.bool false)])
    (by kernel_rfl) (by kernel_rfl) (by decide) rfl rfl (fun _ _ h b => bt h b) ((Below.refl _ _).drew) ?_ (fun vs w8 hJ hd => ?_)
  · refine Jo.jd 0 (some 16) [] (Jo.Fact.eq (.bool true)) rfl rfl rfl rfl (fun vs wj hJ hd K hK => ?_) ?_
    · simp only [Jo.putl, Jo.ze, Act.put, Jo.za, Jo.zb, Jo.zc] at hK ⊢
      clear hd
      go_simp
      exact hK.out _ _ rfl (Below.refl _ _)
    refine Jo.jd 1 (some 17) [(some 16, 0)] (Jo.Fact.eq (.bool true)) rfl rfl rfl rfl (fun vs wj hJ hd K hK => ?_) ?_
    · simp only [Jo.putl, Jo.zd, Jo.ze, Act.put, Jo.za, Jo.zb, Jo.zc] at hK ⊢
      rw [show vs 0 = _ from hd 0 (by decide)] at hK ⊢
      clear hd
      go_simp
      exact hK.out _ _ rfl (Below.refl _ _)
    refine Jo.jd 2 (some 18) [(some 17, 1)] (Jo.Fact.eq (.bool true)) rfl rfl rfl rfl (fun vs wj hJ hd K hK => ?_) ?_
    · simp only [Jo.putl, Jo.zd, Jo.ze, Act.put, Jo.za, Jo.zb, Jo.zc] at hK ⊢
      rw [show vs 1 = _ from hd 1 (by decide)] at hK ⊢
      clear hd
      go_simp
      exact hK.out _ _ rfl (Below.refl _ _)
    refine Jo.jd 3 (some 19) [(some 17, 1), (some 18, 2)] (Jo.Fact.eq (.bool true)) rfl rfl rfl rfl (fun vs wj hJ hd K hK => ?_) ?_
    · simp only [Jo.putl, Jo.zd, Jo.ze, Act.put, Jo.za, Jo.zb, Jo.zc] at hK ⊢
      rw [show vs 1 = _ from hd 1 (by decide), show vs 2 = _ from hd 2 (by decide)] at hK ⊢
      clear hd
      go_simp
      exact hK.out _ _ rfl (Below.refl _ _)
    refine Jo.jd 4 (some 20) [(some 19, 3)] (Jo.Fact.eq (.bool true)) rfl rfl rfl rfl (fun vs wj hJ hd K hK => ?_) ?_
    · simp only [Jo.putl, Jo.zd, Jo.ze, Act.put, Jo.za, Jo.zb, Jo.zc] at hK ⊢
      rw [show vs 3 = _ from hd 3 (by decide)] at hK ⊢
      clear hd
      go_simp
      exact hK.out _ _ rfl (Below.refl _ _)
    refine Jo.jd 5 (some 21) [(some 20, 4)] (Jo.Fact.eq (.pointer (some ⟨w.heap.size, 1, none⟩))) rfl rfl rfl rfl (fun vs wj hJ hd K hK => ?_) ?_
    · simp only [Jo.putl, Jo.zd, Jo.ze, Act.put, Jo.za, Jo.zb, Jo.zc] at hK ⊢
      rw [show vs 4 = _ from hd 4 (by decide)] at hK ⊢
      clear hd
      go_simp
      exact hK.out _ _ rfl (Below.refl _ _)
    refine Jo.jd 6 (some 22) [(some 20, 4), (some 21, 5)] (Jo.Fact.eq (.agg #[.int .i64 D, .bool s, .int .u64 M, .int .i64 E])) rfl rfl rfl rfl (fun vs wj hJ hd K hK => ?_) ?_
    · simp only [Jo.putl, Jo.zd, Jo.ze, Act.put, Jo.za, Jo.zb, Jo.zc] at hK ⊢
      rw [show vs 4 = _ from hd 4 (by decide), show vs 5 = _ from hd 5 (by decide)] at hK ⊢
      clear hd
      have xX11 := (X1.below hJ).a 1 (.int .i64 D) rfl
      have xX12 := (X1.below hJ).a 2 (.bool s) rfl
      have xX13 := (X1.below hJ).a 3 (.int .u64 M) rfl
      have xX14 := (X1.below hJ).a 4 (.int .i64 E) rfl
      go_simp
      exact hK.out _ _ rfl (Below.refl _ _)
    refine Jo.jd 7 (some 23) [(some 20, 4)] (Jo.Fact.eq (.pointer (some ⟨w.heap.size, 5, none⟩))) rfl rfl rfl rfl (fun vs wj hJ hd K hK => ?_) ?_
    · simp only [Jo.putl, Jo.zd, Jo.ze, Act.put, Jo.za, Jo.zb, Jo.zc] at hK ⊢
      rw [show vs 4 = _ from hd 4 (by decide)] at hK ⊢
      clear hd
      go_simp
      exact hK.out _ _ rfl (Below.refl _ _)
    refine Jo.jd 8 (some 24) [(some 20, 4), (some 23, 7)] (Jo.Fact.eq (.agg #[.int .i64 D', .bool s', .int .u64 M', .int .i64 E'])) rfl rfl rfl rfl (fun vs wj hJ hd K hK => ?_) ?_
    · simp only [Jo.putl, Jo.zd, Jo.ze, Act.put, Jo.za, Jo.zb, Jo.zc] at hK ⊢
      rw [show vs 4 = _ from hd 4 (by decide), show vs 7 = _ from hd 7 (by decide)] at hK ⊢
      clear hd
      have xX15 := (X1.below hJ).a 5 (.int .i64 D') rfl
      have xX16 := (X1.below hJ).a 6 (.bool s') rfl
      have xX17 := (X1.below hJ).a 7 (.int .u64 M') rfl
      have xX18 := (X1.below hJ).a 8 (.int .i64 E') rfl
      go_simp
      exact hK.out _ _ rfl (Below.refl _ _)
    refine Jo.jd 9 (some 25) [(some 20, 4), (some 22, 6), (some 24, 8)] (Jo.Fact.eq (.int .i64 c)) rfl rfl rfl rfl (fun vs wj hJ hd K hK => ?_) ?_
    · simp only [Jo.putl, Jo.zd, Jo.ze, Act.put, Jo.za, Jo.zb, Jo.zc] at hK ⊢
      rw [show vs 4 = _ from hd 4 (by decide), show vs 6 = _ from hd 6 (by decide), show vs 8 = _ from hd 8 (by decide)] at hK ⊢
      clear hd
      go_simp
      refine (yCmp hM hM' HC.out).mono ?_
      rintro ee wk ⟨rfl, B⟩
      exact hK.out _ _ rfl B
    refine Jo.jd 10 (some 26) [(some 20, 4), (some 25, 9)] (Jo.Fact.eq (.bool false)) rfl rfl rfl rfl (fun vs wj hJ hd K hK => ?_) ?_
    · simp only [Jo.putl, Jo.zd, Jo.ze, Act.put, Jo.za, Jo.zb, Jo.zc] at hK ⊢
      rw [show vs 4 = _ from hd 4 (by decide), show vs 9 = _ from hd 9 (by decide)] at hK ⊢
      clear hd
      have hc0 := HC0.out
      go_simp
      exact hK.out _ _ (by first | rfl | (show Value.bool _ = Value.bool _; rw [hc0]) | simp_all) (Below.refl _ _)
    refine Jo.jd 11 (some 27) [(some 20, 4), (some 26, 10)] (Jo.Fact.eq (.bool false)) rfl rfl rfl rfl (fun vs wj hJ hd K hK => ?_) ?_
    · simp only [Jo.putl, Jo.zd, Jo.ze, Act.put, Jo.za, Jo.zb, Jo.zc] at hK ⊢
      rw [show vs 4 = _ from hd 4 (by decide), show vs 10 = _ from hd 10 (by decide)] at hK ⊢
      clear hd
      go_simp
      exact hK.out _ _ rfl (Below.refl _ _)
    refine Jo.jd 12 (some 28) [(some 27, 11)] (Jo.Fact.eq (.bool false)) rfl rfl rfl rfl (fun vs wj hJ hd K hK => ?_) ?_
    · simp only [Jo.putl, Jo.zd, Jo.ze, Act.put, Jo.za, Jo.zb, Jo.zc] at hK ⊢
      rw [show vs 11 = _ from hd 11 (by decide)] at hK ⊢
      clear hd
      go_simp
      exact hK.out _ _ rfl (Below.refl _ _)
    refine Jo.jd 13 (some 29) [(some 28, 12)] (Jo.Fact.eq undef) rfl rfl rfl rfl (fun vs wj hJ hd K hK => ?_) ?_
    · simp only [Jo.putl, Jo.zd, Jo.ze, Act.put, Jo.za, Jo.zb, Jo.zc] at hK ⊢
      rw [show vs 12 = _ from hd 12 (by decide)] at hK ⊢
      clear hd
      go_simp
      exact hK.out _ _ rfl (Below.refl _ _)
    refine Jo.jd 14 (some 30) [(some 28, 12), (some 29, 13)] (Jo.Fact.eq undef) rfl rfl rfl rfl (fun vs wj hJ hd K hK => ?_) ?_
    · have d13 : (Jo.Fact.eq undef).P (vs 13) wj := hd 13 (by decide)
      simp only [Jo.putl, Jo.zd, Jo.ze, Act.put, Jo.za, Jo.zb, Jo.zc] at hK ⊢
      rw [show vs 12 = _ from hd 12 (by decide)] at hK ⊢
      clear hd
      generalize vs 13 = u13 at hK d13 ⊢
      replace d13 : u13 = _ := d13
      subst d13
      go_simp
      exact hK.out _ _ rfl (Below.refl _ _)
    refine Jo.jd 15 (some 31) [(some 28, 12)] (Jo.Fact.eq undef) rfl rfl rfl rfl (fun vs wj hJ hd K hK => ?_) ?_
    · simp only [Jo.putl, Jo.zd, Jo.ze, Act.put, Jo.za, Jo.zb, Jo.zc] at hK ⊢
      rw [show vs 12 = _ from hd 12 (by decide)] at hK ⊢
      clear hd
      go_simp
      exact hK.out _ _ rfl (Below.refl _ _)
    refine Jo.jd 16 (some 32) [(some 28, 12), (some 30, 14), (some 31, 15)] (Jo.Fact.eq undef) rfl rfl rfl rfl (fun vs wj hJ hd K hK => ?_) ?_
    · have d14 : (Jo.Fact.eq undef).P (vs 14) wj := hd 14 (by decide)
      have d15 : (Jo.Fact.eq undef).P (vs 15) wj := hd 15 (by decide)
      simp only [Jo.putl, Jo.zd, Jo.ze, Act.put, Jo.za, Jo.zb, Jo.zc] at hK ⊢
      rw [show vs 12 = _ from hd 12 (by decide)] at hK ⊢
      clear hd
      generalize vs 14 = u14 at hK d14 ⊢
      generalize vs 15 = u15 at hK d15 ⊢
      replace d14 : u14 = _ := d14
      subst d14
      replace d15 : u15 = _ := d15
      subst d15
      go_simp
      exact hK.out _ _ rfl (Below.refl _ _)
    refine Jo.jd 17 (some 33) [(some 28, 12), (some 32, 16)] (Jo.Fact.eq (.bool false)) rfl rfl rfl rfl (fun vs wj hJ hd K hK => ?_) ?_
    · have d16 : (Jo.Fact.eq undef).P (vs 16) wj := hd 16 (by decide)
      simp only [Jo.putl, Jo.zd, Jo.ze, Act.put, Jo.za, Jo.zb, Jo.zc] at hK ⊢
      rw [show vs 12 = _ from hd 12 (by decide)] at hK ⊢
      clear hd
      generalize vs 16 = u16 at hK d16 ⊢
      replace d16 : u16 = _ := d16
      subst d16
      go_simp
      exact hK.out _ _ rfl (Below.refl _ _)
    refine Jo.jd 18 (some 34) [(some 33, 17)] (Jo.Fact.eq (.bool false)) rfl rfl rfl rfl (fun vs wj hJ hd K hK => ?_) ?_
    · simp only [Jo.putl, Jo.zd, Jo.ze, Act.put, Jo.za, Jo.zb, Jo.zc] at hK ⊢
      rw [show vs 17 = _ from hd 17 (by decide)] at hK ⊢
      clear hd
      go_simp
      exact hK.out _ _ rfl (Below.refl _ _)
    refine Jo.jd 19 (some 35) [(some 34, 18)] (Jo.Fact.eq undef) rfl rfl rfl rfl (fun vs wj hJ hd K hK => ?_) ?_
    · simp only [Jo.putl, Jo.zd, Jo.ze, Act.put, Jo.za, Jo.zb, Jo.zc] at hK ⊢
      rw [show vs 18 = _ from hd 18 (by decide)] at hK ⊢
      clear hd
      go_simp
      exact hK.out _ _ rfl (Below.refl _ _)
    refine Jo.jd 20 (some 36) [(some 34, 18), (some 35, 19)] (Jo.Fact.eq undef) rfl rfl rfl rfl (fun vs wj hJ hd K hK => ?_) ?_
    · have d19 : (Jo.Fact.eq undef).P (vs 19) wj := hd 19 (by decide)
      simp only [Jo.putl, Jo.zd, Jo.ze, Act.put, Jo.za, Jo.zb, Jo.zc] at hK ⊢
      rw [show vs 18 = _ from hd 18 (by decide)] at hK ⊢
      clear hd
      generalize vs 19 = u19 at hK d19 ⊢
      replace d19 : u19 = _ := d19
      subst d19
      go_simp
      exact hK.out _ _ rfl (Below.refl _ _)
    refine Jo.jd 21 (some 37) [(some 34, 18)] (Jo.Fact.eq undef) rfl rfl rfl rfl (fun vs wj hJ hd K hK => ?_) ?_
    · simp only [Jo.putl, Jo.zd, Jo.ze, Act.put, Jo.za, Jo.zb, Jo.zc] at hK ⊢
      rw [show vs 18 = _ from hd 18 (by decide)] at hK ⊢
      clear hd
      go_simp
      exact hK.out _ _ rfl (Below.refl _ _)
    refine Jo.jd 22 (some 38) [(some 34, 18), (some 36, 20), (some 37, 21)] (Jo.Fact.eq undef) rfl rfl rfl rfl (fun vs wj hJ hd K hK => ?_) ?_
    · have d20 : (Jo.Fact.eq undef).P (vs 20) wj := hd 20 (by decide)
      have d21 : (Jo.Fact.eq undef).P (vs 21) wj := hd 21 (by decide)
      simp only [Jo.putl, Jo.zd, Jo.ze, Act.put, Jo.za, Jo.zb, Jo.zc] at hK ⊢
      rw [show vs 18 = _ from hd 18 (by decide)] at hK ⊢
      clear hd
      generalize vs 20 = u20 at hK d20 ⊢
      generalize vs 21 = u21 at hK d21 ⊢
      replace d20 : u20 = _ := d20
      subst d20
      replace d21 : u21 = _ := d21
      subst d21
      go_simp
      exact hK.out _ _ rfl (Below.refl _ _)
    refine Jo.jd 23 (some 39) [(some 34, 18), (some 38, 22)] (Jo.Fact.eq (.bool false)) rfl rfl rfl rfl (fun vs wj hJ hd K hK => ?_) ?_
    · have d22 : (Jo.Fact.eq undef).P (vs 22) wj := hd 22 (by decide)
      simp only [Jo.putl, Jo.zd, Jo.ze, Act.put, Jo.za, Jo.zb, Jo.zc] at hK ⊢
      rw [show vs 18 = _ from hd 18 (by decide)] at hK ⊢
      clear hd
      generalize vs 22 = u22 at hK d22 ⊢
      replace d22 : u22 = _ := d22
      subst d22
      go_simp
      exact hK.out _ _ rfl (Below.refl _ _)
    refine Jo.jd 24 (some 2) [(some 39, 23)] (Jo.Fact.eq (.bool false)) rfl rfl rfl rfl (fun vs wj hJ hd K hK => ?_) ?_
    · simp only [Jo.putl, Jo.zd, Jo.ze, Act.put, Jo.za, Jo.zb, Jo.zc] at hK ⊢
      rw [show vs 23 = _ from hd 23 (by decide)] at hK ⊢
      clear hd
      go_simp
      exact hK.out _ _ rfl (Below.refl _ _)
    exact Jo.Steps.nil
  have d13 : (Jo.Fact.eq undef).P (vs 13) w8 := hd 13 (by decide)
  have d14 : (Jo.Fact.eq undef).P (vs 14) w8 := hd 14 (by decide)
  have d15 : (Jo.Fact.eq undef).P (vs 15) w8 := hd 15 (by decide)
  have d16 : (Jo.Fact.eq undef).P (vs 16) w8 := hd 16 (by decide)
  have d19 : (Jo.Fact.eq undef).P (vs 19) w8 := hd 19 (by decide)
  have d20 : (Jo.Fact.eq undef).P (vs 20) w8 := hd 20 (by decide)
  have d21 : (Jo.Fact.eq undef).P (vs 21) w8 := hd 21 (by decide)
  have d22 : (Jo.Fact.eq undef).P (vs 22) w8 := hd 22 (by decide)
  simp only [Jo.putl, Jo.zd, Jo.ze, Act.put, Jo.za, Jo.zb, Jo.zc]
  rw [show vs 0 = _ from hd 0 (by decide), show vs 1 = _ from hd 1 (by decide), show vs 2 = _ from hd 2 (by decide), show vs 3 = _ from hd 3 (by decide), show vs 4 = _ from hd 4 (by decide), show vs 6 = _ from hd 6 (by decide), show vs 8 = _ from hd 8 (by decide), show vs 9 = _ from hd 9 (by decide), show vs 10 = _ from hd 10 (by decide), show vs 11 = _ from hd 11 (by decide), show vs 12 = _ from hd 12 (by decide), show vs 17 = _ from hd 17 (by decide), show vs 18 = _ from hd 18 (by decide), show vs 23 = _ from hd 23 (by decide), show vs 24 = _ from hd 24 (by decide)]
  clear hd
  generalize vs 13 = u13 at d13 ⊢
  generalize vs 14 = u14 at d14 ⊢
  generalize vs 15 = u15 at d15 ⊢
  generalize vs 16 = u16 at d16 ⊢
  generalize vs 19 = u19 at d19 ⊢
  generalize vs 20 = u20 at d20 ⊢
  generalize vs 21 = u21 at d21 ⊢
  generalize vs 22 = u22 at d22 ⊢
  replace d13 : u13 = _ := d13
  subst d13
  replace d14 : u14 = _ := d14
  subst d14
  replace d15 : u15 = _ := d15
  subst d15
  replace d16 : u16 = _ := d16
  subst d16
  replace d19 : u19 = _ := d19
  subst d19
  replace d20 : u20 = _ := d20
  subst d20
  replace d21 : u21 = _ := d21
  subst d21
  replace d22 : u22 = _ := d22
  subst d22
  replace X1 := X1.below hJ
  replace HB := Lib.hid (bt HB.out hJ)
  refine Jo.jdone (by kernel_rfl) ?_
  go_wp2
  go_ret
  exact ⟨rfl, HB.out⟩
set_option maxHeartbeats 2000000 in
theorem jvmay_ft {w : World} {D' M' E' c : Int} {s' : Bool} (hM : (0 : Int) < 18446744073709551616) (hM' : (M' : Int) < 18446744073709551616) (hq : decide (MayQ D' s' M' E') = true) (hc : cmpI (rk 2 false 0 0) (rk D' s' M' E') = c) (hc0 : decide (c ≤ 0) = true) : Calls Try.prog 12 #[.agg #[.bool false, .int .i64 2, .bool false, .int .u64 0, .int .i64 0, .int .i64 D', .bool s', .int .u64 M', .int .i64 E']] w (PB w false) := by
  have HP : Hid (decide (MayQ 2 false 0 0) = true) := Lib.hid (by decide)
  have HN1 := Lib.hid trivial
  have HQ := Lib.hid hq
  have HC := Lib.hid hc
  have HC0 := Lib.hid hc0
  clear hq hc hc0
  go_enter Try.func12, Try.ntmps12
  go_upto_region 1 with (fail)
  have X1 := (Bo.newAt w (g := w.heap.size) (by simp) #[.bool false, .int .i64 2, .bool false, .int .u64 0, .int .i64 0, .int .i64 D', .bool s', .int .u64 M', .int .i64 E'] 26)
  have HB := Lib.hid (bel1 w (.cells #[.bool false, .int .i64 2, .bool false, .int .u64 0, .int .i64 0, .int .i64 D', .bool s', .int .u64 M', .int .i64 E'] 26))
  generalize hW1 : (w.alloc (.cells #[.bool false, .int .i64 2, .bool false, .int .u64 0, .int .i64 0, .int .i64 D', .bool s', .int .u64 M', .int .i64 E'] 26)) = w1 at *
  clear hW1
  obtain ⟨xX10, xX11, xX12, xX13, xX14, xX15, xX16, xX17, xX18⟩ := X1.ce9 rfl rfl rfl rfl rfl rfl rfl rfl rfl
  go_wp2_with fail
  refine (yMay HP.out).mono ?_
  rintro ee w2 ⟨rfl, B⟩
  clear xX10 xX11 xX12 xX13 xX14 xX15 xX16 xX17 xX18
  replace X1 := X1.below B
  replace HB := Lib.hid (bt HB.out B)
  clear B
  obtain ⟨xX10, xX11, xX12, xX13, xX14, xX15, xX16, xX17, xX18⟩ := X1.ce9 rfl rfl rfl rfl rfl rfl rfl rfl rfl
  go_wp2_with fail
  refine (yMay HQ.out).mono ?_
  rintro ee w3 ⟨rfl, B⟩
  clear xX10 xX11 xX12 xX13 xX14 xX15 xX16 xX17 xX18
  replace X1 := X1.below B
  replace HB := Lib.hid (bt HB.out B)
  clear B
  obtain ⟨xX10, xX11, xX12, xX13, xX14, xX15, xX16, xX17, xX18⟩ := X1.ce9 rfl rfl rfl rfl rfl rfl rfl rfl rfl
  go_upto_region 5 with (fail)
  clear xX10 xX11 xX12 xX13 xX14 xX15 xX16 xX17 xX18
  refine Jo.region_joint (T := [0, 1, 2, 3, 4, 5, 6, 7, 8, 9, 10, 11, 12, 13, 14, 15, 16, 17, 18, 19, 20, 21, 22, 23, 24]) (ds := [some 16, some 17, some 18, some 19, some 20, some 21, some 22, some 23, some 24, some 25, some 26, some 27, some 28, some 29, some 30, some 31, some 32, some 33, some 34, some 35, some 36, some 37, some 38, some 39, some 2]) (ls := [[], [0], [1], [1, 2], [3], [4], [4, 5], [4], [4, 7], [4, 6, 8], [4, 9], [4, 10], [11], [12], [12, 13], [12], [12, 14, 15], [12, 16], [17], [18], [18, 19], [18], [18, 20, 21], [18, 22], [23]]) (k := 25) (L := [(some 16, 0), (some 17, 1), (some 18, 2), (some 19, 3), (some 20, 4), (some 21, 5), (some 22, 6), (some 23, 7), (some 24, 8), (some 25, 9), (some 26, 10), (some 27, 11), (some 28, 12), (some 29, 13), (some 30, 14), (some 31, 15), (some 32, 16), (some 33, 17), (some 34, 18), (some 35, 19), (some 36, 20), (some 37, 21), (some 38, 22), (some 39, 23), (some 2, 24)]) (fuel := 0) (J := fun wj => Below (World.heap w3).size w3 wj)
    (F := [Jo.Fact.eq (.bool true), Jo.Fact.eq (.bool true), Jo.Fact.eq (.bool true), Jo.Fact.eq (.bool true), Jo.Fact.eq (.bool true), Jo.Fact.eq (.pointer (some ⟨w.heap.size, 1, none⟩)), Jo.Fact.eq (.agg #[.int .i64 2, .bool false, .int .u64 0, .int .i64 0]), Jo.Fact.eq (.pointer (some ⟨w.heap.size, 5, none⟩)), Jo.Fact.eq (.agg #[.int .i64 D', .bool s', .int .u64 M', .int .i64 E']), Jo.Fact.eq (.int .i64 c), Jo.Fact.eq (.bool true), Jo.Fact.eq (.bool true), Jo.Fact.eq (.bool true), Jo.Fact.eq (.pointer (some ⟨w.heap.size, 1, none⟩)), Jo.Fact.eq (.agg #[.int .i64 2, .bool false, .int .u64 0, .int .i64 0]), Jo.Fact.eq (.agg #[.int .i64 2, .bool false, .int .u64 0, .int .i64 0]), Jo.Fact.eq (.bool false), Jo.Fact.eq (.bool false), Jo.Fact.eq (.bool false), Jo.Fact.eq undef, Jo.Fact.eq undef, Jo.Fact.eq undef, Jo.Fact.eq undef, Jo.Fact.eq (.bool false), Jo.Fact.eq (.bool false)])
    (by kernel_rfl) (by kernel_rfl) (by decide) rfl rfl (fun _ _ h b => bt h b) ((Below.refl _ _).drew) ?_ (fun vs w8 hJ hd => ?_)
  · refine Jo.jd 0 (some 16) [] (Jo.Fact.eq (.bool true)) rfl rfl rfl rfl (fun vs wj hJ hd K hK => ?_) ?_
    · simp only [Jo.putl, Jo.ze, Act.put, Jo.za, Jo.zb, Jo.zc] at hK ⊢
      clear hd
      go_simp
      exact hK.out _ _ rfl (Below.refl _ _)
    refine Jo.jd 1 (some 17) [(some 16, 0)] (Jo.Fact.eq (.bool true)) rfl rfl rfl rfl (fun vs wj hJ hd K hK => ?_) ?_
    · simp only [Jo.putl, Jo.zd, Jo.ze, Act.put, Jo.za, Jo.zb, Jo.zc] at hK ⊢
      rw [show vs 0 = _ from hd 0 (by decide)] at hK ⊢
      clear hd
      go_simp
      exact hK.out _ _ rfl (Below.refl _ _)
    refine Jo.jd 2 (some 18) [(some 17, 1)] (Jo.Fact.eq (.bool true)) rfl rfl rfl rfl (fun vs wj hJ hd K hK => ?_) ?_
    · simp only [Jo.putl, Jo.zd, Jo.ze, Act.put, Jo.za, Jo.zb, Jo.zc] at hK ⊢
      rw [show vs 1 = _ from hd 1 (by decide)] at hK ⊢
      clear hd
      go_simp
      exact hK.out _ _ rfl (Below.refl _ _)
    refine Jo.jd 3 (some 19) [(some 17, 1), (some 18, 2)] (Jo.Fact.eq (.bool true)) rfl rfl rfl rfl (fun vs wj hJ hd K hK => ?_) ?_
    · simp only [Jo.putl, Jo.zd, Jo.ze, Act.put, Jo.za, Jo.zb, Jo.zc] at hK ⊢
      rw [show vs 1 = _ from hd 1 (by decide), show vs 2 = _ from hd 2 (by decide)] at hK ⊢
      clear hd
      go_simp
      exact hK.out _ _ rfl (Below.refl _ _)
    refine Jo.jd 4 (some 20) [(some 19, 3)] (Jo.Fact.eq (.bool true)) rfl rfl rfl rfl (fun vs wj hJ hd K hK => ?_) ?_
    · simp only [Jo.putl, Jo.zd, Jo.ze, Act.put, Jo.za, Jo.zb, Jo.zc] at hK ⊢
      rw [show vs 3 = _ from hd 3 (by decide)] at hK ⊢
      clear hd
      go_simp
      exact hK.out _ _ rfl (Below.refl _ _)
    refine Jo.jd 5 (some 21) [(some 20, 4)] (Jo.Fact.eq (.pointer (some ⟨w.heap.size, 1, none⟩))) rfl rfl rfl rfl (fun vs wj hJ hd K hK => ?_) ?_
    · simp only [Jo.putl, Jo.zd, Jo.ze, Act.put, Jo.za, Jo.zb, Jo.zc] at hK ⊢
      rw [show vs 4 = _ from hd 4 (by decide)] at hK ⊢
      clear hd
      go_simp
      exact hK.out _ _ rfl (Below.refl _ _)
    refine Jo.jd 6 (some 22) [(some 20, 4), (some 21, 5)] (Jo.Fact.eq (.agg #[.int .i64 2, .bool false, .int .u64 0, .int .i64 0])) rfl rfl rfl rfl (fun vs wj hJ hd K hK => ?_) ?_
    · simp only [Jo.putl, Jo.zd, Jo.ze, Act.put, Jo.za, Jo.zb, Jo.zc] at hK ⊢
      rw [show vs 4 = _ from hd 4 (by decide), show vs 5 = _ from hd 5 (by decide)] at hK ⊢
      clear hd
      have xX11 := (X1.below hJ).a 1 (.int .i64 2) rfl
      have xX12 := (X1.below hJ).a 2 (.bool false) rfl
      have xX13 := (X1.below hJ).a 3 (.int .u64 0) rfl
      have xX14 := (X1.below hJ).a 4 (.int .i64 0) rfl
      go_simp
      exact hK.out _ _ rfl (Below.refl _ _)
    refine Jo.jd 7 (some 23) [(some 20, 4)] (Jo.Fact.eq (.pointer (some ⟨w.heap.size, 5, none⟩))) rfl rfl rfl rfl (fun vs wj hJ hd K hK => ?_) ?_
    · simp only [Jo.putl, Jo.zd, Jo.ze, Act.put, Jo.za, Jo.zb, Jo.zc] at hK ⊢
      rw [show vs 4 = _ from hd 4 (by decide)] at hK ⊢
      clear hd
      go_simp
      exact hK.out _ _ rfl (Below.refl _ _)
    refine Jo.jd 8 (some 24) [(some 20, 4), (some 23, 7)] (Jo.Fact.eq (.agg #[.int .i64 D', .bool s', .int .u64 M', .int .i64 E'])) rfl rfl rfl rfl (fun vs wj hJ hd K hK => ?_) ?_
    · simp only [Jo.putl, Jo.zd, Jo.ze, Act.put, Jo.za, Jo.zb, Jo.zc] at hK ⊢
      rw [show vs 4 = _ from hd 4 (by decide), show vs 7 = _ from hd 7 (by decide)] at hK ⊢
      clear hd
      have xX15 := (X1.below hJ).a 5 (.int .i64 D') rfl
      have xX16 := (X1.below hJ).a 6 (.bool s') rfl
      have xX17 := (X1.below hJ).a 7 (.int .u64 M') rfl
      have xX18 := (X1.below hJ).a 8 (.int .i64 E') rfl
      go_simp
      exact hK.out _ _ rfl (Below.refl _ _)
    refine Jo.jd 9 (some 25) [(some 20, 4), (some 22, 6), (some 24, 8)] (Jo.Fact.eq (.int .i64 c)) rfl rfl rfl rfl (fun vs wj hJ hd K hK => ?_) ?_
    · simp only [Jo.putl, Jo.zd, Jo.ze, Act.put, Jo.za, Jo.zb, Jo.zc] at hK ⊢
      rw [show vs 4 = _ from hd 4 (by decide), show vs 6 = _ from hd 6 (by decide), show vs 8 = _ from hd 8 (by decide)] at hK ⊢
      clear hd
      go_simp
      refine (yCmp hM hM' HC.out).mono ?_
      rintro ee wk ⟨rfl, B⟩
      exact hK.out _ _ rfl B
    refine Jo.jd 10 (some 26) [(some 20, 4), (some 25, 9)] (Jo.Fact.eq (.bool true)) rfl rfl rfl rfl (fun vs wj hJ hd K hK => ?_) ?_
    · simp only [Jo.putl, Jo.zd, Jo.ze, Act.put, Jo.za, Jo.zb, Jo.zc] at hK ⊢
      rw [show vs 4 = _ from hd 4 (by decide), show vs 9 = _ from hd 9 (by decide)] at hK ⊢
      clear hd
      have hc0 := HC0.out
      go_simp
      exact hK.out _ _ (by first | rfl | (show Value.bool _ = Value.bool _; rw [hc0]) | simp_all) (Below.refl _ _)
    refine Jo.jd 11 (some 27) [(some 20, 4), (some 26, 10)] (Jo.Fact.eq (.bool true)) rfl rfl rfl rfl (fun vs wj hJ hd K hK => ?_) ?_
    · simp only [Jo.putl, Jo.zd, Jo.ze, Act.put, Jo.za, Jo.zb, Jo.zc] at hK ⊢
      rw [show vs 4 = _ from hd 4 (by decide), show vs 10 = _ from hd 10 (by decide)] at hK ⊢
      clear hd
      go_simp
      exact hK.out _ _ rfl (Below.refl _ _)
    refine Jo.jd 12 (some 28) [(some 27, 11)] (Jo.Fact.eq (.bool true)) rfl rfl rfl rfl (fun vs wj hJ hd K hK => ?_) ?_
    · simp only [Jo.putl, Jo.zd, Jo.ze, Act.put, Jo.za, Jo.zb, Jo.zc] at hK ⊢
      rw [show vs 11 = _ from hd 11 (by decide)] at hK ⊢
      clear hd
      go_simp
      exact hK.out _ _ rfl (Below.refl _ _)
    refine Jo.jd 13 (some 29) [(some 28, 12)] (Jo.Fact.eq (.pointer (some ⟨w.heap.size, 1, none⟩))) rfl rfl rfl rfl (fun vs wj hJ hd K hK => ?_) ?_
    · simp only [Jo.putl, Jo.zd, Jo.ze, Act.put, Jo.za, Jo.zb, Jo.zc] at hK ⊢
      rw [show vs 12 = _ from hd 12 (by decide)] at hK ⊢
      clear hd
      go_simp
      exact hK.out _ _ rfl (Below.refl _ _)
    refine Jo.jd 14 (some 30) [(some 28, 12), (some 29, 13)] (Jo.Fact.eq (.agg #[.int .i64 2, .bool false, .int .u64 0, .int .i64 0])) rfl rfl rfl rfl (fun vs wj hJ hd K hK => ?_) ?_
    · simp only [Jo.putl, Jo.zd, Jo.ze, Act.put, Jo.za, Jo.zb, Jo.zc] at hK ⊢
      rw [show vs 12 = _ from hd 12 (by decide), show vs 13 = _ from hd 13 (by decide)] at hK ⊢
      clear hd
      have xX11 := (X1.below hJ).a 1 (.int .i64 2) rfl
      have xX12 := (X1.below hJ).a 2 (.bool false) rfl
      have xX13 := (X1.below hJ).a 3 (.int .u64 0) rfl
      have xX14 := (X1.below hJ).a 4 (.int .i64 0) rfl
      go_simp
      exact hK.out _ _ rfl (Below.refl _ _)
    refine Jo.jd 15 (some 31) [(some 28, 12)] (Jo.Fact.eq (.agg #[.int .i64 2, .bool false, .int .u64 0, .int .i64 0])) rfl rfl rfl rfl (fun vs wj hJ hd K hK => ?_) ?_
    · simp only [Jo.putl, Jo.zd, Jo.ze, Act.put, Jo.za, Jo.zb, Jo.zc] at hK ⊢
      rw [show vs 12 = _ from hd 12 (by decide)] at hK ⊢
      clear hd
      go_simp
      refine (yInfE false).mono ?_
      rintro ee wk ⟨rfl, B⟩
      exact hK.out _ _ rfl B
    refine Jo.jd 16 (some 32) [(some 28, 12), (some 30, 14), (some 31, 15)] (Jo.Fact.eq (.bool false)) rfl rfl rfl rfl (fun vs wj hJ hd K hK => ?_) ?_
    · simp only [Jo.putl, Jo.zd, Jo.ze, Act.put, Jo.za, Jo.zb, Jo.zc] at hK ⊢
      rw [show vs 12 = _ from hd 12 (by decide), show vs 14 = _ from hd 14 (by decide), show vs 15 = _ from hd 15 (by decide)] at hK ⊢
      clear hd
      have hne := HN1.out
      go_simp
      repeat' split
      all_goals exact hK.out _ _ (congrArg Value.bool (by first | rfl | (exfalso; simp_all))) (Below.refl _ _)
    refine Jo.jd 17 (some 33) [(some 28, 12), (some 32, 16)] (Jo.Fact.eq (.bool false)) rfl rfl rfl rfl (fun vs wj hJ hd K hK => ?_) ?_
    · simp only [Jo.putl, Jo.zd, Jo.ze, Act.put, Jo.za, Jo.zb, Jo.zc] at hK ⊢
      rw [show vs 12 = _ from hd 12 (by decide), show vs 16 = _ from hd 16 (by decide)] at hK ⊢
      clear hd
      go_simp
      exact hK.out _ _ rfl (Below.refl _ _)
    refine Jo.jd 18 (some 34) [(some 33, 17)] (Jo.Fact.eq (.bool false)) rfl rfl rfl rfl (fun vs wj hJ hd K hK => ?_) ?_
    · simp only [Jo.putl, Jo.zd, Jo.ze, Act.put, Jo.za, Jo.zb, Jo.zc] at hK ⊢
      rw [show vs 17 = _ from hd 17 (by decide)] at hK ⊢
      clear hd
      go_simp
      exact hK.out _ _ rfl (Below.refl _ _)
    refine Jo.jd 19 (some 35) [(some 34, 18)] (Jo.Fact.eq undef) rfl rfl rfl rfl (fun vs wj hJ hd K hK => ?_) ?_
    · simp only [Jo.putl, Jo.zd, Jo.ze, Act.put, Jo.za, Jo.zb, Jo.zc] at hK ⊢
      rw [show vs 18 = _ from hd 18 (by decide)] at hK ⊢
      clear hd
      go_simp
      exact hK.out _ _ rfl (Below.refl _ _)
    refine Jo.jd 20 (some 36) [(some 34, 18), (some 35, 19)] (Jo.Fact.eq undef) rfl rfl rfl rfl (fun vs wj hJ hd K hK => ?_) ?_
    · have d19 : (Jo.Fact.eq undef).P (vs 19) wj := hd 19 (by decide)
      simp only [Jo.putl, Jo.zd, Jo.ze, Act.put, Jo.za, Jo.zb, Jo.zc] at hK ⊢
      rw [show vs 18 = _ from hd 18 (by decide)] at hK ⊢
      clear hd
      generalize vs 19 = u19 at hK d19 ⊢
      replace d19 : u19 = _ := d19
      subst d19
      go_simp
      exact hK.out _ _ rfl (Below.refl _ _)
    refine Jo.jd 21 (some 37) [(some 34, 18)] (Jo.Fact.eq undef) rfl rfl rfl rfl (fun vs wj hJ hd K hK => ?_) ?_
    · simp only [Jo.putl, Jo.zd, Jo.ze, Act.put, Jo.za, Jo.zb, Jo.zc] at hK ⊢
      rw [show vs 18 = _ from hd 18 (by decide)] at hK ⊢
      clear hd
      go_simp
      exact hK.out _ _ rfl (Below.refl _ _)
    refine Jo.jd 22 (some 38) [(some 34, 18), (some 36, 20), (some 37, 21)] (Jo.Fact.eq undef) rfl rfl rfl rfl (fun vs wj hJ hd K hK => ?_) ?_
    · have d20 : (Jo.Fact.eq undef).P (vs 20) wj := hd 20 (by decide)
      have d21 : (Jo.Fact.eq undef).P (vs 21) wj := hd 21 (by decide)
      simp only [Jo.putl, Jo.zd, Jo.ze, Act.put, Jo.za, Jo.zb, Jo.zc] at hK ⊢
      rw [show vs 18 = _ from hd 18 (by decide)] at hK ⊢
      clear hd
      generalize vs 20 = u20 at hK d20 ⊢
      generalize vs 21 = u21 at hK d21 ⊢
      replace d20 : u20 = _ := d20
      subst d20
      replace d21 : u21 = _ := d21
      subst d21
      go_simp
      exact hK.out _ _ rfl (Below.refl _ _)
    refine Jo.jd 23 (some 39) [(some 34, 18), (some 38, 22)] (Jo.Fact.eq (.bool false)) rfl rfl rfl rfl (fun vs wj hJ hd K hK => ?_) ?_
    · have d22 : (Jo.Fact.eq undef).P (vs 22) wj := hd 22 (by decide)
      simp only [Jo.putl, Jo.zd, Jo.ze, Act.put, Jo.za, Jo.zb, Jo.zc] at hK ⊢
      rw [show vs 18 = _ from hd 18 (by decide)] at hK ⊢
      clear hd
      generalize vs 22 = u22 at hK d22 ⊢
      replace d22 : u22 = _ := d22
      subst d22
      go_simp
      exact hK.out _ _ rfl (Below.refl _ _)
    refine Jo.jd 24 (some 2) [(some 39, 23)] (Jo.Fact.eq (.bool false)) rfl rfl rfl rfl (fun vs wj hJ hd K hK => ?_) ?_
    · simp only [Jo.putl, Jo.zd, Jo.ze, Act.put, Jo.za, Jo.zb, Jo.zc] at hK ⊢
      rw [show vs 23 = _ from hd 23 (by decide)] at hK ⊢
      clear hd
      go_simp
      exact hK.out _ _ rfl (Below.refl _ _)
    exact Jo.Steps.nil
  have d19 : (Jo.Fact.eq undef).P (vs 19) w8 := hd 19 (by decide)
  have d20 : (Jo.Fact.eq undef).P (vs 20) w8 := hd 20 (by decide)
  have d21 : (Jo.Fact.eq undef).P (vs 21) w8 := hd 21 (by decide)
  have d22 : (Jo.Fact.eq undef).P (vs 22) w8 := hd 22 (by decide)
  simp only [Jo.putl, Jo.zd, Jo.ze, Act.put, Jo.za, Jo.zb, Jo.zc]
  rw [show vs 0 = _ from hd 0 (by decide), show vs 1 = _ from hd 1 (by decide), show vs 2 = _ from hd 2 (by decide), show vs 3 = _ from hd 3 (by decide), show vs 4 = _ from hd 4 (by decide), show vs 6 = _ from hd 6 (by decide), show vs 8 = _ from hd 8 (by decide), show vs 9 = _ from hd 9 (by decide), show vs 10 = _ from hd 10 (by decide), show vs 11 = _ from hd 11 (by decide), show vs 12 = _ from hd 12 (by decide), show vs 14 = _ from hd 14 (by decide), show vs 15 = _ from hd 15 (by decide), show vs 16 = _ from hd 16 (by decide), show vs 17 = _ from hd 17 (by decide), show vs 18 = _ from hd 18 (by decide), show vs 23 = _ from hd 23 (by decide), show vs 24 = _ from hd 24 (by decide)]
  clear hd
  generalize vs 19 = u19 at d19 ⊢
  generalize vs 20 = u20 at d20 ⊢
  generalize vs 21 = u21 at d21 ⊢
  generalize vs 22 = u22 at d22 ⊢
  replace d19 : u19 = _ := d19
  subst d19
  replace d20 : u20 = _ := d20
  subst d20
  replace d21 : u21 = _ := d21
  subst d21
  replace d22 : u22 = _ := d22
  subst d22
  replace X1 := X1.below hJ
  replace HB := Lib.hid (bt HB.out hJ)
  refine Jo.jdone (by kernel_rfl) ?_
  go_wp2
  go_ret
  exact ⟨rfl, HB.out⟩
set_option maxHeartbeats 2000000 in
theorem jvmay_fb {w : World} {D M E c : Int} {s : Bool} (hM : (M : Int) < 18446744073709551616) (hM' : (0 : Int) < 18446744073709551616) (hp : decide (MayQ D s M E) = true) (hc : cmpI (rk D s M E) (rk 2 true 0 0) = c) (hc0 : decide (c ≤ 0) = true) (h1 : ¬ (D = 2 ∧ s = false ∧ M = 0 ∧ E = 0)) : Calls Try.prog 12 #[.agg #[.bool false, .int .i64 D, .bool s, .int .u64 M, .int .i64 E, .int .i64 2, .bool true, .int .u64 0, .int .i64 0]] w (PB w false) := by
  have HQ : Hid (decide (MayQ 2 true 0 0) = true) := Lib.hid (by decide)
  have HN2 := Lib.hid trivial
  have HP := Lib.hid hp
  have HC := Lib.hid hc
  have HC0 := Lib.hid hc0
  have HN1 := Lib.hid h1
  clear hp hc hc0 h1
  go_enter Try.func12, Try.ntmps12
  go_upto_region 1 with (fail)
  have X1 := (Bo.newAt w (g := w.heap.size) (by simp) #[.bool false, .int .i64 D, .bool s, .int .u64 M, .int .i64 E, .int .i64 2, .bool true, .int .u64 0, .int .i64 0] 26)
  have HB := Lib.hid (bel1 w (.cells #[.bool false, .int .i64 D, .bool s, .int .u64 M, .int .i64 E, .int .i64 2, .bool true, .int .u64 0, .int .i64 0] 26))
  generalize hW1 : (w.alloc (.cells #[.bool false, .int .i64 D, .bool s, .int .u64 M, .int .i64 E, .int .i64 2, .bool true, .int .u64 0, .int .i64 0] 26)) = w1 at *
  clear hW1
  obtain ⟨xX10, xX11, xX12, xX13, xX14, xX15, xX16, xX17, xX18⟩ := X1.ce9 rfl rfl rfl rfl rfl rfl rfl rfl rfl
  go_wp2_with fail
  refine (yMay HP.out).mono ?_
  rintro ee w2 ⟨rfl, B⟩
  clear xX10 xX11 xX12 xX13 xX14 xX15 xX16 xX17 xX18
  replace X1 := X1.below B
  replace HB := Lib.hid (bt HB.out B)
  clear B
  obtain ⟨xX10, xX11, xX12, xX13, xX14, xX15, xX16, xX17, xX18⟩ := X1.ce9 rfl rfl rfl rfl rfl rfl rfl rfl rfl
  go_wp2_with fail
  refine (yMay HQ.out).mono ?_
  rintro ee w3 ⟨rfl, B⟩
  clear xX10 xX11 xX12 xX13 xX14 xX15 xX16 xX17 xX18
  replace X1 := X1.below B
  replace HB := Lib.hid (bt HB.out B)
  clear B
  obtain ⟨xX10, xX11, xX12, xX13, xX14, xX15, xX16, xX17, xX18⟩ := X1.ce9 rfl rfl rfl rfl rfl rfl rfl rfl rfl
  go_upto_region 5 with (fail)
  clear xX10 xX11 xX12 xX13 xX14 xX15 xX16 xX17 xX18
  refine Jo.region_joint (T := [0, 1, 2, 3, 4, 5, 6, 7, 8, 9, 10, 11, 12, 13, 14, 15, 16, 17, 18, 19, 20, 21, 22, 23, 24]) (ds := [some 16, some 17, some 18, some 19, some 20, some 21, some 22, some 23, some 24, some 25, some 26, some 27, some 28, some 29, some 30, some 31, some 32, some 33, some 34, some 35, some 36, some 37, some 38, some 39, some 2]) (ls := [[], [0], [1], [1, 2], [3], [4], [4, 5], [4], [4, 7], [4, 6, 8], [4, 9], [4, 10], [11], [12], [12, 13], [12], [12, 14, 15], [12, 16], [17], [18], [18, 19], [18], [18, 20, 21], [18, 22], [23]]) (k := 25) (L := [(some 16, 0), (some 17, 1), (some 18, 2), (some 19, 3), (some 20, 4), (some 21, 5), (some 22, 6), (some 23, 7), (some 24, 8), (some 25, 9), (some 26, 10), (some 27, 11), (some 28, 12), (some 29, 13), (some 30, 14), (some 31, 15), (some 32, 16), (some 33, 17), (some 34, 18), (some 35, 19), (some 36, 20), (some 37, 21), (some 38, 22), (some 39, 23), (some 2, 24)]) (fuel := 0) (J := fun wj => Below (World.heap w3).size w3 wj)
    (F := [Jo.Fact.eq (.bool true), Jo.Fact.eq (.bool true), Jo.Fact.eq (.bool true), Jo.Fact.eq (.bool true), Jo.Fact.eq (.bool true), Jo.Fact.eq (.pointer (some ⟨w.heap.size, 1, none⟩)), Jo.Fact.eq (.agg #[.int .i64 D, .bool s, .int .u64 M, .int .i64 E]), Jo.Fact.eq (.pointer (some ⟨w.heap.size, 5, none⟩)), Jo.Fact.eq (.agg #[.int .i64 2, .bool true, .int .u64 0, .int .i64 0]), Jo.Fact.eq (.int .i64 c), Jo.Fact.eq (.bool true), Jo.Fact.eq (.bool true), Jo.Fact.eq (.bool true), Jo.Fact.eq (.pointer (some ⟨w.heap.size, 1, none⟩)), Jo.Fact.eq (.agg #[.int .i64 D, .bool s, .int .u64 M, .int .i64 E]), Jo.Fact.eq (.agg #[.int .i64 2, .bool false, .int .u64 0, .int .i64 0]), Jo.Fact.eq (.bool true), Jo.Fact.eq (.bool true), Jo.Fact.eq (.bool true), Jo.Fact.eq (.pointer (some ⟨w.heap.size, 5, none⟩)), Jo.Fact.eq (.agg #[.int .i64 2, .bool true, .int .u64 0, .int .i64 0]), Jo.Fact.eq (.agg #[.int .i64 2, .bool true, .int .u64 0, .int .i64 0]), Jo.Fact.eq (.bool false), Jo.Fact.eq (.bool false), Jo.Fact.eq (.bool false)])
    (by kernel_rfl) (by kernel_rfl) (by decide) rfl rfl (fun _ _ h b => bt h b) ((Below.refl _ _).drew) ?_ (fun vs w8 hJ hd => ?_)
  · refine Jo.jd 0 (some 16) [] (Jo.Fact.eq (.bool true)) rfl rfl rfl rfl (fun vs wj hJ hd K hK => ?_) ?_
    · simp only [Jo.putl, Jo.ze, Act.put, Jo.za, Jo.zb, Jo.zc] at hK ⊢
      clear hd
      go_simp
      exact hK.out _ _ rfl (Below.refl _ _)
    refine Jo.jd 1 (some 17) [(some 16, 0)] (Jo.Fact.eq (.bool true)) rfl rfl rfl rfl (fun vs wj hJ hd K hK => ?_) ?_
    · simp only [Jo.putl, Jo.zd, Jo.ze, Act.put, Jo.za, Jo.zb, Jo.zc] at hK ⊢
      rw [show vs 0 = _ from hd 0 (by decide)] at hK ⊢
      clear hd
      go_simp
      exact hK.out _ _ rfl (Below.refl _ _)
    refine Jo.jd 2 (some 18) [(some 17, 1)] (Jo.Fact.eq (.bool true)) rfl rfl rfl rfl (fun vs wj hJ hd K hK => ?_) ?_
    · simp only [Jo.putl, Jo.zd, Jo.ze, Act.put, Jo.za, Jo.zb, Jo.zc] at hK ⊢
      rw [show vs 1 = _ from hd 1 (by decide)] at hK ⊢
      clear hd
      go_simp
      exact hK.out _ _ rfl (Below.refl _ _)
    refine Jo.jd 3 (some 19) [(some 17, 1), (some 18, 2)] (Jo.Fact.eq (.bool true)) rfl rfl rfl rfl (fun vs wj hJ hd K hK => ?_) ?_
    · simp only [Jo.putl, Jo.zd, Jo.ze, Act.put, Jo.za, Jo.zb, Jo.zc] at hK ⊢
      rw [show vs 1 = _ from hd 1 (by decide), show vs 2 = _ from hd 2 (by decide)] at hK ⊢
      clear hd
      go_simp
      exact hK.out _ _ rfl (Below.refl _ _)
    refine Jo.jd 4 (some 20) [(some 19, 3)] (Jo.Fact.eq (.bool true)) rfl rfl rfl rfl (fun vs wj hJ hd K hK => ?_) ?_
    · simp only [Jo.putl, Jo.zd, Jo.ze, Act.put, Jo.za, Jo.zb, Jo.zc] at hK ⊢
      rw [show vs 3 = _ from hd 3 (by decide)] at hK ⊢
      clear hd
      go_simp
      exact hK.out _ _ rfl (Below.refl _ _)
    refine Jo.jd 5 (some 21) [(some 20, 4)] (Jo.Fact.eq (.pointer (some ⟨w.heap.size, 1, none⟩))) rfl rfl rfl rfl (fun vs wj hJ hd K hK => ?_) ?_
    · simp only [Jo.putl, Jo.zd, Jo.ze, Act.put, Jo.za, Jo.zb, Jo.zc] at hK ⊢
      rw [show vs 4 = _ from hd 4 (by decide)] at hK ⊢
      clear hd
      go_simp
      exact hK.out _ _ rfl (Below.refl _ _)
    refine Jo.jd 6 (some 22) [(some 20, 4), (some 21, 5)] (Jo.Fact.eq (.agg #[.int .i64 D, .bool s, .int .u64 M, .int .i64 E])) rfl rfl rfl rfl (fun vs wj hJ hd K hK => ?_) ?_
    · simp only [Jo.putl, Jo.zd, Jo.ze, Act.put, Jo.za, Jo.zb, Jo.zc] at hK ⊢
      rw [show vs 4 = _ from hd 4 (by decide), show vs 5 = _ from hd 5 (by decide)] at hK ⊢
      clear hd
      have xX11 := (X1.below hJ).a 1 (.int .i64 D) rfl
      have xX12 := (X1.below hJ).a 2 (.bool s) rfl
      have xX13 := (X1.below hJ).a 3 (.int .u64 M) rfl
      have xX14 := (X1.below hJ).a 4 (.int .i64 E) rfl
      go_simp
      exact hK.out _ _ rfl (Below.refl _ _)
    refine Jo.jd 7 (some 23) [(some 20, 4)] (Jo.Fact.eq (.pointer (some ⟨w.heap.size, 5, none⟩))) rfl rfl rfl rfl (fun vs wj hJ hd K hK => ?_) ?_
    · simp only [Jo.putl, Jo.zd, Jo.ze, Act.put, Jo.za, Jo.zb, Jo.zc] at hK ⊢
      rw [show vs 4 = _ from hd 4 (by decide)] at hK ⊢
      clear hd
      go_simp
      exact hK.out _ _ rfl (Below.refl _ _)
    refine Jo.jd 8 (some 24) [(some 20, 4), (some 23, 7)] (Jo.Fact.eq (.agg #[.int .i64 2, .bool true, .int .u64 0, .int .i64 0])) rfl rfl rfl rfl (fun vs wj hJ hd K hK => ?_) ?_
    · simp only [Jo.putl, Jo.zd, Jo.ze, Act.put, Jo.za, Jo.zb, Jo.zc] at hK ⊢
      rw [show vs 4 = _ from hd 4 (by decide), show vs 7 = _ from hd 7 (by decide)] at hK ⊢
      clear hd
      have xX15 := (X1.below hJ).a 5 (.int .i64 2) rfl
      have xX16 := (X1.below hJ).a 6 (.bool true) rfl
      have xX17 := (X1.below hJ).a 7 (.int .u64 0) rfl
      have xX18 := (X1.below hJ).a 8 (.int .i64 0) rfl
      go_simp
      exact hK.out _ _ rfl (Below.refl _ _)
    refine Jo.jd 9 (some 25) [(some 20, 4), (some 22, 6), (some 24, 8)] (Jo.Fact.eq (.int .i64 c)) rfl rfl rfl rfl (fun vs wj hJ hd K hK => ?_) ?_
    · simp only [Jo.putl, Jo.zd, Jo.ze, Act.put, Jo.za, Jo.zb, Jo.zc] at hK ⊢
      rw [show vs 4 = _ from hd 4 (by decide), show vs 6 = _ from hd 6 (by decide), show vs 8 = _ from hd 8 (by decide)] at hK ⊢
      clear hd
      go_simp
      refine (yCmp hM hM' HC.out).mono ?_
      rintro ee wk ⟨rfl, B⟩
      exact hK.out _ _ rfl B
    refine Jo.jd 10 (some 26) [(some 20, 4), (some 25, 9)] (Jo.Fact.eq (.bool true)) rfl rfl rfl rfl (fun vs wj hJ hd K hK => ?_) ?_
    · simp only [Jo.putl, Jo.zd, Jo.ze, Act.put, Jo.za, Jo.zb, Jo.zc] at hK ⊢
      rw [show vs 4 = _ from hd 4 (by decide), show vs 9 = _ from hd 9 (by decide)] at hK ⊢
      clear hd
      have hc0 := HC0.out
      go_simp
      exact hK.out _ _ (by first | rfl | (show Value.bool _ = Value.bool _; rw [hc0]) | simp_all) (Below.refl _ _)
    refine Jo.jd 11 (some 27) [(some 20, 4), (some 26, 10)] (Jo.Fact.eq (.bool true)) rfl rfl rfl rfl (fun vs wj hJ hd K hK => ?_) ?_
    · simp only [Jo.putl, Jo.zd, Jo.ze, Act.put, Jo.za, Jo.zb, Jo.zc] at hK ⊢
      rw [show vs 4 = _ from hd 4 (by decide), show vs 10 = _ from hd 10 (by decide)] at hK ⊢
      clear hd
      go_simp
      exact hK.out _ _ rfl (Below.refl _ _)
    refine Jo.jd 12 (some 28) [(some 27, 11)] (Jo.Fact.eq (.bool true)) rfl rfl rfl rfl (fun vs wj hJ hd K hK => ?_) ?_
    · simp only [Jo.putl, Jo.zd, Jo.ze, Act.put, Jo.za, Jo.zb, Jo.zc] at hK ⊢
      rw [show vs 11 = _ from hd 11 (by decide)] at hK ⊢
      clear hd
      go_simp
      exact hK.out _ _ rfl (Below.refl _ _)
    refine Jo.jd 13 (some 29) [(some 28, 12)] (Jo.Fact.eq (.pointer (some ⟨w.heap.size, 1, none⟩))) rfl rfl rfl rfl (fun vs wj hJ hd K hK => ?_) ?_
    · simp only [Jo.putl, Jo.zd, Jo.ze, Act.put, Jo.za, Jo.zb, Jo.zc] at hK ⊢
      rw [show vs 12 = _ from hd 12 (by decide)] at hK ⊢
      clear hd
      go_simp
      exact hK.out _ _ rfl (Below.refl _ _)
    refine Jo.jd 14 (some 30) [(some 28, 12), (some 29, 13)] (Jo.Fact.eq (.agg #[.int .i64 D, .bool s, .int .u64 M, .int .i64 E])) rfl rfl rfl rfl (fun vs wj hJ hd K hK => ?_) ?_
    · simp only [Jo.putl, Jo.zd, Jo.ze, Act.put, Jo.za, Jo.zb, Jo.zc] at hK ⊢
      rw [show vs 12 = _ from hd 12 (by decide), show vs 13 = _ from hd 13 (by decide)] at hK ⊢
      clear hd
      have xX11 := (X1.below hJ).a 1 (.int .i64 D) rfl
      have xX12 := (X1.below hJ).a 2 (.bool s) rfl
      have xX13 := (X1.below hJ).a 3 (.int .u64 M) rfl
      have xX14 := (X1.below hJ).a 4 (.int .i64 E) rfl
      go_simp
      exact hK.out _ _ rfl (Below.refl _ _)
    refine Jo.jd 15 (some 31) [(some 28, 12)] (Jo.Fact.eq (.agg #[.int .i64 2, .bool false, .int .u64 0, .int .i64 0])) rfl rfl rfl rfl (fun vs wj hJ hd K hK => ?_) ?_
    · simp only [Jo.putl, Jo.zd, Jo.ze, Act.put, Jo.za, Jo.zb, Jo.zc] at hK ⊢
      rw [show vs 12 = _ from hd 12 (by decide)] at hK ⊢
      clear hd
      go_simp
      refine (yInfE false).mono ?_
      rintro ee wk ⟨rfl, B⟩
      exact hK.out _ _ rfl B
    refine Jo.jd 16 (some 32) [(some 28, 12), (some 30, 14), (some 31, 15)] (Jo.Fact.eq (.bool true)) rfl rfl rfl rfl (fun vs wj hJ hd K hK => ?_) ?_
    · simp only [Jo.putl, Jo.zd, Jo.ze, Act.put, Jo.za, Jo.zb, Jo.zc] at hK ⊢
      rw [show vs 12 = _ from hd 12 (by decide), show vs 14 = _ from hd 14 (by decide), show vs 15 = _ from hd 15 (by decide)] at hK ⊢
      clear hd
      have hne := HN1.out
      go_simp
      repeat' split
      all_goals exact hK.out _ _ (congrArg Value.bool (by first | rfl | (exfalso; simp_all))) (Below.refl _ _)
    refine Jo.jd 17 (some 33) [(some 28, 12), (some 32, 16)] (Jo.Fact.eq (.bool true)) rfl rfl rfl rfl (fun vs wj hJ hd K hK => ?_) ?_
    · simp only [Jo.putl, Jo.zd, Jo.ze, Act.put, Jo.za, Jo.zb, Jo.zc] at hK ⊢
      rw [show vs 12 = _ from hd 12 (by decide), show vs 16 = _ from hd 16 (by decide)] at hK ⊢
      clear hd
      go_simp
      exact hK.out _ _ rfl (Below.refl _ _)
    refine Jo.jd 18 (some 34) [(some 33, 17)] (Jo.Fact.eq (.bool true)) rfl rfl rfl rfl (fun vs wj hJ hd K hK => ?_) ?_
    · simp only [Jo.putl, Jo.zd, Jo.ze, Act.put, Jo.za, Jo.zb, Jo.zc] at hK ⊢
      rw [show vs 17 = _ from hd 17 (by decide)] at hK ⊢
      clear hd
      go_simp
      exact hK.out _ _ rfl (Below.refl _ _)
    refine Jo.jd 19 (some 35) [(some 34, 18)] (Jo.Fact.eq (.pointer (some ⟨w.heap.size, 5, none⟩))) rfl rfl rfl rfl (fun vs wj hJ hd K hK => ?_) ?_
    · simp only [Jo.putl, Jo.zd, Jo.ze, Act.put, Jo.za, Jo.zb, Jo.zc] at hK ⊢
      rw [show vs 18 = _ from hd 18 (by decide)] at hK ⊢
      clear hd
      go_simp
      exact hK.out _ _ rfl (Below.refl _ _)
    refine Jo.jd 20 (some 36) [(some 34, 18), (some 35, 19)] (Jo.Fact.eq (.agg #[.int .i64 2, .bool true, .int .u64 0, .int .i64 0])) rfl rfl rfl rfl (fun vs wj hJ hd K hK => ?_) ?_
    · simp only [Jo.putl, Jo.zd, Jo.ze, Act.put, Jo.za, Jo.zb, Jo.zc] at hK ⊢
      rw [show vs 18 = _ from hd 18 (by decide), show vs 19 = _ from hd 19 (by decide)] at hK ⊢
      clear hd
      have xX15 := (X1.below hJ).a 5 (.int .i64 2) rfl
      have xX16 := (X1.below hJ).a 6 (.bool true) rfl
      have xX17 := (X1.below hJ).a 7 (.int .u64 0) rfl
      have xX18 := (X1.below hJ).a 8 (.int .i64 0) rfl
      go_simp
      exact hK.out _ _ rfl (Below.refl _ _)
    refine Jo.jd 21 (some 37) [(some 34, 18)] (Jo.Fact.eq (.agg #[.int .i64 2, .bool true, .int .u64 0, .int .i64 0])) rfl rfl rfl rfl (fun vs wj hJ hd K hK => ?_) ?_
    · simp only [Jo.putl, Jo.zd, Jo.ze, Act.put, Jo.za, Jo.zb, Jo.zc] at hK ⊢
      rw [show vs 18 = _ from hd 18 (by decide)] at hK ⊢
      clear hd
      go_simp
      refine (yInfE true).mono ?_
      rintro ee wk ⟨rfl, B⟩
      exact hK.out _ _ rfl B
    refine Jo.jd 22 (some 38) [(some 34, 18), (some 36, 20), (some 37, 21)] (Jo.Fact.eq (.bool false)) rfl rfl rfl rfl (fun vs wj hJ hd K hK => ?_) ?_
    · simp only [Jo.putl, Jo.zd, Jo.ze, Act.put, Jo.za, Jo.zb, Jo.zc] at hK ⊢
      rw [show vs 18 = _ from hd 18 (by decide), show vs 20 = _ from hd 20 (by decide), show vs 21 = _ from hd 21 (by decide)] at hK ⊢
      clear hd
      have hne := HN2.out
      go_simp
      repeat' split
      all_goals exact hK.out _ _ (congrArg Value.bool (by first | rfl | (exfalso; simp_all))) (Below.refl _ _)
    refine Jo.jd 23 (some 39) [(some 34, 18), (some 38, 22)] (Jo.Fact.eq (.bool false)) rfl rfl rfl rfl (fun vs wj hJ hd K hK => ?_) ?_
    · simp only [Jo.putl, Jo.zd, Jo.ze, Act.put, Jo.za, Jo.zb, Jo.zc] at hK ⊢
      rw [show vs 18 = _ from hd 18 (by decide), show vs 22 = _ from hd 22 (by decide)] at hK ⊢
      clear hd
      go_simp
      exact hK.out _ _ rfl (Below.refl _ _)
    refine Jo.jd 24 (some 2) [(some 39, 23)] (Jo.Fact.eq (.bool false)) rfl rfl rfl rfl (fun vs wj hJ hd K hK => ?_) ?_
    · simp only [Jo.putl, Jo.zd, Jo.ze, Act.put, Jo.za, Jo.zb, Jo.zc] at hK ⊢
      rw [show vs 23 = _ from hd 23 (by decide)] at hK ⊢
      clear hd
      go_simp
      exact hK.out _ _ rfl (Below.refl _ _)
    exact Jo.Steps.nil
  simp only [Jo.putl, Jo.zd, Jo.ze, Act.put, Jo.za, Jo.zb, Jo.zc]
  rw [show vs 0 = _ from hd 0 (by decide), show vs 1 = _ from hd 1 (by decide), show vs 2 = _ from hd 2 (by decide), show vs 3 = _ from hd 3 (by decide), show vs 4 = _ from hd 4 (by decide), show vs 6 = _ from hd 6 (by decide), show vs 8 = _ from hd 8 (by decide), show vs 9 = _ from hd 9 (by decide), show vs 10 = _ from hd 10 (by decide), show vs 11 = _ from hd 11 (by decide), show vs 12 = _ from hd 12 (by decide), show vs 14 = _ from hd 14 (by decide), show vs 15 = _ from hd 15 (by decide), show vs 16 = _ from hd 16 (by decide), show vs 17 = _ from hd 17 (by decide), show vs 18 = _ from hd 18 (by decide), show vs 20 = _ from hd 20 (by decide), show vs 21 = _ from hd 21 (by decide), show vs 22 = _ from hd 22 (by decide), show vs 23 = _ from hd 23 (by decide), show vs 24 = _ from hd 24 (by decide)]
  clear hd
  replace X1 := X1.below hJ
  replace HB := Lib.hid (bt HB.out hJ)
  refine Jo.jdone (by kernel_rfl) ?_
  go_wp2
  go_ret
  exact ⟨rfl, HB.out⟩
set_option maxHeartbeats 2000000 in
theorem jvmay_fy {w : World} {D M E D' M' E' c : Int} {s s' : Bool} (hM : (M : Int) < 18446744073709551616) (hM' : (M' : Int) < 18446744073709551616) (hp : decide (MayQ D s M E) = true) (hq : decide (MayQ D' s' M' E') = true) (hc : cmpI (rk D s M E) (rk D' s' M' E') = c) (hc0 : decide (c ≤ 0) = true) (h1 : ¬ (D = 2 ∧ s = false ∧ M = 0 ∧ E = 0)) (h2 : ¬ (D' = 2 ∧ s' = true ∧ M' = 0 ∧ E' = 0)) : Calls Try.prog 12 #[.agg #[.bool false, .int .i64 D, .bool s, .int .u64 M, .int .i64 E, .int .i64 D', .bool s', .int .u64 M', .int .i64 E']] w (PB w true) := by
  have HP := Lib.hid hp
  have HQ := Lib.hid hq
  have HC := Lib.hid hc
  have HC0 := Lib.hid hc0
  have HN1 := Lib.hid h1
  have HN2 := Lib.hid h2
  clear hp hq hc hc0 h1 h2
  go_enter Try.func12, Try.ntmps12
  go_upto_region 1 with (fail)
  have X1 := (Bo.newAt w (g := w.heap.size) (by simp) #[.bool false, .int .i64 D, .bool s, .int .u64 M, .int .i64 E, .int .i64 D', .bool s', .int .u64 M', .int .i64 E'] 26)
  have HB := Lib.hid (bel1 w (.cells #[.bool false, .int .i64 D, .bool s, .int .u64 M, .int .i64 E, .int .i64 D', .bool s', .int .u64 M', .int .i64 E'] 26))
  generalize hW1 : (w.alloc (.cells #[.bool false, .int .i64 D, .bool s, .int .u64 M, .int .i64 E, .int .i64 D', .bool s', .int .u64 M', .int .i64 E'] 26)) = w1 at *
  clear hW1
  obtain ⟨xX10, xX11, xX12, xX13, xX14, xX15, xX16, xX17, xX18⟩ := X1.ce9 rfl rfl rfl rfl rfl rfl rfl rfl rfl
  go_wp2_with fail
  refine (yMay HP.out).mono ?_
  rintro ee w2 ⟨rfl, B⟩
  clear xX10 xX11 xX12 xX13 xX14 xX15 xX16 xX17 xX18
  replace X1 := X1.below B
  replace HB := Lib.hid (bt HB.out B)
  clear B
  obtain ⟨xX10, xX11, xX12, xX13, xX14, xX15, xX16, xX17, xX18⟩ := X1.ce9 rfl rfl rfl rfl rfl rfl rfl rfl rfl
  go_wp2_with fail
  refine (yMay HQ.out).mono ?_
  rintro ee w3 ⟨rfl, B⟩
  clear xX10 xX11 xX12 xX13 xX14 xX15 xX16 xX17 xX18
  replace X1 := X1.below B
  replace HB := Lib.hid (bt HB.out B)
  clear B
  obtain ⟨xX10, xX11, xX12, xX13, xX14, xX15, xX16, xX17, xX18⟩ := X1.ce9 rfl rfl rfl rfl rfl rfl rfl rfl rfl
  go_upto_region 5 with (fail)
  clear xX10 xX11 xX12 xX13 xX14 xX15 xX16 xX17 xX18
  refine Jo.region_joint (T := [0, 1, 2, 3, 4, 5, 6, 7, 8, 9, 10, 11, 12, 13, 14, 15, 16, 17, 18, 19, 20, 21, 22, 23, 24]) (ds := [some 16, some 17, some 18, some 19, some 20, some 21, some 22, some 23, some 24, some 25, some 26, some 27, some 28, some 29, some 30, some 31, some 32, some 33, some 34, some 35, some 36, some 37, some 38, some 39, some 2]) (ls := [[], [0], [1], [1, 2], [3], [4], [4, 5], [4], [4, 7], [4, 6, 8], [4, 9], [4, 10], [11], [12], [12, 13], [12], [12, 14, 15], [12, 16], [17], [18], [18, 19], [18], [18, 20, 21], [18, 22], [23]]) (k := 25) (L := [(some 16, 0), (some 17, 1), (some 18, 2), (some 19, 3), (some 20, 4), (some 21, 5), (some 22, 6), (some 23, 7), (some 24, 8), (some 25, 9), (some 26, 10), (some 27, 11), (some 28, 12), (some 29, 13), (some 30, 14), (some 31, 15), (some 32, 16), (some 33, 17), (some 34, 18), (some 35, 19), (some 36, 20), (some 37, 21), (some 38, 22), (some 39, 23), (some 2, 24)]) (fuel := 0) (J := fun wj => Below (World.heap w3).size w3 wj)
    (F := [Jo.Fact.eq (.bool true), Jo.Fact.eq (.bool true), Jo.Fact.eq (.bool true), Jo.Fact.eq (.bool true), Jo.Fact.eq (.bool true), Jo.Fact.eq (.pointer (some ⟨w.heap.size, 1, none⟩)), Jo.Fact.eq (.agg #[.int .i64 D, .bool s, .int .u64 M, .int .i64 E]), Jo.Fact.eq (.pointer (some ⟨w.heap.size, 5, none⟩)), Jo.Fact.eq (.agg #[.int .i64 D', .bool s', .int .u64 M', .int .i64 E']), Jo.Fact.eq (.int .i64 c), Jo.Fact.eq (.bool true), Jo.Fact.eq (.bool true), Jo.Fact.eq (.bool true), Jo.Fact.eq (.pointer (some ⟨w.heap.size, 1, none⟩)), Jo.Fact.eq (.agg #[.int .i64 D, .bool s, .int .u64 M, .int .i64 E]), Jo.Fact.eq (.agg #[.int .i64 2, .bool false, .int .u64 0, .int .i64 0]), Jo.Fact.eq (.bool true), Jo.Fact.eq (.bool true), Jo.Fact.eq (.bool true), Jo.Fact.eq (.pointer (some ⟨w.heap.size, 5, none⟩)), Jo.Fact.eq (.agg #[.int .i64 D', .bool s', .int .u64 M', .int .i64 E']), Jo.Fact.eq (.agg #[.int .i64 2, .bool true, .int .u64 0, .int .i64 0]), Jo.Fact.eq (.bool true), Jo.Fact.eq (.bool true), Jo.Fact.eq (.bool true)])
    (by kernel_rfl) (by kernel_rfl) (by decide) rfl rfl (fun _ _ h b => bt h b) ((Below.refl _ _).drew) ?_ (fun vs w8 hJ hd => ?_)
  · refine Jo.jd 0 (some 16) [] (Jo.Fact.eq (.bool true)) rfl rfl rfl rfl (fun vs wj hJ hd K hK => ?_) ?_
    · simp only [Jo.putl, Jo.ze, Act.put, Jo.za, Jo.zb, Jo.zc] at hK ⊢
      clear hd
      go_simp
      exact hK.out _ _ rfl (Below.refl _ _)
    refine Jo.jd 1 (some 17) [(some 16, 0)] (Jo.Fact.eq (.bool true)) rfl rfl rfl rfl (fun vs wj hJ hd K hK => ?_) ?_
    · simp only [Jo.putl, Jo.zd, Jo.ze, Act.put, Jo.za, Jo.zb, Jo.zc] at hK ⊢
      rw [show vs 0 = _ from hd 0 (by decide)] at hK ⊢
      clear hd
      go_simp
      exact hK.out _ _ rfl (Below.refl _ _)
    refine Jo.jd 2 (some 18) [(some 17, 1)] (Jo.Fact.eq (.bool true)) rfl rfl rfl rfl (fun vs wj hJ hd K hK => ?_) ?_
    · simp only [Jo.putl, Jo.zd, Jo.ze, Act.put, Jo.za, Jo.zb, Jo.zc] at hK ⊢
      rw [show vs 1 = _ from hd 1 (by decide)] at hK ⊢
      clear hd
      go_simp
      exact hK.out _ _ rfl (Below.refl _ _)
    refine Jo.jd 3 (some 19) [(some 17, 1), (some 18, 2)] (Jo.Fact.eq (.bool true)) rfl rfl rfl rfl (fun vs wj hJ hd K hK => ?_) ?_
    · simp only [Jo.putl, Jo.zd, Jo.ze, Act.put, Jo.za, Jo.zb, Jo.zc] at hK ⊢
      rw [show vs 1 = _ from hd 1 (by decide), show vs 2 = _ from hd 2 (by decide)] at hK ⊢
      clear hd
      go_simp
      exact hK.out _ _ rfl (Below.refl _ _)
    refine Jo.jd 4 (some 20) [(some 19, 3)] (Jo.Fact.eq (.bool true)) rfl rfl rfl rfl (fun vs wj hJ hd K hK => ?_) ?_
    · simp only [Jo.putl, Jo.zd, Jo.ze, Act.put, Jo.za, Jo.zb, Jo.zc] at hK ⊢
      rw [show vs 3 = _ from hd 3 (by decide)] at hK ⊢
      clear hd
      go_simp
      exact hK.out _ _ rfl (Below.refl _ _)
    refine Jo.jd 5 (some 21) [(some 20, 4)] (Jo.Fact.eq (.pointer (some ⟨w.heap.size, 1, none⟩))) rfl rfl rfl rfl (fun vs wj hJ hd K hK => ?_) ?_
    · simp only [Jo.putl, Jo.zd, Jo.ze, Act.put, Jo.za, Jo.zb, Jo.zc] at hK ⊢
      rw [show vs 4 = _ from hd 4 (by decide)] at hK ⊢
      clear hd
      go_simp
      exact hK.out _ _ rfl (Below.refl _ _)
    refine Jo.jd 6 (some 22) [(some 20, 4), (some 21, 5)] (Jo.Fact.eq (.agg #[.int .i64 D, .bool s, .int .u64 M, .int .i64 E])) rfl rfl rfl rfl (fun vs wj hJ hd K hK => ?_) ?_
    · simp only [Jo.putl, Jo.zd, Jo.ze, Act.put, Jo.za, Jo.zb, Jo.zc] at hK ⊢
      rw [show vs 4 = _ from hd 4 (by decide), show vs 5 = _ from hd 5 (by decide)] at hK ⊢
      clear hd
      have xX11 := (X1.below hJ).a 1 (.int .i64 D) rfl
      have xX12 := (X1.below hJ).a 2 (.bool s) rfl
      have xX13 := (X1.below hJ).a 3 (.int .u64 M) rfl
      have xX14 := (X1.below hJ).a 4 (.int .i64 E) rfl
      go_simp
      exact hK.out _ _ rfl (Below.refl _ _)
    refine Jo.jd 7 (some 23) [(some 20, 4)] (Jo.Fact.eq (.pointer (some ⟨w.heap.size, 5, none⟩))) rfl rfl rfl rfl (fun vs wj hJ hd K hK => ?_) ?_
    · simp only [Jo.putl, Jo.zd, Jo.ze, Act.put, Jo.za, Jo.zb, Jo.zc] at hK ⊢
      rw [show vs 4 = _ from hd 4 (by decide)] at hK ⊢
      clear hd
      go_simp
      exact hK.out _ _ rfl (Below.refl _ _)
    refine Jo.jd 8 (some 24) [(some 20, 4), (some 23, 7)] (Jo.Fact.eq (.agg #[.int .i64 D', .bool s', .int .u64 M', .int .i64 E'])) rfl rfl rfl rfl (fun vs wj hJ hd K hK => ?_) ?_
    · simp only [Jo.putl, Jo.zd, Jo.ze, Act.put, Jo.za, Jo.zb, Jo.zc] at hK ⊢
      rw [show vs 4 = _ from hd 4 (by decide), show vs 7 = _ from hd 7 (by decide)] at hK ⊢
      clear hd
      have xX15 := (X1.below hJ).a 5 (.int .i64 D') rfl
      have xX16 := (X1.below hJ).a 6 (.bool s') rfl
      have xX17 := (X1.below hJ).a 7 (.int .u64 M') rfl
      have xX18 := (X1.below hJ).a 8 (.int .i64 E') rfl
      go_simp
      exact hK.out _ _ rfl (Below.refl _ _)
    refine Jo.jd 9 (some 25) [(some 20, 4), (some 22, 6), (some 24, 8)] (Jo.Fact.eq (.int .i64 c)) rfl rfl rfl rfl (fun vs wj hJ hd K hK => ?_) ?_
    · simp only [Jo.putl, Jo.zd, Jo.ze, Act.put, Jo.za, Jo.zb, Jo.zc] at hK ⊢
      rw [show vs 4 = _ from hd 4 (by decide), show vs 6 = _ from hd 6 (by decide), show vs 8 = _ from hd 8 (by decide)] at hK ⊢
      clear hd
      go_simp
      refine (yCmp hM hM' HC.out).mono ?_
      rintro ee wk ⟨rfl, B⟩
      exact hK.out _ _ rfl B
    refine Jo.jd 10 (some 26) [(some 20, 4), (some 25, 9)] (Jo.Fact.eq (.bool true)) rfl rfl rfl rfl (fun vs wj hJ hd K hK => ?_) ?_
    · simp only [Jo.putl, Jo.zd, Jo.ze, Act.put, Jo.za, Jo.zb, Jo.zc] at hK ⊢
      rw [show vs 4 = _ from hd 4 (by decide), show vs 9 = _ from hd 9 (by decide)] at hK ⊢
      clear hd
      have hc0 := HC0.out
      go_simp
      exact hK.out _ _ (by first | rfl | (show Value.bool _ = Value.bool _; rw [hc0]) | simp_all) (Below.refl _ _)
    refine Jo.jd 11 (some 27) [(some 20, 4), (some 26, 10)] (Jo.Fact.eq (.bool true)) rfl rfl rfl rfl (fun vs wj hJ hd K hK => ?_) ?_
    · simp only [Jo.putl, Jo.zd, Jo.ze, Act.put, Jo.za, Jo.zb, Jo.zc] at hK ⊢
      rw [show vs 4 = _ from hd 4 (by decide), show vs 10 = _ from hd 10 (by decide)] at hK ⊢
      clear hd
      go_simp
      exact hK.out _ _ rfl (Below.refl _ _)
    refine Jo.jd 12 (some 28) [(some 27, 11)] (Jo.Fact.eq (.bool true)) rfl rfl rfl rfl (fun vs wj hJ hd K hK => ?_) ?_
    · simp only [Jo.putl, Jo.zd, Jo.ze, Act.put, Jo.za, Jo.zb, Jo.zc] at hK ⊢
      rw [show vs 11 = _ from hd 11 (by decide)] at hK ⊢
      clear hd
      go_simp
      exact hK.out _ _ rfl (Below.refl _ _)
    refine Jo.jd 13 (some 29) [(some 28, 12)] (Jo.Fact.eq (.pointer (some ⟨w.heap.size, 1, none⟩))) rfl rfl rfl rfl (fun vs wj hJ hd K hK => ?_) ?_
    · simp only [Jo.putl, Jo.zd, Jo.ze, Act.put, Jo.za, Jo.zb, Jo.zc] at hK ⊢
      rw [show vs 12 = _ from hd 12 (by decide)] at hK ⊢
      clear hd
      go_simp
      exact hK.out _ _ rfl (Below.refl _ _)
    refine Jo.jd 14 (some 30) [(some 28, 12), (some 29, 13)] (Jo.Fact.eq (.agg #[.int .i64 D, .bool s, .int .u64 M, .int .i64 E])) rfl rfl rfl rfl (fun vs wj hJ hd K hK => ?_) ?_
    · simp only [Jo.putl, Jo.zd, Jo.ze, Act.put, Jo.za, Jo.zb, Jo.zc] at hK ⊢
      rw [show vs 12 = _ from hd 12 (by decide), show vs 13 = _ from hd 13 (by decide)] at hK ⊢
      clear hd
      have xX11 := (X1.below hJ).a 1 (.int .i64 D) rfl
      have xX12 := (X1.below hJ).a 2 (.bool s) rfl
      have xX13 := (X1.below hJ).a 3 (.int .u64 M) rfl
      have xX14 := (X1.below hJ).a 4 (.int .i64 E) rfl
      go_simp
      exact hK.out _ _ rfl (Below.refl _ _)
    refine Jo.jd 15 (some 31) [(some 28, 12)] (Jo.Fact.eq (.agg #[.int .i64 2, .bool false, .int .u64 0, .int .i64 0])) rfl rfl rfl rfl (fun vs wj hJ hd K hK => ?_) ?_
    · simp only [Jo.putl, Jo.zd, Jo.ze, Act.put, Jo.za, Jo.zb, Jo.zc] at hK ⊢
      rw [show vs 12 = _ from hd 12 (by decide)] at hK ⊢
      clear hd
      go_simp
      refine (yInfE false).mono ?_
      rintro ee wk ⟨rfl, B⟩
      exact hK.out _ _ rfl B
    refine Jo.jd 16 (some 32) [(some 28, 12), (some 30, 14), (some 31, 15)] (Jo.Fact.eq (.bool true)) rfl rfl rfl rfl (fun vs wj hJ hd K hK => ?_) ?_
    · simp only [Jo.putl, Jo.zd, Jo.ze, Act.put, Jo.za, Jo.zb, Jo.zc] at hK ⊢
      rw [show vs 12 = _ from hd 12 (by decide), show vs 14 = _ from hd 14 (by decide), show vs 15 = _ from hd 15 (by decide)] at hK ⊢
      clear hd
      have hne := HN1.out
      go_simp
      repeat' split
      all_goals exact hK.out _ _ (congrArg Value.bool (by first | rfl | (exfalso; simp_all))) (Below.refl _ _)
    refine Jo.jd 17 (some 33) [(some 28, 12), (some 32, 16)] (Jo.Fact.eq (.bool true)) rfl rfl rfl rfl (fun vs wj hJ hd K hK => ?_) ?_
    · simp only [Jo.putl, Jo.zd, Jo.ze, Act.put, Jo.za, Jo.zb, Jo.zc] at hK ⊢
      rw [show vs 12 = _ from hd 12 (by decide), show vs 16 = _ from hd 16 (by decide)] at hK ⊢
      clear hd
      go_simp
      exact hK.out _ _ rfl (Below.refl _ _)
    refine Jo.jd 18 (some 34) [(some 33, 17)] (Jo.Fact.eq (.bool true)) rfl rfl rfl rfl (fun vs wj hJ hd K hK => ?_) ?_
    · simp only [Jo.putl, Jo.zd, Jo.ze, Act.put, Jo.za, Jo.zb, Jo.zc] at hK ⊢
      rw [show vs 17 = _ from hd 17 (by decide)] at hK ⊢
      clear hd
      go_simp
      exact hK.out _ _ rfl (Below.refl _ _)
    refine Jo.jd 19 (some 35) [(some 34, 18)] (Jo.Fact.eq (.pointer (some ⟨w.heap.size, 5, none⟩))) rfl rfl rfl rfl (fun vs wj hJ hd K hK => ?_) ?_
    · simp only [Jo.putl, Jo.zd, Jo.ze, Act.put, Jo.za, Jo.zb, Jo.zc] at hK ⊢
      rw [show vs 18 = _ from hd 18 (by decide)] at hK ⊢
      clear hd
      go_simp
      exact hK.out _ _ rfl (Below.refl _ _)
    refine Jo.jd 20 (some 36) [(some 34, 18), (some 35, 19)] (Jo.Fact.eq (.agg #[.int .i64 D', .bool s', .int .u64 M', .int .i64 E'])) rfl rfl rfl rfl (fun vs wj hJ hd K hK => ?_) ?_
    · simp only [Jo.putl, Jo.zd, Jo.ze, Act.put, Jo.za, Jo.zb, Jo.zc] at hK ⊢
      rw [show vs 18 = _ from hd 18 (by decide), show vs 19 = _ from hd 19 (by decide)] at hK ⊢
      clear hd
      have xX15 := (X1.below hJ).a 5 (.int .i64 D') rfl
      have xX16 := (X1.below hJ).a 6 (.bool s') rfl
      have xX17 := (X1.below hJ).a 7 (.int .u64 M') rfl
      have xX18 := (X1.below hJ).a 8 (.int .i64 E') rfl
      go_simp
      exact hK.out _ _ rfl (Below.refl _ _)
    refine Jo.jd 21 (some 37) [(some 34, 18)] (Jo.Fact.eq (.agg #[.int .i64 2, .bool true, .int .u64 0, .int .i64 0])) rfl rfl rfl rfl (fun vs wj hJ hd K hK => ?_) ?_
    · simp only [Jo.putl, Jo.zd, Jo.ze, Act.put, Jo.za, Jo.zb, Jo.zc] at hK ⊢
      rw [show vs 18 = _ from hd 18 (by decide)] at hK ⊢
      clear hd
      go_simp
      refine (yInfE true).mono ?_
      rintro ee wk ⟨rfl, B⟩
      exact hK.out _ _ rfl B
    refine Jo.jd 22 (some 38) [(some 34, 18), (some 36, 20), (some 37, 21)] (Jo.Fact.eq (.bool true)) rfl rfl rfl rfl (fun vs wj hJ hd K hK => ?_) ?_
    · simp only [Jo.putl, Jo.zd, Jo.ze, Act.put, Jo.za, Jo.zb, Jo.zc] at hK ⊢
      rw [show vs 18 = _ from hd 18 (by decide), show vs 20 = _ from hd 20 (by decide), show vs 21 = _ from hd 21 (by decide)] at hK ⊢
      clear hd
      have hne := HN2.out
      go_simp
      repeat' split
      all_goals exact hK.out _ _ (congrArg Value.bool (by first | rfl | (exfalso; simp_all))) (Below.refl _ _)
    refine Jo.jd 23 (some 39) [(some 34, 18), (some 38, 22)] (Jo.Fact.eq (.bool true)) rfl rfl rfl rfl (fun vs wj hJ hd K hK => ?_) ?_
    · simp only [Jo.putl, Jo.zd, Jo.ze, Act.put, Jo.za, Jo.zb, Jo.zc] at hK ⊢
      rw [show vs 18 = _ from hd 18 (by decide), show vs 22 = _ from hd 22 (by decide)] at hK ⊢
      clear hd
      go_simp
      exact hK.out _ _ rfl (Below.refl _ _)
    refine Jo.jd 24 (some 2) [(some 39, 23)] (Jo.Fact.eq (.bool true)) rfl rfl rfl rfl (fun vs wj hJ hd K hK => ?_) ?_
    · simp only [Jo.putl, Jo.zd, Jo.ze, Act.put, Jo.za, Jo.zb, Jo.zc] at hK ⊢
      rw [show vs 23 = _ from hd 23 (by decide)] at hK ⊢
      clear hd
      go_simp
      exact hK.out _ _ rfl (Below.refl _ _)
    exact Jo.Steps.nil
  simp only [Jo.putl, Jo.zd, Jo.ze, Act.put, Jo.za, Jo.zb, Jo.zc]
  rw [show vs 0 = _ from hd 0 (by decide), show vs 1 = _ from hd 1 (by decide), show vs 2 = _ from hd 2 (by decide), show vs 3 = _ from hd 3 (by decide), show vs 4 = _ from hd 4 (by decide), show vs 6 = _ from hd 6 (by decide), show vs 8 = _ from hd 8 (by decide), show vs 9 = _ from hd 9 (by decide), show vs 10 = _ from hd 10 (by decide), show vs 11 = _ from hd 11 (by decide), show vs 12 = _ from hd 12 (by decide), show vs 14 = _ from hd 14 (by decide), show vs 15 = _ from hd 15 (by decide), show vs 16 = _ from hd 16 (by decide), show vs 17 = _ from hd 17 (by decide), show vs 18 = _ from hd 18 (by decide), show vs 20 = _ from hd 20 (by decide), show vs 21 = _ from hd 21 (by decide), show vs 22 = _ from hd 22 (by decide), show vs 23 = _ from hd 23 (by decide), show vs 24 = _ from hd 24 (by decide)]
  clear hd
  replace X1 := X1.below hJ
  replace HB := Lib.hid (bt HB.out hJ)
  refine Jo.jdone (by kernel_rfl) ?_
  go_wp2
  go_ret
  exact ⟨rfl, HB.out⟩
theorem rk_top {D : Int} {s : Bool} {M E : Int} (hM : M < 18446744073709551616) (h : MayQ D s M E) (b : Bool) : rk D s M E = sgi b TP ↔ (D = 2 ∧ s = b ∧ M = 0 ∧ E = 0) := by
  constructor
  · intro e
    have q := rk_fq hM h
    rw [e] at q
    exact q.uniq (fq_inf2 b)
  · rintro ⟨rfl, rfl, rfl, rfl⟩
    exact (fq_inf2 s).rk
theorem jvMay {w : World} {e : Bool} {D M E D' M' E' : Int} {s s' : Bool} {r : Bool} (hM : M < 18446744073709551616) (hM' : M' < 18446744073709551616) (hr : mayI e D s M E D' s' M' E' = r) : Calls Try.prog 12 #[.agg #[.bool e, .int .i64 D, .bool s, .int .u64 M, .int .i64 E, .int .i64 D', .bool s', .int .u64 M', .int .i64 E']] w (PB w r) := by
  cases e
  · have e0 : decide (rkI false D s M E D' s' M' E' ≠ none) = r := by rw [← hr]; exact (if_neg ff).symm
    rw [rkI_f] at e0
    by_cases hp : MayQ D s M E
    · by_cases hq : MayQ D' s' M' E'
      · rw [if_pos ⟨hp, hq⟩] at e0
        have b1 := (rk_fq hM hp).bd
        have b2 := (rk_fq hM' hq).bd
        have t1 := rk_top hM hp false
        have t2 := rk_top hM' hq true
        have tf : sgi false TP = 19342822337206103650074625 := rfl
        have tt : sgi true TP = -19342822337206103650074625 := rfl
        rw [tf] at t1
        rw [tt] at t2
        have hpd := decide_eq_true hp
        have hqd := decide_eq_true hq
        by_cases hc : rk D s M E ≤ rk D' s' M' E'
        · have hc0 : decide (cmpI (rk D s M E) (rk D' s' M' E') ≤ 0) = true := decide_eq_true (by rcases cmpI_tri (rk D s M E) (rk D' s' M' E') with ⟨a, b⟩ | ⟨a, b⟩ | ⟨a, b⟩ <;> rw [b] <;> omega)
          by_cases h1 : D = 2 ∧ s = false ∧ M = 0 ∧ E = 0
          · have k1 := t1.2 h1
            rw [mkI_none (by omega)] at e0
            obtain rfl : false = r := e0
            obtain ⟨rfl, rfl, rfl, rfl⟩ := h1
            exact jvmay_ft hM hM' hqd rfl hc0
          · have k1 : rk D s M E ≠ 19342822337206103650074625 := fun c => h1 (t1.1 c)
            by_cases h2 : D' = 2 ∧ s' = true ∧ M' = 0 ∧ E' = 0
            · have k2 := t2.2 h2
              rw [mkI_none (by omega)] at e0
              obtain rfl : false = r := e0
              obtain ⟨rfl, rfl, rfl, rfl⟩ := h2
              exact jvmay_fb hM hM' hpd rfl hc0 h1
            · have k2 : rk D' s' M' E' ≠ -19342822337206103650074625 := fun c => h2 (t2.1 c)
              rw [mkI_some hc (by omega) (by omega)] at e0
              obtain rfl : true = r := e0
              exact jvmay_fy hM hM' hpd hqd rfl hc0 h1 h2
        · rw [mkI_none (fun c => hc c.1)] at e0
          obtain rfl : false = r := e0
          exact jvmay_fc hM hM' hpd hqd rfl (decide_eq_false (by rcases cmpI_tri (rk D s M E) (rk D' s' M' E') with ⟨a, b⟩ | ⟨a, b⟩ | ⟨a, b⟩ <;> rw [b] <;> omega))
      · rw [if_neg (fun c => hq c.2)] at e0
        obtain rfl : false = r := e0
        exact jvmay_fq hM hM' (decide_eq_true hp) (decide_eq_false hq)
    · rw [if_neg (fun c => hp c.1)] at e0
      obtain rfl : false = r := e0
      exact jvmay_fp hM hM' (decide_eq_false hp) rfl
  · exact jvmay_t hr
set_option maxHeartbeats 2000000 in
theorem jvFair {w : World} {e : Bool} {D M E D' M' E' : Int} {s s' : Bool} {x : Sp} (hM : M < 18446744073709551616) (hM' : M' < 18446744073709551616) (hr : rkI e D s M E D' s' M' E' = x) : Calls Try.prog 32 #[.agg #[.bool e, .int .i64 D, .bool s, .int .u64 M, .int .i64 E, .int .i64 D', .bool s', .int .u64 M', .int .i64 E']] w (PV w x) := by
  cases hm : mayI e D s M E D' s' M' E'
  · obtain rfl : none = x := (mayI_no hm).symm.trans hr
    have HM := Lib.hid hm
    clear hm hr
    go_enter Try.func32, Try.ntmps32
    go_upto_region 1 with (fail)
    have X1 := (Bo.newAt w (g := w.heap.size) (by simp) #[.bool e, .int .i64 D, .bool s, .int .u64 M, .int .i64 E, .int .i64 D', .bool s', .int .u64 M', .int .i64 E'] 26).below (bel1 _ (.cells #[.bool false, .int .i64 0, .bool false, .int .u64 0, .int .i64 0, .int .i64 0, .bool false, .int .u64 0, .int .i64 0] 26))
    have XR := (Bo.newAt (w.alloc (.cells #[.bool e, .int .i64 D, .bool s, .int .u64 M, .int .i64 E, .int .i64 D', .bool s', .int .u64 M', .int .i64 E'] 26)) (g := w.heap.size + 1) (by simp) #[.bool false, .int .i64 0, .bool false, .int .u64 0, .int .i64 0, .int .i64 0, .bool false, .int .u64 0, .int .i64 0] 26)
    have HB := Lib.hid (bel2 w (.cells #[.bool e, .int .i64 D, .bool s, .int .u64 M, .int .i64 E, .int .i64 D', .bool s', .int .u64 M', .int .i64 E'] 26) (.cells #[.bool false, .int .i64 0, .bool false, .int .u64 0, .int .i64 0, .int .i64 0, .bool false, .int .u64 0, .int .i64 0] 26))
    generalize hW1 : ((w.alloc (.cells #[.bool e, .int .i64 D, .bool s, .int .u64 M, .int .i64 E, .int .i64 D', .bool s', .int .u64 M', .int .i64 E'] 26)).alloc (.cells #[.bool false, .int .i64 0, .bool false, .int .u64 0, .int .i64 0, .int .i64 0, .bool false, .int .u64 0, .int .i64 0] 26)) = w1 at *
    clear hW1
    obtain ⟨xX10, xX11, xX12, xX13, xX14, xX15, xX16, xX17, xX18⟩ := X1.ce9 rfl rfl rfl rfl rfl rfl rfl rfl rfl
    go_wp2_with fail
    refine (jvMay hM hM' HM.out).mono ?_
    rintro ee w2 ⟨rfl, B⟩
    clear xX10 xX11 xX12 xX13 xX14 xX15 xX16 xX17 xX18
    replace X1 := X1.below B
    replace XR := XR.below B
    replace HB := Lib.hid (bt HB.out B)
    clear B
    clear HM hM hM'
    go_wp2_with fail
    refine (jvNoneE).mono ?_
    rintro ee w3 ⟨rfl, B⟩
    replace X1 := X1.below B
    replace XR := XR.below B
    replace HB := Lib.hid (bt HB.out B)
    clear B
    obtain ⟨xXR0, xXR1, xXR2, xXR3, xXR4, xXR5, xXR6, xXR7, xXR8⟩ := XR.ce9 rfl rfl rfl rfl rfl rfl rfl rfl rfl
    have zXR0 := XR.frozen
    go_wp2
    clear xXR0 zXR0 xXR1 xXR2 xXR3 xXR4 xXR5 xXR6 xXR7 xXR8
    have SX := StN.mk9 XR (.bool true) (.int .i64 0) (.bool false) (.int .u64 0) (.int .i64 0) (.int .i64 0) (.bool false) (.int .u64 0) (.int .i64 0)
    exact bodyPost_ret (v := .agg #[.bool true, .int .i64 0, .bool false, .int .u64 0, .int .i64 0, .int .i64 0, .bool false, .int .u64 0, .int .i64 0]) (by simp [results, Try.results32, go_sem, SX.box.cell]) rfl ⟨_, _, _, _, _, _, _, _, _, rfl, Ci.none, (SX.below HB.out (by omega))⟩
  · have hv := mayI_ci hM hM' hm
    rw [hr] at hv
    have HM := Lib.hid hm
    clear hm hr
    go_enter Try.func32, Try.ntmps32
    go_upto_region 1 with (fail)
    have X1 := (Bo.newAt w (g := w.heap.size) (by simp) #[.bool e, .int .i64 D, .bool s, .int .u64 M, .int .i64 E, .int .i64 D', .bool s', .int .u64 M', .int .i64 E'] 26).below (bel1 _ (.cells #[.bool false, .int .i64 0, .bool false, .int .u64 0, .int .i64 0, .int .i64 0, .bool false, .int .u64 0, .int .i64 0] 26))
    have XR := (Bo.newAt (w.alloc (.cells #[.bool e, .int .i64 D, .bool s, .int .u64 M, .int .i64 E, .int .i64 D', .bool s', .int .u64 M', .int .i64 E'] 26)) (g := w.heap.size + 1) (by simp) #[.bool false, .int .i64 0, .bool false, .int .u64 0, .int .i64 0, .int .i64 0, .bool false, .int .u64 0, .int .i64 0] 26)
    have HB := Lib.hid (bel2 w (.cells #[.bool e, .int .i64 D, .bool s, .int .u64 M, .int .i64 E, .int .i64 D', .bool s', .int .u64 M', .int .i64 E'] 26) (.cells #[.bool false, .int .i64 0, .bool false, .int .u64 0, .int .i64 0, .int .i64 0, .bool false, .int .u64 0, .int .i64 0] 26))
    generalize hW1 : ((w.alloc (.cells #[.bool e, .int .i64 D, .bool s, .int .u64 M, .int .i64 E, .int .i64 D', .bool s', .int .u64 M', .int .i64 E'] 26)).alloc (.cells #[.bool false, .int .i64 0, .bool false, .int .u64 0, .int .i64 0, .int .i64 0, .bool false, .int .u64 0, .int .i64 0] 26)) = w1 at *
    clear hW1
    obtain ⟨xX10, xX11, xX12, xX13, xX14, xX15, xX16, xX17, xX18⟩ := X1.ce9 rfl rfl rfl rfl rfl rfl rfl rfl rfl
    go_wp2_with fail
    refine (jvMay hM hM' HM.out).mono ?_
    rintro ee w2 ⟨rfl, B⟩
    clear xX10 xX11 xX12 xX13 xX14 xX15 xX16 xX17 xX18
    replace X1 := X1.below B
    replace XR := XR.below B
    replace HB := Lib.hid (bt HB.out B)
    clear B
    clear HM hM hM'
    obtain ⟨xXR0, xXR1, xXR2, xXR3, xXR4, xXR5, xXR6, xXR7, xXR8⟩ := XR.ce9 rfl rfl rfl rfl rfl rfl rfl rfl rfl
    have zXR0 := XR.frozen
    obtain ⟨xX10, xX11, xX12, xX13, xX14, xX15, xX16, xX17, xX18⟩ := X1.ce9 rfl rfl rfl rfl rfl rfl rfl rfl rfl
    go_wp2
    clear xXR0 zXR0 xXR1 xXR2 xXR3 xXR4 xXR5 xXR6 xXR7 xXR8 xX10 xX11 xX12 xX13 xX14 xX15 xX16 xX17 xX18
    have SX := StN.mk9 XR (.bool e) (.int .i64 D) (.bool s) (.int .u64 M) (.int .i64 E) (.int .i64 D') (.bool s') (.int .u64 M') (.int .i64 E')
    exact bodyPost_ret (v := .agg #[.bool e, .int .i64 D, .bool s, .int .u64 M, .int .i64 E, .int .i64 D', .bool s', .int .u64 M', .int .i64 E']) (by simp [results, Try.results32, go_sem, SX.box.cell]) rfl ⟨_, _, _, _, _, _, _, _, _, rfl, hv, (SX.below HB.out (by omega))⟩
/-- The cells of some interval, and what it is taken for. -/
def Jo.Fact.ir (x : Sp) : Jo.Fact := ⟨fun v w => ∃ e K s M E K' s' M' E', v = .agg #[.bool e, .int .i64 K, .bool s, .int .u64 M, .int .i64 E, .int .i64 K', .bool s', .int .u64 M', .int .i64 E'] ∧ M < 18446744073709551616 ∧ M' < 18446744073709551616 ∧ rkI e K s M E K' s' M' E' = x, fun v w w' h b => h⟩
theorem rkI_mk {K M E K' M' E' : Int} {s s' : Bool} {a b : Int} {x : Sp} (q : Fq K s M E a) (q' : Fq K' s' M' E' b) (hx : mkI a b = x) : rkI false K s M E K' s' M' E' = x := by
  rw [rkI_f, if_pos ⟨q.1, q'.1⟩, q.rk, q'.rk, hx]
set_option maxHeartbeats 2000000 in
theorem jvMake {w : World} {D D' M M' E E' : Int} {s s' : Bool} {a b : Int} {x : Sp} (hM : M < 18446744073709551616) (hM' : M' < 18446744073709551616) (ha : rk D s M E = a) (hb : rk D' s' M' E' = b) (hx : mkI a b = x) : Calls Try.prog 10 #[.agg #[.int .i64 D, .bool s, .int .u64 M, .int .i64 E], .agg #[.int .i64 D', .bool s', .int .u64 M', .int .i64 E']] w (PV w x) := by
  have HA := Lib.hid ha
  have HBB := Lib.hid hb
  have HX := Lib.hid hx
  clear ha hb hx
  go_enter Try.func10, Try.ntmps10
  go_upto_region 1 with (fail)
  have X2 := (Bo.newAt w (g := w.heap.size) (by simp) #[.int .i64 D, .bool s, .int .u64 M, .int .i64 E] 24).below (bel2 _ (.cells #[.int .i64 D', .bool s', .int .u64 M', .int .i64 E'] 24) (.cells #[.bool false, .int .i64 0, .bool false, .int .u64 0, .int .i64 0, .int .i64 0, .bool false, .int .u64 0, .int .i64 0] 26))
  have X3 := (Bo.newAt (w.alloc (.cells #[.int .i64 D, .bool s, .int .u64 M, .int .i64 E] 24)) (g := w.heap.size + 1) (by simp) #[.int .i64 D', .bool s', .int .u64 M', .int .i64 E'] 24).below (bel1 _ (.cells #[.bool false, .int .i64 0, .bool false, .int .u64 0, .int .i64 0, .int .i64 0, .bool false, .int .u64 0, .int .i64 0] 26))
  have XR := (Bo.newAt ((w.alloc (.cells #[.int .i64 D, .bool s, .int .u64 M, .int .i64 E] 24)).alloc (.cells #[.int .i64 D', .bool s', .int .u64 M', .int .i64 E'] 24)) (g := w.heap.size + 1 + 1) (by simp) #[.bool false, .int .i64 0, .bool false, .int .u64 0, .int .i64 0, .int .i64 0, .bool false, .int .u64 0, .int .i64 0] 26)
  have HB := Lib.hid (bel3 w (.cells #[.int .i64 D, .bool s, .int .u64 M, .int .i64 E] 24) (.cells #[.int .i64 D', .bool s', .int .u64 M', .int .i64 E'] 24) (.cells #[.bool false, .int .i64 0, .bool false, .int .u64 0, .int .i64 0, .int .i64 0, .bool false, .int .u64 0, .int .i64 0] 26))
  generalize hW1 : (((w.alloc (.cells #[.int .i64 D, .bool s, .int .u64 M, .int .i64 E] 24)).alloc (.cells #[.int .i64 D', .bool s', .int .u64 M', .int .i64 E'] 24)).alloc (.cells #[.bool false, .int .i64 0, .bool false, .int .u64 0, .int .i64 0, .int .i64 0, .bool false, .int .u64 0, .int .i64 0] 26)) = w1 at *
  clear hW1
  refine Jo.region_joint (T := [0, 1, 2, 3, 4, 5]) (ds := [some 5, some 6, some 7, some 8, some 9, some 10, none]) (ls := [[], [0], [], [2], [1, 3], [4], []]) (k := 7) (L := [(some 5, 0), (some 6, 1), (some 7, 2), (some 8, 3), (some 9, 4), (some 10, 5)]) (fuel := 1) (J := fun wj => Below (World.heap w1).size w1 wj)
    (F := [Jo.Fact.eq (.agg #[.int .i64 D, .bool s, .int .u64 M, .int .i64 E]), Jo.Fact.num a, Jo.Fact.eq (.agg #[.int .i64 D', .bool s', .int .u64 M', .int .i64 E']), Jo.Fact.num b, Jo.Fact.ir x, Jo.Fact.iv x, Jo.Fact.any])
    (by kernel_rfl) (by kernel_rfl) (by decide) rfl rfl (fun _ _ h b => bt h b) ((Below.refl _ _).drew) ?_ (fun vs w8 hJ hd => ?_)
  · refine Jo.jd 0 (some 5) [] (Jo.Fact.eq (.agg #[.int .i64 D, .bool s, .int .u64 M, .int .i64 E])) rfl rfl rfl rfl (fun vs wj hJ hd K hK => ?_) ?_
    · simp only [Jo.putl, Jo.ze, Act.put, Jo.za, Jo.zb, Jo.zc] at hK ⊢
      clear hd
      have xX20 := (X2.below hJ).a 0 (.int .i64 D) rfl
      have xX21 := (X2.below hJ).a 1 (.bool s) rfl
      have xX22 := (X2.below hJ).a 2 (.int .u64 M) rfl
      have xX23 := (X2.below hJ).a 3 (.int .i64 E) rfl
      go_simp
      exact hK.out _ _ rfl (Below.refl _ _)
    refine Jo.jd 1 (some 6) [(some 5, 0)] (Jo.Fact.num a) rfl rfl rfl rfl (fun vs wj hJ hd K hK => ?_) ?_
    · simp only [Jo.putl, Jo.zd, Jo.ze, Act.put, Jo.za, Jo.zb, Jo.zc] at hK ⊢
      rw [show vs 0 = _ from hd 0 (by decide)] at hK ⊢
      clear hd
      go_simp
      refine (gFair hM HA.out).mono ?_
      rintro ee wk ⟨K1, s1, M1, E1, rfl, q1, B⟩
      exact hK.out _ _ ⟨K1, s1, M1, E1, rfl, q1⟩ B
    refine Jo.jd 2 (some 7) [] (Jo.Fact.eq (.agg #[.int .i64 D', .bool s', .int .u64 M', .int .i64 E'])) rfl rfl rfl rfl (fun vs wj hJ hd K hK => ?_) ?_
    · simp only [Jo.putl, Jo.ze, Act.put, Jo.za, Jo.zb, Jo.zc] at hK ⊢
      clear hd
      have xX30 := (X3.below hJ).a 0 (.int .i64 D') rfl
      have xX31 := (X3.below hJ).a 1 (.bool s') rfl
      have xX32 := (X3.below hJ).a 2 (.int .u64 M') rfl
      have xX33 := (X3.below hJ).a 3 (.int .i64 E') rfl
      go_simp
      exact hK.out _ _ rfl (Below.refl _ _)
    refine Jo.jd 3 (some 8) [(some 7, 2)] (Jo.Fact.num b) rfl rfl rfl rfl (fun vs wj hJ hd K hK => ?_) ?_
    · simp only [Jo.putl, Jo.zd, Jo.ze, Act.put, Jo.za, Jo.zb, Jo.zc] at hK ⊢
      rw [show vs 2 = _ from hd 2 (by decide)] at hK ⊢
      clear hd
      go_simp
      refine (gFair hM' HBB.out).mono ?_
      rintro ee wk ⟨K2, s2, M2, E2, rfl, q2, B⟩
      exact hK.out _ _ ⟨K2, s2, M2, E2, rfl, q2⟩ B
    refine Jo.jd 4 (some 9) [(some 6, 1), (some 8, 3)] (Jo.Fact.ir x) rfl rfl rfl rfl (fun vs wj hJ hd K hK => ?_) ?_
    · have d1 : (Jo.Fact.num a).P (vs 1) wj := hd 1 (by decide)
      have d3 : (Jo.Fact.num b).P (vs 3) wj := hd 3 (by decide)
      simp only [Jo.putl, Jo.zd, Jo.ze, Act.put, Jo.za, Jo.zb, Jo.zc] at hK ⊢
      clear hd
      generalize vs 1 = u1 at hK d1 ⊢
      generalize vs 3 = u3 at hK d3 ⊢
      obtain ⟨K1, s1, M1, E1, rfl, q1⟩ := d1
      obtain ⟨K2, s2, M2, E2, rfl, q2⟩ := d3
      go_simp
      exact hK.out _ _ ⟨_, _, _, _, _, _, _, _, _, rfl, q1.top, q2.top, rkI_mk q1 q2 HX.out⟩ (Below.refl _ _)
    refine Jo.jd 5 (some 10) [(some 9, 4)] (Jo.Fact.iv x) rfl rfl rfl rfl (fun vs wj hJ hd K hK => ?_) ?_
    · have d4 : (Jo.Fact.ir x).P (vs 4) wj := hd 4 (by decide)
      simp only [Jo.putl, Jo.zd, Jo.ze, Act.put, Jo.za, Jo.zb, Jo.zc] at hK ⊢
      clear hd
      generalize vs 4 = u4 at hK d4 ⊢
      obtain ⟨e4, K4, s4, M4, E4, K4b, s4b, M4b, E4b, rfl, m4, m4b, r4⟩ := d4
      go_simp
      refine (jvFair m4 m4b r4).mono ?_
      rintro ee wk ⟨e5, K5, s5, M5, E5, K5b, s5b, M5b, E5b, rfl, v5, B⟩
      exact hK.out _ _ ⟨e5, K5, s5, M5, E5, K5b, s5b, M5b, E5b, rfl, v5⟩ B
    exact Jo.Steps.nil
  have d1 : (Jo.Fact.num a).P (vs 1) w8 := hd 1 (by decide)
  have d3 : (Jo.Fact.num b).P (vs 3) w8 := hd 3 (by decide)
  have d4 : (Jo.Fact.ir x).P (vs 4) w8 := hd 4 (by decide)
  have d5 : (Jo.Fact.iv x).P (vs 5) w8 := hd 5 (by decide)
  simp only [Jo.putl, Jo.zd, Jo.ze, Act.put, Jo.za, Jo.zb, Jo.zc]
  rw [show vs 0 = _ from hd 0 (by decide), show vs 2 = _ from hd 2 (by decide)]
  clear hd
  generalize vs 1 = u1 at d1 ⊢
  generalize vs 3 = u3 at d3 ⊢
  generalize vs 4 = u4 at d4 ⊢
  generalize vs 5 = u5 at d5 ⊢
  obtain ⟨K1, s1, M1, E1, rfl, q1⟩ := d1
  obtain ⟨K2, s2, M2, E2, rfl, q2⟩ := d3
  obtain ⟨_, _, _, _, _, _, _, _, _, rfl, _⟩ := d4
  obtain ⟨e5, K5, s5, M5, E5, K5b, s5b, M5b, E5b, rfl, v5⟩ := d5
  replace X2 := X2.below hJ
  replace X3 := X3.below hJ
  replace XR := XR.below hJ
  replace HB := Lib.hid (bt HB.out hJ)
  obtain ⟨xXR0, xXR1, xXR2, xXR3, xXR4, xXR5, xXR6, xXR7, xXR8⟩ := XR.ce9 rfl rfl rfl rfl rfl rfl rfl rfl rfl
  have zXR0 := XR.frozen
  refine Jo.jnext (i := 6) (o := ⟨none, _, _, _, _, _⟩) (by kernel_rfl) rfl (fun K hK => ?_)
  go_simp
  refine hK.out _ _ ?_
  clear hK K xXR0 zXR0 xXR1 xXR2 xXR3 xXR4 xXR5 xXR6 xXR7 xXR8
  have SX := StN.mk9 XR (.bool e5) (.int .i64 K5) (.bool s5) (.int .u64 M5) (.int .i64 E5) (.int .i64 K5b) (.bool s5b) (.int .u64 M5b) (.int .i64 E5b)
  refine Jo.jdone (by kernel_rfl) ?_
  go_wp2
  exact bodyPost_ret (v := .agg #[.bool e5, .int .i64 K5, .bool s5, .int .u64 M5, .int .i64 E5, .int .i64 K5b, .bool s5b, .int .u64 M5b, .int .i64 E5b]) (by simp [results, Try.results10, go_sem, SX.box.cell]) rfl ⟨_, _, _, _, _, _, _, _, _, rfl, v5, (SX.below HB.out (by omega))⟩
set_option maxHeartbeats 2000000 in
theorem jvPoint {w : World} {D M E : Int} {s : Bool} {a : Int} {x : Sp} (hM : M < 18446744073709551616) (ha : rk D s M E = a) (hx : mkI a a = x) : Calls Try.prog 18 #[.agg #[.int .i64 D, .bool s, .int .u64 M, .int .i64 E]] w (PV w x) := by
  have HA := Lib.hid ha
  have HX := Lib.hid hx
  clear ha hx
  go_enter Try.func18, Try.ntmps18
  go_upto_region 1 with (fail)
  have X1 := (Bo.newAt w (g := w.heap.size) (by simp) #[.int .i64 D, .bool s, .int .u64 M, .int .i64 E] 24).below (bel1 _ (.cells #[.bool false, .int .i64 0, .bool false, .int .u64 0, .int .i64 0, .int .i64 0, .bool false, .int .u64 0, .int .i64 0] 26))
  have XR := (Bo.newAt (w.alloc (.cells #[.int .i64 D, .bool s, .int .u64 M, .int .i64 E] 24)) (g := w.heap.size + 1) (by simp) #[.bool false, .int .i64 0, .bool false, .int .u64 0, .int .i64 0, .int .i64 0, .bool false, .int .u64 0, .int .i64 0] 26)
  have HB := Lib.hid (bel2 w (.cells #[.int .i64 D, .bool s, .int .u64 M, .int .i64 E] 24) (.cells #[.bool false, .int .i64 0, .bool false, .int .u64 0, .int .i64 0, .int .i64 0, .bool false, .int .u64 0, .int .i64 0] 26))
  generalize hW1 : ((w.alloc (.cells #[.int .i64 D, .bool s, .int .u64 M, .int .i64 E] 24)).alloc (.cells #[.bool false, .int .i64 0, .bool false, .int .u64 0, .int .i64 0, .int .i64 0, .bool false, .int .u64 0, .int .i64 0] 26)) = w1 at *
  clear hW1
  obtain ⟨xX10, xX11, xX12, xX13⟩ := X1.ce4 rfl rfl rfl rfl
  go_wp2_with fail
  refine (jvMake hM hM HA.out HA.out HX.out).mono ?_
  rintro ee w2 ⟨e2, K2, s2, M2, E2, K2b, s2b, M2b, E2b, rfl, v2, B⟩
  clear xX10 xX11 xX12 xX13
  replace X1 := X1.below B
  replace XR := XR.below B
  replace HB := Lib.hid (bt HB.out B)
  clear B
  obtain ⟨xXR0, xXR1, xXR2, xXR3, xXR4, xXR5, xXR6, xXR7, xXR8⟩ := XR.ce9 rfl rfl rfl rfl rfl rfl rfl rfl rfl
  have zXR0 := XR.frozen
  go_wp2
  clear xXR0 zXR0 xXR1 xXR2 xXR3 xXR4 xXR5 xXR6 xXR7 xXR8
  have SX := StN.mk9 XR (.bool e2) (.int .i64 K2) (.bool s2) (.int .u64 M2) (.int .i64 E2) (.int .i64 K2b) (.bool s2b) (.int .u64 M2b) (.int .i64 E2b)
  exact bodyPost_ret (v := .agg #[.bool e2, .int .i64 K2, .bool s2, .int .u64 M2, .int .i64 E2, .int .i64 K2b, .bool s2b, .int .u64 M2b, .int .i64 E2b]) (by simp [results, Try.results18, go_sem, SX.box.cell]) rfl ⟨_, _, _, _, _, _, _, _, _, rfl, v2, (SX.below HB.out (by omega))⟩
end Go.Proofs.Ythhlccdmflgbbaa
